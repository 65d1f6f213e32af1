import Derived.Test.YtnbddiiedagllaaGreatSSB8
import Derived.Deep.QuietTactic
import Derived.BigQuiet
import Derived.Deep.RegionLaw
import Derived.Outline
import Derived.Test.YtnbddiiedagllaaGreatSSB7
import Derived.WideAt
import Derived.Laws.ResultCell
/- The walk of the reference's put. -/
namespace Go.Proofs.YtnbddiiedagllaaGreat
open Go.RowKit Go.Maps Go.Shelf

theorem cell_keep {w w' : World} (hb : Below w.heap.size w w') {p : Addr} {v : Value} (h : w.cell? p = some v) : w'.cell? p = some v := by
 rw [hb.cell (World.block_lt_of_cell? _ _ h)]
 exact h

theorem less_before : ∀ (a b : List UInt8), Op.bytesLess a b = bytesBefore a b
 | [], [] => rfl
 | [], _ :: _ => rfl
 | _ :: _, [] => rfl
 | x :: r, y :: s => by
  unfold Op.bytesLess bytesBefore
  rw [less_before r s]

theorem before_snoc {Q : List FR} {nm : List UInt8} {j : Nat} (h : ∀ (k : Nat) (hk : k < Q.length), k < j → Op.bytesLess Q[k].f.n nm = true) (hj : j < Q.length) (hb : Op.bytesLess Q[j].f.n nm = true) :
  ∀ (k : Nat) (hk : k < Q.length), k < j + 1 → Op.bytesLess Q[k].f.n nm = true := by
 intro k hk hk2
 rcases Nat.lt_succ_iff_lt_or_eq.1 hk2 with h1 | rfl
 ·exact h k hk h1
 ·exact hb

theorem ins_here : ∀ {Q : List FR} {x : FR} {j : Nat}, (∀ y ∈ Q, y.f.n ≠ x.f.n) → (∀ (k : Nat) (hk : k < Q.length), k < j → Op.bytesLess Q[k].f.n x.f.n = true) → j ≤ Q.length → (∀ hj : j < Q.length, Op.bytesLess Q[j].f.n x.f.n = false) → insN FR.n x Q = Q.take j ++ [x] ++ Q.drop j
 | [], x, j, _, _, hj, _ => by
  obtain rfl : j = 0 := by simpa using hj
  rfl
 | y :: r, x, 0, hne, _, _, hb => by
  have h0 := hb (by simp)
  have e : bytesBefore x.f.n y.f.n = true := by
   rcases WideAt.bytes_total x.f.n y.f.n (fun e => hne y (List.mem_cons_self ..) e.symm) with h | h
   ·exact h
   ·rw [less_before] at h0
    rw [show bytesBefore y.f.n x.f.n = false from h0] at h
    cases h
  show (if bytesBefore x.f.n y.f.n = true then x :: y :: r else y :: insN FR.n x r) = _
  rw [if_pos e]; rfl
 | y :: r, x, j + 1, hne, hall, hj, hb => by
  have h0 : bytesBefore y.f.n x.f.n = true := by rw [← less_before]; exact hall 0 (by simp) (by omega)
  have e : bytesBefore x.f.n y.f.n = false := Bool.eq_false_iff.2 fun e => List.lt_asymm ((before_lt _ _).1 h0) ((before_lt _ _).1 e)
  show (if bytesBefore x.f.n y.f.n = true then x :: y :: r else y :: insN FR.n x r) = _
  rw [if_neg (by rw [e]; exact Bool.false_ne_true), ins_here (j := j) (fun z hz => hne z (List.mem_cons_of_mem _ hz)) (fun k hk hk2 => hall (k + 1) (by simpa using hk) (by omega)) (by simpa using hj) (fun hj2 => hb (by simpa using hj2))]
  rfl

theorem file_to {X : Nat → Prop} {w W : World} {x : FR} (h : FileB X w x) (hX : ∀ b, X b → b < w.heap.size) (hb : Below w.heap.size w W) : FileB (fun _ => True) W x :=
 h.mono (fun b hx => hb.block b (hX b hx)) (fun _ _ => trivial)

theorem rowF_block {W : World} {x : FR} {g : Nat} (h : FileB (fun _ => True) W x) (hg : W.heap[g]? = some (.cells #[.string ⟨x.f.n.toArray⟩, .slice x.pa x.f.b.length x.k, .int .i64 (x.f.d : Int)] 97 (0, 0))) : RowF (fun _ => True) W (some ⟨g, 0, none⟩) 1 1 [x] := by
 refine ⟨rfl, Nat.le_refl _, by omega, formed_at _ _ _, fun _ => ⟨g, 0, rfl, trivial, fun j u hu => ?_⟩, fun y hy => by rw [List.mem_singleton.1 hy]; exact h⟩
 have e : flatF [x] = cells3 x := by rw [flatF_cons]; exact List.append_nil _
 rw [e] at hu
 rw [cell_of_row _ _ _ _ _ _ hg]
 match j, hu with
 | 0, hu => cases hu; rfl
 | 1, hu => cases hu; rfl
 | 2, hu => cases hu; rfl
 | j + 3, hu => cases hu

theorem RowF.any {X : Nat → Prop} {w : World} {a : Option Addr} {n c : Nat} {R : List FR} (h : RowF X w a n c R) : RowF (fun _ => True) w a n c R := h.mono (fun _ _ => rfl) (fun _ _ => trivial)

theorem own_baseF {w : World} {B C : Nat} {v : Value} {n : Nat} {xs : List Value} (h : w.ownsRow C 97 3 v n xs) (hB : B ≤ C) : w.ownsRow B 97 3 v n xs := by
 refine ⟨h.1, h.2.imp id ?_⟩
 rintro ⟨g, cap, cur, e, hb, r⟩
 exact ⟨g, cap, cur, e, Nat.le_trans hB hb, r⟩

theorem own_empty (w : World) (B : Nat) (hB : B ≤ w.heap.size) : (w.alloc (.cells #[] 97)).ownsRow B 97 3 (.slice (some ⟨w.heap.size, 0, none⟩) 0 0) ([] : List FR).length (flatF []) :=
 World.ownsRow_made w #[] 0 hB (Nat.zero_le _) rfl

structure PutStep (B : Nat) (w1 W w3 : World) (v : Value) : Prop where
 below : Below B w1 w3
 blk : ∀ g o, W.heap[g]? = some o → some g ≠ v.ownBlock → w3.heap[g]? = some o

theorem putStep {B : Nat} {w1 W w3 : World} {v : Value} {n : Nat} {xs : List Value} (hb : Below B w1 W) (hB : B ≤ w1.heap.size) (hv : W.ownsRow B 97 3 v n xs) (hg : W.grownBy w3 v.ownBlock) : PutStep B w1 W w3 v := by
 have h1 : B ≤ W.heap.size := Nat.le_trans hB hb.size
 refine ⟨hb.grown hg h1 (fun k hk => (hv.lt k hk).1), fun g o ho hne => ?_⟩
 have hlt : g < W.heap.size := (Array.getElem?_eq_some_iff.1 ho).1
 rw [hg.block g hlt hne]
 exact ho

set_option maxRecDepth 100000 in
set_option maxHeartbeats 6400000 in
theorem rput_any {X : Nat → Prop} {w : World} {a : Option Addr} {n c : Nat} {R : List FR} (h : RowF X w a n c R) (hX : ∀ b, X b → b < w.heap.size) (hn : n ≤ 1000000) (x : FR) (hx : FileB X w x) :
  Calls Tryz.prog 118 #[.slice a n c, .agg #[.string ⟨x.f.n.toArray⟩, .slice x.pa x.f.b.length x.k, .int .i64 (x.f.d : Int)]] w fun e w' => ∃ v, e = .returned v ∧ w'.ownsRow w.heap.size 97 3 v (putN FR.n x R).length (flatF (putN FR.n x R)) ∧ Below w.heap.size w w' := by
 have hb := (Below.refl w.heap.size w).alloc (Nat.le_refl _) (.cells #[.string ⟨x.f.n.toArray⟩, .slice x.pa x.f.b.length x.k, .int .i64 (x.f.d : Int)] 97)
 have k0 : (w.alloc (.cells #[.string ⟨x.f.n.toArray⟩, .slice x.pa x.f.b.length x.k, .int .i64 (x.f.d : Int)] 97)).cell? ⟨w.heap.size, 0, none⟩ = some (.string ⟨x.f.n.toArray⟩) := by
  rw [cell_of_row _ _ _ _ _ (0, 0) (heap_alloc_new _ _)]; rfl
 have k1 : (w.alloc (.cells #[.string ⟨x.f.n.toArray⟩, .slice x.pa x.f.b.length x.k, .int .i64 (x.f.d : Int)] 97)).cell? ⟨w.heap.size, 1, none⟩ = some (.slice x.pa x.f.b.length x.k) := by
  rw [cell_of_row _ _ _ _ _ (0, 0) (heap_alloc_new _ _)]; rfl
 have k2 : (w.alloc (.cells #[.string ⟨x.f.n.toArray⟩, .slice x.pa x.f.b.length x.k, .int .i64 (x.f.d : Int)] 97)).cell? ⟨w.heap.size, 2, none⟩ = some (.int .i64 (x.f.d : Int)) := by
  rw [cell_of_row _ _ _ _ _ (0, 0) (heap_alloc_new _ _)]; rfl
 have hs : (w.alloc (.cells #[.string ⟨x.f.n.toArray⟩, .slice x.pa x.f.b.length x.k, .int .i64 (x.f.d : Int)] 97)).heap.size = w.heap.size + 1 := Array.size_push _
 have Hs := Lib.hid hs
 have K := Lib.hid (And.intro k0 (And.intro k1 k2))
 have Hb := Lib.hid hb
 have HW := Lib.hid (rwithout_any (h.below hX hb) (fun b hx => Nat.lt_of_lt_of_le (hX b hx) hb.size) hn x.f.n)
 have HR := Lib.hid h
 have HX := Lib.hid hX
 have Hlen := Lib.hid h.len
 have Hx := Lib.hid hx
 clear hb k0 k1 k2 hs h hX hx
 go_enter Tryz.func118, Tryz.ntmps118
 go_wp2_with fail
 refine HW.out.mono ?_
 rintro e w1 ⟨v1, rfl, hown1, hb1⟩
 obtain ⟨Q, hQ⟩ : ∃ Q, Q = delN FR.n x.f.n R := ⟨_, rfl⟩
 have HQ := Lib.hid hQ
 rw [← hQ] at hown1
 have hb01 := Hb.out.trans (hb1.mono Hb.out.size)
 obtain ⟨va, vc, rfl, hRow⟩ := rowF_own (X := X) (Y := fun b => b < w1.heap.size) hown1 (fun y hy => (HR.out.files y (by rw [hQ] at hy; exact (List.mem_filter.1 hy).1)).mono (fun b hb => hb01.block b (HX.out b hb)) (fun _ h => h)) (fun b h => Nat.lt_of_lt_of_le (HX.out b h) hb01.size) (fun b _ hb => hb)
 have HRow := Lib.hid hRow
 have Hb1 := Lib.hid hb01
 have HK := Lib.hid (show w1.cell? ⟨w.heap.size, 0, none⟩ = some (.string ⟨x.f.n.toArray⟩) ∧ w1.cell? ⟨w.heap.size, 1, none⟩ = some (.slice x.pa x.f.b.length x.k) ∧ w1.cell? ⟨w.heap.size, 2, none⟩ = some (.int .i64 (x.f.d : Int)) from
  ⟨cell_keep hb1 K.out.1, cell_keep hb1 K.out.2.1, cell_keep hb1 K.out.2.2⟩)
 have Hne := Lib.hid (show ∀ y ∈ Q, y.f.n ≠ x.f.n from fun y hy => by rw [hQ] at hy; have h2 := (List.mem_filter.1 hy).2; simpa [FR.n] using h2)
 have Hsz := Lib.hid (show w.heap.size < w1.heap.size from by have := Hs.out; have := hb1.size; omega)
 have Hmn := Lib.hid (show Q.length ≤ 1000000 from by rw [hQ]; unfold delN; have := Hlen.out; exact Nat.le_trans (List.length_filter_le ..) (by omega))
 clear hQ hown1 hb01 hRow hb1
 generalize hm : Q.length = m
 have Hm := Lib.hid hm
 rw [hm] at Hmn
 clear hm
 go_wp2
 go_loopw [5] (fun i wr => ∃ j : Nat, j ≤ m ∧ i = .int .i64 (j : Int) ∧ (∀ (k : Nat) (hk : k < Q.length), k < j → Op.bytesLess Q[k].f.n x.f.n = true) ∧ Below w1.heap.size w1 wr) (fun i _ => m - (intOf i).toNat)
 case atStart => exact ⟨0, Nat.zero_le _, rfl, fun k _ h => absurd h (by omega), Below.refl _ _⟩
 case round =>
  obtain ⟨j, hj, rfl, hall, hbr⟩ := hrel
  have Hall := Lib.hid hall
  have Hbr := Lib.hid hbr
  have hk0 := cell_keep Hbr.out HK.out.1
  clear hall hbr
  have hmn := Hmn.out
  have hsl1 := headF (P := Tryz.prog) Tryz.underlying22 info_file (Nat.le_trans hj (Nat.le_refl m)) (Hm.out ▸ HRow.out.le) (HRow.out.form)
  have hsl2 := tailF (P := Tryz.prog) Tryz.underlying22 info_file (a := va) (c := vc) hj
  by_cases hlt : j < m
  ·have hR := HRow.out.below (fun b h => h) Hbr.out
   obtain ⟨b, o, rfl, _, _⟩ := hR.cell (by have := Hm.out; omega)
   have hjQ : j < Q.length := by rw [Hm.out]; exact hlt
   have hq0 := (hR.at j hjQ).1
   change wr.cell? ⟨b, o + j * 3, none⟩ = some (.string ⟨(Q[j].f.n).toArray⟩) at hq0
   have hji : (j : Int) < (m : Int) := by omega
   clear hR
   obtain ⟨qn, hqn⟩ : ∃ qn, qn = Q[j].f.n := ⟨_, rfl⟩
   have Hqn := Lib.hid hqn
   rw [← hqn] at hq0
   clear hqn
   have Hmj := Lib.hid hjQ
   by_cases hbf : Op.bytesLess qn x.f.n = true
   ·have Hbf := Lib.hid hbf
    go_wp2; go_quiet (fail); go_wp2
    go_roundw
    case rel => exact ⟨j + 1, hlt, by go_num, before_snoc Hall.out Hmj.out (by rw [← Hqn.out]; exact Hbf.out), below_drewN Hbr.out _⟩
    case measure => simp [intOf]; omega
   ·have hbf' : Op.bytesLess qn x.f.n = false := by simpa using hbf
    have Hput := Lib.hid (show insN FR.n x Q = Q.take j ++ [x] ++ Q.drop j from ins_here Hne.out Hall.out (Nat.le_of_lt Hmj.out) (fun _ => by rw [← Hqn.out]; exact hbf'))
    clear hbf
    go_wp2; go_quiet (fail)
    go_wp2
    have hk1 := cell_keep Hbr.out HK.out.2.1
    have hk2 := cell_keep Hbr.out HK.out.2.2
    have HE0 := Lib.hid (show ∀ N, ((wr.drewN N).alloc (.cells #[] 97)).ownsRow w1.heap.size 97 3 (.slice (some ⟨wr.heap.size, 0, none⟩) 0 0) ([] : List FR).length (flatF []) from fun N => own_empty (wr.drewN N) w1.heap.size Hbr.out.size)
    have HB0 := Lib.hid (show ∀ N, Below w1.heap.size w1 ((wr.drewN N).alloc (.cells #[] 97)) from fun N => (below_drewN Hbr.out _).alloc Hbr.out.size _)
    have ha0 : ∀ N, ((wr.drewN N).alloc (.cells #[] 97)).cell? ⟨w.heap.size, 0, none⟩ = some (.string ⟨x.f.n.toArray⟩) := fun N => cell_keep (HB0.out N) HK.out.1
    have ha1 : ∀ N, ((wr.drewN N).alloc (.cells #[] 97)).cell? ⟨w.heap.size, 1, none⟩ = some (.slice x.pa x.f.b.length x.k) := fun N => cell_keep (HB0.out N) HK.out.2.1
    have ha2 : ∀ N, ((wr.drewN N).alloc (.cells #[] 97)).cell? ⟨w.heap.size, 2, none⟩ = some (.int .i64 (x.f.d : Int)) := fun N => cell_keep (HB0.out N) HK.out.2.2
    have HE1 := Lib.hid (show ∀ N, (((wr.drewN N).alloc (.cells #[] 97)).alloc (.cells #[.string ⟨x.f.n.toArray⟩, .slice x.pa x.f.b.length x.k, .int .i64 (x.f.d : Int)] 97)).ownsRow w1.heap.size 97 3 (.slice (some ⟨wr.heap.size, 0, none⟩) 0 0) ([] : List FR).length (flatF []) from fun N => (HE0.out N).alloc _)
    have HB1 := Lib.hid (show ∀ N, Below w1.heap.size w1 (((wr.drewN N).alloc (.cells #[] 97)).alloc (.cells #[.string ⟨x.f.n.toArray⟩, .slice x.pa x.f.b.length x.k, .int .i64 (x.f.d : Int)] 97)) from fun N => (HB0.out N).alloc (HB0.out N).size _)
    have HB2' := Lib.hid (show ∀ N, Below w1.heap.size w1 ((wr.drewN N).alloc (.cells #[.string ⟨x.f.n.toArray⟩, .slice x.pa x.f.b.length x.k, .int .i64 (x.f.d : Int)] 97)) from fun N => (below_drewN Hbr.out _).alloc Hbr.out.size _)
    have HE2 := Lib.hid (show ∀ N, (((wr.drewN N).alloc (.cells #[.string ⟨x.f.n.toArray⟩, .slice x.pa x.f.b.length x.k, .int .i64 (x.f.d : Int)] 97)).alloc (.cells #[] 97)).ownsRow w1.heap.size 97 3 (.slice (some ⟨(wr.heap.size + 1), 0, none⟩) 0 0) ([] : List FR).length (flatF []) from fun N => by
     have h := own_empty ((wr.drewN N).alloc (.cells #[.string ⟨x.f.n.toArray⟩, .slice x.pa x.f.b.length x.k, .int .i64 (x.f.d : Int)] 97)) w1.heap.size (HB2'.out N).size
     rw [show ((wr.drewN N).alloc (.cells #[.string ⟨x.f.n.toArray⟩, .slice x.pa x.f.b.length x.k, .int .i64 (x.f.d : Int)] 97)).heap.size = wr.heap.size + 1 from Array.size_push _] at h
     exact h)
    have HB2 := Lib.hid (show ∀ N, Below w1.heap.size w1 (((wr.drewN N).alloc (.cells #[.string ⟨x.f.n.toArray⟩, .slice x.pa x.f.b.length x.k, .int .i64 (x.f.d : Int)] 97)).alloc (.cells #[] 97)) from fun N => (HB2'.out N).alloc (HB2'.out N).size _)
    have HN1 := Lib.hid (show ∀ N, (((wr.drewN N).alloc (.cells #[] 97)).alloc (.cells #[.string ⟨x.f.n.toArray⟩, .slice x.pa x.f.b.length x.k, .int .i64 (x.f.d : Int)] 97)).heap[wr.heap.size + 1]? = some (.cells #[.string ⟨x.f.n.toArray⟩, .slice x.pa x.f.b.length x.k, .int .i64 (x.f.d : Int)] 97 (0, 0)) from fun N => by
     have h := heap_alloc_new ((wr.drewN N).alloc (.cells #[] 97)) (.cells #[.string ⟨x.f.n.toArray⟩, .slice x.pa x.f.b.length x.k, .int .i64 (x.f.d : Int)] 97)
     rw [show ((wr.drewN N).alloc (.cells #[] 97)).heap.size = wr.heap.size + 1 from Array.size_push _] at h
     exact h)
    have HN2 := Lib.hid (show ∀ N, (((wr.drewN N).alloc (.cells #[.string ⟨x.f.n.toArray⟩, .slice x.pa x.f.b.length x.k, .int .i64 (x.f.d : Int)] 97)).alloc (.cells #[] 97)).heap[wr.heap.size]? = some (.cells #[.string ⟨x.f.n.toArray⟩, .slice x.pa x.f.b.length x.k, .int .i64 (x.f.d : Int)] 97 (0, 0)) from fun N => by
     rw [heap_alloc_old _ _ (show wr.heap.size < ((wr.drewN N).alloc (.cells #[.string ⟨x.f.n.toArray⟩, .slice x.pa x.f.b.length x.k, .int .i64 (x.f.d : Int)] 97)).heap.size from by rw [show ((wr.drewN N).alloc (.cells #[.string ⟨x.f.n.toArray⟩, .slice x.pa x.f.b.length x.k, .int .i64 (x.f.d : Int)] 97)).heap.size = wr.heap.size + 1 from Array.size_push _]; omega)]
     exact heap_alloc_new (wr.drewN N) (.cells #[.string ⟨x.f.n.toArray⟩, .slice x.pa x.f.b.length x.k, .int .i64 (x.f.d : Int)] 97))
    have HT := Lib.hid (show ∀ W, Below w1.heap.size w1 W → RowF (fun _ => True) W (some ⟨b, o, none⟩) j vc (Q.take j) from fun W hW => ((HRow.out.below (fun b h => h) hW).take (by rw [Hm.out]; exact hj)).any)
    have HD := Lib.hid (show ∀ W, Below w1.heap.size w1 W → RowF (fun _ => True) W (tailA (some ⟨b, o, none⟩) vc j) (m - j) (vc - j) (Q.drop j) from fun W hW => by
     have h := ((HRow.out.below (fun b h => h) hW).drop (k := j) (by rw [Hm.out]; exact hj)).any
     rw [Hm.out] at h
     exact h)
    have Hfx := Lib.hid (show ∀ W, Below w1.heap.size w1 W → FileB (fun _ => True) W x from fun W hW => file_to Hx.out HX.out (Hb1.out.trans (hW.mono Hb1.out.size)))
    have Hlq := Lib.hid (show (Q.take j).length = j from by rw [List.length_take, Hm.out]; omega)
    have Hl1 := Lib.hid (show ([] : List FR).length + j ≤ 2000000 from by rw [List.length_nil]; omega)
    have Hl2 := Lib.hid (show ([] ++ Q.take j).length + 1 ≤ 2000000 from by rw [List.nil_append, Hlq.out]; omega)
    have Hl3 := Lib.hid (show (([] ++ Q.take j) ++ [x]).length + (m - j) ≤ 2000000 from by rw [List.nil_append, List.length_append, Hlq.out, List.length_singleton]; omega)
    have HF := Lib.hid (show ∀ v5 w5, w5.ownsRow w1.heap.size 97 3 v5 ((([] ++ Q.take j) ++ [x]) ++ Q.drop j).length (flatF ((([] ++ Q.take j) ++ [x]) ++ Q.drop j)) → Below w1.heap.size w1 w5 → w5.ownsRow w.heap.size 97 3 v5 (putN FR.n x R).length (flatF (putN FR.n x R)) ∧ Below w.heap.size w w5 from fun v5 w5 h1 h2 => by
     have e : putN FR.n x R = (([] ++ Q.take j) ++ [x]) ++ Q.drop j := by unfold putN; rw [List.nil_append, ← Hput.out, HQ.out]; rfl
     rw [e]
     exact ⟨own_baseF h1 Hb1.out.size, Hb1.out.trans (h2.mono Hb1.out.size)⟩)
    go_region_law (first
     | (refine step_appendF rfl (.tmp 26) (.tmp 29) 22 rfl Tryz.underlying22 (by simp [Act.eval]) (HE0.out _) (by simp [Act.eval]) (HT.out _ (HB0.out _)) Hl1.out (HB0.out _).size ?_
        intro v3 w3 g1 g2
        have hs3 := putStep (HB0.out _) (Nat.le_refl _) (HE0.out _) g2
        have Hs3 := Lib.hid hs3.below
        have Hg3 := Lib.hid g1
        have hc0 := cell_keep hs3.below HK.out.1
        have hc1 := cell_keep hs3.below HK.out.2.1
        have hc2 := cell_keep hs3.below HK.out.2.2
        clear g1 g2 hs3)
     | (refine step_appendF rfl (.tmp 26) (.tmp 29) 22 rfl Tryz.underlying22 (by simp [Act.eval]) (HE1.out _) (by simp [Act.eval]) (HT.out _ (HB1.out _)) Hl1.out (HB1.out _).size ?_
        intro v3 w3 g1 g2
        have hs3 := putStep (HB1.out _) (Nat.le_refl _) (HE1.out _) g2
        have Hs3 := Lib.hid hs3.below
        have Hg3 := Lib.hid g1
        have Hk := Lib.hid (hs3.blk _ _ (HN1.out _) (by simp [Value.ownBlock]))
        have hc0 := cell_keep hs3.below HK.out.1
        have hc1 := cell_keep hs3.below HK.out.2.1
        have hc2 := cell_keep hs3.below HK.out.2.2
        clear g1 g2 hs3)
     | (refine step_appendF rfl (.tmp 26) (.tmp 29) 22 rfl Tryz.underlying22 (by simp [Act.eval]) (HE2.out _) (by simp [Act.eval]) (HT.out _ (HB2.out _)) Hl1.out (HB2.out _).size ?_
        intro v3 w3 g1 g2
        have hs3 := putStep (HB2.out _) (Nat.le_refl _) (HE2.out _) g2
        have Hs3 := Lib.hid hs3.below
        have Hg3 := Lib.hid g1
        have Hk := Lib.hid (hs3.blk _ _ (HN2.out _) (by simp [Value.ownBlock]))
        have hc0 := cell_keep hs3.below HK.out.1
        have hc1 := cell_keep hs3.below HK.out.2.1
        have hc2 := cell_keep hs3.below HK.out.2.2
        clear g1 g2 hs3)
     | (refine step_appendF rfl (.tmp 30) (.tmp 32) 22 rfl Tryz.underlying22 (by simp [Act.eval]) (Hg3.out.alloc _) (by simp [Act.eval]) (rowF_block (Hfx.out _ (Hs3.out.alloc Hs3.out.size _)) (heap_alloc_new w3 _)) Hl2.out (Hs3.out.alloc Hs3.out.size _).size ?_
        intro v4 w4 g1 g2
        have hs4 := putStep (Hs3.out.alloc Hs3.out.size _) (Nat.le_refl _) (Hg3.out.alloc _) g2
        have Hs4 := Lib.hid hs4.below
        have Hg4 := Lib.hid g1
        clear g1 g2 hs4)
     | (refine step_appendF rfl (.tmp 30) (.tmp 32) 22 rfl Tryz.underlying22 (by simp [Act.eval]) Hg3.out (by simp [Act.eval]) (rowF_block (Hfx.out _ Hs3.out) Hk.out) Hl2.out (Hs3.out).size ?_
        intro v4 w4 g1 g2
        have hs4 := putStep (Hs3.out) (Nat.le_refl _) Hg3.out g2
        have Hs4 := Lib.hid hs4.below
        have Hg4 := Lib.hid g1
        clear g1 g2 hs4)
     | (refine step_appendF rfl (.tmp 33) (.tmp 36) 22 rfl Tryz.underlying22 (by simp [Act.eval]) Hg4.out (by simp [Act.eval]) (HD.out _ Hs4.out) Hl3.out Hs4.out.size ?_
        intro v5 w5 g1 g2
        have hs5 := putStep Hs4.out (Nat.le_refl _) Hg4.out g2
        have Hfin := Lib.hid (HF.out _ _ g1 hs5.below)
        clear g1 g2 hs5))
    all_goals go_wp2
    all_goals go_ret
    all_goals exact ⟨_, rfl, Hfin.out⟩
  ·have hji : decide ((j : Int) < (m : Int)) = false := by simp; omega
   have hjm : j = m := by omega
   have Hput := Lib.hid (show insN FR.n x Q = Q.take j ++ [x] ++ Q.drop j from ins_here Hne.out Hall.out (by rw [Hm.out]; exact hj) (fun h => absurd h (by rw [Hm.out]; omega)))
   clear hjm
   go_wp2; go_quiet (fail); go_wp2
   have hk1 := cell_keep Hbr.out HK.out.2.1
   have hk2 := cell_keep Hbr.out HK.out.2.2
   have HE0 := Lib.hid (show ∀ N, ((wr.drewN N).alloc (.cells #[] 97)).ownsRow w1.heap.size 97 3 (.slice (some ⟨wr.heap.size, 0, none⟩) 0 0) ([] : List FR).length (flatF []) from fun N => own_empty (wr.drewN N) w1.heap.size Hbr.out.size)
   have HB0 := Lib.hid (show ∀ N, Below w1.heap.size w1 ((wr.drewN N).alloc (.cells #[] 97)) from fun N => (below_drewN Hbr.out _).alloc Hbr.out.size _)
   have ha0 : ∀ N, ((wr.drewN N).alloc (.cells #[] 97)).cell? ⟨w.heap.size, 0, none⟩ = some (.string ⟨x.f.n.toArray⟩) := fun N => cell_keep (HB0.out N) HK.out.1
   have ha1 : ∀ N, ((wr.drewN N).alloc (.cells #[] 97)).cell? ⟨w.heap.size, 1, none⟩ = some (.slice x.pa x.f.b.length x.k) := fun N => cell_keep (HB0.out N) HK.out.2.1
   have ha2 : ∀ N, ((wr.drewN N).alloc (.cells #[] 97)).cell? ⟨w.heap.size, 2, none⟩ = some (.int .i64 (x.f.d : Int)) := fun N => cell_keep (HB0.out N) HK.out.2.2
   have HE1 := Lib.hid (show ∀ N, (((wr.drewN N).alloc (.cells #[] 97)).alloc (.cells #[.string ⟨x.f.n.toArray⟩, .slice x.pa x.f.b.length x.k, .int .i64 (x.f.d : Int)] 97)).ownsRow w1.heap.size 97 3 (.slice (some ⟨wr.heap.size, 0, none⟩) 0 0) ([] : List FR).length (flatF []) from fun N => (HE0.out N).alloc _)
   have HB1 := Lib.hid (show ∀ N, Below w1.heap.size w1 (((wr.drewN N).alloc (.cells #[] 97)).alloc (.cells #[.string ⟨x.f.n.toArray⟩, .slice x.pa x.f.b.length x.k, .int .i64 (x.f.d : Int)] 97)) from fun N => (HB0.out N).alloc (HB0.out N).size _)
   have HB2' := Lib.hid (show ∀ N, Below w1.heap.size w1 ((wr.drewN N).alloc (.cells #[.string ⟨x.f.n.toArray⟩, .slice x.pa x.f.b.length x.k, .int .i64 (x.f.d : Int)] 97)) from fun N => (below_drewN Hbr.out _).alloc Hbr.out.size _)
   have HE2 := Lib.hid (show ∀ N, (((wr.drewN N).alloc (.cells #[.string ⟨x.f.n.toArray⟩, .slice x.pa x.f.b.length x.k, .int .i64 (x.f.d : Int)] 97)).alloc (.cells #[] 97)).ownsRow w1.heap.size 97 3 (.slice (some ⟨(wr.heap.size + 1), 0, none⟩) 0 0) ([] : List FR).length (flatF []) from fun N => by
    have h := own_empty ((wr.drewN N).alloc (.cells #[.string ⟨x.f.n.toArray⟩, .slice x.pa x.f.b.length x.k, .int .i64 (x.f.d : Int)] 97)) w1.heap.size (HB2'.out N).size
    rw [show ((wr.drewN N).alloc (.cells #[.string ⟨x.f.n.toArray⟩, .slice x.pa x.f.b.length x.k, .int .i64 (x.f.d : Int)] 97)).heap.size = wr.heap.size + 1 from Array.size_push _] at h
    exact h)
   have HB2 := Lib.hid (show ∀ N, Below w1.heap.size w1 (((wr.drewN N).alloc (.cells #[.string ⟨x.f.n.toArray⟩, .slice x.pa x.f.b.length x.k, .int .i64 (x.f.d : Int)] 97)).alloc (.cells #[] 97)) from fun N => (HB2'.out N).alloc (HB2'.out N).size _)
   have HN1 := Lib.hid (show ∀ N, (((wr.drewN N).alloc (.cells #[] 97)).alloc (.cells #[.string ⟨x.f.n.toArray⟩, .slice x.pa x.f.b.length x.k, .int .i64 (x.f.d : Int)] 97)).heap[wr.heap.size + 1]? = some (.cells #[.string ⟨x.f.n.toArray⟩, .slice x.pa x.f.b.length x.k, .int .i64 (x.f.d : Int)] 97 (0, 0)) from fun N => by
    have h := heap_alloc_new ((wr.drewN N).alloc (.cells #[] 97)) (.cells #[.string ⟨x.f.n.toArray⟩, .slice x.pa x.f.b.length x.k, .int .i64 (x.f.d : Int)] 97)
    rw [show ((wr.drewN N).alloc (.cells #[] 97)).heap.size = wr.heap.size + 1 from Array.size_push _] at h
    exact h)
   have HN2 := Lib.hid (show ∀ N, (((wr.drewN N).alloc (.cells #[.string ⟨x.f.n.toArray⟩, .slice x.pa x.f.b.length x.k, .int .i64 (x.f.d : Int)] 97)).alloc (.cells #[] 97)).heap[wr.heap.size]? = some (.cells #[.string ⟨x.f.n.toArray⟩, .slice x.pa x.f.b.length x.k, .int .i64 (x.f.d : Int)] 97 (0, 0)) from fun N => by
    rw [heap_alloc_old _ _ (show wr.heap.size < ((wr.drewN N).alloc (.cells #[.string ⟨x.f.n.toArray⟩, .slice x.pa x.f.b.length x.k, .int .i64 (x.f.d : Int)] 97)).heap.size from by rw [show ((wr.drewN N).alloc (.cells #[.string ⟨x.f.n.toArray⟩, .slice x.pa x.f.b.length x.k, .int .i64 (x.f.d : Int)] 97)).heap.size = wr.heap.size + 1 from Array.size_push _]; omega)]
    exact heap_alloc_new (wr.drewN N) (.cells #[.string ⟨x.f.n.toArray⟩, .slice x.pa x.f.b.length x.k, .int .i64 (x.f.d : Int)] 97))
   have HT := Lib.hid (show ∀ W, Below w1.heap.size w1 W → RowF (fun _ => True) W va j vc (Q.take j) from fun W hW => ((HRow.out.below (fun b h => h) hW).take (by rw [Hm.out]; exact hj)).any)
   have HD := Lib.hid (show ∀ W, Below w1.heap.size w1 W → RowF (fun _ => True) W (tailA va vc j) (m - j) (vc - j) (Q.drop j) from fun W hW => by
    have h := ((HRow.out.below (fun b h => h) hW).drop (k := j) (by rw [Hm.out]; exact hj)).any
    rw [Hm.out] at h
    exact h)
   have Hfx := Lib.hid (show ∀ W, Below w1.heap.size w1 W → FileB (fun _ => True) W x from fun W hW => file_to Hx.out HX.out (Hb1.out.trans (hW.mono Hb1.out.size)))
   have Hlq := Lib.hid (show (Q.take j).length = j from by rw [List.length_take, Hm.out]; omega)
   have Hl1 := Lib.hid (show ([] : List FR).length + j ≤ 2000000 from by rw [List.length_nil]; omega)
   have Hl2 := Lib.hid (show ([] ++ Q.take j).length + 1 ≤ 2000000 from by rw [List.nil_append, Hlq.out]; omega)
   have Hl3 := Lib.hid (show (([] ++ Q.take j) ++ [x]).length + (m - j) ≤ 2000000 from by rw [List.nil_append, List.length_append, Hlq.out, List.length_singleton]; omega)
   have HF := Lib.hid (show ∀ v5 w5, w5.ownsRow w1.heap.size 97 3 v5 ((([] ++ Q.take j) ++ [x]) ++ Q.drop j).length (flatF ((([] ++ Q.take j) ++ [x]) ++ Q.drop j)) → Below w1.heap.size w1 w5 → w5.ownsRow w.heap.size 97 3 v5 (putN FR.n x R).length (flatF (putN FR.n x R)) ∧ Below w.heap.size w w5 from fun v5 w5 h1 h2 => by
    have e : putN FR.n x R = (([] ++ Q.take j) ++ [x]) ++ Q.drop j := by unfold putN; rw [List.nil_append, ← Hput.out, HQ.out]; rfl
    rw [e]
    exact ⟨own_baseF h1 Hb1.out.size, Hb1.out.trans (h2.mono Hb1.out.size)⟩)
   go_region_law (first
    | (refine step_appendF rfl (.tmp 26) (.tmp 29) 22 rfl Tryz.underlying22 (by simp [Act.eval]) (HE0.out _) (by simp [Act.eval]) (HT.out _ (HB0.out _)) Hl1.out (HB0.out _).size ?_
       intro v3 w3 g1 g2
       have hs3 := putStep (HB0.out _) (Nat.le_refl _) (HE0.out _) g2
       have Hs3 := Lib.hid hs3.below
       have Hg3 := Lib.hid g1
       have hc0 := cell_keep hs3.below HK.out.1
       have hc1 := cell_keep hs3.below HK.out.2.1
       have hc2 := cell_keep hs3.below HK.out.2.2
       clear g1 g2 hs3)
    | (refine step_appendF rfl (.tmp 26) (.tmp 29) 22 rfl Tryz.underlying22 (by simp [Act.eval]) (HE1.out _) (by simp [Act.eval]) (HT.out _ (HB1.out _)) Hl1.out (HB1.out _).size ?_
       intro v3 w3 g1 g2
       have hs3 := putStep (HB1.out _) (Nat.le_refl _) (HE1.out _) g2
       have Hs3 := Lib.hid hs3.below
       have Hg3 := Lib.hid g1
       have Hk := Lib.hid (hs3.blk _ _ (HN1.out _) (by simp [Value.ownBlock]))
       have hc0 := cell_keep hs3.below HK.out.1
       have hc1 := cell_keep hs3.below HK.out.2.1
       have hc2 := cell_keep hs3.below HK.out.2.2
       clear g1 g2 hs3)
    | (refine step_appendF rfl (.tmp 26) (.tmp 29) 22 rfl Tryz.underlying22 (by simp [Act.eval]) (HE2.out _) (by simp [Act.eval]) (HT.out _ (HB2.out _)) Hl1.out (HB2.out _).size ?_
       intro v3 w3 g1 g2
       have hs3 := putStep (HB2.out _) (Nat.le_refl _) (HE2.out _) g2
       have Hs3 := Lib.hid hs3.below
       have Hg3 := Lib.hid g1
       have Hk := Lib.hid (hs3.blk _ _ (HN2.out _) (by simp [Value.ownBlock]))
       have hc0 := cell_keep hs3.below HK.out.1
       have hc1 := cell_keep hs3.below HK.out.2.1
       have hc2 := cell_keep hs3.below HK.out.2.2
       clear g1 g2 hs3)
    | (refine step_appendF rfl (.tmp 30) (.tmp 32) 22 rfl Tryz.underlying22 (by simp [Act.eval]) (Hg3.out.alloc _) (by simp [Act.eval]) (rowF_block (Hfx.out _ (Hs3.out.alloc Hs3.out.size _)) (heap_alloc_new w3 _)) Hl2.out (Hs3.out.alloc Hs3.out.size _).size ?_
       intro v4 w4 g1 g2
       have hs4 := putStep (Hs3.out.alloc Hs3.out.size _) (Nat.le_refl _) (Hg3.out.alloc _) g2
       have Hs4 := Lib.hid hs4.below
       have Hg4 := Lib.hid g1
       clear g1 g2 hs4)
    | (refine step_appendF rfl (.tmp 30) (.tmp 32) 22 rfl Tryz.underlying22 (by simp [Act.eval]) Hg3.out (by simp [Act.eval]) (rowF_block (Hfx.out _ Hs3.out) Hk.out) Hl2.out (Hs3.out).size ?_
       intro v4 w4 g1 g2
       have hs4 := putStep (Hs3.out) (Nat.le_refl _) Hg3.out g2
       have Hs4 := Lib.hid hs4.below
       have Hg4 := Lib.hid g1
       clear g1 g2 hs4)
    | (refine step_appendF rfl (.tmp 33) (.tmp 36) 22 rfl Tryz.underlying22 (by simp [Act.eval]) Hg4.out (by simp [Act.eval]) (HD.out _ Hs4.out) Hl3.out Hs4.out.size ?_
       intro v5 w5 g1 g2
       have hs5 := putStep Hs4.out (Nat.le_refl _) Hg4.out g2
       have Hfin := Lib.hid (HF.out _ _ g1 hs5.below)
       clear g1 g2 hs5))
   all_goals go_wp2
   all_goals go_ret
   all_goals exact ⟨_, rfl, Hfin.out⟩
end Go.Proofs.YtnbddiiedagllaaGreat

/- The walks of the reference's Read and Names. -/
namespace Go.Proofs.YtnbddiiedagllaaGreat
open Go.RowKit Go.Maps Go.Shelf

def RefAt (X : Nat → Prop) (w : World) (v : Value) (M : DM) : Prop :=
 ∃ a n c R, v = refV (M.room : Int) a n c (M.plan : Int) M.down ∧ RowF X w a n c R ∧ R.map FR.f = M.fs ∧ n ≤ 1000000

theorem box4 (w : World) (room : Int) (a : Option Addr) (n c : Nat) (plan : Int) (down : Bool) :
  (w.alloc (.cells #[.int .i64 room, .slice a n c, .int .i64 plan, .bool down] 25)).cell? ⟨w.heap.size, 0, none⟩ = some (.int .i64 room) ∧
  (w.alloc (.cells #[.int .i64 room, .slice a n c, .int .i64 plan, .bool down] 25)).cell? ⟨w.heap.size, 1, none⟩ = some (.slice a n c) ∧
  (w.alloc (.cells #[.int .i64 room, .slice a n c, .int .i64 plan, .bool down] 25)).cell? ⟨w.heap.size, 2, none⟩ = some (.int .i64 plan) ∧
  (w.alloc (.cells #[.int .i64 room, .slice a n c, .int .i64 plan, .bool down] 25)).cell? ⟨w.heap.size, 3, none⟩ = some (.bool down) := by
 refine ⟨?_, ?_, ?_, ?_⟩ <;> (rw [cell_of_row _ _ _ _ _ (0, 0) (heap_alloc_new _ _)]; rfl)

end Go.Proofs.YtnbddiiedagllaaGreat

/- The walk of the reference's Names. -/
namespace Go.Proofs.YtnbddiiedagllaaGreat
open Go.RowKit Go.Maps Go.Shelf

theorem info_str : (Tryz.prog.info? 9).map (fun i => (i.zero, i.size, i.bytes)) = some (some (.string ⟨#[]⟩), 1, 16) := by kernel_rfl

def namesTo (R : List FR) (j : Nat) : List Value := ((R.take j).map FR.n).map encStr
theorem namesTo_next {R : List FR} {j : Nat} (hj : j < R.length) : namesTo R (j + 1) = namesTo R j ++ [encStr R[j].f.n] := by
 unfold namesTo
 rw [List.take_succ_eq_append_getElem hj, List.map_append, List.map_append]
 rfl

set_option maxRecDepth 100000 in
set_option maxHeartbeats 6400000 in
theorem rnames_any {X : Nat → Prop} {w : World} {v : Value} {M : DM} (h : RefAt X w v M) (hX : ∀ b, X b → b < w.heap.size) :
  Calls Tryz.prog 42 #[v] w fun e w' => ∃ v, e = .returned v ∧ w'.ownsRow w.heap.size 9 1 v M.fs.length ((M.fs.map F.n).map encStr) ∧ Below w.heap.size w w' := by
 obtain ⟨a, n, c, R, rfl, hR, hfs, hn⟩ := h
 obtain ⟨i0, hi, hz0, hz1, hz2⟩ := info_parts info_str
 have hb := (Below.refl w.heap.size w).alloc (Nat.le_refl _) (.cells #[.int .i64 (M.room : Int), .slice a n c, .int .i64 (M.plan : Int), .bool M.down] 25)
 obtain ⟨_, b1, _, _⟩ := box4 w (M.room : Int) a n c (M.plan : Int) M.down
 have hR1 := hR.below hX hb
 have hlen := hR.len
 have hmax : n ≤ 9223372036854775807 := Nat.le_trans hR.le hR.max
 have hsz := Lib.hid (show w.heap.size ≤ (w.alloc (.cells #[.int .i64 (M.room : Int), .slice a n c, .int .i64 (M.plan : Int), .bool M.down] 25)).heap.size from hb.size)
 have Hb := Lib.hid hb
 have HR1 := Lib.hid (hR.below hX hb)
 have HX := Lib.hid (fun b hx => Nat.lt_of_lt_of_le (hX b hx) hb.size)
 have Hlen := Lib.hid hlen
 have Hall := Lib.hid (show (namesTo R n).length = M.fs.length ∧ namesTo R n = (M.fs.map F.n).map encStr from by
  have e : namesTo R n = (M.fs.map F.n).map encStr := by unfold namesTo; rw [← hlen, List.take_length, ← hfs, List.map_map, List.map_map, List.map_map]; rfl
  rw [e]
  exact ⟨by simp, rfl⟩)
 clear hR hb hX hR1 hlen hfs
 unfold refV
 go_enter Tryz.func42, Tryz.ntmps42
 go_wp2
 generalize w.alloc (.cells #[.int .i64 (M.room : Int), .slice a n c, .int .i64 (M.plan : Int), .bool M.down] 25) = w1 at *
 go_loopw [3, 4] (fun s i wr => ∃ j : Nat, j ≤ n ∧ i = .int .i64 (j : Int) ∧ wr.ownsRow w1.heap.size 9 1 s j (namesTo R j) ∧ Below w1.heap.size w1 wr ∧ Below w.heap.size w wr) (fun _ i _ => n - (intOf i).toNat)
 case atStart => exact ⟨0, Nat.zero_le _, rfl, World.ownsRow_nil w1 w1.heap.size 9 1, Below.refl _ _, Hb.out⟩
 case round =>
  obtain ⟨j, hj, rfl, hown, hb1, hb⟩ := hrel
  have c1 := cell_keep hb1 b1
  by_cases hlt : j < n
  ·have hR := HR1.out.below HX.out hb1
   obtain ⟨b, o, rfl, _, _⟩ := hR.cell (by omega)
   have hjR : j < R.length := by rw [Hlen.out]; exact hlt
   have k0 := (hR.at j hjR).1
   change wr.cell? ⟨b, o + j * 3, none⟩ = some (.string ⟨(R[j].f.n).toArray⟩) at k0
   have Hs := Lib.hid (namesTo_next hjR)
   have hji : (j : Int) < (n : Int) := by omega
   clear hR
   generalize R[j].f.n = nm at *
   have hal : Below wr.heap.size wr (wr.alloc (.cells #[.string ⟨nm.toArray⟩] 9)) := (Below.refl _ _).alloc (Nat.le_refl _) _
   have Hown2 := Lib.hid (hown.alloc (.cells #[.string ⟨nm.toArray⟩] 9))
   have Hnews := Lib.hid (World.news_of_block (heap_alloc_new wr (.cells #[.string ⟨nm.toArray⟩] 9)))
   have Hal := Lib.hid hal
   have Hb1 := Lib.hid hb1
   have Hb2 := Lib.hid hb
   clear hal hb1 hb hown hjR
   go_wp2_with (first
    | (at_builtin; refine wpList_append_own _ rfl _ _ 78 rfl w1.heap.size 9 i0 _ 1 16 Tryz.underlying78 hi hz0 hz1 hz2 rfl (by decide) _ _ _ rfl Hown2.out ⟨wr.heap.size, 0, none⟩ 1 1 [encStr nm] rfl rfl Hnews.out (by intro u hu; rw [List.mem_singleton.1 hu]; rfl) (by rw [maxLen_nat]; omega) (by omega) (Nat.le_trans Hb1.out.size Hal.out.size) ?_; intro v' w' g1 g2 _)
    | go_in)
   rw [← Hs.out] at g1
   have Hg1 := Lib.hid g1
   have Hg2 := Lib.hid ((Hb2.out.trans (Hal.out.mono Hb2.out.size)).grown g2 (Nat.le_trans Hb2.out.size Hal.out.size) (fun k hk => Nat.le_trans hsz.out (Hown2.out.lt k hk).1))
   have Hg3 := Lib.hid ((Hb1.out.trans (Hal.out.mono Hb1.out.size)).grown g2 (Nat.le_trans Hb1.out.size Hal.out.size) (fun k hk => (Hown2.out.lt k hk).1))
   clear g1 g2
   go_wp2
   go_roundw
   case rel => exact ⟨j + 1, hlt, by go_num, Hg1.out, Hg3.out, Hg2.out⟩
   case measure => simp [intOf]; omega
  ·have hji : ¬ (j : Int) < (n : Int) := by omega
   have e : j = n := by omega
   have Hend := Lib.hid (show wr.ownsRow w.heap.size 9 1 u3 M.fs.length ((M.fs.map F.n).map encStr) from by
    rw [e] at hown
    have h1 := hown
    have h2 := hown.1
    rw [Hall.out.2] at h1
    have h3 : n = M.fs.length := by rw [← Hall.out.1, h2]; omega
    rw [← h3]
    exact ⟨h1.1, h1.2.imp id (by rintro ⟨g, cap, cur, e, hb, r⟩; exact ⟨g, cap, cur, e, Nat.le_trans hsz.out hb, r⟩)⟩)
   have Hb2 := Lib.hid hb
   clear hown hb e
   go_wp2
   go_ret
   exact ⟨_, rfl, by have h := Hend.out; rw [List.map_map] at h; exact h, Hb2.out⟩
end Go.Proofs.YtnbddiiedagllaaGreat

/- The walk of the reference's Do: the disk that is down, the plan, the names. -/
namespace Go.Proofs.YtnbddiiedagllaaGreat
open Go.RowKit Go.Maps Go.Shelf

def opV (k : Int) (nm to : List UInt8) (p : Option Addr) (l c : Nat) : Value := .agg #[.int .i64 k, .string ⟨nm.toArray⟩, .string ⟨to.toArray⟩, .slice p l c]

theorem failM_room' (M : DM) : (failM M).room = M.room := by
 unfold failM; split
 ·rfl
 ·split <;> rfl
theorem failM_fs' (M : DM) : (failM M).fs = M.fs := by
 unfold failM; split
 ·rfl
 ·split <;> rfl

def DoEnd (X : Nat → Prop) (w : World) (r : DM × Int) (e : Ending) (w' : World) : Prop :=
 ∃ a n c R, e = .returned (.tuple #[refV (r.1.room : Int) a n c (r.1.plan : Int) r.1.down, .int .i64 r.2]) ∧ RowF (fun b => (X b ∨ w.heap.size ≤ b) ∧ b < w'.heap.size) w' a n c R ∧ R.map FR.f = r.1.fs ∧ Below w.heap.size w w'

set_option maxRecDepth 100000 in
set_option maxHeartbeats 6400000 in
theorem rdo_dead {X : Nat → Prop} {w : World} {v : Value} {M : DM} (h : RefAt X w v M) (hX : ∀ b, X b → b < w.heap.size) (hd : (failM M).down = true) (k : Int) (nm to : List UInt8) (p : Option Addr) (l c2 : Nat) :
  Calls Tryz.prog 74 #[v, opV k nm to p l c2] w (DoEnd X w (failM M, 10)) := by
 obtain ⟨a, n, c, R, rfl, hR, hfs, _⟩ := h
 have HE := Lib.hid (show ∀ (w' : World), Below w.heap.size w w' → DoEnd X w (failM M, 10) (.returned (.tuple #[refV (M.room : Int) a n c ((failM M).plan : Int) true, .int .i64 10])) w' from fun w' hb => by
  refine ⟨a, n, c, R, ?_, (hR.below hX hb).mono (fun _ _ => rfl) (fun b hx => ⟨.inl hx, Nat.lt_of_lt_of_le (hX b hx) hb.size⟩), ?_, hb⟩
  ·show _ = Ending.returned (.tuple #[refV ((failM M).room : Int) a n c ((failM M).plan : Int) (failM M).down, .int .i64 10])
   rw [hd, failM_room']
  ·show _ = (failM M).fs
   rw [hfs, failM_fs'])
 have Hbig := Lib.hid (show ∀ o1 o2 o3 : Obj, Below w.heap.size w (((w.alloc o1).alloc o2).alloc o3) from fun o1 o2 o3 => by
  have h1 := (Below.refl w.heap.size w).alloc (Nat.le_refl _) o1
  have h2 := h1.alloc h1.size o2
  exact h2.alloc h2.size o3)
 clear hR hfs hX
 unfold refV at HE
 unfold refV opV
 cases hdn : M.down with
 | true =>
  have e : (failM M).plan = M.plan := by unfold failM; rw [if_pos hdn]
  rw [e] at HE
  clear e hd hdn
  generalize (M.plan : Int) = pl at *
  generalize (M.room : Int) = ro at *
  go_enter Tryz.func74, Tryz.ntmps74
  go_wp2_with fail
  (try simp only [Exit.inBlock, Exit.then])
  refine bodyPost_ret ?_ rfl (HE.out _ (Hbig.out _ _ _))
  rw [results_cell_tmp rfl]
  go_simp
 | false =>
  have hp1 : M.plan = 1 := by
   unfold failM at hd
   rw [if_neg (by rw [hdn]; decide)] at hd
   split at hd
   ·assumption
   ·rw [hdn] at hd; cases hd
  have e : (failM M).plan = 0 := by unfold failM; rw [if_neg (by rw [hdn]; decide), if_pos hp1]
  rw [e] at HE
  rw [hp1]
  clear e hd hdn hp1
  generalize (M.room : Int) = ro at *
  go_enter Tryz.func74, Tryz.ntmps74
  go_wp2_with fail
  (try simp only [Exit.inBlock, Exit.then])
  refine bodyPost_ret ?_ rfl (HE.out _ (Hbig.out _ _ _))
  rw [results_cell_tmp rfl]
  go_simp
end Go.Proofs.YtnbddiiedagllaaGreat

