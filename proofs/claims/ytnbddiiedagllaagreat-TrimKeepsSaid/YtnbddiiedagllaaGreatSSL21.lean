import Derived.Test.YtnbddiiedagllaaGreatSSL15
import Derived.Test.YtnbddiiedagllaaGreatSSL16
import Derived.Test.YtnbddiiedagllaaGreatSSL18
import Derived.Test.YtnbddiiedagllaaGreatSSL20
import Derived.Test.YtnbddiiedagllaaGreatSSL17
import Derived.IntWalk
import Derived.Test.YtnbddiiedagllaaGreatSSL19
/- What the segments of a disk have, as plain data: the records of a log, and what a crash leaves of them. -/
namespace Go.Proofs.YtnbddiiedagllaaGreat
open Go.RowKit Go.Maps

def nmL (n : List UInt8) : List Nat := n.map UInt8.toNat

theorem nmL_nmB (i : Nat) : nmL (nmB i) = nameL i := by
 unfold nmL nmB
 rw [List.map_map]
 conv => rhs; rw [← List.map_id (nameL i)]
 refine List.map_congr_left (fun x hx => ?_)
 have := nameL_byte i x hx
 simp only [Function.comp, id, UInt8.toNat_ofNat']
 omega

def SegsOf (M : DM) (out : List Int) : Prop := Asc out ∧ ∀ x, x ∈ out ↔ NumsOf (M.fs.map fun f => nmL f.n) x

def RecsOf (M : DM) (ls : List (List Nat)) : Prop :=
 ∃ (out : List Int) (parts : List (List (List Nat))), SegsOf M out ∧ parts.length = out.length ∧ (∀ (i : Nat) (x : Int) (p : List (List Nat)), out[i]? = some x → parts[i]? = some p → ∃ t, Splits (readM (nmB x.toNat) M).1 p t) ∧ ls = parts.flatten

theorem segsOf_uniq {M : DM} {a b : List Int} (ha : SegsOf M a) (hb : SegsOf M b) : a = b :=
 asc_eq ha.1 hb.1 (fun x => by rw [ha.2 x, hb.2 x])

def upTo (n : Nat) : List Int := (List.range n).map fun i => ((i + 1 : Nat) : Int)

theorem upTo_asc (n : Nat) : Asc (upTo n) := by
 unfold Asc upTo
 rw [List.pairwise_map]
 refine (List.pairwise_lt_range (n := n)).imp ?_
 intro a b h
 omega

theorem upTo_mem (n : Nat) (x : Int) : x ∈ upTo n ↔ 1 ≤ x ∧ x ≤ n := by
 unfold upTo
 rw [List.mem_map]
 constructor
 ·rintro ⟨i, hi, rfl⟩
  have := List.mem_range.1 hi
  omega
 ·rintro ⟨h1, h2⟩
  exact ⟨x.toNat - 1, List.mem_range.2 (by omega), by omega⟩

theorem recs_files {M : DM} {B : List (List (List Nat))} {y : List Nat} {d : Nat} {p : List (List Nat)} {t : List Nat} (hd : M.down = false) (hB : B.length + 1 ≤ 99999999) (hfs : M.fs = B.mapIdx fullF ++ [⟨nmB (B.length + 1), y, d⟩])
  (hrec : ∀ b ∈ B, ∀ r ∈ b, r.length ≤ 1048576) (hy : Splits y p t) : RecsOf M (B.flatten ++ p) ∧ SegsOf M (upTo (B.length + 1)) := by
 have hlen : M.fs.length = B.length + 1 := by rw [hfs, List.length_append, List.length_mapIdx]; rfl
 have hget : ∀ i, i < B.length + 1 → ∃ f, M.fs[i]? = some f ∧ f.n = nmB (i + 1) := by
  intro i hi
  rw [hfs]
  by_cases h : i < B.length
  ·refine ⟨fullF i B[i], ?_, rfl⟩
   rw [List.getElem?_append_left (by rw [List.length_mapIdx]; exact h), List.getElem?_mapIdx, List.getElem?_eq_getElem h]
   rfl
  ·have e : i = B.length := by omega
   subst e
   refine ⟨⟨nmB (B.length + 1), y, d⟩, ?_, rfl⟩
   rw [List.getElem?_append_right (by rw [List.length_mapIdx]; exact Nat.le_refl _), List.length_mapIdx, Nat.sub_self]
   rfl
 have hseg : SegsOf M (upTo (B.length + 1)) := by
  refine ⟨upTo_asc _, fun x => ?_⟩
  rw [upTo_mem]
  constructor
  ·rintro ⟨h1, h2⟩
   obtain ⟨f, hf, hn⟩ := hget (x.toNat - 1) (by omega)
   refine ⟨nmL f.n, List.mem_map.2 ⟨f, List.mem_of_getElem? hf, rfl⟩, ?_⟩
   rw [hn, nmL_nmB, segNum_name (by omega)]
   omega
  ·rintro ⟨l, hl, h1, rfl⟩
   obtain ⟨f, hf, rfl⟩ := List.mem_map.1 hl
   obtain ⟨i, hi, rfl⟩ := List.getElem_of_mem hf
   obtain ⟨f', hf', hn⟩ := hget i (by omega)
   rw [List.getElem?_eq_getElem hi] at hf'
   have e : M.fs[i] = f' := Option.some.inj hf'
   rw [e, hn, nmL_nmB, segNum_name (by omega)]
   omega
 refine ⟨⟨upTo (B.length + 1), B ++ [p], hseg, ?_, ?_, by simp⟩, hseg⟩
 ·unfold upTo
  rw [List.length_map, List.length_range, List.length_append]
  rfl
 ·intro i x q hx hq
  have hi : i < B.length + 1 := by
   have := (List.getElem?_eq_some_iff.1 hx).1
   unfold upTo at this
   rw [List.length_map, List.length_range] at this
   exact this
  have ex : x = ((i + 1 : Nat) : Int) := by
   unfold upTo at hx
   rw [List.getElem?_map, List.getElem?_range hi] at hx
   exact (Option.some.inj hx).symm
  subst ex
  rw [Int.toNat_natCast]
  have hfind : ∀ f : F, M.fs[i]? = some f → findN F.n (nmB (i + 1)) M.fs = some f := by
   intro f hf
   have hlt := (List.getElem?_eq_some_iff.1 hf).1
   have hfn : f.n = nmB (i + 1) := by
    obtain ⟨f', hf', hn⟩ := hget i hi
    rw [hf] at hf'
    cases hf'
    exact hn
   unfold findN
   rw [List.find?_eq_some_iff_append]
   refine ⟨by simp [hfn], M.fs.take i, M.fs.drop (i + 1), ?_, ?_⟩
   ·have e2 : M.fs[i] = f := (List.getElem?_eq_some_iff.1 hf).2
    rw [← e2, ← List.drop_eq_getElem_cons hlt, List.take_append_drop]
   ·intro z hz
    obtain ⟨j, hj, rfl⟩ := List.getElem_of_mem hz
    have hji : j < i := by rw [List.length_take] at hj; omega
    rw [List.getElem_take]
    obtain ⟨f', hf', hn⟩ := hget j (by omega)
    rw [List.getElem?_eq_getElem (by omega)] at hf'
    have e3 : M.fs[j] = f' := Option.some.inj hf'
    rw [e3, hn]
    have : nmB (j + 1) ≠ nmB (i + 1) := fun e => by have := nmB_inj (by omega) (by omega) e; omega
    simpa using this
  have hread : ∀ f : F, M.fs[i]? = some f → (readM (nmB (i + 1)) M).1 = f.b := by
   intro f hf
   unfold readM
   rw [hd, hfind f hf]
   rfl
  by_cases h : i < B.length
  ·have hf : M.fs[i]? = some (fullF i B[i]) := by
    rw [hfs, List.getElem?_append_left (by rw [List.length_mapIdx]; exact h), List.getElem?_mapIdx, List.getElem?_eq_getElem h]
    rfl
   rw [hread _ hf]
   rw [List.getElem?_append_left h, List.getElem?_eq_getElem h] at hq
   cases hq
   exact ⟨[], splits_all _ (hrec _ (List.getElem_mem h))⟩
  ·have e : i = B.length := by omega
   subst e
   have hf : M.fs[B.length]? = some ⟨nmB (B.length + 1), y, d⟩ := by
    rw [hfs, List.getElem?_append_right (by rw [List.length_mapIdx]; exact Nat.le_refl _), List.length_mapIdx, Nat.sub_self]
    rfl
   rw [hread _ hf]
   rw [List.getElem?_append_right (Nat.le_refl _), Nat.sub_self] at hq
   cases hq
   exact ⟨t, hy⟩

section
variable {W : WM} {B : List (List (List Nat))} {c : List (List Nat)}

theorem LInv.short (h : LInv W B c) : (∀ b ∈ B, ∀ r ∈ b, r.length ≤ 1048576) ∧ ∀ r ∈ c, r.length ≤ 1048576 :=
 ⟨fun b hb r hr => (h.recs r (List.mem_append.2 (.inl (List.mem_flatten.2 ⟨b, hb, hr⟩)))).2, fun r hr => (h.recs r (List.mem_append.2 (.inr hr))).2⟩

theorem LInv.records (h : LInv W B c) : RecsOf W.D (B.flatten ++ c) ∧ SegsOf W.D (upTo W.n) := by
 rw [h.n]
 exact recs_files (y := joinL c) h.down (by rw [← h.n]; exact h.nmax) h.fs h.short.1 (splits_all c h.short.2)

end

def startW (room most : Int) : WM := ⟨(createM (nmB 1) (newM room)).1, most, 1, 0, 0⟩

theorem start_inv (room most : Int) : LInv (startW room most) [] [] ∧ (startW room most).D.room = room.toNat := by
 have e : createM (nmB 1) (newM room) = ({ newM room with fs := [⟨nmB 1, [], 0⟩] }, 0) := by
  unfold createM chgM
  rw [show failM (newM room) = newM room from rfl, nmB_named]
  rfl
 unfold startW
 rw [e]
 exact ⟨⟨rfl, by show (1 : Nat) ≤ _; omega, rfl, rfl, rfl, rfl, Nat.le_refl _, fun r hr => (by cases hr), fun b hb hbn => by
  have : b = [] := by simpa using hb
  exact absurd this hbn⟩, rfl⟩
end Go.Proofs.YtnbddiiedagllaaGreat

/- The walk of the reference's New. -/
namespace Go.Proofs.YtnbddiiedagllaaGreat
open Go.RowKit Go.Maps Go.Shelf

theorem nmB_one' : nmB 1 = [108, 111, 103, 45, 48, 48, 48, 48, 48, 48, 48, 49] := by decide +kernel

theorem row_alloc' {w : World} {b : Nat} {cs : Array Value} {t : TypeId} {m : Nat × Nat} (h : w.heap[b]? = some (.cells cs t m)) (o : Obj) (i : Nat) : (w.alloc o).cell? ⟨b, i, none⟩ = cs[i]? := by
 rw [World.cell?_of_block (Below.heap_alloc _ _ _ (Array.getElem?_eq_some_iff.1 h).1)]
 exact cell_of_row _ _ _ _ _ _ h

theorem frozen_alloc' {w : World} {b : Nat} {cs : Array Value} {t : TypeId} (h : w.heap[b]? = some (.cells cs t (0, 0))) (o : Obj) (i : Nat) : (w.alloc o).frozen? ⟨b, i, none⟩ = false := by
 have h1 : (w.alloc o).heap[b]? = some (.cells cs t (0, 0)) := (Below.heap_alloc _ _ _ (Array.getElem?_eq_some_iff.1 h).1).trans h
 simp [World.frozen?, h1]

theorem resultsN_one {fn : Func} {p : Tmp} {ty : TypeId} (h : fn.results = #[.cell p ty]) (tmps : Array Value) (P : Program) (w : World) :
  (results fn tmps).run P w = ((asAddr (tmps.getD p undef)).run P w).andThen fun a w₁ => (loadVar ty a).run P w₁ := by
 simp only [results, h]
 simp [Result.andThen]

end Go.Proofs.YtnbddiiedagllaaGreat

/- The walk of the reference's Put where the frame goes into the next segment. -/
namespace Go.Proofs.YtnbddiiedagllaaGreat
open Go.RowKit Go.Maps Go.Shelf

attribute [local go_sem ↓] Go.wp_at_zero Go.wp_at_succ

set_option maxRecDepth 100000 in
set_option maxHeartbeats 12800000 in
theorem rput_rot {X : Nat → Prop} {w : World} {v : Value} {W : WM} (h : RLogAt X w v W) (hX : ∀ b, X b → b < w.heap.size) (hle : W.D.plan ≤ 9223372036854775807) (hs : Sorted W.D.fs) (hub : usedF W.D.fs ≤ 100000000) (h1 : 1 ≤ W.n) (hN : W.n ≤ 99999999) (hz0 : 0 < W.size) (hzm : W.size ≤ 1000000000) (hk : W.wait ≤ 1000000000) (hfl : W.D.fs.length ≤ 900000) (p : Option Addr) (m cp : Nat) (l : List Nat) (hB : Bytes w p m cp l) (hfit : W.most < ((W.size + (l.length + 8) : Nat) : Int)) :
  Calls Tryz.prog 29 #[v, .slice p m cp] w (RLogEnd X w (putW W l)) := by
 obtain ⟨a, n, c, R, rfl, hR, hfs, hn⟩ := h
 obtain ⟨w2, hw2⟩ : ∃ w2, w2 = (w.alloc (logO (W.D.room : Int) a n c (W.D.plan : Int) W.D.down W.most (W.n : Int) (W.size : Int) (W.wait : Int))).alloc (.cells #[.int .i64 0, .slice none 0 0, .int .i64 0, .bool false, .int .i64 0, .int .i64 0, .int .i64 0, .int .i64 0] 47) := ⟨_, rfl⟩
 unfold logO at hw2
 have hb2 : Below w.heap.size w w2 := by rw [hw2]; exact ((Below.refl w.heap.size w).alloc (Nat.le_refl _) _).alloc (by simp) _
 have hz2 : w2.heap.size = w.heap.size + 2 := by rw [hw2]; simp
 have hB1 : w2.heap[w.heap.size]? = some (logO (W.D.room : Int) a n c (W.D.plan : Int) W.D.down W.most (W.n : Int) (W.size : Int) (W.wait : Int)) := by
  rw [hw2]; exact (Below.heap_alloc _ _ _ (by simp)).trans (heap_alloc_new _ _)
 have hB2 : w2.heap[w.heap.size + 1]? = some (.cells #[.int .i64 0, .slice none 0 0, .int .i64 0, .bool false, .int .i64 0, .int .i64 0, .int .i64 0, .int .i64 0] 47 (0, 0)) := by
  have := heap_alloc_new (w.alloc (logO (W.D.room : Int) a n c (W.D.plan : Int) W.D.down W.most (W.n : Int) (W.size : Int) (W.wait : Int))) (.cells #[.int .i64 0, .slice none 0 0, .int .i64 0, .bool false, .int .i64 0, .int .i64 0, .int .i64 0, .int .i64 0] 47)
  rw [hw2]
  rw [World.size_alloc] at this
  exact this
 unfold logO at hB1
 have hlen := hB.len
 have hmax := hB.max
 have HSame := Lib.hid (fun w' (hb : Below w.heap.size w w') k => rlog_same (W := W) hR hX hfs hb k)
 have HB2w := Lib.hid (hB.grow hb2)
 have HW2 := Lib.hid hw2
 have Hb2 := Lib.hid hb2
 have HB1 := Lib.hid hB1
 have HB2 := Lib.hid hB2
 have HX := Lib.hid hX
 have HR := Lib.hid hR
 have HFs := Lib.hid hfs
 have hsz : w.heap.size + 2 ≤ w2.heap.size := by omega
 obtain ⟨c0, c1, c2, c3, c4, c5, c6, c7, _⟩ := box8 hB1
 obtain ⟨z0, z1, z2, z3, z4, z5, z6, z7, zf⟩ := box8 hB2
 unfold logV
 by_cases hbig : 1048576 < m
 ·have e : putW W l = (W, 4) := by
   unfold putW
   rw [if_neg (by rintro rfl; simp at hlen; omega), if_pos (.inl (by omega))]
  rw [e]
  have HM := Lib.hid (rmake_no p m cp w2 hbig)
  have hm0 : ((m : Int) == 0) = false := by rw [beq_eq_false_iff_ne]; omega
  clear hR hX hfs hn hB1 hB2 hz2 hb2 hle hs hub h1 hN hB hlen e hk hz0
  go_enter Tryz.func29, Tryz.ntmps29
  go_wp2_with fail
  rw [← hw2]
  refine HM.out.mono ?_
  rintro e w' ⟨rfl, rfl⟩
  clear hw2
  go_wp2
  refine bodyPost_ret (v := .tuple #[logV (W.D.room : Int) a n c (W.D.plan : Int) W.D.down W.most (W.n : Int) (W.size : Int) (W.wait : Int), .int .i64 4]) ?_ rfl (HSame.out _ ?_ 4)
  ·rw [results_cell_tmp rfl]
   go_simp
   rfl
  ·exact ((((((((Hb2.out.setCell (by simp) _).setCell (by simp) _).setCell (by simp) _).setCell (by simp) _).setCell (by simp) _).setCell (by simp) _).setCell (by simp) _).setCell (by simp) _)
 ·have HM := Lib.hid (rmake_yes p m cp l w2 HB2w.out (by omega))
  have HBy := Lib.hid hB.byte
  have Hlen := Lib.hid hlen
  have Hz0 := Lib.hid hz0
  have HCtx := Lib.hid (And.intro hle (And.intro hs (And.intro hub (And.intro h1 hN))))
  have Hn := Lib.hid hn
  have Hk := Lib.hid hk
  have HZ2 := Lib.hid hz2
  clear hR hX hfs hn hB1 hB2 hz2 hb2 hle hs hub h1 hN hB hlen hk c0 c1 c2 c3 c4 c5 c6 c7 z0 z1 z2 z3 z4 z5 z6 z7 zf
  have hsz0 : (0 : Int) < (W.size : Int) := by omega
  have hfit2 : W.most < (W.size : Int) + ((l.length : Int) + 8) := by omega
  have Hfit := Lib.hid hfit
  have Hfl := Lib.hid hfl
  clear hz0 hfit hfl
  go_enter Tryz.func29, Tryz.ntmps29
  go_wp2_with fail
  rw [← hw2]
  refine HM.out.mono ?_
  rintro e w3 ⟨v, rfl, hown, hb⟩
  clear hw2
  have hll : l.length ≤ 1048576 := by rw [Hlen.out]; omega
  obtain ⟨q, cb, rfl, hq⟩ := own_slice hown (frameL_byte HBy.out (by omega))
  have Hqb := Lib.hid (fun x (hx : q = some x) => (hown.lt x.block (by rw [hx]; rfl)).1)
  rw [frameL_len] at hq
  rw [frameL_len]
  have hbw : Below w.heap.size w w3 := Hb2.out.trans (hb.mono (by have := HZ2.out; omega))
  have Hbw := Lib.hid hbw
  have Hb := Lib.hid hb
  have HQ := Lib.hid hq
  obtain ⟨c0, c1, c2, c3, c4, c5, c6, c7, _⟩ := box8 ((hb.block w.heap.size (by omega)).trans HB1.out)
  obtain ⟨z0, z1, z2, z3, z4, z5, z6, z7, zf⟩ := box8 ((hb.block (w.heap.size + 1) (by omega)).trans HB2.out)
  have hsz3 : w.heap.size + 2 ≤ w3.heap.size := by have := hb.size; omega
  clear hown hb hbw hq
  by_cases hm0 : m = 0
  ·have He := Lib.hid (show putW W l = (W, 2) from by
    have : l = [] := List.length_eq_zero_iff.1 (by rw [Hlen.out]; exact hm0)
    unfold putW
    rw [if_pos this])
   subst hm0
   go_wp2
   refine bodyPost_ret (v := .tuple #[logV (W.D.room : Int) a n c (W.D.plan : Int) W.D.down W.most (W.n : Int) (W.size : Int) (W.wait : Int), .int .i64 2]) ?_ rfl ?_
   ·rw [results_cell_tmp rfl]
    go_simp
    rfl
   ·rw [He.out]
    exact HSame.out _ ((((((((Hbw.out.setCell (by simp) _).setCell (by simp) _).setCell (by simp) _).setCell (by simp) _).setCell (by simp) _).setCell (by simp) _).setCell (by simp) _).setCell (by simp) _) 2
  ·have hz : ((m : Int) == 0) = false := by rw [beq_eq_false_iff_ne]; omega
   have hne : l ≠ [] := by rintro rfl; exact hm0 (by have := Hlen.out; simpa using this.symm)
   by_cases hmo : W.most < ((l.length + 8 : Nat) : Int)
   ·have He := Lib.hid (show putW W l = (W, 4) from by
     unfold putW
     rw [if_neg hne, if_pos (.inr hmo)])
    have hmo2 : W.most < (l.length : Int) + 8 := by omega
    clear hmo hne
    go_wp2
    refine bodyPost_ret (v := .tuple #[logV (W.D.room : Int) a n c (W.D.plan : Int) W.D.down W.most (W.n : Int) (W.size : Int) (W.wait : Int), .int .i64 4]) ?_ rfl ?_
    ·rw [results_cell_tmp rfl]
     go_simp
     rfl
    ·rw [He.out]
     exact HSame.out _ ((((((((Hbw.out.setCell (by simp) _).setCell (by simp) _).setCell (by simp) _).setCell (by simp) _).setCell (by simp) _).setCell (by simp) _).setCell (by simp) _).setCell (by simp) _) 4
   ·have hmo2 : ¬ W.most < (l.length : Int) + 8 := by omega
    have hput0 : putW W l = if (rotW W).2 ≠ 0 then rotW W else appW (rotW W).1 l := by
     unfold putW
     rw [if_neg hne, if_neg (by omega), if_pos (by have := Hfit.out; have := Hz0.out; omega)]
    have Hput := Lib.hid hput0
    clear hput0
    obtain ⟨hle, hs, hub, h1, hN⟩ := HCtx.out
    obtain ⟨hle', hs', hub', _, _⟩ := HCtx.out
    have hR3 := HR.out.below HX.out Hbw.out
    have hX3 : ∀ b, X b → b < w3.heap.size := fun b h => Nat.lt_of_lt_of_le (HX.out b h) Hbw.out.size
    have HX3 := Lib.hid hX3
    have HRot := Lib.hid (rrot_any (X := X) (w := w3) (W := W) ⟨a, n, c, R, rfl, hR3, HFs.out, Hn.out⟩ hX3 hle hs hub h1 hN Hfl.out)
    unfold logV at HRot
    have hsum : (W.size : Int) ≤ 1000000000 := by omega
    have hs2 : (l.length : Int) ≤ 1048576 := by omega
    clear hR3 hX3 hle hs hub h1 hN hmo hne
    have HFa := Lib.hid (rotW_facts W)
    have HSo := Lib.hid (rotW_sorted W hle' hs' hub')
    clear hle' hs' hub'
    generalize hr : rotW W = r at *
    have Hr := Lib.hid hr
    clear hr
    go_wp2_with fail
    refine HRot.out.mono ?_
    rintro e w4 ⟨a4, n4, k4, R4, rfl, hR4, hf4, hb4⟩
    unfold logV
    have HR4 := Lib.hid hR4
    have HF4 := Lib.hid hf4
    have Hb4 := Lib.hid hb4
    have Hb4w := Lib.hid (Hbw.out.trans (hb4.mono Hbw.out.size))
    have hbx := (hb4.block w.heap.size (by omega)).trans ((Hb.out.block w.heap.size (by omega)).trans HB1.out)
    have hbx2 := (hb4.block (w.heap.size + 1) (by omega)).trans ((Hb.out.block (w.heap.size + 1) (by omega)).trans HB2.out)
    have HBx := Lib.hid hbx
    have HBx2 := Lib.hid hbx2
    have e0 := fun o => row_alloc' hbx o 0
    have e1 := fun o => row_alloc' hbx o 1
    have e2 := fun o => row_alloc' hbx o 2
    have e3 := fun o => row_alloc' hbx o 3
    have e4 := fun o => row_alloc' hbx o 4
    have e5 := fun o => row_alloc' hbx o 5
    have e6 := fun o => row_alloc' hbx o 6
    have e7 := fun o => row_alloc' hbx o 7
    have ef := fun o i => frozen_alloc' hbx o i
    have g0 := fun o => row_alloc' hbx2 o 0
    have g1 := fun o => row_alloc' hbx2 o 1
    have g2 := fun o => row_alloc' hbx2 o 2
    have g3 := fun o => row_alloc' hbx2 o 3
    have g4 := fun o => row_alloc' hbx2 o 4
    have g5 := fun o => row_alloc' hbx2 o 5
    have g6 := fun o => row_alloc' hbx2 o 6
    have g7 := fun o => row_alloc' hbx2 o 7
    have gf := fun o i => frozen_alloc' hbx2 o i
    simp only [List.getElem?_toArray, List.getElem?_cons_zero, List.getElem?_cons_succ] at e0 e1 e2 e3 e4 e5 e6 e7 g0 g1 g2 g3 g4 g5 g6 g7
    clear hbx hbx2 c0 c1 c2 c3 c4 c5 c6 c7 z0 z1 z2 z3 z4 z5 z6 z7 zf
    have hsz4 := hb4.size
    clear hR4 hf4 hb4
    by_cases hc : r.2 = 0
    ·rw [hc]
     go_upto_region 11 with fail
     obtain ⟨w9, hw9⟩ : ∃ w9, w9 = (((((((((w4.alloc (.cells #[.int .i64 (r.1.D.room : Int), .slice a4 n4 k4, .int .i64 (r.1.D.plan : Int), .bool r.1.D.down, .int .i64 r.1.most, .int .i64 (r.1.n : Int), .int .i64 (r.1.size : Int), .int .i64 (r.1.wait : Int)] 47)).setCell ⟨w.heap.size, 0, none⟩ (.int .i64 (r.1.D.room : Int))).setCell ⟨w.heap.size, 1, none⟩ (.slice a4 n4 k4)).setCell ⟨w.heap.size, 2, none⟩ (.int .i64 (r.1.D.plan : Int))).setCell ⟨w.heap.size, 3, none⟩ (.bool r.1.D.down)).setCell ⟨w.heap.size, 4, none⟩ (.int .i64 r.1.most)).setCell ⟨w.heap.size, 5, none⟩ (.int .i64 (r.1.n : Int))).setCell ⟨w.heap.size, 6, none⟩ (.int .i64 (r.1.size : Int))).setCell ⟨w.heap.size, 7, none⟩ (.int .i64 (r.1.wait : Int))) := ⟨_, rfl⟩
     rw [← hw9]
     obtain ⟨fm, fr, ffl, fz, fnz⟩ := HFa.out
     obtain ⟨fn, fN, fs0, fw0⟩ := fz hc
     have hz9 : w9.heap.size = w4.heap.size + 1 := by rw [hw9]; simp
     have hk9 : ∀ b, b ≠ w.heap.size → b < w4.heap.size → w9.heap[b]? = w4.heap[b]? := fun b h1 h2 => by
      rw [hw9, set_other h1, set_other h1, set_other h1, set_other h1, set_other h1, set_other h1, set_other h1, set_other h1, Below.heap_alloc _ _ _ h2]
     have h19 : w9.heap[w.heap.size]? = some (.cells #[.int .i64 (r.1.D.room : Int), .slice a4 n4 k4, .int .i64 (r.1.D.plan : Int), .bool r.1.D.down, .int .i64 r.1.most, .int .i64 (r.1.n : Int), .int .i64 (r.1.size : Int), .int .i64 (r.1.wait : Int)] 47 (0, 0)) := by
      have h0 : (w4.alloc (.cells #[.int .i64 (r.1.D.room : Int), .slice a4 n4 k4, .int .i64 (r.1.D.plan : Int), .bool r.1.D.down, .int .i64 r.1.most, .int .i64 (r.1.n : Int), .int .i64 (r.1.size : Int), .int .i64 (r.1.wait : Int)] 47)).heap[w.heap.size]? = _ := (Below.heap_alloc _ _ _ (by omega)).trans HBx.out
      have h1 := set_head (i := 0) h0 (.int .i64 (r.1.D.room : Int))
      have h2 := set_head (i := 1) h1 (.slice a4 n4 k4)
      have h3 := set_head (i := 2) h2 (.int .i64 (r.1.D.plan : Int))
      have h4 := set_head (i := 3) h3 (.bool r.1.D.down)
      have h5 := set_head (i := 4) h4 (.int .i64 r.1.most)
      have h6 := set_head (i := 5) h5 (.int .i64 (r.1.n : Int))
      have h7 := set_head (i := 6) h6 (.int .i64 (r.1.size : Int))
      have h8 := set_head (i := 7) h7 (.int .i64 (r.1.wait : Int))
      rw [hw9]
      simpa using h8
     have h29 := (hk9 (w.heap.size + 1) (by omega) (by omega)).trans HBx2.out
     have hb49 : Below w.heap.size w w9 := by rw [hw9]; exact ((((((((Hb4w.out.alloc (by omega) _).setCell (by simp) _).setCell (by simp) _).setCell (by simp) _).setCell (by simp) _).setCell (by simp) _).setCell (by simp) _).setCell (by simp) _).setCell (by simp) _
     have hR9 : RowF (fun b => (X b ∨ w3.heap.size ≤ b) ∧ b < w4.heap.size) w9 a4 n4 k4 R4 := HR4.out.mono (fun b h => hk9 b (by rcases h.1 with h1 | h1; exact Nat.ne_of_lt (HX.out b h1); omega) h.2) (fun b h => h)
     have hX9 : ∀ b, (X b ∨ w3.heap.size ≤ b) ∧ b < w4.heap.size → b < w9.heap.size := fun b h => by have := h.2; omega
     have HX9 := Lib.hid hX9
     have HN9 := Lib.hid (fun W1 => rname_any (r.1.D.room : Int) a4 n4 k4 (r.1.D.plan : Int) r.1.D.down r.1.most r.1.n (r.1.size : Int) (r.1.wait : Int) W1 (by omega) (by omega))
     have hn4 : n4 ≤ 1000000 := by
      have h1 := HR4.out.len
      have h2 := congrArg List.length HF4.out
      rw [List.length_map] at h2
      have := HFa.out.2.2.1
      have := Hfl.out
      omega
     obtain ⟨so1, so2, so3⟩ := HSo.out
     have hQ9 : ∀ W1, Below w9.heap.size w9 W1 → Bytes W1 q (l.length + 8) cb (frameL l) := fun W1 hb1 => ((HQ.out.grow Hb4.out).off (fun _ x hx hlt => hk9 x.block (by have := Hqb.out x hx; omega) hlt)).grow hb1
     have HD9 := Lib.hid (fun W1 (hb1 : Below w9.heap.size w9 W1) => rdo_all (X := fun b => (X b ∨ w3.heap.size ≤ b) ∧ b < w4.heap.size) (w := W1) (M := r.1.D) ⟨a4, n4, k4, R4, rfl, hR9.below hX9 hb1, HF4.out, hn4⟩ (fun b h => Nat.lt_of_lt_of_le (hX9 b h) hb1.size) so1 so2 2 (by omega) (nmB r.1.n) [] (by unfold nmB; rw [List.length_map, nameL_len]; decide) (by decide) q (l.length + 8) cb (frameL l) (fun W2 hW2 => (hQ9 W1 hb1).grow hW2) so3 (by omega))
     have e9 : stepM 2 (nmB r.1.n) [] (frameL l) r.1.D = appendM (nmB r.1.n) (frameL l) r.1.D := rfl
     rw [e9] at HD9
     unfold opV refV at HD9
     unfold logV at HN9
     have HK := Lib.hid (fun W1 (hb1 : Below w9.heap.size w9 W1) => box8 ((hb1.block w.heap.size (by omega)).trans h19))
     have HK2 := Lib.hid (fun W1 (hb1 : Below w9.heap.size w9 W1) => box8 ((hb1.block (w.heap.size + 1) (by omega)).trans h29))
     have HS9 := Lib.hid (fun W1 (hb1 : Below w9.heap.size w9 W1) => (show W1.cell? ⟨w.heap.size, 0, none⟩ = some (.int .i64 (r.1.D.room : Int)) ∧ W1.cell? ⟨w.heap.size, 1, none⟩ = some (.slice a4 n4 k4) ∧ W1.cell? ⟨w.heap.size, 2, none⟩ = some (.int .i64 (r.1.D.plan : Int)) ∧ W1.cell? ⟨w.heap.size, 3, none⟩ = some (.bool r.1.D.down) ∧ W1.cell? ⟨w.heap.size, 4, none⟩ = some (.int .i64 r.1.most) ∧ W1.cell? ⟨w.heap.size, 5, none⟩ = some (.int .i64 (r.1.n : Int)) ∧ W1.cell? ⟨w.heap.size, 6, none⟩ = some (.int .i64 (r.1.size : Int)) ∧ W1.cell? ⟨w.heap.size, 7, none⟩ = some (.int .i64 (r.1.wait : Int)) from by
      obtain ⟨c0, c1, c2, c3, c4, c5, c6, c7, _⟩ := HK.out W1 hb1
      exact ⟨c0, c1, c2, c3, c4, c5, c6, c7⟩))
     have Hb9w := Lib.hid hb49
     have Hc := Lib.hid hc
     have Hll := Lib.hid hll
     have happ := appW_eq r.1 l
     have hfs0 : (r.1.size : Int) ≤ 1000000000 := by omega
     have hfw0 : (r.1.wait : Int) ≤ 1000000000 := by omega
     have HW9 := Lib.hid hw9
     have hz9' : w4.heap.size + 1 ≤ w9.heap.size := by omega
     clear hz9 hw9 hk9 h19 h29 hb49 hR9 hX9 hn4 so1 so2 so3 e9 hQ9 hc hll e0 e1 e2 e3 e4 e5 e6 e7 ef g0 g1 g2 g3 g4 g5 g6 g7 gf fm fr ffl fz fnz fn fN fs0 fw0
     generalize hs9 : appendM (nmB r.1.n) (frameL l) r.1.D = s at *
     have Happ := Lib.hid happ
     have Hs9 := Lib.hid hs9
     clear hs9 happ
     go_cut [10, 11] (fun t4 t5 wx => DoCut (fun b => (X b ∨ w3.heap.size ≤ b) ∧ b < w4.heap.size) w9 s t4 t5 wx)
     case first =>
      go_region_held3 (fun w' => w'.cell? ⟨w.heap.size, 0, none⟩ = some (.int .i64 (r.1.D.room : Int)) ∧ w'.cell? ⟨w.heap.size, 1, none⟩ = some (.slice a4 n4 k4) ∧ w'.cell? ⟨w.heap.size, 2, none⟩ = some (.int .i64 (r.1.D.plan : Int)) ∧ w'.cell? ⟨w.heap.size, 3, none⟩ = some (.bool r.1.D.down) ∧ w'.cell? ⟨w.heap.size, 4, none⟩ = some (.int .i64 r.1.most) ∧ w'.cell? ⟨w.heap.size, 5, none⟩ = some (.int .i64 (r.1.n : Int)) ∧ w'.cell? ⟨w.heap.size, 6, none⟩ = some (.int .i64 (r.1.size : Int)) ∧ w'.cell? ⟨w.heap.size, 7, none⟩ = some (.int .i64 (r.1.wait : Int)))
       (first | exact HS9.out _ (by (repeat (first | assumption | exact Below.refl _ _ | refine Below.drew ?_ | refine Below.alloc ?_ (by (first | exact Nat.le_refl _ | (simp; done) | (simp; omega) | omega)) _ | refine Below.setCell ?_ (by (first | exact Nat.le_refl _ | (show _ ≤ _; omega) | (simp; done) | (simp; omega))) _))))
       (first
        | (go_at_call 75; (with_reducible refine (HN9.out _).mono ?_); rintro e w5 ⟨rfl, hb5⟩; have hb5w : Below w9.heap.size w9 w5 := Below.trans (by (repeat (first | assumption | exact Below.refl _ _ | refine Below.drew ?_ | refine Below.alloc ?_ (by (first | exact Nat.le_refl _ | (simp; done) | (simp; omega) | omega)) _ | refine Below.setCell ?_ (by (first | exact Nat.le_refl _ | (show _ ≤ _; omega) | (simp; done) | (simp; omega))) _))) (hb5.mono (by (first | exact Nat.le_refl _ | (simp; done) | (simp; omega) | omega))); have hb5z := hb5w.size; (try have hq3 := (hb5.block w9.heap.size (by show w9.heap.size < (w9.alloc _).heap.size; rw [World.size_alloc]; exact Nat.lt_succ_self _)).trans (heap_alloc_new w9 (.cells #[.int .i64 0, .slice none 0 0, .int .i64 0, .bool false] 25))); clear hb5)
        | (go_at_call 74; (with_reducible refine (HD9.out _ (by (repeat (first | assumption | exact Below.refl _ _ | refine Below.drew ?_ | refine Below.alloc ?_ (by (first | exact Nat.le_refl _ | (simp; done) | (simp; omega) | omega)) _ | refine Below.setCell ?_ (by (first | exact Nat.le_refl _ | (show _ ≤ _; omega) | (simp; done) | (simp; omega))) _)))).mono ?_); rintro e w6 ⟨a5, n5, c5, R5, rfl, hR5, hf5, hb6⟩; unfold refV; have hb6w : Below w9.heap.size w9 w6 := Below.trans (by (repeat (first | assumption | exact Below.refl _ _ | refine Below.drew ?_ | refine Below.alloc ?_ (by (first | exact Nat.le_refl _ | (simp; done) | (simp; omega) | omega)) _ | refine Below.setCell ?_ (by (first | exact Nat.le_refl _ | (show _ ≤ _; omega) | (simp; done) | (simp; omega))) _))) (hb6.mono (by (first | exact Nat.le_refl _ | (simp; done) | (simp; omega) | omega))); have hb6z := hb6w.size; (try have hq4 := (hb6.block w9.heap.size (Array.getElem?_eq_some_iff.1 hq3).1).trans hq3); (try have hq4 := (hb6.block w5.heap.size (by simp)).trans (heap_alloc_new w5 (.cells #[.int .i64 0, .slice none 0 0, .int .i64 0, .bool false] 25))); (first | (have hq5 := box4c hq4; obtain ⟨q0, q1, q2, q3, qf⟩ := hq5) | skip)))
      all_goals go_wp2_with fail
      all_goals go_meet
      ·exact doCut_new hb6w hb5z hR5 hf5
      ·exact doCut_set hb6w (Nat.le_succ_of_le hb5z) HX9.out (by rw [World.size_alloc] at hR5; exact hR5) hf5 hb5z (Nat.lt_succ_self _) hq4
      ·exact doCut_set hb6w hb5z HX9.out hR5 hf5 (Nat.le_refl _) (Array.getElem?_eq_some_iff.1 hq3).1 hq4
     case rest =>
      obtain ⟨B, a5, n5, c5, R5, rfl, rfl, hB, hBle, hR5, hf5, hb5⟩ := hcut
      obtain ⟨x0, x1, x2, x3, xf⟩ := box4c hB
      obtain ⟨c0, c1, c2, c3, c4', c5', c6, c7, cf⟩ := HK.out wc hb5
      obtain ⟨z0, z1, z2, z3, z4, z5, z6, z7, zf⟩ := HK2.out wc hb5
      have HR5 := Lib.hid hR5
      have HF5 := Lib.hid hf5
      have Hb6 := Lib.hid (Hb9w.out.trans (hb5.mono (by omega)))
      have hne1 : B ≠ w.heap.size := by omega
      have hne2 : B ≠ w.heap.size + 1 := by omega
      have hltc := hb5.size
      clear hB hR5 hf5 hb5
      have HP := Lib.hid (fun w' (hk : ∀ b, b ≠ w.heap.size → b ≠ w.heap.size + 1 → w'.heap[b]? = wc.heap[b]?) (hsz' : wc.heap.size ≤ w'.heap.size) => (show RowF (fun b => (X b ∨ w.heap.size ≤ b) ∧ b < w'.heap.size) w' a5 n5 c5 R5 from HR5.out.mono (fun b h => hk b (by rcases h.1 with h1 | h1; (rcases h1.1 with h2 | h2; exact Nat.ne_of_lt (HX.out b h2); omega); omega) (by rcases h.1 with h1 | h1; (rcases h1.1 with h2 | h2; (have := HX.out b h2; omega); omega); omega)) (fun b h => ⟨by rcases h.1 with h1 | h1; exact h1.1.imp id (fun h2 => by omega); exact .inr (by omega), Nat.lt_of_lt_of_le h.2.2 hsz'⟩)))
      by_cases hc : s.2 = 0
      ·rw [if_pos hc, hc] at Happ
       rw [hc]
       clear hc
       go_wp2
       refine bodyPost_ret (v := .tuple #[logV (s.1.room : Int) a5 n5 c5 (s.1.plan : Int) s.1.down r.1.most (r.1.n : Int) ((r.1.size + (l.length + 8) : Nat) : Int) ((r.1.wait + 1 : Nat) : Int), .int .i64 0]) ?_ rfl ?_
       ·rw [results_cell_tmp rfl]
        go_simp
        rfl
       ·rw [Hput.out, if_neg (by rw [Hc.out]; simp), Happ.out]
        refine ⟨a5, n5, c5, R5, rfl, HP.out _ (fun b h1 h2 => ?_) (by simp), HF5.out, ?_⟩
        ·rw [set_other h2, set_other h2, set_other h2, set_other h2, set_other h2, set_other h2, set_other h2, set_other h2, set_other h1, set_other h1, set_other h1, set_other h1, set_other h1, set_other h1]
        ·exact ((((((((((((((Hb6.out.setCell (by simp) _).setCell (by simp) _).setCell (by simp) _).setCell (by simp) _).setCell (by simp) _).setCell (by simp) _).setCell (by simp) _).setCell (by simp) _).setCell (by simp) _).setCell (by simp) _).setCell (by simp) _).setCell (by simp) _).setCell (by simp) _).setCell (by simp) _)
      ·rw [if_neg hc] at Happ
       have hc1 : (s.2 == 0) = false := by simpa using hc
       clear hc
       go_wp2
       refine bodyPost_ret (v := .tuple #[logV (s.1.room : Int) a5 n5 c5 (s.1.plan : Int) s.1.down r.1.most (r.1.n : Int) (r.1.size : Int) (r.1.wait : Int), .int .i64 s.2]) ?_ rfl ?_
       ·rw [results_cell_tmp rfl]
        go_simp
        rfl
       ·rw [Hput.out, if_neg (by rw [Hc.out]; simp), Happ.out]
        refine ⟨a5, n5, c5, R5, rfl, HP.out _ (fun b h1 h2 => ?_) (by simp), HF5.out, ?_⟩
        ·rw [set_other h2, set_other h2, set_other h2, set_other h2, set_other h2, set_other h2, set_other h2, set_other h2, set_other h1, set_other h1, set_other h1, set_other h1]
        ·exact ((((((((((((Hb6.out.setCell (by simp) _).setCell (by simp) _).setCell (by simp) _).setCell (by simp) _).setCell (by simp) _).setCell (by simp) _).setCell (by simp) _).setCell (by simp) _).setCell (by simp) _).setCell (by simp) _).setCell (by simp) _).setCell (by simp) _)
    ·have hc1 : (r.2 == 0) = false := by simpa using hc
     have hc2 : (r.2 != 0) = true := by simpa using hc
     have Hc := Lib.hid hc
     clear hc
     go_wp2
     refine bodyPost_ret (v := .tuple #[logV (r.1.D.room : Int) a4 n4 k4 (r.1.D.plan : Int) r.1.D.down r.1.most (r.1.n : Int) (r.1.size : Int) (r.1.wait : Int), .int .i64 r.2]) ?_ rfl ?_
     ·rw [results_cell_tmp rfl]
      go_simp
      rfl
     ·rw [Hput.out, if_pos Hc.out]
      refine ⟨a4, n4, k4, R4, rfl, HR4.out.mono (fun b h => ?_) (fun b h => ?_), HF4.out, ?_⟩
      ·have h2 : b ≠ w.heap.size + 1 := by
        rcases h.1 with h1 | h1
        ·have := HX.out b h1; omega
        ·omega
       rw [set_other h2, set_other h2, set_other h2, set_other h2, set_other h2, set_other h2, set_other h2, set_other h2]
       exact Below.heap_alloc _ _ _ h.2
      ·refine ⟨h.1.imp id (fun h1 => by omega), ?_⟩
       simp only [World.size_setCell, World.size_alloc]
       omega
      ·exact (((((((((Hb4w.out.alloc (by omega) _).setCell (by simp) _).setCell (by simp) _).setCell (by simp) _).setCell (by simp) _).setCell (by simp) _).setCell (by simp) _).setCell (by simp) _).setCell (by simp) _)
end Go.Proofs.YtnbddiiedagllaaGreat

/- The reference's Put, whatever the log and the record are. -/
namespace Go.Proofs.YtnbddiiedagllaaGreat
open Go.RowKit Go.Maps Go.Shelf

theorem rwput_any {X : Nat → Prop} {w : World} {v : Value} {W : WM} (h : RLogAt X w v W) (hX : ∀ b, X b → b < w.heap.size) (hle : W.D.plan ≤ 9223372036854775807) (hs : Sorted W.D.fs) (hub : usedF W.D.fs ≤ 100000000) (h1 : 1 ≤ W.n) (hN : W.n ≤ 99999999) (hz : W.size ≤ 1000000000) (hk : W.wait ≤ 1000000000) (hfl : W.D.fs.length ≤ 900000)
  (p : Option Addr) (m cp : Nat) (l : List Nat) (hB : Bytes w p m cp l) :
  Calls Tryz.prog 29 #[v, .slice p m cp] w (RLogEnd X w (putW W l)) := by
 by_cases h0 : W.size = 0
 ·exact rput_zero h hX hle hs hub h1 hN h0 hk p m cp l hB
 ·by_cases hf : ((W.size + (l.length + 8) : Nat) : Int) ≤ W.most
  ·exact rput_fit h hX hle hs hub h1 hN (by omega) hz hk p m cp l hB hf
  ·exact rput_rot h hX hle hs hub h1 hN (by omega) hz hk hfl p m cp l hB (by omega)
end Go.Proofs.YtnbddiiedagllaaGreat

/- Many records that are put into a log, as plain data. -/
namespace Go.Proofs.YtnbddiiedagllaaGreat
open Go.RowKit Go.Maps

def runP (W : WM) (ls : List (List Nat)) : WM := ls.foldl (fun W l => (putW W l).1) W

theorem runP_snoc (W : WM) (ls : List (List Nat)) (l : List Nat) : runP W (ls ++ [l]) = (putW (runP W ls) l).1 := by
 unfold runP
 rw [List.foldl_append]
 rfl

theorem runP_next {W : WM} {ls : List (List Nat)} {j : Nat} (hj : j < ls.length) : runP W (ls.take (j + 1)) = (putW (runP W (ls.take j)) ls[j]).1 := by
 rw [List.take_succ_eq_append_getElem hj, runP_snoc]

def takeP (most : Int) (ls : List (List Nat)) : List (List Nat) := ls.filter (okR most)

theorem sizeL_filter (p : List Nat → Bool) : ∀ ls : List (List Nat), sizeL (ls.filter p) ≤ sizeL ls
 | [] => Nat.le_refl _
 | l :: r => by
  have ih := sizeL_filter p r
  rw [List.filter_cons]
  split
  ·rw [sizeL_cons, sizeL_cons]; omega
  ·rw [sizeL_cons]; omega

theorem sizeL_snoc (ls : List (List Nat)) (l : List Nat) : sizeL (ls ++ [l]) = sizeL ls + (l.length + 8) := by
 rw [sizeL_append, sizeL_cons, sizeL_nil]

theorem run_inv {W : WM} {B : List (List (List Nat))} {c : List (List Nat)} (h : LInv W B c) : ∀ (ls : List (List Nat)), sizeL (B.flatten ++ c) + sizeL ls ≤ W.D.room → W.n + ls.length ≤ 99999999 →
  ∃ B' c', LInv (runP W ls) B' c' ∧ B'.flatten ++ c' = (B.flatten ++ c) ++ takeP W.most ls ∧ (runP W ls).wait ≤ W.wait + (takeP W.most ls).length ∧ (runP W ls).most = W.most ∧ (runP W ls).D.room = W.D.room ∧ (runP W ls).n ≤ W.n + ls.length := by
 suffices H : ∀ (n : Nat) (ls : List (List Nat)), ls.length = n → sizeL (B.flatten ++ c) + sizeL ls ≤ W.D.room → W.n + ls.length ≤ 99999999 →
   ∃ B' c', LInv (runP W ls) B' c' ∧ B'.flatten ++ c' = (B.flatten ++ c) ++ takeP W.most ls ∧ (runP W ls).wait ≤ W.wait + (takeP W.most ls).length ∧ (runP W ls).most = W.most ∧ (runP W ls).D.room = W.D.room ∧ (runP W ls).n ≤ W.n + ls.length from
  fun ls h1 h2 => H ls.length ls rfl h1 h2
 intro n
 induction n with
 | zero =>
  intro ls hl _ _
  obtain rfl : ls = [] := List.length_eq_zero_iff.1 hl
  exact ⟨B, c, h, by simp [takeP], by simp [takeP, runP], rfl, rfl, Nat.le_refl _⟩
 | succ n ih =>
  intro ls hl hr hn
  have hne : ls ≠ [] := by intro e; rw [e] at hl; simp at hl
  obtain ⟨r, l, rfl⟩ : ∃ r l, ls = r ++ [l] := ⟨ls.dropLast, ls.getLast hne, (List.dropLast_concat_getLast hne).symm⟩
  rw [sizeL_snoc] at hr
  rw [List.length_append, List.length_singleton] at hl hn
  obtain ⟨B1, c1, k1, k2, k3, k4, k5, k6⟩ := ih r (by omega) (by omega) (by omega)
  have hs : sizeL (B1.flatten ++ c1) ≤ sizeL (B.flatten ++ c) + sizeL r := by
   rw [k2, sizeL_append]
   have := sizeL_filter (okR W.most) r
   unfold takeP
   omega
  have ht : takeP W.most (r ++ [l]) = takeP W.most r ++ (if okR W.most l = true then [l] else []) := by
   unfold takeP
   rw [List.filter_append]
   congr 1
   by_cases q : okR W.most l = true
   ·simp [q]
   ·simp [q]
  rw [runP_snoc, ht]
  rcases k1.put l (by rw [k5]; omega) (by omega) with ⟨p1, _, p3⟩ | ⟨p1, _, B2, c2, q1, q2, q3, q4, q5, q6⟩
  ·rw [k4] at p1
   rw [p3, p1]
   simp only [Bool.false_eq_true, if_false, List.append_nil]
   exact ⟨B1, c1, k1, k2, k3, k4, k5, by rw [List.length_append]; omega⟩
  ·rw [k4] at p1
   rw [p1]
   simp only [if_true]
   refine ⟨B2, c2, q1, by rw [q2, k2, List.append_assoc], ?_, by rw [q4, k4], by rw [q5, k5], by rw [List.length_append, List.length_singleton]; omega⟩
   rw [List.length_append, List.length_singleton]
   rcases q6 with ⟨_, _, e⟩ | ⟨_, _, e⟩ <;> omega
end Go.Proofs.YtnbddiiedagllaaGreat

