/- The walk of fire. -/
import Derived.Test.YthidinaflaogfaaWhMid
import Derived.Test.YthidinaflaogfaaWhSort
import Derived.Deep.RegionLaw
import Derived.Deep.RegionHeld3
import Derived.Shelf.SlSortCmp.NoneTotal
namespace Go.Proofs.Ythidinaflaogfaa
open Go.RowKit

/-- What fire answers and leaves. -/
def FireW (w0 : World) (X : Nat → Prop) (w : World) (d now : Nat) (T : List It) (r : Ending) (w' : World) : Prop :=
  ∃ u D, r = .returned u ∧ D = T.filter (fun t => decide (t.2 ≤ now)) ∧ OwnL w' w.heap.size u D ∧ WhS w0 (fun b => X b ∨ u.ownBlock = some b) w' d now (T.filter (fun t => decide (now < t.2))) ∧ (∀ b, X b → w'.heap[b]? = w.heap[b]?) ∧ Below w0.heap.size w w'

theorem sort_none (p : Option Addr) (cap : Nat) (w : World) : Calls Try.prog 44 #[.slice p 0 cap, .func (.func 45) #[] #[]] w fun r w' => r = .returned (.tuple #[]) ∧ w' = w :=
  AnyF.slices_SortFunc_none Try.sortIt p cap _ w

theorem FrJ.sort {w0 : World} {X : Nat → Prop} {w : World} {d now : Nat} {T R : List It} {u : Value} {wr : World} (h : FrJ w0 X w d now T R R.length u wr) (hi : FireIn now T R) (hn : now < 9223372036854775808) (hl : T.length ≤ 990) :
    Calls Try.prog 44 #[u, .func (.func 45) #[] #[]] wr fun r w' => r = .returned (.tuple #[]) ∧ FireW w0 X w d now T (.returned u) w' := by
  obtain ⟨⟨L, T', D, h1, h2, h3, h3'⟩, h4, h5, h6, h7⟩ := h
  obtain ⟨e1, e2⟩ := h3'.done hi
  have hG : GoodP now (T.filter fun t => decide (now < t.2)) (fun _ => True) L := by
    rw [e1] at h3
    refine h3.congr (fun t => ?_)
    rw [List.drop_length]
    exact ⟨fun h => ⟨h.1, trivial⟩, fun h => ⟨h.1, by simp⟩⟩
  have hT := hi.tim.sub (T' := T.filter fun t => decide (now < t.2)) List.filter_sublist
  rw [e1] at h1
  obtain ⟨p, c, rfl, hI⟩ := OwnL.items h2 rfl
  rcases Nat.eq_zero_or_pos D.length with hz | hz
  · have hD : D = [] := List.length_eq_zero_iff.1 hz
    subst hD
    refine (sort_none p c wr).mono ?_
    rintro r w' ⟨e, rfl⟩
    refine ⟨e, _, [], rfl, ?_, h2, ⟨L, h1, hG, hT, hn⟩, h4, h5⟩
    refine (List.eq_nil_iff_forall_not_mem.2 fun x hx => ?_).symm
    have := (e2 x).2 hx
    cases this
  · obtain ⟨b, o, hp, _⟩ := hI.cell hz
    have ho : o = 0 := by
      obtain ⟨_, g1 | ⟨g, cap, cur, g1, _⟩⟩ := h2
      · have := g1.2; omega
      · rw [hp] at g1
        simp at g1
        exact g1.1.2
    subst hp
    subst ho
    refine (sort_any h2 rfl (by have := h3'.dlen; omega)).mono ?_
    rintro r w' ⟨e, D', hperm, hpw, hown, hg⟩
    have hs := srt_of_perm hperm hpw h3'.dnodup
    have hD' : D' = T.filter (fun t => decide (t.2 ≤ now)) := srt_ext hs (List.Pairwise.filter _ hi.tim.srt) (fun x => (hperm.mem_iff).trans (e2 x))
    have hlt := World.ownsRow.lt h2 b rfl
    refine ⟨e, _, D', rfl, hD', hown, ⟨L, h1.grown (v := .slice (some ⟨b, 0, none⟩) D.length c) hg (fun b' e' => ⟨.inr e', by cases e'; exact Nat.le_trans h7 hlt.1⟩) (fun b' hb' => ⟨.inl hb', Nat.lt_of_lt_of_le (h1.xb b' hb') hg.size⟩), hG, hT, hn⟩, fun b' hx => ?_, ?_⟩
    · have h8 := h6 b' hx
      exact (hg.block b' (h1.xb b' (.inl hx)) (fun e' => by cases e'; omega)).trans (h4 b' hx)
    · exact h5.trans ⟨hg.os, hg.tape, hg.output, hg.size, fun b' hb' => hg.block b' (Nat.lt_of_lt_of_le hb' h1.base.size) (fun e' => by cases e'; omega)⟩

set_option maxRecDepth 100000 in
set_option maxHeartbeats 6400000 in
theorem wfire_any {w0 : World} {X : Nat → Prop} {w : World} {d now : Nat} {L : Nat → List It} {T R : List It} (h : WhO w0 X w d now L T) (hg : GoodP now T (fun t => t.1 ∉ R.map Prod.fst) L) (hi : FireIn now T R) (hn : now < 9223372036854775808) (hl : T.length ≤ 990)
    (p : Option Addr) (n c : Nat) (hI : Items w p n c R) (hX : ∀ b o, p = some ⟨b, o, none⟩ → X b) :
    Calls Try.prog 33 #[.pointer (some ⟨d, 0, none⟩), .slice p n c] w (FireW w0 X w d now T) := by
  have hlen := hI.len
  have hle := hI.le
  have hmx := hI.max
  have HI := Lib.hid (And.intro hI hX)
  have Hi := Lib.hid (And.intro hi (And.intro hn hl))
  have HJ0 := Lib.hid (show FrJ w0 X w d now T R 0 (.slice none 0 0) w from ⟨⟨L, T, [], h.swap (Below.refl _ _) (fun b hb => ⟨.inl (hb.elim id (fun e => by cases e)), h.xb b (hb.elim id (fun e => by cases e))⟩), World.ownsRow_nil _ _ _ _, hg, FireAt.start _ _ _⟩, fun _ _ => rfl, Below.refl _ _, h.xb, h.base.size⟩)
  clear h hg hi hn hl hI hX
  go_enter Try.func33, Try.ntmps33
  go_wp2
  go_loopw [5, 10] (fun v i wr => ∃ j : Nat, j ≤ n ∧ i = .int .i64 (j : Int) ∧ RowKit.Hid (FrJ w0 X w d now T R j v wr)) (fun _ i _ => n - (intOf i).toNat)
  case atStart => exact ⟨0, Nat.zero_le _, rfl, HJ0⟩
  case round =>
    obtain ⟨j, hj, rfl, HJ⟩ := hrel
    by_cases hlt : j < n
    · have hji : (j : Int) < (n : Int) := by omega
      obtain ⟨b, o, rfl, hc⟩ := HI.out.1.cell (by omega)
      obtain ⟨r, hr⟩ : ∃ r, R[j]? = some r := ⟨_, List.getElem?_eq_getElem (by omega)⟩
      obtain ⟨c0, c1⟩ := hc j r hr
      have hkeep := HJ.out.keep b (HI.out.2 b o rfl)
      have g0 : wr.cell? ⟨b, o + j * 2, none⟩ = some (.int .u64 (r.1 : Int)) := by rw [← c0]; unfold World.cell?; rw [hkeep]
      have g1 : wr.cell? ⟨b, o + j * 2 + 1, none⟩ = some (.int .u64 (r.2 : Int)) := by rw [← c1]; unfold World.cell?; rw [hkeep]
      have Hr := Lib.hid hr
      obtain ⟨r1, r2⟩ := r
      change wr.cell? _ = some (.int .u64 (r1 : Int)) at g0
      change wr.cell? _ = some (.int .u64 (r2 : Int)) at g1
      clear hc c0 c1 hkeep hr
      have hb0 : Below wr.heap.size wr (wr.alloc (.cells #[.int .u64 (r1 : Int), .int .u64 (r2 : Int)] 44)) := (Below.refl _ _).alloc (Nat.le_refl _) _
      obtain ⟨d0, d1⟩ := box2 wr (.int .u64 (r1 : Int)) (.int .u64 (r2 : Int)) 44
      have d2 := fun (q : Nat) => (show (wr.alloc (.cells #[.int .u64 (r1 : Int), .int .u64 (r2 : Int)] 44)).frozen? ⟨wr.heap.size, q, none⟩ = false from by have hz := heap_alloc_new wr (.cells #[.int .u64 (r1 : Int), .int .u64 (r2 : Int)] 44); unfold World.frozen?; rw [hz]; simp)
      have HJx := HJ.out.turned hb0
      obtain ⟨⟨L1, T1, D1, ⟨o1, p1, V1, mb, hW⟩, hrow, hg1, hf1⟩, _⟩ := HJx
      obtain ⟨⟨t1, t2⟩, ht1, ht, e⟩ := hf1.timer Hi.out.1 Hr.out
      change t1 = r1 at e
      subst e
      have q0 := hW.mapc
      have q1 := hW.tick
      have hlook := (hW.map.kept (w' := (wr.alloc (.cells #[.int .u64 (t1 : Int), .int .u64 (r2 : Int)] 44)).drew) rfl).at (t1, t2) ht1 (Hi.out.1.tim.idb _ ht)
      have ht2b := Hi.out.1.tim.tick _ ht
      change t2 < _ at ht2b
      have Ht := Lib.hid (And.intro ht1 ht)
      have HJx := Lib.hid (HJ.out.turned hb0)
      have Hb0 := Lib.hid hb0
      obtain ⟨wx, hwx⟩ : ∃ wx, wx = wr.alloc (.cells #[.int .u64 (t1 : Int), .int .u64 (r2 : Int)] 44) := ⟨_, rfl⟩
      rw [← hwx] at d0 d1 d2 q0 q1 hlook HJx Hb0
      have Hwx := Lib.hid (show wx.heap.size = wr.heap.size + 1 by rw [hwx]; simp)
      have hB : wx.heap[wr.heap.size]? = some (.cells #[.int .u64 (t1 : Int), .int .u64 (r2 : Int)] 44 (0, 0)) := by rw [hwx]; exact heap_alloc_new _ _
      have HBx := Lib.hid hB
      have Hmb := Lib.hid HJ.out.mapAt
      clear hW hrow hg1 hf1 ht1 ht hb0 hB
      go_upto_region 5 with fail
      rw [← hwx]
      clear hwx g0 g1
      go_region
      obtain ⟨w5, hw5⟩ : ∃ w5, w5 = (wx.setCell ⟨wr.heap.size, 1, none⟩ (.int .u64 (t2 : Int))).drew := ⟨_, rfl⟩
      have hb5 : Below wr.heap.size wx w5 := by rw [hw5]; exact ((Below.refl _ _).setCell (by show wr.heap.size ≤ wr.heap.size; omega) _).drew
      have hB5 : w5.heap[wr.heap.size]? = some (.cells #[.int .u64 (t1 : Int), .int .u64 (t2 : Int)] 44 (0, 0)) := by
        rw [hw5]
        exact Joins.block_setCell (i := 1) HBx.out _
      have e0 : w5.cell? ⟨wr.heap.size, 0, none⟩ = some (.int .u64 (t1 : Int)) := by rw [cell_of_row _ _ _ _ _ (0, 0) hB5]; rfl
      have e1 : w5.cell? ⟨wr.heap.size, 1, none⟩ = some (.int .u64 (t2 : Int)) := by rw [cell_of_row _ _ _ _ _ (0, 0) hB5]; rfl
      have HJ5 := Lib.hid (HJ.out.turned (Hb0.out.trans hb5))
      have Hbw5 := Lib.hid (Hb0.out.trans hb5)
      have Hlt5 := Lib.hid (show wr.heap.size ≤ w5.heap.size from Nat.le_of_lt (Array.getElem?_eq_some_iff.1 hB5).1)
      rw [← hw5]
      clear hw5 hb5 hB5 q0 q1 d0 d1 d2 hlook HJx
      have q1 : w5.cell? ⟨d, 0, none⟩ = some (.int .u64 (now : Int)) := by
        obtain ⟨⟨_, _, _, ⟨_, _, _, _, hW⟩, _⟩, _⟩ := HJ5.out
        exact hW.tick
      by_cases hlate : t2 ≤ now
      · have hgt : ¬ (now : Int) < (t2 : Int) := by omega
        have hdd : Below w5.heap.size w5 w5.drew.drew := (Below.refl _ _).drew.drew
        obtain ⟨mb', hq, w7, hdel, hH, hcl⟩ := (HJ5.out.turned hdd).del Hi.out.1 Hr.out (t1, t2) Ht.out.2 rfl hlate
        have hne7 : wr.heap.size ≠ mb' := by
          obtain ⟨mb2, h7, h8⟩ := Hmb.out
          have h9 := cell_below (Hbw5.out.trans (hdd.mono Hlt5.out)) h7
          rw [h9] at hq
          cases hq
          omega
        change w5.cell? _ = _ at hq
        change (Builtin.delete_ _ 0 #[_, .int .u64 (t1 : Int)]).run _ _ = _ at hdel
        have f0 := hcl wr.heap.size 0 _ hne7 e0
        have f1 := hcl wr.heap.size 1 _ hne7 e1
        have HH := Lib.hid (hH.turned (w' := w7.alloc (.cells #[.int .u64 (t1 : Int), .int .u64 (t2 : Int)] 44)) ((Below.refl _ _).alloc (Nat.le_refl _) _))
        clear hH hcl hne7 hdd
        go_wp2_with fail
        go_region
        go_wp2_with fail
        go_region
        obtain ⟨D, hrow, hdl, hsz, hnext⟩ := HH.out.row
        obtain ⟨b0, b1⟩ := box2 w7 (.int .u64 (t1 : Int)) (.int .u64 (t2 : Int)) 44
        have Hrow := Lib.hid (And.intro hrow (And.intro (items_one (x := (t1, t2)) b0 b1) hsz))
        have Hdl := Lib.hid (show D.length + 1 ≤ 100000 from by have h5 := Hi.out.2.2; omega)
        have Hnext := Lib.hid hnext
        clear hrow hdl hsz hnext b0 b1
        go_wp2_with (at_builtin; refine wpl_app3 rfl _ _ rfl (by first | rfl | go_simp) Hrow.out.1 (p := some ⟨w7.heap.size, 0, none⟩) (m := 1) (c := 1) (by first | rfl | go_simp) Hrow.out.2.1 Hrow.out.2.2 Hdl.out ?_; intro v8 w8 hown8 hg8 ho8)
        have HJ8 := Lib.hid (Hnext.out v8 w8 hown8 hg8 ho8)
        clear hown8 hg8 ho8
        go_wp2
        go_roundw
        case rel => exact ⟨j + 1, by omega, by go_num, HJ8⟩
        case measure => simp [intOf]; omega
      · have hgt : (now : Int) < (t2 : Int) := by omega
        have HPut := Lib.hid ((HJ5.out.turned (w' := w5.drew) (Below.refl _ _).drew).put Hi.out.1 Hi.out.2.1 Hi.out.2.2 Hr.out (t1, t2) Ht.out.2 rfl hlate)
        go_wp2_with fail
        go_region
        go_wp2_with fail
        refine HPut.out.mono ?_
        rintro r w8 ⟨rfl, hJ8⟩
        have HJ8 := Lib.hid hJ8
        clear hJ8
        go_wp2
        go_roundw
        case rel => exact ⟨j + 1, by omega, by go_num, HJ8⟩
        case measure => simp [intOf]; omega
    · have hji : ¬ (j : Int) < (n : Int) := by omega
      obtain rfl : j = n := by omega
      have h9 := HJ.out
      rw [← hlen] at h9
      have HS := Lib.hid (h9.sort Hi.out.1 Hi.out.2.1 Hi.out.2.2)
      clear h9
      go_wp2_with fail
      refine HS.out.mono ?_
      rintro r w8 ⟨rfl, hF⟩
      have HF := Lib.hid hF
      clear hF
      go_wp2
      go_ret
      exact HF.out
end Go.Proofs.Ythidinaflaogfaa
