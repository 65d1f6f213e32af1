/- A level in memory; the walk of find. -/
import Derived.Test.YthidinaflaogfaaLvSearch
import Derived.Deep.Cut
namespace Go.Proofs.Ythidinaflaogfaa
open Go.RowKit

/-- The level with the number k lies in block d, its slots' lists in blocks of their own; all its blocks are among S; F: each slot's items. -/
structure LvAt (S : Nat → Prop) (w : World) (d k : Nat) (V : List Value) (F : Nat → List It) : Prop where
  head : w.heap[d]? = some (.cells (lvC k V) 83 (0, 0))
  len : V.length = 64
  own : S d
  slot : ∀ (s : Nat) (v : Value), V[s]? = some v → w.ownsRow 0 44 2 v (F s).length (flatI (F s)) ∧ (∀ b, v.ownBlock = some b → S b ∧ b ≠ d)
  apart : ∀ (s t : Nat) (u v : Value) (b : Nat), s ≠ t → V[s]? = some u → V[t]? = some v → u.ownBlock = some b → v.ownBlock ≠ some b

theorem LvAt.low {S : Nat → Prop} {w : World} {d k : Nat} {V : List Value} {F : Nat → List It} (h : LvAt S w d k V F) : Low w d k := by
  unfold Low
  rw [cell_of_row _ _ _ _ _ (0, 0) h.head]
  rfl

theorem LvAt.cell {S : Nat → Prop} {w : World} {d k : Nat} {V : List Value} {F : Nat → List It} (h : LvAt S w d k V F) {s : Nat} (hs : s < 64) : ∃ v, V[s]? = some v ∧ w.cell? ⟨d, 1 + s, none⟩ = some v ∧ ∃ p c, v = .slice p (F s).length c ∧ Items w p (F s).length c (F s) := by
  obtain ⟨v, hv⟩ : ∃ v, V[s]? = some v := ⟨_, List.getElem?_eq_getElem (by rw [h.len]; exact hs)⟩
  refine ⟨v, hv, ?_, items_own (h.slot s v hv).1⟩
  rw [cell_of_row _ _ _ _ _ (0, 0) h.head, Nat.add_comm]
  simpa [lvC] using hv

theorem LvAt.below {S : Nat → Prop} {w w' : World} {d k : Nat} {V : List Value} {F : Nat → List It} (h : LvAt S w d k V F) (hb : Below w.heap.size w w') : LvAt S w' d k V F := by
  refine ⟨(hb.block _ (Array.getElem?_eq_some_iff.1 h.head).1).trans h.head, h.len, h.own, fun s v hv => ⟨?_, (h.slot s v hv).2⟩, h.apart⟩
  exact (h.slot s v hv).1.kept (row := none) ⟨hb.os, hb.tape, hb.output, hb.size, fun k hk _ => hb.block k hk⟩ (by cases v.ownBlock <;> simp)

/-- What find returns. -/
def FindEnd (w : World) (s K : Nat) (b : Bool) (r : Ending) (w' : World) : Prop := r = .returned (.tuple #[.int .i64 (s : Int), .int .i64 (K : Int), .bool b]) ∧ Below w.heap.size w w'

set_option maxRecDepth 100000 in
set_option maxHeartbeats 3200000 in
theorem find_any {S : Nat → Prop} {w : World} {d k : Nat} {V : List Value} {F : Nat → List It} (h : LvAt S w d k V F) (hk : k < 4) (x : It) (hx : x.2 < 18446744073709551616) (K : Nat) (hn : (F (slotN k x.2)).length ≤ 1000) (hK : K ≤ (F (slotN k x.2)).length)
    (hlt : ∀ i y, (F (slotN k x.2))[i]? = some y → (cmpI y.1 y.2 x.1 x.2 < 0 ↔ i < K)) :
    Calls Try.prog 46 #[.pointer (some ⟨d, 0, none⟩), .agg #[.int .u64 (x.1 : Int), .int .u64 (x.2 : Int)]] w (FindEnd w (slotN k x.2) K (decide ((F (slotN k x.2))[K]? = some x))) := by
  have hs := slotN_lt k x.2
  obtain ⟨v, hv, hc, p, c, rfl, hI⟩ := h.cell hs
  have HS := Lib.hid (fun W hW => slot_any d k x.2 W hk hx (h.low.below hW))
  have hdlt : d < w.heap.size := (Array.getElem?_eq_some_iff.1 h.head).1
  clear hv h
  generalize slotN k x.2 = s at *
  generalize F s = l at *
  generalize l.length = n at *
  have hlen := hI.len
  have hle := hI.le
  have hmx := hI.max
  obtain ⟨w1, hw1⟩ : ∃ w1, w1 = w.alloc (.cells #[.int .u64 (x.1 : Int), .int .u64 (x.2 : Int)] 44) := ⟨_, rfl⟩
  have hb1 : Below w.heap.size w w1 := by rw [hw1]; exact (Below.refl _ _).alloc (Nat.le_refl _) _
  obtain ⟨d0, d1⟩ := box2 w (.int .u64 (x.1 : Int)) (.int .u64 (x.2 : Int)) 44
  rw [← hw1] at d0 d1
  have g0 := cell_below hb1 hc
  have HSl := Lib.hid (HS.out w1 hb1)
  have HSe := Lib.hid (search_any p n c l x K w1 (hI.below hb1) hn hK hlt)
  have HI := Lib.hid (hI.below hb1)
  have HD := Lib.hid (And.intro d0 d1)
  have Hb1 := Lib.hid hb1
  obtain ⟨res, hres⟩ : ∃ res, res = decide (l[K]? = some x) := ⟨_, rfl⟩
  rw [← hres]
  have Hres := Lib.hid hres
  obtain ⟨x1, x2⟩ := x
  have hsi : (s : Int) < 64 := by omega
  clear hres HS hI hc hb1 hlt
  go_enter Try.func46, Try.ntmps46
  go_upto_region 1 with fail
  rw [← hw1]
  clear hw1
  go_wp2_with fail
  refine HSl.out.mono ?_
  rintro r w2 ⟨rfl, rfl⟩
  go_wp2_with fail
  refine HSe.out.mono ?_
  rintro r w3 ⟨b, rfl, hb3⟩
  have Hb3 := Lib.hid (Hb1.out.trans (hb3.mono Hb1.out.size))
  have e0 := cell_below hb3 HD.out.1
  have e1 := cell_below hb3 HD.out.2
  by_cases hKn : K < n
  · have hKi : (K : Int) < (n : Int) := by omega
    obtain ⟨g, o, rfl, hc⟩ := HI.out.cell (by omega)
    obtain ⟨y, hy⟩ : ∃ y, l[K]? = some y := ⟨_, List.getElem?_eq_getElem (by omega)⟩
    obtain ⟨c0, c1⟩ := hc K y hy
    have q0 := cell_below hb3 c0
    have q1 := cell_below hb3 c1
    have Hr := Lib.hid (show res = decide (y = (x1, x2)) from by rw [Hres.out, hy]; simp)
    obtain ⟨y1, y2⟩ := y
    change w3.cell? _ = some (.int .u64 (y1 : Int)) at q0
    change w3.cell? _ = some (.int .u64 (y2 : Int)) at q1
    clear c0 c1 hc hy hb3
    by_cases ha : y1 = x1
    · by_cases hbb : y2 = x2
      · subst ha
        subst hbb
        have Hr2 := Lib.hid (show res = true from by rw [Hr.out]; simp)
        go_wp2_with fail
        go_region_held3 (fun w' => (w'.cell? ⟨g, o + K * 2, none⟩ = some (.int .u64 (y1 : Int)) ∧ w'.cell? ⟨g, o + K * 2 + 1, none⟩ = some (.int .u64 (y2 : Int))) ∧ w'.cell? ⟨w.heap.size, 0, none⟩ = some (.int .u64 (y1 : Int)) ∧ w'.cell? ⟨w.heap.size, 1, none⟩ = some (.int .u64 (y2 : Int)))
          (first | exact ⟨⟨q0, q1⟩, e0, e1⟩) (first | fail)
        go_wp2
        go_ret3
        exact ⟨congrArg (fun b => Ending.returned (.tuple #[.int .i64 (s : Int), .int .i64 (K : Int), .bool b])) Hr2.out.symm, Hb3.out.drew⟩
      · subst ha
        have Hr2 := Lib.hid (show res = false from by rw [Hr.out]; simp [hbb])
        have hq1 : ((y2 : Int) == (x2 : Int)) = false := by rw [beq_eq_false_iff_ne]; omega
        have hq2 : ¬ (y2 : Int) = (x2 : Int) := by omega
        go_wp2_with fail
        go_region_held3 (fun w' => (w'.cell? ⟨g, o + K * 2, none⟩ = some (.int .u64 (y1 : Int)) ∧ w'.cell? ⟨g, o + K * 2 + 1, none⟩ = some (.int .u64 (y2 : Int))) ∧ w'.cell? ⟨w.heap.size, 0, none⟩ = some (.int .u64 (y1 : Int)) ∧ w'.cell? ⟨w.heap.size, 1, none⟩ = some (.int .u64 (x2 : Int)))
          (first | exact ⟨⟨q0, q1⟩, e0, e1⟩) (first | fail)
        go_wp2
        go_ret3
        exact ⟨congrArg (fun b => Ending.returned (.tuple #[.int .i64 (s : Int), .int .i64 (K : Int), .bool b])) Hr2.out.symm, Hb3.out.drew⟩
    · have Hr2 := Lib.hid (show res = false from by rw [Hr.out]; simp [ha])
      have hq1 : ((y1 : Int) == (x1 : Int)) = false := by rw [beq_eq_false_iff_ne]; omega
      have hq2 : ¬ (y1 : Int) = (x1 : Int) := by omega
      go_wp2_with fail
      go_region_held3 (fun w' => (w'.cell? ⟨g, o + K * 2, none⟩ = some (.int .u64 (y1 : Int)) ∧ w'.cell? ⟨g, o + K * 2 + 1, none⟩ = some (.int .u64 (y2 : Int))) ∧ w'.cell? ⟨w.heap.size, 0, none⟩ = some (.int .u64 (x1 : Int)) ∧ w'.cell? ⟨w.heap.size, 1, none⟩ = some (.int .u64 (x2 : Int)))
        (first | exact ⟨⟨q0, q1⟩, e0, e1⟩) (first | fail)
      go_wp2
      go_ret3
      exact ⟨congrArg (fun b => Ending.returned (.tuple #[.int .i64 (s : Int), .int .i64 (K : Int), .bool b])) Hr2.out.symm, Hb3.out.drew⟩
  · have hKi : ¬ (K : Int) < (n : Int) := by omega
    have Hr := Lib.hid (show res = false from by rw [Hres.out, List.getElem?_eq_none (by omega)]; simp)
    clear hb3
    go_wp2_with fail
    go_region
    go_wp2
    go_ret3
    exact ⟨congrArg (fun b => Ending.returned (.tuple #[.int .i64 (s : Int), .int .i64 (K : Int), .bool b])) Hr.out.symm, Hb3.out.drew⟩
end Go.Proofs.Ythidinaflaogfaa
