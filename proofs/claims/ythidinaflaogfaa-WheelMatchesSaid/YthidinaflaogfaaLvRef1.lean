/- The walks of the reference's Has and of slices.Equal of items. -/
import Derived.Test.YthidinaflaogfaaLvTake
namespace Go.Proofs.Ythidinaflaogfaa
open Go.RowKit

theorem Items.drewN {w : World} {p : Option Addr} {n c : Nat} {l : List It} (h : Items w p n c l) (q : Nat) : Items (w.drewN q) p n c l := ⟨h.len, h.le, h.max, h.cell⟩

set_option maxRecDepth 100000 in
set_option maxHeartbeats 6400000 in
theorem has_any (p : Option Addr) (n c : Nat) (l : List It) (x : It) (w : World) (h : Items w p n c l) :
    Calls Try.prog 15 #[.slice p n c, .agg #[.int .u64 (x.1 : Int), .int .u64 (x.2 : Int)]] w fun r w' => r = .returned (.bool (decide (x ∈ l))) ∧ Below w.heap.size w w' := by
  have hlen := h.len
  have hle := h.le
  have hmx := h.max
  obtain ⟨res, hres⟩ : ∃ res, res = decide (x ∈ l) := ⟨_, rfl⟩
  rw [← hres]
  have Hres := Lib.hid hres
  obtain ⟨x1, x2⟩ := x
  obtain ⟨w1, hw1⟩ : ∃ w1, w1 = w.alloc (.cells #[.int .u64 (x1 : Int), .int .u64 (x2 : Int)] 36) := ⟨_, rfl⟩
  have hb1 : Below w.heap.size w w1 := by rw [hw1]; exact (Below.refl _ _).alloc (Nat.le_refl _) _
  obtain ⟨d0, d1⟩ := box2 w (.int .u64 (x1 : Int)) (.int .u64 (x2 : Int)) 36
  rw [← hw1] at d0 d1
  have HI := Lib.hid (h.below hb1)
  have HD := Lib.hid (And.intro d0 d1)
  have Hb1 := Lib.hid hb1
  clear h hb1 d0 d1 hres
  go_enter Try.func15, Try.ntmps15
  go_upto_region 1 with fail
  rw [← hw1]
  clear hw1
  go_wp2
  obtain ⟨wo, hwo⟩ : ∃ wo, wo = w1 := ⟨_, rfl⟩
  subst hwo
  go_loopw [5] (fun i wr => ∃ j : Nat, j ≤ n ∧ i = .int .i64 (j : Int) ∧ (∀ k y, k < j → l[k]? = some y → y ≠ (x1, x2)) ∧ ∃ q, wr = wo.drewN q) (fun i _ => n - (intOf i).toNat)
  case atStart => exact ⟨0, Nat.zero_le _, rfl, fun k _ h => absurd h (by omega), 0, rfl⟩
  case round =>
    obtain ⟨j, hj, rfl, hall, q, hq⟩ := hrel
    have Hall := Lib.hid hall
    have Hq := Lib.hid hq
    have hcells : ∀ a v, wo.cell? a = some v → wr.cell? a = some v := fun a v h => by rw [hq]; exact h
    clear hall hq
    by_cases hlt : j < n
    · have hji : (j : Int) < (n : Int) := by omega
      obtain ⟨g, o, rfl, hc⟩ := HI.out.cell (by omega)
      obtain ⟨y, hy⟩ : ∃ y, l[j]? = some y := ⟨_, List.getElem?_eq_getElem (by omega)⟩
      obtain ⟨c0, c1⟩ := hc j y hy
      have g0 := hcells _ _ c0
      have g1 := hcells _ _ c1
      have e0 := hcells _ _ HD.out.1
      have e1 := hcells _ _ HD.out.2
      have Hy := Lib.hid hy
      have Hlt := Lib.hid hlt
      obtain ⟨y1, y2⟩ := y
      clear c0 c1 hc hy hcells hlt
      change wr.cell? _ = some (.int .u64 (y1 : Int)) at g0
      change wr.cell? _ = some (.int .u64 (y2 : Int)) at g1
      by_cases hab : y1 = x1 ∧ y2 = x2
      · obtain ⟨rfl, rfl⟩ := hab
        have Hg := Lib.hid (show res = true from by rw [Hres.out]; exact decide_eq_true (List.mem_of_getElem? Hy.out))
        go_wp2_with fail
        go_region_held3 (fun w' => (w'.cell? ⟨g, o + j * 2, none⟩ = some (.int .u64 (y1 : Int)) ∧ w'.cell? ⟨g, o + j * 2 + 1, none⟩ = some (.int .u64 (y2 : Int))) ∧ w'.cell? ⟨w.heap.size, 0, none⟩ = some (.int .u64 (y1 : Int)) ∧ w'.cell? ⟨w.heap.size, 1, none⟩ = some (.int .u64 (y2 : Int)))
          (first | exact ⟨⟨g0, g1⟩, e0, e1⟩) (first | fail)
        go_wp2
        go_ret
        exact ⟨ret_bool Hg.out.symm, by rw [Hq.out]; exact (below_drewN Hb1.out q).drew⟩
      · have hne : (y1, y2) ≠ (x1, x2) := fun e => hab (by cases e; exact ⟨rfl, rfl⟩)
        have Hrel := Lib.hid (show ∀ k y, k < j + 1 → l[k]? = some y → y ≠ (x1, x2) from fun k y hk hy => by
          rcases Nat.lt_or_eq_of_le (Nat.le_of_lt_succ hk) with h1 | h1
          · exact Hall.out k y h1 hy
          · rw [h1, Hy.out] at hy
            cases hy
            exact hne)
        have hor : (y1 ≠ x1) ∨ (y1 = x1 ∧ y2 ≠ x2) := by omega
        clear hab hne
        rcases hor with ha | ⟨ha, hb⟩
        · have hq1 : ((y1 : Int) == (x1 : Int)) = false := by rw [beq_eq_false_iff_ne]; omega
          have hq2 : ¬ (y1 : Int) = (x1 : Int) := by omega
          go_wp2_with fail
          go_region_held3 (fun w' => (w'.cell? ⟨g, o + j * 2, none⟩ = some (.int .u64 (y1 : Int)) ∧ w'.cell? ⟨g, o + j * 2 + 1, none⟩ = some (.int .u64 (y2 : Int))) ∧ w'.cell? ⟨w.heap.size, 0, none⟩ = some (.int .u64 (x1 : Int)) ∧ w'.cell? ⟨w.heap.size, 1, none⟩ = some (.int .u64 (x2 : Int)))
            (first | exact ⟨⟨g0, g1⟩, e0, e1⟩) (first | fail)
          go_wp2
          go_roundw
          case rel => exact ⟨j + 1, Hlt.out, by go_num, Hrel.out, q + 1, by rw [Hq.out]; rfl⟩
          case measure => simp [intOf]; have := Hlt.out; omega
        · subst ha
          have hq1 : ((y2 : Int) == (x2 : Int)) = false := by rw [beq_eq_false_iff_ne]; omega
          have hq2 : ¬ (y2 : Int) = (x2 : Int) := by omega
          go_wp2_with fail
          go_region_held3 (fun w' => (w'.cell? ⟨g, o + j * 2, none⟩ = some (.int .u64 (y1 : Int)) ∧ w'.cell? ⟨g, o + j * 2 + 1, none⟩ = some (.int .u64 (y2 : Int))) ∧ w'.cell? ⟨w.heap.size, 0, none⟩ = some (.int .u64 (y1 : Int)) ∧ w'.cell? ⟨w.heap.size, 1, none⟩ = some (.int .u64 (x2 : Int)))
            (first | exact ⟨⟨g0, g1⟩, e0, e1⟩) (first | fail)
          go_wp2
          go_roundw
          case rel => exact ⟨j + 1, Hlt.out, by go_num, Hrel.out, q + 1, by rw [Hq.out]; rfl⟩
          case measure => simp [intOf]; have := Hlt.out; omega
    · have hji : ¬ (j : Int) < (n : Int) := by omega
      have Hg := Lib.hid (show res = false from by
        rw [Hres.out]
        refine decide_eq_false (fun hm => ?_)
        obtain ⟨k, hk⟩ := List.getElem?_of_mem hm
        exact Hall.out k _ (by have := (List.getElem?_eq_some_iff.1 hk).1; omega) hk rfl)
      go_wp2
      go_ret
      exact ⟨ret_bool Hg.out.symm, by rw [Hq.out]; exact below_drewN Hb1.out q⟩
end Go.Proofs.Ythidinaflaogfaa
