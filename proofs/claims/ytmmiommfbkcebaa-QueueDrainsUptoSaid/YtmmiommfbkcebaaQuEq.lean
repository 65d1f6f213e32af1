/- slices.Equal of ints. -/
import Derived.Test.YtmmiommfbkcebaaQuInts
import Derived.Deep.RegionHeld3
namespace Go.Proofs.Ytmmiommfbkcebaa
open Go.RowKit

set_option maxRecDepth 100000 in
set_option maxHeartbeats 6400000 in
theorem qequal_any (p p' : Option Addr) (n n' c c' : Nat) (l l' : List Int) (w : World) (h : Qs w p n c l) (h' : Qs w p' n' c' l') :
    Calls Try.prog 18 #[.slice p n c, .slice p' n' c'] w fun r w' => r = .returned (.bool (decide (l = l'))) ∧ Below w.heap.size w w' := by
  have hlen := h.len
  have hlen' := h'.len
  have hmx := h.max
  have hmx' := h'.max
  have hle := h.le
  have hle' := h'.le
  obtain ⟨res, hr⟩ : ∃ res, res = decide (l = l') := ⟨_, rfl⟩
  rw [← hr]
  have Hr := Lib.hid hr
  have H := Lib.hid h
  have H' := Lib.hid h'
  clear h h' hr
  by_cases hn : n = n'
  rotate_left
  · have hq : ((n : Int) != (n' : Int)) = true := by rw [bne_iff_ne]; omega
    have Hf := Lib.hid (show res = false from by rw [Hr.out]; exact decide_eq_false (fun e => by rw [e] at hlen; omega))
    clear hn
    go_enter Try.func18, Try.ntmps18
    go_wp2
    go_ret
    exact ⟨ret_bool Hf.out.symm, Below.refl _ _⟩
  subst hn
  have hq : ((n : Int) != (n : Int)) = false := by simp
  go_enter Try.func18, Try.ntmps18
  go_wp2
  go_loopw [13] (fun i wr => ∃ j : Nat, j ≤ n ∧ i = .int .i64 (j : Int) ∧ (∀ k, k < j → l[k]? = l'[k]?) ∧ ∃ q, wr = w.drewN q) (fun i _ => n - (intOf i).toNat)
  case atStart => exact ⟨0, Nat.zero_le _, rfl, fun k h => absurd h (by omega), 0, rfl⟩
  case round =>
    obtain ⟨j, hj, rfl, hall, q, hqq⟩ := hrel
    have Hall := Lib.hid hall
    have Hq := Lib.hid hqq
    have hcells : ∀ a v, w.cell? a = some v → wr.cell? a = some v := fun a v h => by rw [hqq]; exact h
    clear hall hqq
    by_cases hlt : j < n
    · have hji : (j : Int) < (n : Int) := by omega
      obtain ⟨g, o, rfl, hc⟩ := H.out.cell (by omega)
      obtain ⟨g', o', rfl, hc'⟩ := H'.out.cell (by omega)
      obtain ⟨y, hy⟩ : ∃ y, l[j]? = some y := ⟨_, List.getElem?_eq_getElem (by omega)⟩
      obtain ⟨x, hx⟩ : ∃ x, l'[j]? = some x := ⟨_, List.getElem?_eq_getElem (by omega)⟩
      have g0 := hcells _ _ (hc j y hy)
      have e0 := hcells _ _ (hc' j x hx)
      have Hy := Lib.hid hy
      have Hx := Lib.hid hx
      have Hlt := Lib.hid hlt
      clear hc hc' hy hx hcells hlt
      by_cases hab : y = x
      · subst hab
        have Hrel := Lib.hid (show ∀ k, k < j + 1 → l[k]? = l'[k]? from fun k hk => by
          rcases Nat.lt_or_eq_of_le (Nat.le_of_lt_succ hk) with h1 | h1
          · exact Hall.out k h1
          · rw [h1, Hy.out, Hx.out])
        go_wp2_with fail
        go_region_held3 (fun w' => w'.cell? ⟨g, o + j, none⟩ = some (.int .i64 y) ∧ w'.cell? ⟨g', o' + j, none⟩ = some (.int .i64 y))
          (first | exact ⟨g0, e0⟩) (first | fail)
        go_wp2
        go_roundw
        case rel => exact ⟨j + 1, Hlt.out, by go_num, Hrel.out, q + 1, by rw [Hq.out]; rfl⟩
        case measure => simp [intOf]; have := Hlt.out; omega
      · have Hf := Lib.hid (show res = false from by
          rw [Hr.out]
          refine decide_eq_false (fun e => hab ?_)
          have h1 := Hy.out
          rw [e, Hx.out] at h1
          cases h1
          rfl)
        have hq1 : (y == x) = false := beq_eq_false_iff_ne.2 hab
        have hq2 : (y != x) = true := bne_iff_ne.2 hab
        go_wp2_with fail
        go_region_held3 (fun w' => w'.cell? ⟨g, o + j, none⟩ = some (.int .i64 y) ∧ w'.cell? ⟨g', o' + j, none⟩ = some (.int .i64 x))
          (first | exact ⟨g0, e0⟩) (first | fail)
        go_wp2
        go_ret
        exact ⟨ret_bool Hf.out.symm, by rw [Hq.out]; exact (below_drewQ _ q).drew⟩
    · have hji : ¬ (j : Int) < (n : Int) := by omega
      have Hg := Lib.hid (show res = true from by
        rw [Hr.out]
        refine decide_eq_true (List.ext_getElem? fun k => ?_)
        rcases Nat.lt_or_ge k j with h1 | h1
        · exact Hall.out k h1
        · rw [List.getElem?_eq_none (by omega), List.getElem?_eq_none (by omega)])
      go_wp2
      go_ret
      exact ⟨ret_bool Hg.out.symm, by rw [Hq.out]; exact below_drewQ _ q⟩
end Go.Proofs.Ytmmiommfbkcebaa
