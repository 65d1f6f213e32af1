/- The level: turns, whether two ticks fit, the first tick of a slot; the reference's. -/
import Derived.Test.YthidinaflaogfaaLvA
import Derived.BigQuiet
namespace Go.Proofs.Ythidinaflaogfaa
open Go.RowKit

/-- A call that reads alone. -/
def Reads (v : Value) (w : World) (r : Ending) (w' : World) : Prop := r = .returned v ∧ ∃ q, w' = w.drewN q

theorem Reads.same {v : Value} {w : World} {r : Ending} {w' : World} (h : r = .returned v ∧ w' = w) : Reads v w r w' := ⟨h.1, 0, h.2⟩

set_option maxRecDepth 100000 in
theorem turn_any (d k t : Nat) (w : World) (hk : k < 4) (_ : t < 18446744073709551616) (h : Low w d k) :
    Calls Try.prog 50 #[.pointer (some ⟨d, 0, none⟩), .int .u64 (t : Int)] w (Reads (.int .u64 (turnN k t : Int)) w) := by
  unfold Low at h
  obtain ⟨S, hS⟩ : ∃ S, S = turnN k t := ⟨_, rfl⟩
  rw [← hS]
  unfold turnN at hS
  have HS := Lib.hid hS
  clear hS
  obtain rfl | rfl | rfl | rfl : k = 0 ∨ k = 1 ∨ k = 2 ∨ k = 3 := by omega
  · change w.cell? _ = some (.int .u64 0) at h
    go_enter Try.func50, Try.ntmps50
    go_wp2
    go_ret
    exact ⟨ret_u64 (by have := HS.out; omega), 0, rfl⟩
  · change w.cell? _ = some (.int .u64 6) at h
    go_enter Try.func50, Try.ntmps50
    go_wp2
    go_ret
    exact ⟨ret_u64 (by have := HS.out; omega), 0, rfl⟩
  · change w.cell? _ = some (.int .u64 12) at h
    go_enter Try.func50, Try.ntmps50
    go_wp2
    go_ret
    exact ⟨ret_u64 (by have := HS.out; omega), 0, rfl⟩
  · change w.cell? _ = some (.int .u64 18) at h
    go_enter Try.func50, Try.ntmps50
    go_wp2
    go_ret
    exact ⟨ret_u64 (by have := HS.out; omega), 0, rfl⟩

/-- Whether two ticks are in the same turn. -/
def fitsB (k a b : Nat) : Bool := decide (turnN k a = turnN k b)

set_option maxRecDepth 100000 in
theorem fits_any (d k a b : Nat) (w : World) (hk : k < 4) (ha : a < 18446744073709551616) (hb : b < 18446744073709551616) (h : Low w d k) :
    Calls Try.prog 42 #[.pointer (some ⟨d, 0, none⟩), .int .u64 (a : Int), .int .u64 (b : Int)] w (Reads (.bool (fitsB k a b)) w) := by
  have HA := Lib.hid (fun q => turn_any d k a (w.drewN q) hk ha h)
  have HB := Lib.hid (fun q => turn_any d k b (w.drewN q) hk hb h)
  obtain ⟨R, hR⟩ : ∃ R, R = fitsB k a b := ⟨_, rfl⟩
  rw [← hR]
  have HR := Lib.hid hR
  clear h hR
  go_enter Try.func42, Try.ntmps42
  go_wp2_with fail
  refine (HA.out 0).mono ?_
  rintro r w1 ⟨rfl, q, rfl⟩
  go_wp2_with fail
  refine (HB.out q).mono ?_
  rintro r w1 ⟨rfl, q2, rfl⟩
  go_wp2
  go_ret
  exact ⟨ret_bool (by rw [HR.out, fitsB]; rw [Bool.eq_iff_iff]; simp; omega), q + q2, by simp [World.drewN]⟩

/-- Whether there is a slot with a number. -/
def isSlotB (s : Int) : Bool := decide (0 ≤ s) && decide (s < 64)

set_option maxRecDepth 100000 in
theorem isslot_any (s : Int) (w : World) : Calls Try.prog 51 #[.int .i64 s] w fun r w' => r = .returned (.bool (isSlotB s)) ∧ w' = w := by
  unfold isSlotB
  by_cases h0 : 0 ≤ s
  · by_cases h1 : s < 64
    · rw [decide_eq_true h0, decide_eq_true h1]
      go_enter Try.func51, Try.ntmps51
      go_wp2
      go_ret
      exact ⟨rfl, rfl⟩
    · rw [decide_eq_true h0, decide_eq_false h1]
      go_enter Try.func51, Try.ntmps51
      go_wp2
      go_ret
      exact ⟨rfl, rfl⟩
  · rw [decide_eq_false h0]
    go_enter Try.func51, Try.ntmps51
    go_wp2
    go_ret
    exact ⟨rfl, rfl⟩

/-- The first tick of a slot. -/
def startN (k now : Nat) (s : Int) : Nat := if isSlotB s = true then turnN k now * 64 ^ (k + 1) + s.toNat * 64 ^ k else 0

theorem isSlotB_iff (s : Int) : isSlotB s = true ↔ 0 ≤ s ∧ s < 64 := by unfold isSlotB; rw [Bool.and_eq_true, decide_eq_true_eq, decide_eq_true_eq]

end Go.Proofs.Ythidinaflaogfaa
