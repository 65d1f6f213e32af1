/- The level: a new one; the reference's slot, turn and first tick. -/
import Derived.Test.YthidinaflaogfaaLvB
namespace Go.Proofs.Ythidinaflaogfaa
open Go.RowKit

theorem u64_div (a P : Nat) (ha : a < 18446744073709551616) : IntKind.u64.wrap ((a : Int) / (P : Int)) = ((a / P : Nat) : Int) := by
  have h := Nat.div_le_self a P
  rw [← Int.natCast_ediv]
  generalize a / P = q at *
  rw [IntKind.wrap_u64]
  omega

/-- The cells of a level. -/
def lvC (k : Nat) (V : List Value) : Array Value := (Value.int .u64 ((6 * k : Nat) : Int) :: V).toArray
/-- Slots without items. -/
def nil64 : List Value := List.replicate 64 (.slice none 0 0)

theorem lv_zero (w : World) : (zeroValue 83).run Try.prog w = .ok (.agg (lvC 0 nil64)) w := by kernel_rfl

set_option maxRecDepth 100000 in
theorem new_any (k : Nat) (w : World) (hk : k < 4) :
    Calls Try.prog 26 #[.int .i64 (k : Int)] w fun r w' => r = .returned (.pointer (some ⟨w.heap.size, 0, none⟩)) ∧ w' = w.alloc (.cells (lvC k nil64) 83) := by
  have hz := lv_zero
  have hne : (lvC 0 nil64 = #[]) = False := by simp [lvC]
  have hset : (lvC 0 nil64).setIfInBounds 0 (.int .u64 ((6 * k : Nat) : Int)) = lvC k nil64 := by simp [lvC]
  generalize lvC 0 nil64 = Z at *
  generalize lvC k nil64 = Y at *
  obtain rfl | rfl | rfl | rfl : k = 0 ∨ k = 1 ∨ k = 2 ∨ k = 3 := by omega
  · change Z.setIfInBounds 0 (.int .u64 0) = Y at hset
    go_enter Try.func26, Try.ntmps26
    go_wp2
    go_ret
    exact ⟨rfl, rfl⟩
  · change Z.setIfInBounds 0 (.int .u64 6) = Y at hset
    go_enter Try.func26, Try.ntmps26
    go_wp2
    go_ret
    exact ⟨rfl, rfl⟩
  · change Z.setIfInBounds 0 (.int .u64 12) = Y at hset
    go_enter Try.func26, Try.ntmps26
    go_wp2
    go_ret
    exact ⟨rfl, rfl⟩
  · change Z.setIfInBounds 0 (.int .u64 18) = Y at hset
    go_enter Try.func26, Try.ntmps26
    go_wp2
    go_ret
    exact ⟨rfl, rfl⟩

set_option maxRecDepth 100000 in
theorem new_none (n : Int) (w : World) (h : n < 0 ∨ 3 < n) :
    Calls Try.prog 26 #[.int .i64 n] w fun r w' => r = .returned (.pointer none) ∧ w' = w := by
  rcases h with h | h
  · go_enter Try.func26, Try.ntmps26
    go_wp2
    go_ret
    exact ⟨rfl, rfl⟩
  · have h0 : ¬ n < 0 := by omega
    go_enter Try.func26, Try.ntmps26
    go_wp2
    go_ret
    exact ⟨rfl, rfl⟩
end Go.Proofs.Ythidinaflaogfaa
