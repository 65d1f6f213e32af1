/- The level: a new one; the reference's slot, turn and first tick. -/
import Derived.Test.YtfahongfokbhbaaLvB
namespace Go.Proofs.Ytfahongfokbhbaa
open Go.RowKit

set_option maxRecDepth 100000 in
theorem rslot_any (k t : Nat) (w : World) (hk : k < 4) (ht : t < 18446744073709551616) :
    Calls Try.prog 10 #[.int .i64 (k : Int), .int .u64 (t : Int)] w (Reads (.int .i64 (slotN k t : Int)) w) := by
  have HW := Lib.hid (fun w => width_any k (by omega) w)
  have hp : 64 ^ k ≤ 16777216 := pow64_le (by omega)
  have hp0 : 0 < 64 ^ k := Nat.pow_pos (by decide)
  obtain ⟨S, hS⟩ : ∃ S, S = slotN k t := ⟨_, rfl⟩
  rw [← hS]
  unfold slotN at hS
  obtain ⟨P, hP⟩ : ∃ P, P = 64 ^ k := ⟨_, rfl⟩
  rw [← hP] at hS hp hp0 HW
  have HS := Lib.hid hS
  clear hS hP
  have hd : t / P ≤ t := Nat.div_le_self _ _
  have hq : ((t : Int) / (P : Int)) = ((t / P : Nat) : Int) := rfl
  generalize t / P = q at *
  have hz : (P : Int) ≠ 0 := by omega
  go_enter Try.func10, Try.ntmps10
  go_wp2_with fail
  refine (HW.out _).mono ?_
  rintro r w1 ⟨rfl, rfl⟩
  go_wp2
  go_ret
  exact ⟨ret_i64 (by have := HS.out; omega), 0, rfl⟩

theorem u64_div (a P : Nat) (ha : a < 18446744073709551616) : IntKind.u64.wrap ((a : Int) / (P : Int)) = ((a / P : Nat) : Int) := by
  have h := Nat.div_le_self a P
  rw [← Int.natCast_ediv]
  generalize a / P = q at *
  rw [IntKind.wrap_u64]
  omega

set_option maxRecDepth 100000 in
theorem rfits_any (k a b : Nat) (w : World) (hk : k < 4) (ha : a < 18446744073709551616) (hb : b < 18446744073709551616) :
    Calls Try.prog 12 #[.int .i64 (k : Int), .int .u64 (a : Int), .int .u64 (b : Int)] w (Reads (.bool (fitsB k a b)) w) := by
  have HW := Lib.hid (fun q => (width_any (k + 1) (by omega) (w.drewN q)).mono fun _ _ h => Reads.same h)
  have e1 : ((k + 1 : Nat) : Int) = (k : Int) + 1 := by omega
  rw [e1] at HW
  have hp0 : 0 < 64 ^ (k + 1) := Nat.pow_pos (by decide)
  obtain ⟨R, hR⟩ : ∃ R, R = fitsB k a b := ⟨_, rfl⟩
  rw [← hR]
  unfold fitsB turnN at hR
  obtain ⟨P, hP⟩ : ∃ P, P = 64 ^ (k + 1) := ⟨_, rfl⟩
  rw [← hP] at hR hp0 HW
  have HR := Lib.hid hR
  clear hR hP
  have hz : (P : Int) ≠ 0 := by omega
  go_enter Try.func12, Try.ntmps12
  go_wp2_with fail
  go_quiet (first | (go_at_call 30; exact Calls.quiet_of (HW.out _)))
  go_wp2
  go_ret
  exact ⟨ret_bool (by rw [u64_div a P ha, u64_div b P hb, HR.out]; rw [Bool.eq_iff_iff]; simp; omega), nq, rfl⟩

/-- The cells of a level. -/
def lvC (k : Nat) (V : List Value) : Array Value := (Value.int .u64 ((6 * k : Nat) : Int) :: V).toArray
/-- Slots without items. -/
def nil64 : List Value := List.replicate 64 (.slice none 0 0)

theorem lv_zero (w : World) : (zeroValue 60).run Try.prog w = .ok (.agg (lvC 0 nil64)) w := by kernel_rfl

set_option maxRecDepth 100000 in
theorem new_any (k : Nat) (w : World) (hk : k < 4) :
    Calls Try.prog 8 #[.int .i64 (k : Int)] w fun r w' => r = .returned (.pointer (some ⟨w.heap.size, 0, none⟩)) ∧ w' = w.alloc (.cells (lvC k nil64) 60) := by
  have hz := lv_zero
  have hne : (lvC 0 nil64 = #[]) = False := by simp [lvC]
  have hset : (lvC 0 nil64).setIfInBounds 0 (.int .u64 ((6 * k : Nat) : Int)) = lvC k nil64 := by simp [lvC]
  generalize lvC 0 nil64 = Z at *
  generalize lvC k nil64 = Y at *
  obtain rfl | rfl | rfl | rfl : k = 0 ∨ k = 1 ∨ k = 2 ∨ k = 3 := by omega
  · change Z.setIfInBounds 0 (.int .u64 0) = Y at hset
    go_enter Try.func8, Try.ntmps8
    go_wp2
    go_ret
    exact ⟨rfl, rfl⟩
  · change Z.setIfInBounds 0 (.int .u64 6) = Y at hset
    go_enter Try.func8, Try.ntmps8
    go_wp2
    go_ret
    exact ⟨rfl, rfl⟩
  · change Z.setIfInBounds 0 (.int .u64 12) = Y at hset
    go_enter Try.func8, Try.ntmps8
    go_wp2
    go_ret
    exact ⟨rfl, rfl⟩
  · change Z.setIfInBounds 0 (.int .u64 18) = Y at hset
    go_enter Try.func8, Try.ntmps8
    go_wp2
    go_ret
    exact ⟨rfl, rfl⟩

set_option maxRecDepth 100000 in
theorem new_none (n : Int) (w : World) (h : n < 0 ∨ 3 < n) :
    Calls Try.prog 8 #[.int .i64 n] w fun r w' => r = .returned (.pointer none) ∧ w' = w := by
  rcases h with h | h
  · go_enter Try.func8, Try.ntmps8
    go_wp2
    go_ret
    exact ⟨rfl, rfl⟩
  · have h0 : ¬ n < 0 := by omega
    go_enter Try.func8, Try.ntmps8
    go_wp2
    go_ret
    exact ⟨rfl, rfl⟩
end Go.Proofs.Ytfahongfokbhbaa
