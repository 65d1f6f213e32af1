/- The level: its number's width, the slot and the turn of a tick; the reference's. -/
import Derived.Test.YtfahongfokbhbaaChecked
import Derived.Test.YtfahongfokbhbaaLift
import Derived.Test.YtfahongfokbhbaaW64
import Derived.WalkMore
import Derived.Below
import Derived.Lib.Hide
namespace Go.Proofs.Ytfahongfokbhbaa
open Go.RowKit

theorem cell_below {w w' : World} (hb : Below w.heap.size w w') {p : Addr} {v : Value} (h : w.cell? p = some v) : w'.cell? p = some v := by
  rw [hb.cell (World.block_lt_of_cell? _ _ h)]; exact h

theorem pow64_le {j : Nat} (h : j ≤ 4) : 64 ^ j ≤ 16777216 := by
  obtain rfl | rfl | rfl | rfl | rfl : j = 0 ∨ j = 1 ∨ j = 2 ∨ j = 3 ∨ j = 4 := by omega
  all_goals decide

set_option maxRecDepth 100000 in
theorem width_any (n : Nat) (hn : n ≤ 4) (w : World) : Calls Try.prog 30 #[.int .i64 (n : Int)] w fun r w' => r = .returned (.int .u64 ((64 ^ n : Nat) : Int)) ∧ w' = w := by
  obtain ⟨V, hV⟩ : ∃ V, V = 64 ^ n := ⟨_, rfl⟩
  rw [← hV]
  have HV := Lib.hid hV
  clear hV
  go_enter Try.func30, Try.ntmps30
  go_wp2
  go_loopw [3, 4] (fun v i wr => ∃ j P : Nat, j ≤ n ∧ i = .int .i64 (j : Int) ∧ v = .int .u64 (P : Int) ∧ P = 64 ^ j ∧ P ≤ 16777216 ∧ wr = w) (fun _ i _ => n - (intOf i).toNat)
  case atStart => exact ⟨0, 1, Nat.zero_le _, rfl, rfl, rfl, by decide, rfl⟩
  case round =>
    obtain ⟨j, P, hj, rfl, rfl, hP, hP4, rfl⟩ := hrel
    by_cases hlt : j < n
    · have hji : (j : Int) < (n : Int) := by omega
      have HP := Lib.hid (show P * 64 = 64 ^ (j + 1) ∧ 64 ^ (j + 1) ≤ 16777216 from ⟨by rw [hP, Nat.pow_succ], pow64_le (by omega)⟩)
      clear hP
      go_wp2
      go_roundw
      case rel => exact ⟨j + 1, P * 64, hlt, by go_num, by go_num, HP.out.1, by rw [HP.out.1]; exact HP.out.2, trivial⟩
      case measure => simp [intOf]; omega
    · have hji : ¬ ((j : Int) < (n : Int)) := by omega
      obtain rfl : j = n := by omega
      have Hg := Lib.hid (show V = P from by rw [HV.out, hP])
      clear hP
      go_wp2
      go_ret
      exact ⟨ret_u64 (by rw [Hg.out]), rfl⟩

/-- The slot of a tick. -/
def slotN (k t : Nat) : Nat := t / 64 ^ k % 64
/-- The turn of a tick. -/
def turnN (k t : Nat) : Nat := t / 64 ^ (k + 1)

theorem slotN_lt (k t : Nat) : slotN k t < 64 := Nat.mod_lt _ (by decide)

/-- The cell of a level that tells its number. -/
def Low (w : World) (d k : Nat) : Prop := w.cell? ⟨d, 0, none⟩ = some (.int .u64 ((6 * k : Nat) : Int))

theorem Low.below {w w' : World} {d k : Nat} (h : Low w d k) (hb : Below w.heap.size w w') : Low w' d k := cell_below hb h

set_option maxRecDepth 100000 in
theorem slot_any (d k t : Nat) (w : World) (hk : k < 4) (ht : t < 18446744073709551616) (h : Low w d k) :
    Calls Try.prog 9 #[.pointer (some ⟨d, 0, none⟩), .int .u64 (t : Int)] w fun r w' => r = .returned (.int .i64 (slotN k t : Int)) ∧ w' = w := by
  unfold Low at h
  have hs := slotN_lt k t
  obtain ⟨S, hS⟩ : ∃ S, S = slotN k t := ⟨_, rfl⟩
  rw [← hS] at hs ⊢
  unfold slotN at hS
  have HS := Lib.hid hS
  clear hS
  obtain rfl | rfl | rfl | rfl : k = 0 ∨ k = 1 ∨ k = 2 ∨ k = 3 := by omega
  · change w.cell? _ = some (.int .u64 0) at h
    go_enter Try.func9, Try.ntmps9
    go_wp2
    go_ret
    exact ⟨ret_i64 (by have := HS.out; omega), rfl⟩
  · change w.cell? _ = some (.int .u64 6) at h
    go_enter Try.func9, Try.ntmps9
    go_wp2
    go_ret
    exact ⟨ret_i64 (by have := HS.out; omega), rfl⟩
  · change w.cell? _ = some (.int .u64 12) at h
    go_enter Try.func9, Try.ntmps9
    go_wp2
    go_ret
    exact ⟨ret_i64 (by have := HS.out; omega), rfl⟩
  · change w.cell? _ = some (.int .u64 18) at h
    go_enter Try.func9, Try.ntmps9
    go_wp2
    go_ret
    exact ⟨ret_i64 (by have := HS.out; omega), rfl⟩
end Go.Proofs.Ytfahongfokbhbaa
