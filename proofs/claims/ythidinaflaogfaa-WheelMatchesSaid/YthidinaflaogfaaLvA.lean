/- The level: its number's width, the slot and the turn of a tick; the reference's. -/
import Derived.Test.YthidinaflaogfaaChecked
import Derived.Test.YthidinaflaogfaaLift
import Derived.Test.YthidinaflaogfaaW64
import Derived.WalkMore
import Derived.Below
import Derived.Lib.Hide
namespace Go.Proofs.Ythidinaflaogfaa
open Go.RowKit

theorem cell_below {w w' : World} (hb : Below w.heap.size w w') {p : Addr} {v : Value} (h : w.cell? p = some v) : w'.cell? p = some v := by
  rw [hb.cell (World.block_lt_of_cell? _ _ h)]; exact h

theorem pow64_le {j : Nat} (h : j ≤ 4) : 64 ^ j ≤ 16777216 := by
  obtain rfl | rfl | rfl | rfl | rfl : j = 0 ∨ j = 1 ∨ j = 2 ∨ j = 3 ∨ j = 4 := by omega
  all_goals decide

/-- The slot of a tick. -/
def slotN (k t : Nat) : Nat := t / 64 ^ k % 64
/-- The turn of a tick. -/
def turnN (k t : Nat) : Nat := t / 64 ^ (k + 1)

theorem slotN_lt (k t : Nat) : slotN k t < 64 := Nat.mod_lt _ (by decide)

/-- The cell of a level that tells its number. -/
def Low (w : World) (d k : Nat) : Prop := w.cell? ⟨d, 0, none⟩ = some (.int .u64 ((6 * k : Nat) : Int))

theorem Low.below {w w' : World} {d k : Nat} (h : Low w d k) (hb : Below w.heap.size w w') : Low w' d k := cell_below hb h

set_option maxRecDepth 100000 in
theorem slot_any (d k t : Nat) (w : World) (hk : k < 4) (ht : t < 18446744073709551616) (h : Low w d k) :
    Calls Try.prog 41 #[.pointer (some ⟨d, 0, none⟩), .int .u64 (t : Int)] w fun r w' => r = .returned (.int .i64 (slotN k t : Int)) ∧ w' = w := by
  unfold Low at h
  have hs := slotN_lt k t
  obtain ⟨S, hS⟩ : ∃ S, S = slotN k t := ⟨_, rfl⟩
  rw [← hS] at hs ⊢
  unfold slotN at hS
  have HS := Lib.hid hS
  clear hS
  obtain rfl | rfl | rfl | rfl : k = 0 ∨ k = 1 ∨ k = 2 ∨ k = 3 := by omega
  · change w.cell? _ = some (.int .u64 0) at h
    go_enter Try.func41, Try.ntmps41
    go_wp2
    go_ret
    exact ⟨ret_i64 (by have := HS.out; omega), rfl⟩
  · change w.cell? _ = some (.int .u64 6) at h
    go_enter Try.func41, Try.ntmps41
    go_wp2
    go_ret
    exact ⟨ret_i64 (by have := HS.out; omega), rfl⟩
  · change w.cell? _ = some (.int .u64 12) at h
    go_enter Try.func41, Try.ntmps41
    go_wp2
    go_ret
    exact ⟨ret_i64 (by have := HS.out; omega), rfl⟩
  · change w.cell? _ = some (.int .u64 18) at h
    go_enter Try.func41, Try.ntmps41
    go_wp2
    go_ret
    exact ⟨ret_i64 (by have := HS.out; omega), rfl⟩
end Go.Proofs.Ythidinaflaogfaa
