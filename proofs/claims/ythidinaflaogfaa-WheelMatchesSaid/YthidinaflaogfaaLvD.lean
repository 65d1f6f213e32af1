/- The level: the reference's first tick of a slot; the example. -/
import Derived.Test.YthidinaflaogfaaLvC
import Derived.Deep.RegionHeld3
namespace Go.Proofs.Ythidinaflaogfaa
open Go.RowKit

theorem start_lt (k now S : Nat) (hk : k < 4) (hn : now < 18446744073709551616) (hS : S < 64) :
    now / 64 ^ (k + 1) * 64 ^ (k + 1) < 18446744073709551616 ∧ S * 64 ^ k < 18446744073709551616 ∧ now / 64 ^ (k + 1) * 64 ^ (k + 1) + S * 64 ^ k < 18446744073709551616 := by
  obtain rfl | rfl | rfl | rfl : k = 0 ∨ k = 1 ∨ k = 2 ∨ k = 3 := by omega
  all_goals (simp only [Nat.reduceAdd, Nat.reducePow]; omega)

theorem u64_fits (a : Nat) (h : a < 18446744073709551616) : IntKind.u64.wrap ((a : Nat) : Int) = (a : Int) := by rw [IntKind.wrap_u64]; omega

theorem low_new (k : Nat) (w : World) (V : List Value) : Low (w.alloc (.cells (lvC k V) 83)) w.heap.size k := by
  unfold Low
  rw [cell_of_row _ _ _ _ _ (0, 0) (heap_alloc_new _ _)]
  rfl

end Go.Proofs.Ythidinaflaogfaa
