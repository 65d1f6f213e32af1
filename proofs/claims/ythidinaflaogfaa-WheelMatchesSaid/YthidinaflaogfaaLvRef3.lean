/- The walks of the reference's Of and of the law's Back. -/
import Derived.Test.YthidinaflaogfaaLvRef2
namespace Go.Proofs.Ythidinaflaogfaa
open Go.RowKit

/-- A new row. -/
def NewRow (w : World) (L : List It) (r : Ending) (w' : World) : Prop := ∃ v, r = .returned v ∧ OwnI w' w.heap.size v L ∧ Below w.heap.size w w'

theorem filter_take {l : List It} {j : Nat} {y : It} (P : It → Bool) (h : l[j]? = some y) : (l.take (j + 1)).filter P = if P y = true then (l.take j).filter P ++ [y] else (l.take j).filter P := by
  obtain ⟨hj, rfl⟩ := List.getElem?_eq_some_iff.1 h
  rw [List.take_succ_eq_append_getElem hj, List.filter_append]
  split
  · rename_i hp; simp [hp]
  · rename_i hp; simp [hp]

end Go.Proofs.Ythidinaflaogfaa
