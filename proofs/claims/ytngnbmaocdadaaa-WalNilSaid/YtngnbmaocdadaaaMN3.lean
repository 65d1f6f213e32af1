import Derived.Test.YtngnbmaocdadaaaMN1
/- The walk of bytes.Equal. -/
namespace Go.Proofs.Ytngnbmaocdadaaa
open Go.RowKit

end Go.Proofs.Ytngnbmaocdadaaa

/- The walk of slices.Clone of bytes. -/
namespace Go.Proofs.Ytngnbmaocdadaaa
open Go.RowKit

end Go.Proofs.Ytngnbmaocdadaaa

/- The walk of slices.Equal of bytes. -/
namespace Go.Proofs.Ytngnbmaocdadaaa
open Go.RowKit

theorem take_next {l l' : List Nat} {k : Nat} (h : k < l.length) (h' : k < l'.length) (ht : l.take k = l'.take k) (hx : l.getD k 0 = l'.getD k 0) : l.take (k + 1) = l'.take (k + 1) := by
  rw [List.take_succ_eq_append_getElem h, List.take_succ_eq_append_getElem h', ht]
  rw [List.getD_eq_getElem?_getD, List.getElem?_eq_getElem h, List.getD_eq_getElem?_getD, List.getElem?_eq_getElem h'] at hx
  have hx : l[k] = l'[k] := hx
  rw [hx]

def EqRel (w : World) (n : Nat) (l l' : List Nat) (i : Value) (wr : World) : Prop := ∃ k : Nat, k ≤ n ∧ i = .int .i64 k ∧ l.take k = l'.take k ∧ Below w.heap.size w wr

end Go.Proofs.Ytngnbmaocdadaaa

/- What the statements on sealed bytes want of appending, copying and comparing. -/

