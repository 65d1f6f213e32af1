/-
  No cell of these rows narrows 'for every input' (looked for: loops, veiled, ifaces, maps, wideKeys, modest, calm, conditions, laid).
  DERIVED. THE GIVEN ROWS OF THIS SEAT. 4 by the template 'for every input the law returns true; each argument reads behind the call as it read before'; 0 by the template 'total and deterministic' (their statements: YtdflfimclgapnaaTotals.lean).
  GIVEN WITH THE SEED: the statements are not yours to turn. If you find one false, say at which input.
  Laid BY PROGRAM, IN A SANDBOX (cutbox-rows.mjs): the forced cells as the released guide's own fill.sh prints them over the translation c53d3af43262f68f… (all of the seat's roots in one cut). By AI agents, Wed Nov 11 2026. No macro, syntax, notation, axiom, sorry.
-/
import Derived.Test.YtdflfimclgapnaaChecked
import GoSem.Claim
import GoSem.ClaimJoined
import GoSem.ClaimMapViews
import Derived.JoinedTies
import Derived.KernelRfl
namespace Go.Proofs.Ytdflfimclgapnaa
/- THE CELL 'sum', in the pinned program and in every row, IS THE sha256 OF THE DUMP (.gsa) THAT YtdflfimclgapnaaProg.lean LOADS. Nothing in Lean hashes anything: it is a label: what it is worth is what the hold of that sum in a sandbox is worth. -/
noncomputable def Try.pinned : Pinned := { name := "ytdflfimclgapnaa", sum := "c53d3af43262f68ffb6f465c2f5eee511e1037f3a547e417db648cbe8b4e77f1", checked := Try.checked }
namespace Rows
def none {H : Type} : Left H := { results := [], args := [] }

/-- 'clockworklaw07.SegmentNames': WHATEVER THE INPUT: true; the input reads as it did. -/
def segmentNamesSpec : ChangeSpec := { name := "segmentNames", fn := fun _ => fun
  | [d] => { results := [.lit (.bool true)], args := [d] }
  | _ => none }
def segmentNamesRow : OpenClaim := { program := "ytdflfimclgapnaa", sum := "c53d3af43262f68ffb6f465c2f5eee511e1037f3a547e417db648cbe8b4e77f1", func := "clockwork/clockworklaw07.SegmentNames", spec := "segmentNames", apart := false }
def SegmentNamesSaid : Prop := segmentNamesRow.holds Try.pinned (OpenSpec.ofChange segmentNamesSpec)

/-- ITS FALSE NEIGHBOUR: 'it returns false'. Refute it at one input. -/
def segmentNamesWrong : ChangeSpec := { name := "segmentNames", fn := fun _ => fun
  | [d] => { results := [.lit (.bool false)], args := [d] }
  | _ => none }
def SegmentNamesWrongFalsely : Prop := segmentNamesRow.holds Try.pinned (OpenSpec.ofChange segmentNamesWrong)

/-- 'clockworklaw07.SegmentNumbers': WHATEVER THE INPUT: true; the input reads as it did. -/
def segmentNumbersSpec : ChangeSpec := { name := "segmentNumbers", fn := fun _ => fun
  | [d] => { results := [.lit (.bool true)], args := [d] }
  | _ => none }
def segmentNumbersRow : OpenClaim := { program := "ytdflfimclgapnaa", sum := "c53d3af43262f68ffb6f465c2f5eee511e1037f3a547e417db648cbe8b4e77f1", func := "clockwork/clockworklaw07.SegmentNumbers", spec := "segmentNumbers", apart := false }
def SegmentNumbersSaid : Prop := segmentNumbersRow.holds Try.pinned (OpenSpec.ofChange segmentNumbersSpec)

/-- ITS FALSE NEIGHBOUR: 'it returns false'. Refute it at one input. -/
def segmentNumbersWrong : ChangeSpec := { name := "segmentNumbers", fn := fun _ => fun
  | [d] => { results := [.lit (.bool false)], args := [d] }
  | _ => none }
def SegmentNumbersWrongFalsely : Prop := segmentNumbersRow.holds Try.pinned (OpenSpec.ofChange segmentNumbersWrong)

/-- 'clockworklaw07.SegmentLists': WHATEVER THE INPUT: true; the input reads as it did. -/
def segmentListsSpec : ChangeSpec := { name := "segmentLists", fn := fun _ => fun
  | [d] => { results := [.lit (.bool true)], args := [d] }
  | _ => none }
def segmentListsRow : OpenClaim := { program := "ytdflfimclgapnaa", sum := "c53d3af43262f68ffb6f465c2f5eee511e1037f3a547e417db648cbe8b4e77f1", func := "clockwork/clockworklaw07.SegmentLists", spec := "segmentLists", recurses := true, apart := false }
def SegmentListsSaid : Prop := segmentListsRow.holds Try.pinned (OpenSpec.ofChange segmentListsSpec)

/-- ITS FALSE NEIGHBOUR: 'it returns false'. Refute it at one input. -/
def segmentListsWrong : ChangeSpec := { name := "segmentLists", fn := fun _ => fun
  | [d] => { results := [.lit (.bool false)], args := [d] }
  | _ => none }
def SegmentListsWrongFalsely : Prop := segmentListsRow.holds Try.pinned (OpenSpec.ofChange segmentListsWrong)

/-- 'clockworklaw07.SegmentOrders': WHATEVER THE INPUT: true; the input reads as it did. -/
def segmentOrdersSpec : ChangeSpec := { name := "segmentOrders", fn := fun _ => fun
  | [d1, d2] => { results := [.lit (.bool true)], args := [d1, d2] }
  | _ => none }
def segmentOrdersRow : OpenClaim := { program := "ytdflfimclgapnaa", sum := "c53d3af43262f68ffb6f465c2f5eee511e1037f3a547e417db648cbe8b4e77f1", func := "clockwork/clockworklaw07.SegmentOrders", spec := "segmentOrders", apart := false }
def SegmentOrdersSaid : Prop := segmentOrdersRow.holds Try.pinned (OpenSpec.ofChange segmentOrdersSpec)

/-- ITS FALSE NEIGHBOUR: 'it returns false'. Refute it at one input. -/
def segmentOrdersWrong : ChangeSpec := { name := "segmentOrders", fn := fun _ => fun
  | [d1, d2] => { results := [.lit (.bool false)], args := [d1, d2] }
  | _ => none }
def SegmentOrdersWrongFalsely : Prop := segmentOrdersRow.holds Try.pinned (OpenSpec.ofChange segmentOrdersWrong)

/- THE SECOND FORM. 'bulk': how many values and letters a reading holds, each counted each time it is reached (what is shared counts as often as it is met; a slice's spare places count too). A statement '..UptoSaid' is the law's where the arguments, and the package variables that the reading takes, are together of bulk at most 1048576: NARROWER than '..Said'. Prove '..Said' where nothing that the law and all that it calls make is longer than what came in: it says more and counts as full. Else prove '..UptoSaid'. A law counts once. -/
mutual
def uptoBulk {H : Type} : DataW H → Nat
  | .lit (.string bytes) => bytes.length + 1
  | .lit _ => 1
  | .nil => 1
  | .ptr d => uptoBulk d + 1
  | .slice elems spare => uptoBulkAll elems + uptoBulkAll spare + 1
  | .agg parts => uptoBulkAll parts + 1
  | .iface _ d => uptoBulk d + 1
  | .map entries => uptoBulkEntries entries + 1
  | .held _ => 1
def uptoBulkAll {H : Type} : List (DataW H) → Nat
  | [] => 0
  | d :: r => uptoBulk d + uptoBulkAll r
def uptoBulkEntries {H : Type} : List (Lit × DataW H) → Nat
  | [] => 0
  | x :: r => uptoBulkEntry x + uptoBulkEntries r
def uptoBulkEntry {H : Type} : Lit × DataW H → Nat
  | (.string bytes, d) => bytes.length + uptoBulk d + 1
  | (_, d) => uptoBulk d + 1
 end
def uptoSmall : (H : Type) → List (DataW H) → Bool := fun _ ds => decide (uptoBulkAll ds ≤ 1048576)
def OpenSpec.upto (s : _root_.Go.ChangeSpec) : _root_.Go.OpenSpec := { _root_.Go.OpenSpec.ofChange s with cond := some uptoSmall }

/-- 'clockworklaw07.SegmentNames', WHERE WHAT IT READS IS OF BULK AT MOST 1048576: true; the input reads as it did. -/
def segmentNamesUptoRow : OpenClaim := { program := "ytdflfimclgapnaa", sum := "c53d3af43262f68ffb6f465c2f5eee511e1037f3a547e417db648cbe8b4e77f1", func := "clockwork/clockworklaw07.SegmentNames", spec := "segmentNames", apart := false, narrowed := true }
def SegmentNamesUptoSaid : Prop := segmentNamesUptoRow.holds Try.pinned (OpenSpec.upto segmentNamesSpec)

/-- 'clockworklaw07.SegmentNumbers', WHERE WHAT IT READS IS OF BULK AT MOST 1048576: true; the input reads as it did. -/
def segmentNumbersUptoRow : OpenClaim := { program := "ytdflfimclgapnaa", sum := "c53d3af43262f68ffb6f465c2f5eee511e1037f3a547e417db648cbe8b4e77f1", func := "clockwork/clockworklaw07.SegmentNumbers", spec := "segmentNumbers", apart := false, narrowed := true }
def SegmentNumbersUptoSaid : Prop := segmentNumbersUptoRow.holds Try.pinned (OpenSpec.upto segmentNumbersSpec)

/-- 'clockworklaw07.SegmentLists', WHERE WHAT IT READS IS OF BULK AT MOST 1048576: true; the input reads as it did. -/
def segmentListsUptoRow : OpenClaim := { program := "ytdflfimclgapnaa", sum := "c53d3af43262f68ffb6f465c2f5eee511e1037f3a547e417db648cbe8b4e77f1", func := "clockwork/clockworklaw07.SegmentLists", spec := "segmentLists", recurses := true, apart := false, narrowed := true }
def SegmentListsUptoSaid : Prop := segmentListsUptoRow.holds Try.pinned (OpenSpec.upto segmentListsSpec)

/-- 'clockworklaw07.SegmentOrders', WHERE WHAT IT READS IS OF BULK AT MOST 1048576: true; the input reads as it did. -/
def segmentOrdersUptoRow : OpenClaim := { program := "ytdflfimclgapnaa", sum := "c53d3af43262f68ffb6f465c2f5eee511e1037f3a547e417db648cbe8b4e77f1", func := "clockwork/clockworklaw07.SegmentOrders", spec := "segmentOrders", apart := false, narrowed := true }
def SegmentOrdersUptoSaid : Prop := segmentOrdersUptoRow.holds Try.pinned (OpenSpec.upto segmentOrdersSpec)

end Rows
end Go.Proofs.Ytdflfimclgapnaa
