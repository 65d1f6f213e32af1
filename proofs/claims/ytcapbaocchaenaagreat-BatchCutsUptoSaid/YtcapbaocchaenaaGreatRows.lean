/-
  NARROWER THAN 'FOR EVERY INPUT', by the rows' own cells (each row's printed sentence says how): BatchClones: loops · BatchCuts: loops.
  DERIVED. THE GIVEN ROWS OF THIS SEAT. 3 by the template 'for every input the law returns true; each argument reads behind the call as it read before'; 0 by the template 'total and deterministic' (their statements: YtcapbaocchaenaaGreatTotals.lean).
  GIVEN WITH THE SEED: the statements are not yours to turn. If you find one false, say at which input.
  Laid BY PROGRAM, IN A SANDBOX (cutbox-rows.mjs): the forced cells as the released guide's own fill.sh prints them over the translation a2b674510b8e9397… (all of the seat's roots in one cut). By AI agents, Wed Nov 11 2026. No macro, syntax, notation, axiom, sorry.
-/
import Derived.Test.YtcapbaocchaenaaGreatChecked
import GoSem.Claim
import GoSem.ClaimJoined
import GoSem.ClaimMapViews
import Derived.JoinedTies
import Derived.KernelRfl
namespace Go.Proofs.YtcapbaocchaenaaGreat
/- THE CELL 'sum', in the pinned program and in every row, IS THE sha256 OF THE DUMP (.gsa) THAT YtcapbaocchaenaaGreatProg.lean LOADS. Nothing in Lean hashes anything: it is a label: what it is worth is what the hold of that sum in a sandbox is worth. -/
noncomputable def Tryz.pinned : Pinned := { name := "ytcapbaocchaenaagreat", sum := "a2b674510b8e93971ec903908def794dff96cabe477e0438ed06677e2a815213", checked := Tryz.checked }
namespace Rows
def none {H : Type} : Left H := { results := [], args := [] }

/-- 'clockworklaw13.BatchParses': WHATEVER THE INPUT: true; the input reads as it did. -/
def batchParsesSpec : ChangeSpec := { name := "batchParses", fn := fun _ => fun
  | [d] => { results := [.lit (.bool true)], args := [d] }
  | _ => none }
def batchParsesRow : OpenClaim := { program := "ytcapbaocchaenaagreat", sum := "a2b674510b8e93971ec903908def794dff96cabe477e0438ed06677e2a815213", func := "clockwork/clockworklaw13.BatchParses", spec := "batchParses", inPlace := ["math.Float64bits", "internal/bytealg.abigen_runtime_cmpstring", "math.Float64frombits"], unfollowed := true, recurses := true, apart := false }
def BatchParsesSaid : Prop := batchParsesRow.holds Tryz.pinned (OpenSpec.ofChange batchParsesSpec)

/-- ITS FALSE NEIGHBOUR: 'it returns false'. Refute it at one input. -/
def batchParsesWrong : ChangeSpec := { name := "batchParses", fn := fun _ => fun
  | [d] => { results := [.lit (.bool false)], args := [d] }
  | _ => none }
def BatchParsesWrongFalsely : Prop := batchParsesRow.holds Tryz.pinned (OpenSpec.ofChange batchParsesWrong)

/-- 'clockworklaw13.BatchClones': WHATEVER THE INPUT: true; the input reads as it did. -/
def batchClonesSpec : ChangeSpec := { name := "batchClones", fn := fun _ => fun
  | [d] => { results := [.lit (.bool true)], args := [d] }
  | _ => none }
def batchClonesRow : OpenClaim := { program := "ytcapbaocchaenaagreat", sum := "a2b674510b8e93971ec903908def794dff96cabe477e0438ed06677e2a815213", func := "clockwork/clockworklaw13.BatchClones", spec := "batchClones", inPlace := ["math.Float64bits", "internal/bytealg.abigen_runtime_cmpstring"], unfollowed := true, recurses := true, loops := true, apart := false }
def BatchClonesSaid : Prop := batchClonesRow.holds Tryz.pinned (OpenSpec.ofChange batchClonesSpec)

/-- ITS FALSE NEIGHBOUR: 'it returns false'. Refute it at one input. -/
def batchClonesWrong : ChangeSpec := { name := "batchClones", fn := fun _ => fun
  | [d] => { results := [.lit (.bool false)], args := [d] }
  | _ => none }
def BatchClonesWrongFalsely : Prop := batchClonesRow.holds Tryz.pinned (OpenSpec.ofChange batchClonesWrong)

/-- 'clockworklaw13.BatchCuts': WHATEVER THE INPUT: true; the input reads as it did. -/
def batchCutsSpec : ChangeSpec := { name := "batchCuts", fn := fun _ => fun
  | [d1, d2, d3] => { results := [.lit (.bool true)], args := [d1, d2, d3] }
  | _ => none }
def batchCutsRow : OpenClaim := { program := "ytcapbaocchaenaagreat", sum := "a2b674510b8e93971ec903908def794dff96cabe477e0438ed06677e2a815213", func := "clockwork/clockworklaw13.BatchCuts", spec := "batchCuts", inPlace := ["math.Float64bits", "internal/bytealg.abigen_runtime_cmpstring", "math.Float64frombits"], unfollowed := true, recurses := true, loops := true, apart := false }
def BatchCutsSaid : Prop := batchCutsRow.holds Tryz.pinned (OpenSpec.ofChange batchCutsSpec)

/-- ITS FALSE NEIGHBOUR: 'it returns false'. Refute it at one input. -/
def batchCutsWrong : ChangeSpec := { name := "batchCuts", fn := fun _ => fun
  | [d1, d2, d3] => { results := [.lit (.bool false)], args := [d1, d2, d3] }
  | _ => none }
def BatchCutsWrongFalsely : Prop := batchCutsRow.holds Tryz.pinned (OpenSpec.ofChange batchCutsWrong)

/- THE SECOND FORM. 'bulk': how many values and letters a reading holds, each counted each time it is reached (what is shared counts as often as it is met; a slice's spare places count too). A statement '..UptoSaid' is the law's where the arguments, and the package variables that the reading takes, are together of bulk at most 1048576: NARROWER than '..Said'. Prove '..Said' where nothing that the law and all that it calls make is longer than what came in: it says more and counts as full. Else prove '..UptoSaid'. A law counts once. -/
mutual
def uptoBulk {H : Type} : DataW H → Nat
  | .lit (.string bytes) => bytes.length + 1
  | .lit _ => 1
  | .nil => 1
  | .ptr d => uptoBulk d + 1
  | .slice elems spare => uptoBulkAll elems + uptoBulkAll spare + 1
  | .agg parts => uptoBulkAll parts + 1
  | .iface _ d => uptoBulk d + 1
  | .map entries => uptoBulkEntries entries + 1
  | .held _ => 1
def uptoBulkAll {H : Type} : List (DataW H) → Nat
  | [] => 0
  | d :: r => uptoBulk d + uptoBulkAll r
def uptoBulkEntries {H : Type} : List (Lit × DataW H) → Nat
  | [] => 0
  | x :: r => uptoBulkEntry x + uptoBulkEntries r
def uptoBulkEntry {H : Type} : Lit × DataW H → Nat
  | (.string bytes, d) => bytes.length + uptoBulk d + 1
  | (_, d) => uptoBulk d + 1
 end
def uptoSmall : (H : Type) → List (DataW H) → Bool := fun _ ds => decide (uptoBulkAll ds ≤ 1048576)
def OpenSpec.upto (s : _root_.Go.ChangeSpec) : _root_.Go.OpenSpec := { _root_.Go.OpenSpec.ofChange s with cond := some uptoSmall }

/-- 'clockworklaw13.BatchParses', WHERE WHAT IT READS IS OF BULK AT MOST 1048576: true; the input reads as it did. -/
def batchParsesUptoRow : OpenClaim := { program := "ytcapbaocchaenaagreat", sum := "a2b674510b8e93971ec903908def794dff96cabe477e0438ed06677e2a815213", func := "clockwork/clockworklaw13.BatchParses", spec := "batchParses", inPlace := ["math.Float64bits", "internal/bytealg.abigen_runtime_cmpstring", "math.Float64frombits"], unfollowed := true, recurses := true, apart := false, narrowed := true }
def BatchParsesUptoSaid : Prop := batchParsesUptoRow.holds Tryz.pinned (OpenSpec.upto batchParsesSpec)

/-- 'clockworklaw13.BatchClones', WHERE WHAT IT READS IS OF BULK AT MOST 1048576: true; the input reads as it did. -/
def batchClonesUptoRow : OpenClaim := { program := "ytcapbaocchaenaagreat", sum := "a2b674510b8e93971ec903908def794dff96cabe477e0438ed06677e2a815213", func := "clockwork/clockworklaw13.BatchClones", spec := "batchClones", inPlace := ["math.Float64bits", "internal/bytealg.abigen_runtime_cmpstring"], unfollowed := true, recurses := true, loops := true, apart := false, narrowed := true }
def BatchClonesUptoSaid : Prop := batchClonesUptoRow.holds Tryz.pinned (OpenSpec.upto batchClonesSpec)

/-- 'clockworklaw13.BatchCuts', WHERE WHAT IT READS IS OF BULK AT MOST 1048576: true; the input reads as it did. -/
def batchCutsUptoRow : OpenClaim := { program := "ytcapbaocchaenaagreat", sum := "a2b674510b8e93971ec903908def794dff96cabe477e0438ed06677e2a815213", func := "clockwork/clockworklaw13.BatchCuts", spec := "batchCuts", inPlace := ["math.Float64bits", "internal/bytealg.abigen_runtime_cmpstring", "math.Float64frombits"], unfollowed := true, recurses := true, loops := true, apart := false, narrowed := true }
def BatchCutsUptoSaid : Prop := batchCutsUptoRow.holds Tryz.pinned (OpenSpec.upto batchCutsSpec)

end Rows
end Go.Proofs.YtcapbaocchaenaaGreat
