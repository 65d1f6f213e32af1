/-
  No cell of these rows narrows 'for every input' (looked for: loops, veiled, ifaces, maps, wideKeys, modest, calm, conditions, laid).
  DERIVED. THE GIVEN ROWS OF THIS SEAT. 9 by the template 'for every input the law returns true; each argument reads behind the call as it read before'; 0 by the template 'total and deterministic' (their statements: YtehjgkkcpiblcaaGreatTotals.lean).
  GIVEN WITH THE SEED: the statements are not yours to turn. If you find one false, say at which input.
  Laid BY PROGRAM, IN A SANDBOX (cutbox-rows.mjs): the forced cells as the released guide's own fill.sh prints them over the translation 99026bc817c71f82… (all of the seat's roots in one cut). By AI agents, Wed Nov 11 2026. No macro, syntax, notation, axiom, sorry.
-/
import Derived.Test.YtehjgkkcpiblcaaGreatChecked
import GoSem.Claim
import GoSem.ClaimJoined
import GoSem.ClaimMapViews
import Derived.JoinedTies
import Derived.KernelRfl
namespace Go.Proofs.YtehjgkkcpiblcaaGreat
/- THE CELL 'sum', in the pinned program and in every row, IS THE sha256 OF THE DUMP (.gsa) THAT YtehjgkkcpiblcaaGreatProg.lean LOADS. Nothing in Lean hashes anything: it is a label: what it is worth is what the hold of that sum in a sandbox is worth. -/
noncomputable def Tryz.pinned : Pinned := { name := "ytehjgkkcpiblcaagreat", sum := "99026bc817c71f82ed8954a01bf66b964d3b57b595a04b8ffa89fed1e6612be0", checked := Tryz.checked }
namespace Rows
def none {H : Type} : Left H := { results := [], args := [] }

/-- 'clockworklaw08.WalMatches': WHATEVER THE INPUT: true; the input reads as it did. -/
def walMatchesSpec : ChangeSpec := { name := "walMatches", fn := fun _ => fun
  | [d1, d2, d3] => { results := [.lit (.bool true)], args := [d1, d2, d3] }
  | _ => none }
def walMatchesRow : OpenClaim := { program := "ytehjgkkcpiblcaagreat", sum := "99026bc817c71f82ed8954a01bf66b964d3b57b595a04b8ffa89fed1e6612be0", func := "clockwork/clockworklaw08.WalMatches", spec := "walMatches", unfollowed := true, recurses := true, apart := false }
def WalMatchesSaid : Prop := walMatchesRow.holds Tryz.pinned (OpenSpec.ofChange walMatchesSpec)

/-- ITS FALSE NEIGHBOUR: 'it returns false'. Refute it at one input. -/
def walMatchesWrong : ChangeSpec := { name := "walMatches", fn := fun _ => fun
  | [d1, d2, d3] => { results := [.lit (.bool false)], args := [d1, d2, d3] }
  | _ => none }
def WalMatchesWrongFalsely : Prop := walMatchesRow.holds Tryz.pinned (OpenSpec.ofChange walMatchesWrong)

/-- 'clockworklaw08.WalRecords': WHATEVER THE INPUT: true; the input reads as it did. -/
def walRecordsSpec : ChangeSpec := { name := "walRecords", fn := fun _ => fun
  | [d1, d2] => { results := [.lit (.bool true)], args := [d1, d2] }
  | _ => none }
def walRecordsRow : OpenClaim := { program := "ytehjgkkcpiblcaagreat", sum := "99026bc817c71f82ed8954a01bf66b964d3b57b595a04b8ffa89fed1e6612be0", func := "clockwork/clockworklaw08.WalRecords", spec := "walRecords", unfollowed := true, recurses := true, apart := false }
def WalRecordsSaid : Prop := walRecordsRow.holds Tryz.pinned (OpenSpec.ofChange walRecordsSpec)

/-- ITS FALSE NEIGHBOUR: 'it returns false'. Refute it at one input. -/
def walRecordsWrong : ChangeSpec := { name := "walRecords", fn := fun _ => fun
  | [d1, d2] => { results := [.lit (.bool false)], args := [d1, d2] }
  | _ => none }
def WalRecordsWrongFalsely : Prop := walRecordsRow.holds Tryz.pinned (OpenSpec.ofChange walRecordsWrong)

/-- 'clockworklaw08.WalDurable': WHATEVER THE INPUT: true; the input reads as it did. -/
def walDurableSpec : ChangeSpec := { name := "walDurable", fn := fun _ => fun
  | [d1, d2, d3] => { results := [.lit (.bool true)], args := [d1, d2, d3] }
  | _ => none }
def walDurableRow : OpenClaim := { program := "ytehjgkkcpiblcaagreat", sum := "99026bc817c71f82ed8954a01bf66b964d3b57b595a04b8ffa89fed1e6612be0", func := "clockwork/clockworklaw08.WalDurable", spec := "walDurable", unfollowed := true, recurses := true, apart := false }
def WalDurableSaid : Prop := walDurableRow.holds Tryz.pinned (OpenSpec.ofChange walDurableSpec)

/-- ITS FALSE NEIGHBOUR: 'it returns false'. Refute it at one input. -/
def walDurableWrong : ChangeSpec := { name := "walDurable", fn := fun _ => fun
  | [d1, d2, d3] => { results := [.lit (.bool false)], args := [d1, d2, d3] }
  | _ => none }
def WalDurableWrongFalsely : Prop := walDurableRow.holds Tryz.pinned (OpenSpec.ofChange walDurableWrong)

/-- 'clockworklaw08.WalRotates': WHATEVER THE INPUT: true; the input reads as it did. -/
def walRotatesSpec : ChangeSpec := { name := "walRotates", fn := fun _ => fun
  | [d1, d2] => { results := [.lit (.bool true)], args := [d1, d2] }
  | _ => none }
def walRotatesRow : OpenClaim := { program := "ytehjgkkcpiblcaagreat", sum := "99026bc817c71f82ed8954a01bf66b964d3b57b595a04b8ffa89fed1e6612be0", func := "clockwork/clockworklaw08.WalRotates", spec := "walRotates", unfollowed := true, recurses := true, apart := false }
def WalRotatesSaid : Prop := walRotatesRow.holds Tryz.pinned (OpenSpec.ofChange walRotatesSpec)

/-- ITS FALSE NEIGHBOUR: 'it returns false'. Refute it at one input. -/
def walRotatesWrong : ChangeSpec := { name := "walRotates", fn := fun _ => fun
  | [d1, d2] => { results := [.lit (.bool false)], args := [d1, d2] }
  | _ => none }
def WalRotatesWrongFalsely : Prop := walRotatesRow.holds Tryz.pinned (OpenSpec.ofChange walRotatesWrong)

/-- 'clockworklaw09.ScanLooks': WHATEVER THE INPUT: true; the input reads as it did. -/
def scanLooksSpec : ChangeSpec := { name := "scanLooks", fn := fun _ => fun
  | [d1, d2] => { results := [.lit (.bool true)], args := [d1, d2] }
  | _ => none }
def scanLooksRow : OpenClaim := { program := "ytehjgkkcpiblcaagreat", sum := "99026bc817c71f82ed8954a01bf66b964d3b57b595a04b8ffa89fed1e6612be0", func := "clockwork/clockworklaw09.ScanLooks", spec := "scanLooks", unfollowed := true, recurses := true, apart := false }
def ScanLooksSaid : Prop := scanLooksRow.holds Tryz.pinned (OpenSpec.ofChange scanLooksSpec)

/-- ITS FALSE NEIGHBOUR: 'it returns false'. Refute it at one input. -/
def scanLooksWrong : ChangeSpec := { name := "scanLooks", fn := fun _ => fun
  | [d1, d2] => { results := [.lit (.bool false)], args := [d1, d2] }
  | _ => none }
def ScanLooksWrongFalsely : Prop := scanLooksRow.holds Tryz.pinned (OpenSpec.ofChange scanLooksWrong)

/-- 'clockworklaw09.ScanOpens': WHATEVER THE INPUT: true; the input reads as it did. -/
def scanOpensSpec : ChangeSpec := { name := "scanOpens", fn := fun _ => fun
  | [d1, d2, d3] => { results := [.lit (.bool true)], args := [d1, d2, d3] }
  | _ => none }
def scanOpensRow : OpenClaim := { program := "ytehjgkkcpiblcaagreat", sum := "99026bc817c71f82ed8954a01bf66b964d3b57b595a04b8ffa89fed1e6612be0", func := "clockwork/clockworklaw09.ScanOpens", spec := "scanOpens", unfollowed := true, recurses := true, apart := false }
def ScanOpensSaid : Prop := scanOpensRow.holds Tryz.pinned (OpenSpec.ofChange scanOpensSpec)

/-- ITS FALSE NEIGHBOUR: 'it returns false'. Refute it at one input. -/
def scanOpensWrong : ChangeSpec := { name := "scanOpens", fn := fun _ => fun
  | [d1, d2, d3] => { results := [.lit (.bool false)], args := [d1, d2, d3] }
  | _ => none }
def ScanOpensWrongFalsely : Prop := scanOpensRow.holds Tryz.pinned (OpenSpec.ofChange scanOpensWrong)

/-- 'clockworklaw09.ScanAgain': WHATEVER THE INPUT: true; the input reads as it did. -/
def scanAgainSpec : ChangeSpec := { name := "scanAgain", fn := fun _ => fun
  | [d1, d2, d3] => { results := [.lit (.bool true)], args := [d1, d2, d3] }
  | _ => none }
def scanAgainRow : OpenClaim := { program := "ytehjgkkcpiblcaagreat", sum := "99026bc817c71f82ed8954a01bf66b964d3b57b595a04b8ffa89fed1e6612be0", func := "clockwork/clockworklaw09.ScanAgain", spec := "scanAgain", unfollowed := true, recurses := true, apart := false }
def ScanAgainSaid : Prop := scanAgainRow.holds Tryz.pinned (OpenSpec.ofChange scanAgainSpec)

/-- ITS FALSE NEIGHBOUR: 'it returns false'. Refute it at one input. -/
def scanAgainWrong : ChangeSpec := { name := "scanAgain", fn := fun _ => fun
  | [d1, d2, d3] => { results := [.lit (.bool false)], args := [d1, d2, d3] }
  | _ => none }
def ScanAgainWrongFalsely : Prop := scanAgainRow.holds Tryz.pinned (OpenSpec.ofChange scanAgainWrong)

/-- 'clockworklaw09.ScanBegins': WHATEVER THE INPUT: true; the input reads as it did. -/
def scanBeginsSpec : ChangeSpec := { name := "scanBegins", fn := fun _ => fun
  | [d1, d2, d3] => { results := [.lit (.bool true)], args := [d1, d2, d3] }
  | _ => none }
def scanBeginsRow : OpenClaim := { program := "ytehjgkkcpiblcaagreat", sum := "99026bc817c71f82ed8954a01bf66b964d3b57b595a04b8ffa89fed1e6612be0", func := "clockwork/clockworklaw09.ScanBegins", spec := "scanBegins", unfollowed := true, recurses := true, apart := false }
def ScanBeginsSaid : Prop := scanBeginsRow.holds Tryz.pinned (OpenSpec.ofChange scanBeginsSpec)

/-- ITS FALSE NEIGHBOUR: 'it returns false'. Refute it at one input. -/
def scanBeginsWrong : ChangeSpec := { name := "scanBegins", fn := fun _ => fun
  | [d1, d2, d3] => { results := [.lit (.bool false)], args := [d1, d2, d3] }
  | _ => none }
def ScanBeginsWrongFalsely : Prop := scanBeginsRow.holds Tryz.pinned (OpenSpec.ofChange scanBeginsWrong)

/-- 'clockworklaw09.ScanNil': WHATEVER THE INPUT: true; the input reads as it did. -/
def scanNilSpec : ChangeSpec := { name := "scanNil", fn := fun _ => fun
  | [d] => { results := [.lit (.bool true)], args := [d] }
  | _ => none }
def scanNilRow : OpenClaim := { program := "ytehjgkkcpiblcaagreat", sum := "99026bc817c71f82ed8954a01bf66b964d3b57b595a04b8ffa89fed1e6612be0", func := "clockwork/clockworklaw09.ScanNil", spec := "scanNil", unfollowed := true, recurses := true, apart := false }
def ScanNilSaid : Prop := scanNilRow.holds Tryz.pinned (OpenSpec.ofChange scanNilSpec)

/-- ITS FALSE NEIGHBOUR: 'it returns false'. Refute it at one input. -/
def scanNilWrong : ChangeSpec := { name := "scanNil", fn := fun _ => fun
  | [d] => { results := [.lit (.bool false)], args := [d] }
  | _ => none }
def ScanNilWrongFalsely : Prop := scanNilRow.holds Tryz.pinned (OpenSpec.ofChange scanNilWrong)

/- THE SECOND FORM. 'bulk': how many values and letters a reading holds, each counted each time it is reached (what is shared counts as often as it is met; a slice's spare places count too). A statement '..UptoSaid' is the law's where the arguments, and the package variables that the reading takes, are together of bulk at most 1048576: NARROWER than '..Said'. Prove '..Said' where nothing that the law and all that it calls make is longer than what came in: it says more and counts as full. Else prove '..UptoSaid'. A law counts once. -/
mutual
def uptoBulk {H : Type} : DataW H → Nat
  | .lit (.string bytes) => bytes.length + 1
  | .lit _ => 1
  | .nil => 1
  | .ptr d => uptoBulk d + 1
  | .slice elems spare => uptoBulkAll elems + uptoBulkAll spare + 1
  | .agg parts => uptoBulkAll parts + 1
  | .iface _ d => uptoBulk d + 1
  | .map entries => uptoBulkEntries entries + 1
  | .held _ => 1
def uptoBulkAll {H : Type} : List (DataW H) → Nat
  | [] => 0
  | d :: r => uptoBulk d + uptoBulkAll r
def uptoBulkEntries {H : Type} : List (Lit × DataW H) → Nat
  | [] => 0
  | x :: r => uptoBulkEntry x + uptoBulkEntries r
def uptoBulkEntry {H : Type} : Lit × DataW H → Nat
  | (.string bytes, d) => bytes.length + uptoBulk d + 1
  | (_, d) => uptoBulk d + 1
 end
def uptoSmall : (H : Type) → List (DataW H) → Bool := fun _ ds => decide (uptoBulkAll ds ≤ 1048576)
def OpenSpec.upto (s : _root_.Go.ChangeSpec) : _root_.Go.OpenSpec := { _root_.Go.OpenSpec.ofChange s with cond := some uptoSmall }

/-- 'clockworklaw08.WalMatches', WHERE WHAT IT READS IS OF BULK AT MOST 1048576: true; the input reads as it did. -/
def walMatchesUptoRow : OpenClaim := { program := "ytehjgkkcpiblcaagreat", sum := "99026bc817c71f82ed8954a01bf66b964d3b57b595a04b8ffa89fed1e6612be0", func := "clockwork/clockworklaw08.WalMatches", spec := "walMatches", unfollowed := true, recurses := true, apart := false, narrowed := true }
def WalMatchesUptoSaid : Prop := walMatchesUptoRow.holds Tryz.pinned (OpenSpec.upto walMatchesSpec)

/-- 'clockworklaw08.WalRecords', WHERE WHAT IT READS IS OF BULK AT MOST 1048576: true; the input reads as it did. -/
def walRecordsUptoRow : OpenClaim := { program := "ytehjgkkcpiblcaagreat", sum := "99026bc817c71f82ed8954a01bf66b964d3b57b595a04b8ffa89fed1e6612be0", func := "clockwork/clockworklaw08.WalRecords", spec := "walRecords", unfollowed := true, recurses := true, apart := false, narrowed := true }
def WalRecordsUptoSaid : Prop := walRecordsUptoRow.holds Tryz.pinned (OpenSpec.upto walRecordsSpec)

/-- 'clockworklaw08.WalDurable', WHERE WHAT IT READS IS OF BULK AT MOST 1048576: true; the input reads as it did. -/
def walDurableUptoRow : OpenClaim := { program := "ytehjgkkcpiblcaagreat", sum := "99026bc817c71f82ed8954a01bf66b964d3b57b595a04b8ffa89fed1e6612be0", func := "clockwork/clockworklaw08.WalDurable", spec := "walDurable", unfollowed := true, recurses := true, apart := false, narrowed := true }
def WalDurableUptoSaid : Prop := walDurableUptoRow.holds Tryz.pinned (OpenSpec.upto walDurableSpec)

/-- 'clockworklaw08.WalRotates', WHERE WHAT IT READS IS OF BULK AT MOST 1048576: true; the input reads as it did. -/
def walRotatesUptoRow : OpenClaim := { program := "ytehjgkkcpiblcaagreat", sum := "99026bc817c71f82ed8954a01bf66b964d3b57b595a04b8ffa89fed1e6612be0", func := "clockwork/clockworklaw08.WalRotates", spec := "walRotates", unfollowed := true, recurses := true, apart := false, narrowed := true }
def WalRotatesUptoSaid : Prop := walRotatesUptoRow.holds Tryz.pinned (OpenSpec.upto walRotatesSpec)

/-- 'clockworklaw09.ScanLooks', WHERE WHAT IT READS IS OF BULK AT MOST 1048576: true; the input reads as it did. -/
def scanLooksUptoRow : OpenClaim := { program := "ytehjgkkcpiblcaagreat", sum := "99026bc817c71f82ed8954a01bf66b964d3b57b595a04b8ffa89fed1e6612be0", func := "clockwork/clockworklaw09.ScanLooks", spec := "scanLooks", unfollowed := true, recurses := true, apart := false, narrowed := true }
def ScanLooksUptoSaid : Prop := scanLooksUptoRow.holds Tryz.pinned (OpenSpec.upto scanLooksSpec)

/-- 'clockworklaw09.ScanOpens', WHERE WHAT IT READS IS OF BULK AT MOST 1048576: true; the input reads as it did. -/
def scanOpensUptoRow : OpenClaim := { program := "ytehjgkkcpiblcaagreat", sum := "99026bc817c71f82ed8954a01bf66b964d3b57b595a04b8ffa89fed1e6612be0", func := "clockwork/clockworklaw09.ScanOpens", spec := "scanOpens", unfollowed := true, recurses := true, apart := false, narrowed := true }
def ScanOpensUptoSaid : Prop := scanOpensUptoRow.holds Tryz.pinned (OpenSpec.upto scanOpensSpec)

/-- 'clockworklaw09.ScanAgain', WHERE WHAT IT READS IS OF BULK AT MOST 1048576: true; the input reads as it did. -/
def scanAgainUptoRow : OpenClaim := { program := "ytehjgkkcpiblcaagreat", sum := "99026bc817c71f82ed8954a01bf66b964d3b57b595a04b8ffa89fed1e6612be0", func := "clockwork/clockworklaw09.ScanAgain", spec := "scanAgain", unfollowed := true, recurses := true, apart := false, narrowed := true }
def ScanAgainUptoSaid : Prop := scanAgainUptoRow.holds Tryz.pinned (OpenSpec.upto scanAgainSpec)

/-- 'clockworklaw09.ScanBegins', WHERE WHAT IT READS IS OF BULK AT MOST 1048576: true; the input reads as it did. -/
def scanBeginsUptoRow : OpenClaim := { program := "ytehjgkkcpiblcaagreat", sum := "99026bc817c71f82ed8954a01bf66b964d3b57b595a04b8ffa89fed1e6612be0", func := "clockwork/clockworklaw09.ScanBegins", spec := "scanBegins", unfollowed := true, recurses := true, apart := false, narrowed := true }
def ScanBeginsUptoSaid : Prop := scanBeginsUptoRow.holds Tryz.pinned (OpenSpec.upto scanBeginsSpec)

/-- 'clockworklaw09.ScanNil', WHERE WHAT IT READS IS OF BULK AT MOST 1048576: true; the input reads as it did. -/
def scanNilUptoRow : OpenClaim := { program := "ytehjgkkcpiblcaagreat", sum := "99026bc817c71f82ed8954a01bf66b964d3b57b595a04b8ffa89fed1e6612be0", func := "clockwork/clockworklaw09.ScanNil", spec := "scanNil", unfollowed := true, recurses := true, apart := false, narrowed := true }
def ScanNilUptoSaid : Prop := scanNilUptoRow.holds Tryz.pinned (OpenSpec.upto scanNilSpec)

end Rows
end Go.Proofs.YtehjgkkcpiblcaaGreat
