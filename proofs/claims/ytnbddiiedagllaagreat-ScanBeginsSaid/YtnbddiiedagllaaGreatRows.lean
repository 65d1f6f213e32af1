/-
  No cell of these rows narrows 'for every input' (looked for: loops, veiled, ifaces, maps, wideKeys, modest, calm, conditions, laid).
  DERIVED. THE GIVEN ROWS OF THIS SEAT. 10 by the template 'for every input the law returns true; each argument reads behind the call as it read before'; 0 by the template 'total and deterministic' (their statements: YtnbddiiedagllaaGreatTotals.lean).
  GIVEN WITH THE SEED: the statements are not yours to turn. If you find one false, say at which input.
  Laid BY PROGRAM, IN A SANDBOX (cutbox-rows.mjs): the forced cells as the released guide's own fill.sh prints them over the translation 6c46478849d51fc4… (all of the seat's roots in one cut). By AI agents, Wed Nov 11 2026. No macro, syntax, notation, axiom, sorry.
-/
import Derived.Test.YtnbddiiedagllaaGreatChecked
import GoSem.Claim
import GoSem.ClaimJoined
import GoSem.ClaimMapViews
import Derived.JoinedTies
import Derived.KernelRfl
namespace Go.Proofs.YtnbddiiedagllaaGreat
/- THE CELL 'sum', in the pinned program and in every row, IS THE sha256 OF THE DUMP (.gsa) THAT YtnbddiiedagllaaGreatProg.lean LOADS. Nothing in Lean hashes anything: it is a label: what it is worth is what the hold of that sum in a sandbox is worth. -/
noncomputable def Tryz.pinned : Pinned := { name := "ytnbddiiedagllaagreat", sum := "6c46478849d51fc4bc45056a86c9ac4d6a12ac3d73bb943f12d8dede404ffe8c", checked := Tryz.checked }
namespace Rows
def none {H : Type} : Left H := { results := [], args := [] }

/-- 'clockworklaw09.ScanLooks': WHATEVER THE INPUT: true; the input reads as it did. -/
def scanLooksSpec : ChangeSpec := { name := "scanLooks", fn := fun _ => fun
  | [d1, d2] => { results := [.lit (.bool true)], args := [d1, d2] }
  | _ => none }
def scanLooksRow : OpenClaim := { program := "ytnbddiiedagllaagreat", sum := "6c46478849d51fc4bc45056a86c9ac4d6a12ac3d73bb943f12d8dede404ffe8c", func := "clockwork/clockworklaw09.ScanLooks", spec := "scanLooks", unfollowed := true, recurses := true, apart := false }
def ScanLooksSaid : Prop := scanLooksRow.holds Tryz.pinned (OpenSpec.ofChange scanLooksSpec)

/-- ITS FALSE NEIGHBOUR: 'it returns false'. Refute it at one input. -/
def scanLooksWrong : ChangeSpec := { name := "scanLooks", fn := fun _ => fun
  | [d1, d2] => { results := [.lit (.bool false)], args := [d1, d2] }
  | _ => none }
def ScanLooksWrongFalsely : Prop := scanLooksRow.holds Tryz.pinned (OpenSpec.ofChange scanLooksWrong)

/-- 'clockworklaw09.ScanOpens': WHATEVER THE INPUT: true; the input reads as it did. -/
def scanOpensSpec : ChangeSpec := { name := "scanOpens", fn := fun _ => fun
  | [d1, d2, d3] => { results := [.lit (.bool true)], args := [d1, d2, d3] }
  | _ => none }
def scanOpensRow : OpenClaim := { program := "ytnbddiiedagllaagreat", sum := "6c46478849d51fc4bc45056a86c9ac4d6a12ac3d73bb943f12d8dede404ffe8c", func := "clockwork/clockworklaw09.ScanOpens", spec := "scanOpens", unfollowed := true, recurses := true, apart := false }
def ScanOpensSaid : Prop := scanOpensRow.holds Tryz.pinned (OpenSpec.ofChange scanOpensSpec)

/-- ITS FALSE NEIGHBOUR: 'it returns false'. Refute it at one input. -/
def scanOpensWrong : ChangeSpec := { name := "scanOpens", fn := fun _ => fun
  | [d1, d2, d3] => { results := [.lit (.bool false)], args := [d1, d2, d3] }
  | _ => none }
def ScanOpensWrongFalsely : Prop := scanOpensRow.holds Tryz.pinned (OpenSpec.ofChange scanOpensWrong)

/-- 'clockworklaw09.ScanAgain': WHATEVER THE INPUT: true; the input reads as it did. -/
def scanAgainSpec : ChangeSpec := { name := "scanAgain", fn := fun _ => fun
  | [d1, d2, d3] => { results := [.lit (.bool true)], args := [d1, d2, d3] }
  | _ => none }
def scanAgainRow : OpenClaim := { program := "ytnbddiiedagllaagreat", sum := "6c46478849d51fc4bc45056a86c9ac4d6a12ac3d73bb943f12d8dede404ffe8c", func := "clockwork/clockworklaw09.ScanAgain", spec := "scanAgain", unfollowed := true, recurses := true, apart := false }
def ScanAgainSaid : Prop := scanAgainRow.holds Tryz.pinned (OpenSpec.ofChange scanAgainSpec)

/-- ITS FALSE NEIGHBOUR: 'it returns false'. Refute it at one input. -/
def scanAgainWrong : ChangeSpec := { name := "scanAgain", fn := fun _ => fun
  | [d1, d2, d3] => { results := [.lit (.bool false)], args := [d1, d2, d3] }
  | _ => none }
def ScanAgainWrongFalsely : Prop := scanAgainRow.holds Tryz.pinned (OpenSpec.ofChange scanAgainWrong)

/-- 'clockworklaw09.ScanBegins': WHATEVER THE INPUT: true; the input reads as it did. -/
def scanBeginsSpec : ChangeSpec := { name := "scanBegins", fn := fun _ => fun
  | [d1, d2, d3] => { results := [.lit (.bool true)], args := [d1, d2, d3] }
  | _ => none }
def scanBeginsRow : OpenClaim := { program := "ytnbddiiedagllaagreat", sum := "6c46478849d51fc4bc45056a86c9ac4d6a12ac3d73bb943f12d8dede404ffe8c", func := "clockwork/clockworklaw09.ScanBegins", spec := "scanBegins", unfollowed := true, recurses := true, apart := false }
def ScanBeginsSaid : Prop := scanBeginsRow.holds Tryz.pinned (OpenSpec.ofChange scanBeginsSpec)

/-- ITS FALSE NEIGHBOUR: 'it returns false'. Refute it at one input. -/
def scanBeginsWrong : ChangeSpec := { name := "scanBegins", fn := fun _ => fun
  | [d1, d2, d3] => { results := [.lit (.bool false)], args := [d1, d2, d3] }
  | _ => none }
def ScanBeginsWrongFalsely : Prop := scanBeginsRow.holds Tryz.pinned (OpenSpec.ofChange scanBeginsWrong)

/-- 'clockworklaw09.ScanNil': WHATEVER THE INPUT: true; the input reads as it did. -/
def scanNilSpec : ChangeSpec := { name := "scanNil", fn := fun _ => fun
  | [d] => { results := [.lit (.bool true)], args := [d] }
  | _ => none }
def scanNilRow : OpenClaim := { program := "ytnbddiiedagllaagreat", sum := "6c46478849d51fc4bc45056a86c9ac4d6a12ac3d73bb943f12d8dede404ffe8c", func := "clockwork/clockworklaw09.ScanNil", spec := "scanNil", unfollowed := true, recurses := true, apart := false }
def ScanNilSaid : Prop := scanNilRow.holds Tryz.pinned (OpenSpec.ofChange scanNilSpec)

/-- ITS FALSE NEIGHBOUR: 'it returns false'. Refute it at one input. -/
def scanNilWrong : ChangeSpec := { name := "scanNil", fn := fun _ => fun
  | [d] => { results := [.lit (.bool false)], args := [d] }
  | _ => none }
def ScanNilWrongFalsely : Prop := scanNilRow.holds Tryz.pinned (OpenSpec.ofChange scanNilWrong)

/-- 'clockworklaw10.TrimCompacts': WHATEVER THE INPUT: true; the input reads as it did. -/
def trimCompactsSpec : ChangeSpec := { name := "trimCompacts", fn := fun _ => fun
  | [d1, d2, d3] => { results := [.lit (.bool true)], args := [d1, d2, d3] }
  | _ => none }
def trimCompactsRow : OpenClaim := { program := "ytnbddiiedagllaagreat", sum := "6c46478849d51fc4bc45056a86c9ac4d6a12ac3d73bb943f12d8dede404ffe8c", func := "clockwork/clockworklaw10.TrimCompacts", spec := "trimCompacts", unfollowed := true, recurses := true, apart := false }
def TrimCompactsSaid : Prop := trimCompactsRow.holds Tryz.pinned (OpenSpec.ofChange trimCompactsSpec)

/-- ITS FALSE NEIGHBOUR: 'it returns false'. Refute it at one input. -/
def trimCompactsWrong : ChangeSpec := { name := "trimCompacts", fn := fun _ => fun
  | [d1, d2, d3] => { results := [.lit (.bool false)], args := [d1, d2, d3] }
  | _ => none }
def TrimCompactsWrongFalsely : Prop := trimCompactsRow.holds Tryz.pinned (OpenSpec.ofChange trimCompactsWrong)

/-- 'clockworklaw10.TrimKeeps': WHATEVER THE INPUT: true; the input reads as it did. -/
def trimKeepsSpec : ChangeSpec := { name := "trimKeeps", fn := fun _ => fun
  | [d1, d2, d3] => { results := [.lit (.bool true)], args := [d1, d2, d3] }
  | _ => none }
def trimKeepsRow : OpenClaim := { program := "ytnbddiiedagllaagreat", sum := "6c46478849d51fc4bc45056a86c9ac4d6a12ac3d73bb943f12d8dede404ffe8c", func := "clockwork/clockworklaw10.TrimKeeps", spec := "trimKeeps", unfollowed := true, recurses := true, apart := false }
def TrimKeepsSaid : Prop := trimKeepsRow.holds Tryz.pinned (OpenSpec.ofChange trimKeepsSpec)

/-- ITS FALSE NEIGHBOUR: 'it returns false'. Refute it at one input. -/
def trimKeepsWrong : ChangeSpec := { name := "trimKeeps", fn := fun _ => fun
  | [d1, d2, d3] => { results := [.lit (.bool false)], args := [d1, d2, d3] }
  | _ => none }
def TrimKeepsWrongFalsely : Prop := trimKeepsRow.holds Tryz.pinned (OpenSpec.ofChange trimKeepsWrong)

/-- 'clockworklaw10.TrimCrashes': WHATEVER THE INPUT: true; the input reads as it did. -/
def trimCrashesSpec : ChangeSpec := { name := "trimCrashes", fn := fun _ => fun
  | [d1, d2, d3] => { results := [.lit (.bool true)], args := [d1, d2, d3] }
  | _ => none }
def trimCrashesRow : OpenClaim := { program := "ytnbddiiedagllaagreat", sum := "6c46478849d51fc4bc45056a86c9ac4d6a12ac3d73bb943f12d8dede404ffe8c", func := "clockwork/clockworklaw10.TrimCrashes", spec := "trimCrashes", unfollowed := true, recurses := true, apart := false }
def TrimCrashesSaid : Prop := trimCrashesRow.holds Tryz.pinned (OpenSpec.ofChange trimCrashesSpec)

/-- ITS FALSE NEIGHBOUR: 'it returns false'. Refute it at one input. -/
def trimCrashesWrong : ChangeSpec := { name := "trimCrashes", fn := fun _ => fun
  | [d1, d2, d3] => { results := [.lit (.bool false)], args := [d1, d2, d3] }
  | _ => none }
def TrimCrashesWrongFalsely : Prop := trimCrashesRow.holds Tryz.pinned (OpenSpec.ofChange trimCrashesWrong)

/-- 'clockworklaw10.TrimCosts': WHATEVER THE INPUT: true; the input reads as it did. -/
def trimCostsSpec : ChangeSpec := { name := "trimCosts", fn := fun _ => fun
  | [d1, d2] => { results := [.lit (.bool true)], args := [d1, d2] }
  | _ => none }
def trimCostsRow : OpenClaim := { program := "ytnbddiiedagllaagreat", sum := "6c46478849d51fc4bc45056a86c9ac4d6a12ac3d73bb943f12d8dede404ffe8c", func := "clockwork/clockworklaw10.TrimCosts", spec := "trimCosts", unfollowed := true, recurses := true, apart := false }
def TrimCostsSaid : Prop := trimCostsRow.holds Tryz.pinned (OpenSpec.ofChange trimCostsSpec)

/-- ITS FALSE NEIGHBOUR: 'it returns false'. Refute it at one input. -/
def trimCostsWrong : ChangeSpec := { name := "trimCosts", fn := fun _ => fun
  | [d1, d2] => { results := [.lit (.bool false)], args := [d1, d2] }
  | _ => none }
def TrimCostsWrongFalsely : Prop := trimCostsRow.holds Tryz.pinned (OpenSpec.ofChange trimCostsWrong)

/-- 'clockworklaw10.TrimTwice': WHATEVER THE INPUT: true; the input reads as it did. -/
def trimTwiceSpec : ChangeSpec := { name := "trimTwice", fn := fun _ => fun
  | [d] => { results := [.lit (.bool true)], args := [d] }
  | _ => none }
def trimTwiceRow : OpenClaim := { program := "ytnbddiiedagllaagreat", sum := "6c46478849d51fc4bc45056a86c9ac4d6a12ac3d73bb943f12d8dede404ffe8c", func := "clockwork/clockworklaw10.TrimTwice", spec := "trimTwice", unfollowed := true, recurses := true, apart := false }
def TrimTwiceSaid : Prop := trimTwiceRow.holds Tryz.pinned (OpenSpec.ofChange trimTwiceSpec)

/-- ITS FALSE NEIGHBOUR: 'it returns false'. Refute it at one input. -/
def trimTwiceWrong : ChangeSpec := { name := "trimTwice", fn := fun _ => fun
  | [d] => { results := [.lit (.bool false)], args := [d] }
  | _ => none }
def TrimTwiceWrongFalsely : Prop := trimTwiceRow.holds Tryz.pinned (OpenSpec.ofChange trimTwiceWrong)

/- THE SECOND FORM. 'bulk': how many values and letters a reading holds, each counted each time it is reached (what is shared counts as often as it is met; a slice's spare places count too). A statement '..UptoSaid' is the law's where the arguments, and the package variables that the reading takes, are together of bulk at most 1048576: NARROWER than '..Said'. Prove '..Said' where nothing that the law and all that it calls make is longer than what came in: it says more and counts as full. Else prove '..UptoSaid'. A law counts once. -/
mutual
def uptoBulk {H : Type} : DataW H → Nat
  | .lit (.string bytes) => bytes.length + 1
  | .lit _ => 1
  | .nil => 1
  | .ptr d => uptoBulk d + 1
  | .slice elems spare => uptoBulkAll elems + uptoBulkAll spare + 1
  | .agg parts => uptoBulkAll parts + 1
  | .iface _ d => uptoBulk d + 1
  | .map entries => uptoBulkEntries entries + 1
  | .held _ => 1
def uptoBulkAll {H : Type} : List (DataW H) → Nat
  | [] => 0
  | d :: r => uptoBulk d + uptoBulkAll r
def uptoBulkEntries {H : Type} : List (Lit × DataW H) → Nat
  | [] => 0
  | x :: r => uptoBulkEntry x + uptoBulkEntries r
def uptoBulkEntry {H : Type} : Lit × DataW H → Nat
  | (.string bytes, d) => bytes.length + uptoBulk d + 1
  | (_, d) => uptoBulk d + 1
 end
def uptoSmall : (H : Type) → List (DataW H) → Bool := fun _ ds => decide (uptoBulkAll ds ≤ 1048576)
def OpenSpec.upto (s : _root_.Go.ChangeSpec) : _root_.Go.OpenSpec := { _root_.Go.OpenSpec.ofChange s with cond := some uptoSmall }

/-- 'clockworklaw09.ScanLooks', WHERE WHAT IT READS IS OF BULK AT MOST 1048576: true; the input reads as it did. -/
def scanLooksUptoRow : OpenClaim := { program := "ytnbddiiedagllaagreat", sum := "6c46478849d51fc4bc45056a86c9ac4d6a12ac3d73bb943f12d8dede404ffe8c", func := "clockwork/clockworklaw09.ScanLooks", spec := "scanLooks", unfollowed := true, recurses := true, apart := false, narrowed := true }
def ScanLooksUptoSaid : Prop := scanLooksUptoRow.holds Tryz.pinned (OpenSpec.upto scanLooksSpec)

/-- 'clockworklaw09.ScanOpens', WHERE WHAT IT READS IS OF BULK AT MOST 1048576: true; the input reads as it did. -/
def scanOpensUptoRow : OpenClaim := { program := "ytnbddiiedagllaagreat", sum := "6c46478849d51fc4bc45056a86c9ac4d6a12ac3d73bb943f12d8dede404ffe8c", func := "clockwork/clockworklaw09.ScanOpens", spec := "scanOpens", unfollowed := true, recurses := true, apart := false, narrowed := true }
def ScanOpensUptoSaid : Prop := scanOpensUptoRow.holds Tryz.pinned (OpenSpec.upto scanOpensSpec)

/-- 'clockworklaw09.ScanAgain', WHERE WHAT IT READS IS OF BULK AT MOST 1048576: true; the input reads as it did. -/
def scanAgainUptoRow : OpenClaim := { program := "ytnbddiiedagllaagreat", sum := "6c46478849d51fc4bc45056a86c9ac4d6a12ac3d73bb943f12d8dede404ffe8c", func := "clockwork/clockworklaw09.ScanAgain", spec := "scanAgain", unfollowed := true, recurses := true, apart := false, narrowed := true }
def ScanAgainUptoSaid : Prop := scanAgainUptoRow.holds Tryz.pinned (OpenSpec.upto scanAgainSpec)

/-- 'clockworklaw09.ScanBegins', WHERE WHAT IT READS IS OF BULK AT MOST 1048576: true; the input reads as it did. -/
def scanBeginsUptoRow : OpenClaim := { program := "ytnbddiiedagllaagreat", sum := "6c46478849d51fc4bc45056a86c9ac4d6a12ac3d73bb943f12d8dede404ffe8c", func := "clockwork/clockworklaw09.ScanBegins", spec := "scanBegins", unfollowed := true, recurses := true, apart := false, narrowed := true }
def ScanBeginsUptoSaid : Prop := scanBeginsUptoRow.holds Tryz.pinned (OpenSpec.upto scanBeginsSpec)

/-- 'clockworklaw09.ScanNil', WHERE WHAT IT READS IS OF BULK AT MOST 1048576: true; the input reads as it did. -/
def scanNilUptoRow : OpenClaim := { program := "ytnbddiiedagllaagreat", sum := "6c46478849d51fc4bc45056a86c9ac4d6a12ac3d73bb943f12d8dede404ffe8c", func := "clockwork/clockworklaw09.ScanNil", spec := "scanNil", unfollowed := true, recurses := true, apart := false, narrowed := true }
def ScanNilUptoSaid : Prop := scanNilUptoRow.holds Tryz.pinned (OpenSpec.upto scanNilSpec)

/-- 'clockworklaw10.TrimCompacts', WHERE WHAT IT READS IS OF BULK AT MOST 1048576: true; the input reads as it did. -/
def trimCompactsUptoRow : OpenClaim := { program := "ytnbddiiedagllaagreat", sum := "6c46478849d51fc4bc45056a86c9ac4d6a12ac3d73bb943f12d8dede404ffe8c", func := "clockwork/clockworklaw10.TrimCompacts", spec := "trimCompacts", unfollowed := true, recurses := true, apart := false, narrowed := true }
def TrimCompactsUptoSaid : Prop := trimCompactsUptoRow.holds Tryz.pinned (OpenSpec.upto trimCompactsSpec)

/-- 'clockworklaw10.TrimKeeps', WHERE WHAT IT READS IS OF BULK AT MOST 1048576: true; the input reads as it did. -/
def trimKeepsUptoRow : OpenClaim := { program := "ytnbddiiedagllaagreat", sum := "6c46478849d51fc4bc45056a86c9ac4d6a12ac3d73bb943f12d8dede404ffe8c", func := "clockwork/clockworklaw10.TrimKeeps", spec := "trimKeeps", unfollowed := true, recurses := true, apart := false, narrowed := true }
def TrimKeepsUptoSaid : Prop := trimKeepsUptoRow.holds Tryz.pinned (OpenSpec.upto trimKeepsSpec)

/-- 'clockworklaw10.TrimCrashes', WHERE WHAT IT READS IS OF BULK AT MOST 1048576: true; the input reads as it did. -/
def trimCrashesUptoRow : OpenClaim := { program := "ytnbddiiedagllaagreat", sum := "6c46478849d51fc4bc45056a86c9ac4d6a12ac3d73bb943f12d8dede404ffe8c", func := "clockwork/clockworklaw10.TrimCrashes", spec := "trimCrashes", unfollowed := true, recurses := true, apart := false, narrowed := true }
def TrimCrashesUptoSaid : Prop := trimCrashesUptoRow.holds Tryz.pinned (OpenSpec.upto trimCrashesSpec)

/-- 'clockworklaw10.TrimCosts', WHERE WHAT IT READS IS OF BULK AT MOST 1048576: true; the input reads as it did. -/
def trimCostsUptoRow : OpenClaim := { program := "ytnbddiiedagllaagreat", sum := "6c46478849d51fc4bc45056a86c9ac4d6a12ac3d73bb943f12d8dede404ffe8c", func := "clockwork/clockworklaw10.TrimCosts", spec := "trimCosts", unfollowed := true, recurses := true, apart := false, narrowed := true }
def TrimCostsUptoSaid : Prop := trimCostsUptoRow.holds Tryz.pinned (OpenSpec.upto trimCostsSpec)

/-- 'clockworklaw10.TrimTwice', WHERE WHAT IT READS IS OF BULK AT MOST 1048576: true; the input reads as it did. -/
def trimTwiceUptoRow : OpenClaim := { program := "ytnbddiiedagllaagreat", sum := "6c46478849d51fc4bc45056a86c9ac4d6a12ac3d73bb943f12d8dede404ffe8c", func := "clockwork/clockworklaw10.TrimTwice", spec := "trimTwice", unfollowed := true, recurses := true, apart := false, narrowed := true }
def TrimTwiceUptoSaid : Prop := trimTwiceUptoRow.holds Tryz.pinned (OpenSpec.upto trimTwiceSpec)

end Rows
end Go.Proofs.YtnbddiiedagllaaGreat
