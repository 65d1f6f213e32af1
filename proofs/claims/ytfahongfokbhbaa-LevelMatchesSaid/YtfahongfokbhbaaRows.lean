/-
  No cell of these rows narrows 'for every input' (looked for: loops, veiled, ifaces, maps, wideKeys, modest, calm, conditions, laid).
  DERIVED. THE GIVEN ROWS OF THIS SEAT. 5 by the template 'for every input the law returns true; each argument reads behind the call as it read before'; 0 by the template 'total and deterministic' (their statements: YtfahongfokbhbaaTotals.lean).
  GIVEN WITH THE SEED: the statements are not yours to turn. If you find one false, say at which input.
  Laid BY PROGRAM, IN A SANDBOX (cutbox-rows.mjs): the forced cells as the released guide's own fill.sh prints them over the translation cba04dcda398313d… (all of the seat's roots in one cut). By AI agents, Wed Nov 11 2026. No macro, syntax, notation, axiom, sorry.
-/
import Derived.Test.YtfahongfokbhbaaChecked
import GoSem.Claim
import GoSem.ClaimJoined
import GoSem.ClaimMapViews
import Derived.JoinedTies
import Derived.KernelRfl
namespace Go.Proofs.Ytfahongfokbhbaa
/- THE CELL 'sum', in the pinned program and in every row, IS THE sha256 OF THE DUMP (.gsa) THAT YtfahongfokbhbaaProg.lean LOADS. Nothing in Lean hashes anything: it is a label: what it is worth is what the hold of that sum in a sandbox is worth. -/
noncomputable def Try.pinned : Pinned := { name := "ytfahongfokbhbaa", sum := "cba04dcda398313dfb1317cbd719bd0963dfc9842e4dc0b2f42caaabb6612360", checked := Try.checked }
namespace Rows
def none {H : Type} : Left H := { results := [], args := [] }

/-- 'clockworklaw15.LevelTicks': WHATEVER THE INPUT: true; the input reads as it did. -/
def levelTicksSpec : ChangeSpec := { name := "levelTicks", fn := fun _ => fun
  | [d1, d2, d3] => { results := [.lit (.bool true)], args := [d1, d2, d3] }
  | _ => none }
def levelTicksRow : OpenClaim := { program := "ytfahongfokbhbaa", sum := "cba04dcda398313dfb1317cbd719bd0963dfc9842e4dc0b2f42caaabb6612360", func := "clockwork/clockworklaw15.LevelTicks", spec := "levelTicks", apart := false }
def LevelTicksSaid : Prop := levelTicksRow.holds Try.pinned (OpenSpec.ofChange levelTicksSpec)

/-- ITS FALSE NEIGHBOUR: 'it returns false'. Refute it at one input. -/
def levelTicksWrong : ChangeSpec := { name := "levelTicks", fn := fun _ => fun
  | [d1, d2, d3] => { results := [.lit (.bool false)], args := [d1, d2, d3] }
  | _ => none }
def LevelTicksWrongFalsely : Prop := levelTicksRow.holds Try.pinned (OpenSpec.ofChange levelTicksWrong)

/-- 'clockworklaw15.LevelMatches': WHATEVER THE INPUT: true; the input reads as it did. -/
def levelMatchesSpec : ChangeSpec := { name := "levelMatches", fn := fun _ => fun
  | [d1, d2] => { results := [.lit (.bool true)], args := [d1, d2] }
  | _ => none }
def levelMatchesRow : OpenClaim := { program := "ytfahongfokbhbaa", sum := "cba04dcda398313dfb1317cbd719bd0963dfc9842e4dc0b2f42caaabb6612360", func := "clockwork/clockworklaw15.LevelMatches", spec := "levelMatches", inPlace := ["slices.overlaps[clockwork/level.Item]"], unfollowed := true, recurses := true, apart := false }
def LevelMatchesSaid : Prop := levelMatchesRow.holds Try.pinned (OpenSpec.ofChange levelMatchesSpec)

/-- ITS FALSE NEIGHBOUR: 'it returns false'. Refute it at one input. -/
def levelMatchesWrong : ChangeSpec := { name := "levelMatches", fn := fun _ => fun
  | [d1, d2] => { results := [.lit (.bool false)], args := [d1, d2] }
  | _ => none }
def LevelMatchesWrongFalsely : Prop := levelMatchesRow.holds Try.pinned (OpenSpec.ofChange levelMatchesWrong)

/-- 'clockworklaw15.LevelOrders': WHATEVER THE INPUT: true; the input reads as it did. -/
def levelOrdersSpec : ChangeSpec := { name := "levelOrders", fn := fun _ => fun
  | [d1, d2, d3] => { results := [.lit (.bool true)], args := [d1, d2, d3] }
  | _ => none }
def levelOrdersRow : OpenClaim := { program := "ytfahongfokbhbaa", sum := "cba04dcda398313dfb1317cbd719bd0963dfc9842e4dc0b2f42caaabb6612360", func := "clockwork/clockworklaw15.LevelOrders", spec := "levelOrders", apart := false }
def LevelOrdersSaid : Prop := levelOrdersRow.holds Try.pinned (OpenSpec.ofChange levelOrdersSpec)

/-- ITS FALSE NEIGHBOUR: 'it returns false'. Refute it at one input. -/
def levelOrdersWrong : ChangeSpec := { name := "levelOrders", fn := fun _ => fun
  | [d1, d2, d3] => { results := [.lit (.bool false)], args := [d1, d2, d3] }
  | _ => none }
def LevelOrdersWrongFalsely : Prop := levelOrdersRow.holds Try.pinned (OpenSpec.ofChange levelOrdersWrong)

/-- 'clockworklaw15.LevelEmpties': WHATEVER THE INPUT: true; the input reads as it did. -/
def levelEmptiesSpec : ChangeSpec := { name := "levelEmpties", fn := fun _ => fun
  | [d1, d2] => { results := [.lit (.bool true)], args := [d1, d2] }
  | _ => none }
def levelEmptiesRow : OpenClaim := { program := "ytfahongfokbhbaa", sum := "cba04dcda398313dfb1317cbd719bd0963dfc9842e4dc0b2f42caaabb6612360", func := "clockwork/clockworklaw15.LevelEmpties", spec := "levelEmpties", inPlace := ["slices.overlaps[clockwork/level.Item]"], unfollowed := true, recurses := true, apart := false }
def LevelEmptiesSaid : Prop := levelEmptiesRow.holds Try.pinned (OpenSpec.ofChange levelEmptiesSpec)

/-- ITS FALSE NEIGHBOUR: 'it returns false'. Refute it at one input. -/
def levelEmptiesWrong : ChangeSpec := { name := "levelEmpties", fn := fun _ => fun
  | [d1, d2] => { results := [.lit (.bool false)], args := [d1, d2] }
  | _ => none }
def LevelEmptiesWrongFalsely : Prop := levelEmptiesRow.holds Try.pinned (OpenSpec.ofChange levelEmptiesWrong)

/-- 'clockworklaw15.LevelNil': WHATEVER THE INPUT: true; the input reads as it did. -/
def levelNilSpec : ChangeSpec := { name := "levelNil", fn := fun _ => fun
  | [d1, d2, d3] => { results := [.lit (.bool true)], args := [d1, d2, d3] }
  | _ => none }
def levelNilRow : OpenClaim := { program := "ytfahongfokbhbaa", sum := "cba04dcda398313dfb1317cbd719bd0963dfc9842e4dc0b2f42caaabb6612360", func := "clockwork/clockworklaw15.LevelNil", spec := "levelNil", inPlace := ["slices.overlaps[clockwork/level.Item]"], unfollowed := true, recurses := true, apart := false }
def LevelNilSaid : Prop := levelNilRow.holds Try.pinned (OpenSpec.ofChange levelNilSpec)

/-- ITS FALSE NEIGHBOUR: 'it returns false'. Refute it at one input. -/
def levelNilWrong : ChangeSpec := { name := "levelNil", fn := fun _ => fun
  | [d1, d2, d3] => { results := [.lit (.bool false)], args := [d1, d2, d3] }
  | _ => none }
def LevelNilWrongFalsely : Prop := levelNilRow.holds Try.pinned (OpenSpec.ofChange levelNilWrong)

/- THE SECOND FORM. 'bulk': how many values and letters a reading holds, each counted each time it is reached (what is shared counts as often as it is met; a slice's spare places count too). A statement '..UptoSaid' is the law's where the arguments, and the package variables that the reading takes, are together of bulk at most 1048576: NARROWER than '..Said'. Prove '..Said' where nothing that the law and all that it calls make is longer than what came in: it says more and counts as full. Else prove '..UptoSaid'. A law counts once. -/
mutual
def uptoBulk {H : Type} : DataW H → Nat
  | .lit (.string bytes) => bytes.length + 1
  | .lit _ => 1
  | .nil => 1
  | .ptr d => uptoBulk d + 1
  | .slice elems spare => uptoBulkAll elems + uptoBulkAll spare + 1
  | .agg parts => uptoBulkAll parts + 1
  | .iface _ d => uptoBulk d + 1
  | .map entries => uptoBulkEntries entries + 1
  | .held _ => 1
def uptoBulkAll {H : Type} : List (DataW H) → Nat
  | [] => 0
  | d :: r => uptoBulk d + uptoBulkAll r
def uptoBulkEntries {H : Type} : List (Lit × DataW H) → Nat
  | [] => 0
  | x :: r => uptoBulkEntry x + uptoBulkEntries r
def uptoBulkEntry {H : Type} : Lit × DataW H → Nat
  | (.string bytes, d) => bytes.length + uptoBulk d + 1
  | (_, d) => uptoBulk d + 1
 end
def uptoSmall : (H : Type) → List (DataW H) → Bool := fun _ ds => decide (uptoBulkAll ds ≤ 1048576)
def OpenSpec.upto (s : _root_.Go.ChangeSpec) : _root_.Go.OpenSpec := { _root_.Go.OpenSpec.ofChange s with cond := some uptoSmall }

/-- 'clockworklaw15.LevelTicks', WHERE WHAT IT READS IS OF BULK AT MOST 1048576: true; the input reads as it did. -/
def levelTicksUptoRow : OpenClaim := { program := "ytfahongfokbhbaa", sum := "cba04dcda398313dfb1317cbd719bd0963dfc9842e4dc0b2f42caaabb6612360", func := "clockwork/clockworklaw15.LevelTicks", spec := "levelTicks", apart := false, narrowed := true }
def LevelTicksUptoSaid : Prop := levelTicksUptoRow.holds Try.pinned (OpenSpec.upto levelTicksSpec)

/-- 'clockworklaw15.LevelMatches', WHERE WHAT IT READS IS OF BULK AT MOST 1048576: true; the input reads as it did. -/
def levelMatchesUptoRow : OpenClaim := { program := "ytfahongfokbhbaa", sum := "cba04dcda398313dfb1317cbd719bd0963dfc9842e4dc0b2f42caaabb6612360", func := "clockwork/clockworklaw15.LevelMatches", spec := "levelMatches", inPlace := ["slices.overlaps[clockwork/level.Item]"], unfollowed := true, recurses := true, apart := false, narrowed := true }
def LevelMatchesUptoSaid : Prop := levelMatchesUptoRow.holds Try.pinned (OpenSpec.upto levelMatchesSpec)

/-- 'clockworklaw15.LevelOrders', WHERE WHAT IT READS IS OF BULK AT MOST 1048576: true; the input reads as it did. -/
def levelOrdersUptoRow : OpenClaim := { program := "ytfahongfokbhbaa", sum := "cba04dcda398313dfb1317cbd719bd0963dfc9842e4dc0b2f42caaabb6612360", func := "clockwork/clockworklaw15.LevelOrders", spec := "levelOrders", apart := false, narrowed := true }
def LevelOrdersUptoSaid : Prop := levelOrdersUptoRow.holds Try.pinned (OpenSpec.upto levelOrdersSpec)

/-- 'clockworklaw15.LevelEmpties', WHERE WHAT IT READS IS OF BULK AT MOST 1048576: true; the input reads as it did. -/
def levelEmptiesUptoRow : OpenClaim := { program := "ytfahongfokbhbaa", sum := "cba04dcda398313dfb1317cbd719bd0963dfc9842e4dc0b2f42caaabb6612360", func := "clockwork/clockworklaw15.LevelEmpties", spec := "levelEmpties", inPlace := ["slices.overlaps[clockwork/level.Item]"], unfollowed := true, recurses := true, apart := false, narrowed := true }
def LevelEmptiesUptoSaid : Prop := levelEmptiesUptoRow.holds Try.pinned (OpenSpec.upto levelEmptiesSpec)

/-- 'clockworklaw15.LevelNil', WHERE WHAT IT READS IS OF BULK AT MOST 1048576: true; the input reads as it did. -/
def levelNilUptoRow : OpenClaim := { program := "ytfahongfokbhbaa", sum := "cba04dcda398313dfb1317cbd719bd0963dfc9842e4dc0b2f42caaabb6612360", func := "clockwork/clockworklaw15.LevelNil", spec := "levelNil", inPlace := ["slices.overlaps[clockwork/level.Item]"], unfollowed := true, recurses := true, apart := false, narrowed := true }
def LevelNilUptoSaid : Prop := levelNilUptoRow.holds Try.pinned (OpenSpec.upto levelNilSpec)

end Rows
end Go.Proofs.Ytfahongfokbhbaa
