/-
  No cell of these rows narrows 'for every input' (looked for: loops, veiled, ifaces, maps, wideKeys, modest, calm, conditions, laid).
  DERIVED. THE GIVEN ROWS OF THIS SEAT. 5 by the template 'for every input the law returns true; each argument reads behind the call as it read before'; 0 by the template 'total and deterministic' (their statements: YtmmiommfbkcebaaTotals.lean).
  GIVEN WITH THE SEED: the statements are not yours to turn. If you find one false, say at which input.
  Laid BY PROGRAM, IN A SANDBOX (cutbox-rows.mjs): the forced cells as the released guide's own fill.sh prints them over the translation 6f617aa7e9ca9fc2… (all of the seat's roots in one cut). By AI agents, Wed Nov 11 2026. No macro, syntax, notation, axiom, sorry.
-/
import Derived.Test.YtmmiommfbkcebaaChecked
import GoSem.Claim
import GoSem.ClaimJoined
import GoSem.ClaimMapViews
import Derived.JoinedTies
import Derived.KernelRfl
namespace Go.Proofs.Ytmmiommfbkcebaa
/- THE CELL 'sum', in the pinned program and in every row, IS THE sha256 OF THE DUMP (.gsa) THAT YtmmiommfbkcebaaProg.lean LOADS. Nothing in Lean hashes anything: it is a label: what it is worth is what the hold of that sum in a sandbox is worth. -/
noncomputable def Try.pinned : Pinned := { name := "ytmmiommfbkcebaa", sum := "6f617aa7e9ca9fc2beae5908e7545c5843971807e421a59dd2f91bcbf3009c06", checked := Try.checked }
namespace Rows
def none {H : Type} : Left H := { results := [], args := [] }

/-- 'clockworklaw17.QueueMatches': WHATEVER THE INPUT: true; the input reads as it did. -/
def queueMatchesSpec : ChangeSpec := { name := "queueMatches", fn := fun _ => fun
  | [d1, d2] => { results := [.lit (.bool true)], args := [d1, d2] }
  | _ => none }
def queueMatchesRow : OpenClaim := { program := "ytmmiommfbkcebaa", sum := "6f617aa7e9ca9fc2beae5908e7545c5843971807e421a59dd2f91bcbf3009c06", func := "clockwork/clockworklaw17.QueueMatches", spec := "queueMatches", unfollowed := true, recurses := true, apart := false }
def QueueMatchesSaid : Prop := queueMatchesRow.holds Try.pinned (OpenSpec.ofChange queueMatchesSpec)

/-- ITS FALSE NEIGHBOUR: 'it returns false'. Refute it at one input. -/
def queueMatchesWrong : ChangeSpec := { name := "queueMatches", fn := fun _ => fun
  | [d1, d2] => { results := [.lit (.bool false)], args := [d1, d2] }
  | _ => none }
def QueueMatchesWrongFalsely : Prop := queueMatchesRow.holds Try.pinned (OpenSpec.ofChange queueMatchesWrong)

/-- 'clockworklaw17.QueueOrders': WHATEVER THE INPUT: true; the input reads as it did. -/
def queueOrdersSpec : ChangeSpec := { name := "queueOrders", fn := fun _ => fun
  | [d] => { results := [.lit (.bool true)], args := [d] }
  | _ => none }
def queueOrdersRow : OpenClaim := { program := "ytmmiommfbkcebaa", sum := "6f617aa7e9ca9fc2beae5908e7545c5843971807e421a59dd2f91bcbf3009c06", func := "clockwork/clockworklaw17.QueueOrders", spec := "queueOrders", apart := false }
def QueueOrdersSaid : Prop := queueOrdersRow.holds Try.pinned (OpenSpec.ofChange queueOrdersSpec)

/-- ITS FALSE NEIGHBOUR: 'it returns false'. Refute it at one input. -/
def queueOrdersWrong : ChangeSpec := { name := "queueOrders", fn := fun _ => fun
  | [d] => { results := [.lit (.bool false)], args := [d] }
  | _ => none }
def QueueOrdersWrongFalsely : Prop := queueOrdersRow.holds Try.pinned (OpenSpec.ofChange queueOrdersWrong)

/-- 'clockworklaw17.QueueDrains': WHATEVER THE INPUT: true; the input reads as it did. -/
def queueDrainsSpec : ChangeSpec := { name := "queueDrains", fn := fun _ => fun
  | [d1, d2, d3] => { results := [.lit (.bool true)], args := [d1, d2, d3] }
  | _ => none }
def queueDrainsRow : OpenClaim := { program := "ytmmiommfbkcebaa", sum := "6f617aa7e9ca9fc2beae5908e7545c5843971807e421a59dd2f91bcbf3009c06", func := "clockwork/clockworklaw17.QueueDrains", spec := "queueDrains", unfollowed := true, recurses := true, apart := false }
def QueueDrainsSaid : Prop := queueDrainsRow.holds Try.pinned (OpenSpec.ofChange queueDrainsSpec)

/-- ITS FALSE NEIGHBOUR: 'it returns false'. Refute it at one input. -/
def queueDrainsWrong : ChangeSpec := { name := "queueDrains", fn := fun _ => fun
  | [d1, d2, d3] => { results := [.lit (.bool false)], args := [d1, d2, d3] }
  | _ => none }
def QueueDrainsWrongFalsely : Prop := queueDrainsRow.holds Try.pinned (OpenSpec.ofChange queueDrainsWrong)

/-- 'clockworklaw17.QueueKeeps': WHATEVER THE INPUT: true; the input reads as it did. -/
def queueKeepsSpec : ChangeSpec := { name := "queueKeeps", fn := fun _ => fun
  | [d] => { results := [.lit (.bool true)], args := [d] }
  | _ => none }
def queueKeepsRow : OpenClaim := { program := "ytmmiommfbkcebaa", sum := "6f617aa7e9ca9fc2beae5908e7545c5843971807e421a59dd2f91bcbf3009c06", func := "clockwork/clockworklaw17.QueueKeeps", spec := "queueKeeps", unfollowed := true, recurses := true, apart := false }
def QueueKeepsSaid : Prop := queueKeepsRow.holds Try.pinned (OpenSpec.ofChange queueKeepsSpec)

/-- ITS FALSE NEIGHBOUR: 'it returns false'. Refute it at one input. -/
def queueKeepsWrong : ChangeSpec := { name := "queueKeeps", fn := fun _ => fun
  | [d] => { results := [.lit (.bool false)], args := [d] }
  | _ => none }
def QueueKeepsWrongFalsely : Prop := queueKeepsRow.holds Try.pinned (OpenSpec.ofChange queueKeepsWrong)

/-- 'clockworklaw17.QueueWords': WHATEVER THE INPUT: true; the input reads as it did. -/
def queueWordsSpec : ChangeSpec := { name := "queueWords", fn := fun _ => fun
  | [d] => { results := [.lit (.bool true)], args := [d] }
  | _ => none }
def queueWordsRow : OpenClaim := { program := "ytmmiommfbkcebaa", sum := "6f617aa7e9ca9fc2beae5908e7545c5843971807e421a59dd2f91bcbf3009c06", func := "clockwork/clockworklaw17.QueueWords", spec := "queueWords", apart := false }
def QueueWordsSaid : Prop := queueWordsRow.holds Try.pinned (OpenSpec.ofChange queueWordsSpec)

/-- ITS FALSE NEIGHBOUR: 'it returns false'. Refute it at one input. -/
def queueWordsWrong : ChangeSpec := { name := "queueWords", fn := fun _ => fun
  | [d] => { results := [.lit (.bool false)], args := [d] }
  | _ => none }
def QueueWordsWrongFalsely : Prop := queueWordsRow.holds Try.pinned (OpenSpec.ofChange queueWordsWrong)

/- THE SECOND FORM. 'bulk': how many values and letters a reading holds, each counted each time it is reached (what is shared counts as often as it is met; a slice's spare places count too). A statement '..UptoSaid' is the law's where the arguments, and the package variables that the reading takes, are together of bulk at most 1048576: NARROWER than '..Said'. Prove '..Said' where nothing that the law and all that it calls make is longer than what came in: it says more and counts as full. Else prove '..UptoSaid'. A law counts once. -/
mutual
def uptoBulk {H : Type} : DataW H → Nat
  | .lit (.string bytes) => bytes.length + 1
  | .lit _ => 1
  | .nil => 1
  | .ptr d => uptoBulk d + 1
  | .slice elems spare => uptoBulkAll elems + uptoBulkAll spare + 1
  | .agg parts => uptoBulkAll parts + 1
  | .iface _ d => uptoBulk d + 1
  | .map entries => uptoBulkEntries entries + 1
  | .held _ => 1
def uptoBulkAll {H : Type} : List (DataW H) → Nat
  | [] => 0
  | d :: r => uptoBulk d + uptoBulkAll r
def uptoBulkEntries {H : Type} : List (Lit × DataW H) → Nat
  | [] => 0
  | x :: r => uptoBulkEntry x + uptoBulkEntries r
def uptoBulkEntry {H : Type} : Lit × DataW H → Nat
  | (.string bytes, d) => bytes.length + uptoBulk d + 1
  | (_, d) => uptoBulk d + 1
 end
def uptoSmall : (H : Type) → List (DataW H) → Bool := fun _ ds => decide (uptoBulkAll ds ≤ 1048576)
def OpenSpec.upto (s : _root_.Go.ChangeSpec) : _root_.Go.OpenSpec := { _root_.Go.OpenSpec.ofChange s with cond := some uptoSmall }

/-- 'clockworklaw17.QueueMatches', WHERE WHAT IT READS IS OF BULK AT MOST 1048576: true; the input reads as it did. -/
def queueMatchesUptoRow : OpenClaim := { program := "ytmmiommfbkcebaa", sum := "6f617aa7e9ca9fc2beae5908e7545c5843971807e421a59dd2f91bcbf3009c06", func := "clockwork/clockworklaw17.QueueMatches", spec := "queueMatches", unfollowed := true, recurses := true, apart := false, narrowed := true }
def QueueMatchesUptoSaid : Prop := queueMatchesUptoRow.holds Try.pinned (OpenSpec.upto queueMatchesSpec)

/-- 'clockworklaw17.QueueOrders', WHERE WHAT IT READS IS OF BULK AT MOST 1048576: true; the input reads as it did. -/
def queueOrdersUptoRow : OpenClaim := { program := "ytmmiommfbkcebaa", sum := "6f617aa7e9ca9fc2beae5908e7545c5843971807e421a59dd2f91bcbf3009c06", func := "clockwork/clockworklaw17.QueueOrders", spec := "queueOrders", apart := false, narrowed := true }
def QueueOrdersUptoSaid : Prop := queueOrdersUptoRow.holds Try.pinned (OpenSpec.upto queueOrdersSpec)

/-- 'clockworklaw17.QueueDrains', WHERE WHAT IT READS IS OF BULK AT MOST 1048576: true; the input reads as it did. -/
def queueDrainsUptoRow : OpenClaim := { program := "ytmmiommfbkcebaa", sum := "6f617aa7e9ca9fc2beae5908e7545c5843971807e421a59dd2f91bcbf3009c06", func := "clockwork/clockworklaw17.QueueDrains", spec := "queueDrains", unfollowed := true, recurses := true, apart := false, narrowed := true }
def QueueDrainsUptoSaid : Prop := queueDrainsUptoRow.holds Try.pinned (OpenSpec.upto queueDrainsSpec)

/-- 'clockworklaw17.QueueKeeps', WHERE WHAT IT READS IS OF BULK AT MOST 1048576: true; the input reads as it did. -/
def queueKeepsUptoRow : OpenClaim := { program := "ytmmiommfbkcebaa", sum := "6f617aa7e9ca9fc2beae5908e7545c5843971807e421a59dd2f91bcbf3009c06", func := "clockwork/clockworklaw17.QueueKeeps", spec := "queueKeeps", unfollowed := true, recurses := true, apart := false, narrowed := true }
def QueueKeepsUptoSaid : Prop := queueKeepsUptoRow.holds Try.pinned (OpenSpec.upto queueKeepsSpec)

/-- 'clockworklaw17.QueueWords', WHERE WHAT IT READS IS OF BULK AT MOST 1048576: true; the input reads as it did. -/
def queueWordsUptoRow : OpenClaim := { program := "ytmmiommfbkcebaa", sum := "6f617aa7e9ca9fc2beae5908e7545c5843971807e421a59dd2f91bcbf3009c06", func := "clockwork/clockworklaw17.QueueWords", spec := "queueWords", apart := false, narrowed := true }
def QueueWordsUptoSaid : Prop := queueWordsUptoRow.holds Try.pinned (OpenSpec.upto queueWordsSpec)

end Rows
end Go.Proofs.Ytmmiommfbkcebaa
