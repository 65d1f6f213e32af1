/-
  DERIVED. GIVEN WITH THE SEED: THE CARDS: each row of YtcapbaocchaenaaGreatDoorRows.lean that lists a variable, with what it lists TIED to the program's text (the seventh form; the later family's looks); each row that meets fmt, with fmt's text TOLD by the authors' own Lean function (tested against real Go, not proved from fmt's source: count such statements apart). THE CARD IS WHAT COUNTS. Prove the row's statement (the work); the ties are given (YtcapbaocchaenaaGreatDoorTie.lean); close each card by the builder's one call (the guide's Derived/Test/ToyasCard.lean, 'card_holds'). Laid BY PROGRAM, IN A SANDBOX (cutbox-door.mjs). By AI agents, Wed Nov 11 2026. No macro, syntax, notation, axiom, sorry.
-/
import Derived.Test.YtcapbaocchaenaaGreatDoorRows
import GoSem.ClaimSeven
namespace Go.Proofs.YtcapbaocchaenaaGreatDoor
namespace Rows

/-- THE TIED CARD OF 'clockworklaw13.BatchForms'. -/
def batchFormsCard : Claim7 := { stood := { row := batchFormsRow, standIns := [], harness := (true, "a77d8f687ed27ec6ad85acff549ac322e7a0332a75eeb705fa8e687a5d69b844"), looks := true }, kinds := [], alts := [], laidByText := true, laidKinds := [.data, .data, .data], laidTests := true, laidLooks := .later }
def BatchFormsCardSaid : Prop := Claim7.holds Tryz.pinned (.plain (OpenSpec.ofChange batchFormsSpec)) batchFormsCard

/-- THE TIED CARD OF 'clockworklaw13.BatchSame'. -/
def batchSameCard : Claim7 := { stood := { row := batchSameRow, standIns := [], harness := (true, "a77d8f687ed27ec6ad85acff549ac322e7a0332a75eeb705fa8e687a5d69b844"), looks := true }, kinds := [], alts := [], laidByText := true, laidKinds := [.data, .data, .data], laidTests := true, laidLooks := .later }
def BatchSameCardSaid : Prop := Claim7.holds Tryz.pinned (.plain (OpenSpec.ofChange batchSameSpec)) batchSameCard

/-- THE SECOND FORM's CARD OF 'clockworklaw13.BatchForms'. -/
def batchFormsUptoCard : Claim7 := { stood := { row := batchFormsUptoRow, standIns := [], harness := (true, "a77d8f687ed27ec6ad85acff549ac322e7a0332a75eeb705fa8e687a5d69b844"), looks := true }, kinds := [], alts := [], laidByText := true, laidKinds := [.data, .data, .data], laidTests := true, laidLooks := .later }
def BatchFormsUptoCardSaid : Prop := Claim7.holds Tryz.pinned (.plain (OpenSpec.upto batchFormsSpec)) batchFormsUptoCard

/-- THE SECOND FORM's CARD OF 'clockworklaw13.BatchSame'. -/
def batchSameUptoCard : Claim7 := { stood := { row := batchSameUptoRow, standIns := [], harness := (true, "a77d8f687ed27ec6ad85acff549ac322e7a0332a75eeb705fa8e687a5d69b844"), looks := true }, kinds := [], alts := [], laidByText := true, laidKinds := [.data, .data, .data], laidTests := true, laidLooks := .later }
def BatchSameUptoCardSaid : Prop := Claim7.holds Tryz.pinned (.plain (OpenSpec.upto batchSameSpec)) batchSameUptoCard
end Rows
end Go.Proofs.YtcapbaocchaenaaGreatDoor
