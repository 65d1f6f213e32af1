/-
  DERIVED. GIVEN WITH THE SEED: THE CARDS: each row of YtmcdfmhciinocaaGreatDoorRows.lean that lists a variable, with what it lists TIED to the program's text (the seventh form; the later family's looks); each row that meets fmt, with fmt's text TOLD by the authors' own Lean function (tested against real Go, not proved from fmt's source: count such statements apart). THE CARD IS WHAT COUNTS. Prove the row's statement (the work); the ties are given (YtmcdfmhciinocaaGreatDoorTie.lean); close each card by the builder's one call (the guide's Derived/Test/ToyasCard.lean, 'card_holds'). Laid BY PROGRAM, IN A SANDBOX (cutbox-door.mjs). By AI agents, Wed Nov 11 2026. No macro, syntax, notation, axiom, sorry.
-/
import Derived.Test.YtmcdfmhciinocaaGreatDoorRows
import GoSem.ClaimSeven
namespace Go.Proofs.YtmcdfmhciinocaaGreatDoor
namespace Rows

/-- THE TIED CARD OF 'clockworklaw11.EventForms'. -/
def eventFormsCard : Claim7 := { stood := { row := eventFormsRow, standIns := [], harness := (true, "b8d29ecd2bf7e3f1c19bb467c06f8971e25e462b6342083337ac991d2e72cc4c"), looks := true }, kinds := [], alts := [], laidByText := true, laidKinds := [.data, .data, .data], laidTests := true, laidLooks := .later }
def EventFormsCardSaid : Prop := Claim7.holds Tryz.pinned (.plain (OpenSpec.ofChange eventFormsSpec)) eventFormsCard

/-- THE TIED CARD OF 'clockworklaw11.EventReads'. -/
def eventReadsCard : Claim7 := { stood := { row := eventReadsRow, standIns := [], harness := (true, "b8d29ecd2bf7e3f1c19bb467c06f8971e25e462b6342083337ac991d2e72cc4c"), looks := true }, kinds := [], alts := [], laidByText := true, laidKinds := [.data, .data, .data], laidTests := true, laidLooks := .later }
def EventReadsCardSaid : Prop := Claim7.holds Tryz.pinned (.plain (OpenSpec.ofChange eventReadsSpec)) eventReadsCard

/-- THE TIED CARD OF 'clockworklaw13.BatchForms'. -/
def batchFormsCard : Claim7 := { stood := { row := batchFormsRow, standIns := [], harness := (true, "b8d29ecd2bf7e3f1c19bb467c06f8971e25e462b6342083337ac991d2e72cc4c"), looks := true }, kinds := [], alts := [], laidByText := true, laidKinds := [.data, .data, .data], laidTests := true, laidLooks := .later }
def BatchFormsCardSaid : Prop := Claim7.holds Tryz.pinned (.plain (OpenSpec.ofChange batchFormsSpec)) batchFormsCard

/-- THE TIED CARD OF 'clockworklaw13.BatchSame'. -/
def batchSameCard : Claim7 := { stood := { row := batchSameRow, standIns := [], harness := (true, "b8d29ecd2bf7e3f1c19bb467c06f8971e25e462b6342083337ac991d2e72cc4c"), looks := true }, kinds := [], alts := [], laidByText := true, laidKinds := [.data, .data, .data], laidTests := true, laidLooks := .later }
def BatchSameCardSaid : Prop := Claim7.holds Tryz.pinned (.plain (OpenSpec.ofChange batchSameSpec)) batchSameCard

/-- THE SECOND FORM's CARD OF 'clockworklaw11.EventForms'. -/
def eventFormsUptoCard : Claim7 := { stood := { row := eventFormsUptoRow, standIns := [], harness := (true, "b8d29ecd2bf7e3f1c19bb467c06f8971e25e462b6342083337ac991d2e72cc4c"), looks := true }, kinds := [], alts := [], laidByText := true, laidKinds := [.data, .data, .data], laidTests := true, laidLooks := .later }
def EventFormsUptoCardSaid : Prop := Claim7.holds Tryz.pinned (.plain (OpenSpec.upto eventFormsSpec)) eventFormsUptoCard

/-- THE SECOND FORM's CARD OF 'clockworklaw11.EventReads'. -/
def eventReadsUptoCard : Claim7 := { stood := { row := eventReadsUptoRow, standIns := [], harness := (true, "b8d29ecd2bf7e3f1c19bb467c06f8971e25e462b6342083337ac991d2e72cc4c"), looks := true }, kinds := [], alts := [], laidByText := true, laidKinds := [.data, .data, .data], laidTests := true, laidLooks := .later }
def EventReadsUptoCardSaid : Prop := Claim7.holds Tryz.pinned (.plain (OpenSpec.upto eventReadsSpec)) eventReadsUptoCard

/-- THE SECOND FORM's CARD OF 'clockworklaw13.BatchForms'. -/
def batchFormsUptoCard : Claim7 := { stood := { row := batchFormsUptoRow, standIns := [], harness := (true, "b8d29ecd2bf7e3f1c19bb467c06f8971e25e462b6342083337ac991d2e72cc4c"), looks := true }, kinds := [], alts := [], laidByText := true, laidKinds := [.data, .data, .data], laidTests := true, laidLooks := .later }
def BatchFormsUptoCardSaid : Prop := Claim7.holds Tryz.pinned (.plain (OpenSpec.upto batchFormsSpec)) batchFormsUptoCard

/-- THE SECOND FORM's CARD OF 'clockworklaw13.BatchSame'. -/
def batchSameUptoCard : Claim7 := { stood := { row := batchSameUptoRow, standIns := [], harness := (true, "b8d29ecd2bf7e3f1c19bb467c06f8971e25e462b6342083337ac991d2e72cc4c"), looks := true }, kinds := [], alts := [], laidByText := true, laidKinds := [.data, .data, .data], laidTests := true, laidLooks := .later }
def BatchSameUptoCardSaid : Prop := Claim7.holds Tryz.pinned (.plain (OpenSpec.upto batchSameSpec)) batchSameUptoCard
end Rows
end Go.Proofs.YtmcdfmhciinocaaGreatDoor
