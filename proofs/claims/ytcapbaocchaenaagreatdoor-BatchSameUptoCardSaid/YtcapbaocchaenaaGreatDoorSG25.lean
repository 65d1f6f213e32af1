import Derived.Test.YtcapbaocchaenaaGreatDoorSG24
/- The example of the chapter. -/
namespace Go.Proofs.YtcapbaocchaenaaGreatDoor
open Go.RowKit Go.Shelf Fl

/-- The example's event. -/
def exE : Ev := ⟨5, 5, 0, 0, [], [], zeroV⟩

theorem exE_fields : evFields exE.k = [0] := by decide
theorem exE_ok : okE exE = true := by
  have h : sameV zeroV zeroV = true := sameV_refl _
  unfold okE
  rw [exE_fields]
  simp [exE, rightE, emptyE, h, List.range, List.range.loop]
  decide
theorem exE_form : formE exE = [1, 5, 5] := by
  unfold formE
  rw [exE_fields]
  have h : pieceE exE 0 = form 5 := rfl
  show form 1 ++ form 5 ++ (List.map (pieceE exE) [0]).flatten = _
  rw [List.map_cons, h]
  simp [form_small]
theorem exE_in (w : World) : EvIn w exE (evC 5 5 0 0 [] [] 0 0 0 [] none 0 0) := by
  refine ⟨?_, ?_, ?_, ?_, ?_, ?_, none, 0, rfl, zero_in w⟩
  · show (-9223372036854775808 : Int) ≤ 5 ∧ (5 : Int) ≤ 9223372036854775807; omega
  · show 5 < _; omega
  · show (-9223372036854775808 : Int) ≤ 0 ∧ (0 : Int) ≤ 9223372036854775807; omega
  · show 0 < _; omega
  · exact ⟨fun c h => (by cases h), Nat.zero_le _⟩
  · exact ⟨fun c h => (by cases h), Nat.zero_le _⟩
abbrev exC : Array Value := #[.int .i64 5, .int .u64 5, .int .i64 0, .int .u64 0, .string ⟨#[]⟩, .string ⟨#[]⟩, .int .i64 0, .int .i64 0, .float .f64 0, .string ⟨#[]⟩, .slice none 0 0]
end Go.Proofs.YtcapbaocchaenaaGreatDoor

