/- The order of items by cases. -/
import Derived.Test.YthidinaflaogfaaLvCmp
namespace Go.Proofs.Ythidinaflaogfaa
open Go.RowKit

theorem cmpU_cases (a b : Nat) : (a < b ∧ cmpU a b = -1) ∨ (a = b ∧ cmpU a b = 0) ∨ (b < a ∧ cmpU a b = 1) := by
  unfold cmpU
  split
  · exact .inl ⟨by assumption, rfl⟩
  · split
    · exact .inr (.inr ⟨by assumption, rfl⟩)
    · exact .inr (.inl ⟨by omega, rfl⟩)

theorem cmpI_cases (i a j b : Nat) : ((a < b ∨ (a = b ∧ i < j)) ∧ cmpI i a j b = -1) ∨ ((i = j ∧ a = b) ∧ cmpI i a j b = 0) ∨ ((b < a ∨ (a = b ∧ j < i)) ∧ cmpI i a j b = 1) := by
  unfold cmpI
  by_cases h : a = b
  · rw [if_pos h]
    rcases cmpU_cases i j with ⟨h1, h2⟩ | ⟨h1, h2⟩ | ⟨h1, h2⟩
    · exact .inl ⟨.inr ⟨h, h1⟩, h2⟩
    · exact .inr (.inl ⟨⟨h1, h⟩, h2⟩)
    · exact .inr (.inr ⟨.inr ⟨h, h1⟩, h2⟩)
  · rw [if_neg h]
    rcases cmpU_cases a b with ⟨h1, h2⟩ | ⟨h1, h2⟩ | ⟨h1, h2⟩
    · exact .inl ⟨.inl h1, h2⟩
    · exact absurd h1 h
    · exact .inr (.inr ⟨.inl h1, h2⟩)

theorem cmpI_neg (i a j b : Nat) : cmpI j b i a = -cmpI i a j b := by
  rcases cmpI_cases i a j b with ⟨h1, h2⟩ | ⟨h1, h2⟩ | ⟨h1, h2⟩ <;> rcases cmpI_cases j b i a with ⟨h3, h4⟩ | ⟨h3, h4⟩ | ⟨h3, h4⟩ <;> rw [h2, h4] <;> omega
end Go.Proofs.Ythidinaflaogfaa
