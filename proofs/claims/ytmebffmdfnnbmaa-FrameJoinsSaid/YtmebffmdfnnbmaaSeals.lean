/- The walk of the statement SumSeals: it returns true whatever the bytes are. -/
import Derived.Test.YtmebffmdfnnbmaaROpen
import Derived.Test.YtmebffmdfnnbmaaCat
import Derived.Test.YtmebffmdfnnbmaaU8Row
namespace Go.Proofs.Ytmebffmdfnnbmaa
open Go.RowKit Crc

theorem sealL_inj {a b : List Nat} (h : sealL a = sealL b) : a = b := by
  have hl : a.length = b.length := by
    have := congrArg List.length h
    rw [sealL_len, sealL_len] at this
    omega
  have h1 : (sealL a).take a.length = a := List.take_left
  have h2 : (sealL b).take b.length = b := List.take_left
  rw [← h1, ← h2, h, hl]

theorem equal_yes (a a' : Option Addr) (n cap n' cap' : Nat) (l : List Nat) (w : World) (hl : Bytes w a n cap l) (hl' : Bytes w a' n' cap' l) :
    Calls Try.prog 13 #[.slice a n cap, .slice a' n' cap'] w fun e w' => e = .returned (.bool true) ∧ Below w.heap.size w w' := by
  refine (equal_any a a' n cap n' cap' l l w hl hl').mono ?_
  rintro e w' ⟨rfl, hb⟩
  exact ⟨ret_bool (decide_eq_true rfl), hb⟩

theorem open_sealed (a : Option Addr) (n cap : Nat) (l : List Nat) (w : World) (hl : Bytes w a n cap (sealL l)) (hm : n ≤ 100000000000000) :
    Calls Try.prog 27 #[.slice a n cap] w fun e w' => ∃ p n' cp, e = .returned (.tuple #[.slice p n' cp, .bool true]) ∧ Bytes w' p n' cp l ∧ Below w.heap.size w w' := by
  refine (open_any a n cap _ w hl hm).mono ?_
  rintro e w' ⟨hb, ⟨x, hx, p, n', cp, rfl, hB⟩ | ⟨hno, _⟩⟩
  · rw [sealL_inj hx] at hB
    exact ⟨p, n', cp, rfl, hB, hb⟩
  · exact absurd rfl (hno l)

/-- Open and the reference's Open answer alike. -/
def TwoOpens (w : World) (l : List Nat) (e : Ending) (w' : World) (y : Option Addr × Nat × Nat) (is : Bool) (k : List Nat) : Prop :=
  e = .returned (.tuple #[.slice y.1 y.2.1 y.2.2, .bool is]) ∧ Below w.heap.size w w' ∧ Bytes w' y.1 y.2.1 y.2.2 k ∧ ((is = true ∧ sealL k = l) ∨ (is = false ∧ k = [] ∧ ∀ b, sealL b ≠ l))

theorem two_of_open {w w' : World} {l : List Nat} {e : Ending} (h : OpenEnd w l e w') : ∃ y is k, TwoOpens w l e w' y is k := by
  obtain ⟨hb, ⟨x, hx, p, n', cp, rfl, hB⟩ | ⟨hno, rfl⟩⟩ := h
  · exact ⟨(p, n', cp), true, x, rfl, hb, hB, .inl ⟨rfl, hx⟩⟩
  · exact ⟨(none, 0, 0), false, [], rfl, hb, bytes_nil w', .inr ⟨rfl, rfl, hno⟩⟩

theorem two_same {l k k' : List Nat} {is is' : Bool} (h : (is = true ∧ sealL k = l) ∨ (is = false ∧ k = [] ∧ ∀ b, sealL b ≠ l)) (h' : (is' = true ∧ sealL k' = l) ∨ (is' = false ∧ k' = [] ∧ ∀ b, sealL b ≠ l)) : is = is' ∧ k = k' := by
  rcases h with ⟨rfl, h⟩ | ⟨rfl, rfl, h⟩ <;> rcases h' with ⟨rfl, h'⟩ | ⟨rfl, rfl, h'⟩
  · exact ⟨rfl, sealL_inj (h.trans h'.symm)⟩
  · exact absurd h (h' k)
  · exact absurd h' (h k')
  · exact ⟨rfl, rfl⟩

def IncRel (w2 : World) (g N : Nat) (i : Value) (wr : World) : Prop := ∃ k : Nat, k ≤ N ∧ i = .int .i64 k ∧ U8Row wr g N ∧ Below w2.heap.size w2 wr

end Go.Proofs.Ytmebffmdfnnbmaa
