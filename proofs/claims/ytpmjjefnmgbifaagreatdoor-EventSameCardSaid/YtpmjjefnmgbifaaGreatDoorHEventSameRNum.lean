/- The walk of the reference's Number. -/
import Derived.Test.YtpmjjefnmgbifaaGreatDoorMB19
import Derived.Deep.QuietTactic
import Derived.BigQuiet
namespace Go.Proofs.YtpmjjefnmgbifaaGreatDoor
open Go.RowKit

def stepN (b c : Nat) : Nat := if 48 ≤ c ∧ c ≤ 57 then (b * 10 + (c - 48)) % 18446744073709551616 else b

def numv (l : List Nat) : Nat := l.foldl stepN 0

theorem numv_decD (n : Nat) : numv (decD n) = n % 18446744073709551616 := by
  induction n using Nat.strongRecOn with
  | ind n ih =>
    by_cases h : n < 10
    · rw [decD_low h]
      unfold numv
      rw [List.foldl_cons, List.foldl_nil]
      unfold stepN
      rw [if_pos (by omega)]
      omega
    · rw [decD_high h]
      have h1 := ih (n / 10) (by omega)
      unfold numv at *
      rw [List.foldl_append, h1, List.foldl_cons, List.foldl_nil]
      unfold stepN
      rw [if_pos (by omega)]
      omega

theorem numv_decL (n : Int) : numv (decL n) = n.natAbs % 18446744073709551616 := by
  unfold decL
  split
  · have h := numv_decD n.natAbs
    unfold numv at *
    rw [List.foldl_cons, show stepN 0 45 = 0 from rfl, h]
  · exact numv_decD _

theorem numv_lt (l : List Nat) : numv l < 18446744073709551616 := by
  have h : ∀ (l : List Nat) (b : Nat), b < 18446744073709551616 → l.foldl stepN b < 18446744073709551616 := by
    intro l
    induction l with
    | nil => intro b hb; exact hb
    | cons c r ih =>
      intro b hb
      rw [List.foldl_cons]
      apply ih
      unfold stepN
      split
      · exact Nat.mod_lt _ (by omega)
      · exact hb
  exact h l 0 (by omega)

theorem num_found {x : Int} {l : List Nat} (h1 : -9223372036854775808 ≤ x) (h2 : x ≤ 9223372036854775807) (h : decL x = l) : x = IntKind.i64.wrap (numv l : Int) ∨ x = IntKind.i64.wrap (-IntKind.i64.wrap (numv l : Int)) := by
  have e := numv_decL x
  rw [h] at e
  rw [e, IntKind.wrap_i64, IntKind.wrap_i64]
  omega

theorem wrap_i64_range (x : Int) : -9223372036854775808 ≤ IntKind.i64.wrap x ∧ IntKind.i64.wrap x ≤ 9223372036854775807 := by
  rw [IntKind.wrap_i64]
  omega

theorem decL_byte (n : Int) : ∀ c ∈ decL n, c < 256 := by
  have hh : ∀ m, ∀ c ∈ decD m, c < 256 := fun m c hc => by have := decD_digit m c hc; omega
  intro c hc
  unfold decL at hc
  split at hc
  · rcases List.mem_cons.1 hc with rfl | hc
    · decide
    · exact hh _ c hc
  · exact hh _ c hc

/-- What Number answers. -/
def NumEnd (w : World) (l : List Nat) (e : Ending) (w' : World) : Prop :=
  ∃ m : Int, (-9223372036854775808 ≤ m ∧ m ≤ 9223372036854775807) ∧ e = .returned (.tuple #[.int .i64 m, .bool (decide (decL m = l))]) ∧ (decL m ≠ l → ∀ x : Int, -9223372036854775808 ≤ x → x ≤ 9223372036854775807 → decL x ≠ l) ∧ Below w.heap.size w w'

theorem stepN_digit {b c : Nat} (h1 : 48 ≤ (c : Int)) (h2 : (c : Int) ≤ 57) : IntKind.u64.wrap (IntKind.u64.wrap ((b : Int) * 10) + ((c : Int) - 48)) = ((stepN b c : Nat) : Int) := by
  unfold stepN
  rw [if_pos (show 48 ≤ c ∧ c ≤ 57 by omega), IntKind.wrap_u64, IntKind.wrap_u64]
  omega

theorem stepN_none {b c : Nat} (h1 : ¬ (48 ≤ (c : Int) ∧ (c : Int) ≤ 57)) : (b : Int) = ((stepN b c : Nat) : Int) := by
  unfold stepN
  rw [if_neg (show ¬ (48 ≤ c ∧ c ≤ 57) by omega)]

def NumRel (l : List Nat) (b i : Value) : Prop := ∃ k : Nat, k ≤ l.length ∧ i = .int .i64 k ∧ b = .int .u64 (numv (l.take k) : Nat)

theorem num_close {l : List Nat} {k b c : Nat} {x : Int} (h : k < l.length) (hn : numv (l.take (k + 1)) = stepN b c) (hx : x = ((stepN b c : Nat) : Int)) : NumRel l (.int .u64 x) (.int .i64 ((k : Int) + 1)) := by
  refine ⟨k + 1, by omega, by go_num, ?_⟩
  rw [hn, hx]

theorem num_next {l : List Nat} {k : Nat} (h : k < l.length) : numv (l.take (k + 1)) = stepN (numv (l.take k)) (l.getD k 0) := by
  rw [List.take_succ_eq_append_getElem h, List.getD_eq_getElem?_getD, List.getElem?_eq_getElem h]
  unfold numv
  rw [List.foldl_append]
  rfl

end Go.Proofs.YtpmjjefnmgbifaaGreatDoor
