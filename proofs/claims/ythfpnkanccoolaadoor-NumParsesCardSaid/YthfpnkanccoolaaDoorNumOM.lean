/- The order of numbers by their bits, and how scaling keeps it. -/
import Derived.Test.YthfpnkanccoolaaDoorNumS
namespace Go.Proofs.YthfpnkanccoolaaDoor
open Go.RowKit Fl

theorem rankB_inj {x y : Nat} (hx : x < 18446744073709551616) (hy : y < 18446744073709551616) (h : rankB x = rankB y) : x = y := by
  unfold rankB W at h
  split at h <;> split at h <;> omega

theorem cmpR_neg (x y : Nat) : cmpR y x = -cmpR x y := by
  unfold cmpR
  split <;> split <;> omega

theorem cmpR_zero {x y : Nat} : cmpR x y = 0 ↔ x = y := by
  unfold cmpR
  split
  · omega
  · split <;> omega

theorem cmpR_le {x y : Nat} : cmpR x y ≤ 0 ↔ x ≤ y := by
  unfold cmpR
  split
  · omega
  · split <;> omega

theorem cmpR_lt {x y : Nat} : cmpR x y < 0 ↔ x < y := by
  unfold cmpR
  split
  · omega
  · split <;> omega

theorem cmpB_neg (a b : Nat) : cmpB b a = -cmpB a b := cmpR_neg _ _

theorem cmpB_zero {a b : Nat} (ha : a < 18446744073709551616) (hb : b < 18446744073709551616) : cmpB a b = 0 ↔ bitsB a = bitsB b := by
  unfold cmpB
  rw [cmpR_zero]
  exact ⟨fun h => rankB_inj (bitsB_lt ha) (bitsB_lt hb) h, fun h => by rw [h]⟩

theorem cmpB_trans {a b c : Nat} (h1 : cmpB a b ≤ 0) (h2 : cmpB b c ≤ 0) : cmpB a c ≤ 0 := by
  unfold cmpB at *
  rw [cmpR_le] at *
  omega

/-- A word: its sign and its rung. -/
theorem read_word {a : Nat} (ha : a < 18446744073709551616) : Ieee.double.read a = datum (decide (W ≤ a)) (a % W) := by
  by_cases h : W ≤ a
  · have e : a = W + a % W := by unfold W at *; omega
    have hr : a % W < W := by unfold W; omega
    rw [decide_eq_true h]
    conv => lhs; rw [e]
    exact read_neg hr
  · have e : a % W = a := Nat.mod_eq_of_lt (by omega)
    rw [decide_eq_false h, e]
    exact read_pos (by omega)

theorem datum_nan {s : Bool} {r : Nat} (h : I < r) : datum s r = .nan s (r - I) := by
  unfold datum
  rw [if_neg (by omega), if_neg (by omega)]

theorem order_none {a b : Nat} (ha : a < 18446744073709551616) (h : I < a % W) : Ieee.double.order a b = none := by
  unfold Ieee.Format.order
  rw [read_word ha, datum_nan h]
  unfold Ieee.Datum.order
  rfl

theorem order_none' {a b : Nat} (hb : b < 18446744073709551616) (h : I < b % W) : Ieee.double.order a b = none := by
  unfold Ieee.Format.order
  rw [read_word hb, datum_nan h]
  generalize Ieee.double.read a = d
  cases d <;> rfl

theorem order_words {a b : Nat} (ha : a < 18446744073709551616) (hb : b < 18446744073709551616) (h : a % W ≤ I) (h' : b % W ≤ I) :
    Ieee.double.order a b = some (compare (sv (decide (W ≤ a)) (a % W)) (sv (decide (W ≤ b)) (b % W))) := by
  unfold Ieee.Format.order
  rw [read_word ha, read_word hb, order_sv _ _ h h']

theorem sv_lt {a b : Nat} (ha : a < 18446744073709551616) (hb : b < 18446744073709551616) (h : sv (decide (W ≤ a)) (a % W) < sv (decide (W ≤ b)) (b % W)) : rankB a < rankB b := by
  have hW : W = 9223372036854775808 := rfl
  by_cases h1 : W ≤ a <;> by_cases h2 : W ≤ b
  · rw [decide_eq_true h1, decide_eq_true h2] at h
    have h3 : val (b % W) < val (a % W) := by
      have h4 : -(val (a % W) : Int) < -(val (b % W) : Int) := h
      omega
    have h5 := val_lt_iff.1 h3
    have ma : a % W = a - W := by unfold W at *; omega
    have mb : b % W = b - W := by unfold W at *; omega
    rw [ma, mb] at h5
    unfold rankB
    rw [if_pos h1, if_pos h2]
    omega
  · unfold rankB
    rw [if_pos h1, if_neg h2]
    omega
  · rw [decide_eq_false h1, decide_eq_true h2] at h
    have h4 : (val (a % W) : Int) < -(val (b % W) : Int) := h
    omega
  · rw [decide_eq_false h1, decide_eq_false h2] at h
    have h3 : val (a % W) < val (b % W) := by
      have h4 : (val (a % W) : Int) < (val (b % W) : Int) := h
      omega
    have h5 := val_lt_iff.1 h3
    rw [Nat.mod_eq_of_lt (by omega), Nat.mod_eq_of_lt (by omega)] at h5
    unfold rankB
    rw [if_neg h1, if_neg h2]
    omega

theorem compare_lt_of {x y : Int} (h : compare x y = .lt) : x < y := by
  rcases Int.lt_trichotomy x y with h1 | h1 | h1
  · exact h1
  · subst h1; rw [cmp_eq] at h; cases h
  · rw [cmp_gt h1] at h; cases h

/-- What is less as a number is less in the order. -/
theorem less_cmp {a b : Nat} (ha : a < 18446744073709551616) (hb : b < 18446744073709551616) (h : Ieee.double.order a b = some .lt) : cmpB a b < 0 := by
  by_cases h1 : I < a % W
  · rw [order_none ha h1] at h; cases h
  by_cases h2 : I < b % W
  · rw [order_none' hb h2] at h; cases h
  rw [order_words ha hb (by omega) (by omega)] at h
  have h3 := sv_lt ha hb (compare_lt_of (Option.some.inj h))
  have e1 : bitsB a = a := if_neg h1
  have e2 : bitsB b = b := if_neg h2
  unfold cmpB
  rw [e1, e2, cmpR_lt]
  exact h3

/-- A number differs from itself just where it is none. -/
theorem self_order {b : Nat} (hb : b < 18446744073709551616) : (FloatKind.f64.format.order b b != some .eq) = decide (I < b % W) := by
  show (Ieee.double.order b b != some .eq) = _
  by_cases h : I < b % W
  · rw [order_none hb h, decide_eq_true h]; rfl
  · rw [order_words hb hb (by omega) (by omega), cmp_eq, decide_eq_false h]; rfl

theorem scaleB_le (n b : Nat) : scaleB n b ≤ 9223372036854775807 := by
  unfold scaleB
  split
  · omega
  · exact scaleR_le _ _

/-- A greater number scales ticks to no fewer ones. -/
theorem scaleB_mono {n x y : Nat} (hy : y < 18446744073709551616) (h : cmpB x y ≤ 0) (hn : ¬ I < y % W) : scaleB n x ≤ scaleB n y := by
  have hW : W = 9223372036854775808 := rfl
  have hI : I = 9218868437227405312 := rfl
  have hQ : Q = 9221120237041090561 := rfl
  unfold cmpB at h
  rw [cmpR_le] at h
  have ey : bitsB y = y := if_neg hn
  by_cases hz : n = 0 ∨ bitsB x = Q ∨ bitsB x = 0 ∨ W ≤ bitsB x
  · have : scaleB n x = 0 := if_pos hz
    rw [this]
    exact Nat.zero_le _
  · have hx : scaleB n x = scaleR n (bitsB x) := if_neg hz
    have c1 : n ≠ 0 := fun h => hz (.inl h)
    have c3 : bitsB x ≠ 0 := fun h => hz (.inr (.inr (.inl h)))
    have c4 : bitsB x < W := Nat.lt_of_not_le fun h => hz (.inr (.inr (.inr h)))
    have r1 : rankB (bitsB x) = bitsB x + W := if_neg (by omega)
    rw [r1, ey] at h
    have hyW : y < W := by
      rcases Nat.lt_or_ge y W with h1 | h1
      · exact h1
      · have r2 : rankB y = 18446744073709551615 - y := if_pos h1
        rw [r2] at h
        omega
    have r2 : rankB y = y + W := if_neg (by omega)
    rw [r2] at h
    have hyI : y ≤ I := by rw [Nat.mod_eq_of_lt hyW] at hn; omega
    have hz' : ¬ (n = 0 ∨ bitsB y = Q ∨ bitsB y = 0 ∨ W ≤ bitsB y) := by
      rw [ey]
      omega
    have hy2 : scaleB n y = scaleR n y := by
      unfold scaleB
      rw [if_neg hz', ey]
    rw [hx, hy2]
    exact scaleR_mono (by omega) hyI

theorem scaleB_one {k : Nat} (h : k < 2 * B) : scaleB k one = k := by
  have e : bitsB one = one := by decide
  by_cases h0 : k = 0
  · have : scaleB k one = 0 := if_pos (.inl h0)
    rw [this, h0]
  · have hz : ¬ (k = 0 ∨ bitsB one = Q ∨ bitsB one = 0 ∨ W ≤ bitsB one) := by
      rw [e]
      have a1 : one ≠ Q := by decide
      have a2 : one ≠ 0 := by decide
      have a3 : ¬ W ≤ one := by decide
      exact fun h => by rcases h with h | h | h | h <;> contradiction
    have : scaleB k one = scaleR k (bitsB one) := if_neg hz
    rw [this, e]
    exact scaleR_one h

theorem addN_comm (a b : Nat) : addN b a = addN a b := by
  unfold addN
  rw [Nat.add_comm]

theorem addN_le (a b : Nat) : addN a b ≤ 9223372036854775807 := by
  unfold addN
  split <;> omega
end Go.Proofs.YthfpnkanccoolaaDoor
