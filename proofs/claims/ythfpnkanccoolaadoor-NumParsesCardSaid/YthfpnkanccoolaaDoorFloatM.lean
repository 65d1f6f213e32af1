/- Plain facts on numbers of 64 bits as IEEE 754 has them: their order is that of their bits, rounding keeps the order, and what can be held is held exactly. No program is named. -/
import Ieee.Arith
namespace Go.Proofs.YthfpnkanccoolaaDoor.Fl
open Ieee

/-- Rungs to one binade: 2^52. -/
def B : Nat := 4503599627370496
theorem B_eq : B = 2 ^ 52 := by decide
theorem B_pos : 0 < B := by decide

/-- The value of a rung, in units of the least place. -/
def val (r : Nat) : Nat := if r < B then r else (B + r % B) * 2 ^ (r / B - 1)

def magOf (r : Nat) : Nat := if r < B then r else B + r % B
def upOf (r : Nat) : Nat := if r < B then 0 else r / B - 1

theorem val_eq (r : Nat) : val r = magOf r * 2 ^ upOf r := by
  unfold val magOf upOf
  split
  · simp
  · rfl

theorem val_small {r : Nat} (h : r < B) : val r = r := if_pos h
theorem val_big {r : Nat} (h : B ≤ r) : val r = (B + r % B) * 2 ^ (r / B - 1) := if_neg (by omega)

theorem val_lt_up (r : Nat) : val r < B * 2 ^ (r / B) := by
  by_cases h : r < B
  · rw [val_small h]
    have : 0 < 2 ^ (r / B) := Nat.two_pow_pos _
    exact Nat.lt_of_lt_of_le h (Nat.le_mul_of_pos_right _ this)
  · rw [val_big (by omega)]
    have hq : 0 < r / B := Nat.div_pos (by omega) B_pos
    have ht : r % B < B := Nat.mod_lt _ B_pos
    have e : B * 2 ^ (r / B) = (2 * B) * 2 ^ (r / B - 1) := by
      have : 2 ^ (r / B) = 2 * 2 ^ (r / B - 1) := by rw [← Nat.pow_succ']; congr 1; omega
      rw [this, Nat.mul_comm 2 B, Nat.mul_assoc]
    rw [e]
    exact Nat.mul_lt_mul_of_pos_right (by omega) (Nat.two_pow_pos _)

theorem val_ge_low {r : Nat} (h : 0 < r / B) : B * 2 ^ (r / B - 1) ≤ val r := by
  have hr : B ≤ r := by
    rcases Nat.lt_or_ge r B with h1 | h1
    · rw [Nat.div_eq_of_lt h1] at h; omega
    · exact h1
  rw [val_big hr]
  exact Nat.mul_le_mul_right _ (by omega)

theorem val_mono {r s : Nat} (h : r < s) : val r < val s := by
  have hq : r / B ≤ s / B := Nat.div_le_div_right (by omega)
  by_cases e : r / B = s / B
  · have h1 := Nat.div_add_mod r B
    have h2 := Nat.div_add_mod s B
    rw [e] at h1
    have ht : r % B < s % B := by omega
    by_cases hs : s < B
    · rw [val_small hs, val_small (by omega)]; exact h
    · have hr : B ≤ r := by
        have : 0 < r / B := by rw [e]; exact Nat.div_pos (by omega) B_pos
        rcases Nat.lt_or_ge r B with h3 | h3
        · rw [Nat.div_eq_of_lt h3] at this; omega
        · exact h3
      rw [val_big hr, val_big (by omega), e]
      exact Nat.mul_lt_mul_of_pos_right (by omega) (Nat.two_pow_pos _)
  · have h1 := val_lt_up r
    have hlt : r / B < s / B := Nat.lt_of_le_of_ne hq e
    have h2 := val_ge_low (r := s) (Nat.lt_of_le_of_lt (Nat.zero_le _) hlt)
    have h3 : B * 2 ^ (r / B) ≤ B * 2 ^ (s / B - 1) := Nat.mul_le_mul_left _ (Nat.pow_le_pow_right (by omega) (Nat.le_sub_one_of_lt hlt))
    omega

theorem val_le {r s : Nat} (h : r ≤ s) : val r ≤ val s := by
  rcases Nat.lt_or_eq_of_le h with h | rfl
  · exact Nat.le_of_lt (val_mono h)
  · exact Nat.le_refl _

theorem val_lt_iff {r s : Nat} : val r < val s ↔ r < s := by
  refine ⟨fun h => ?_, val_mono⟩
  rcases Nat.lt_or_ge r s with h1 | h1
  · exact h1
  · have := val_le h1; omega

theorem val_inj {r s : Nat} (h : val r = val s) : r = s := by
  rcases Nat.lt_trichotomy r s with h1 | h1 | h1
  · have := val_mono h1; omega
  · exact h1
  · have := val_mono h1; omega

/-! ### Rounding -/

/-- y / 2^K, to the nearest whole number, the even one between two. -/
def near (y K : Nat) : Nat := y / 2 ^ K + (decide (2 ^ K < 2 * (y % 2 ^ K)) || (decide (2 ^ K = 2 * (y % 2 ^ K)) && decide (y / 2 ^ K % 2 = 1))).toNat

theorem near_bounds (y K : Nat) : y / 2 ^ K ≤ near y K ∧ near y K ≤ y / 2 ^ K + 1 := by
  unfold near
  have := Bool.toNat_le (decide (2 ^ K < 2 * (y % 2 ^ K)) || (decide (2 ^ K = 2 * (y % 2 ^ K)) && decide (y / 2 ^ K % 2 = 1)))
  omega

theorem near_mono {y z K : Nat} (h : y ≤ z) : near y K ≤ near z K := by
  have hq : y / 2 ^ K ≤ z / 2 ^ K := Nat.div_le_div_right h
  obtain ⟨_, h2⟩ := near_bounds y K
  obtain ⟨h3, _⟩ := near_bounds z K
  by_cases e : y / 2 ^ K = z / 2 ^ K
  · have h4 := Nat.div_add_mod y (2 ^ K)
    have h5 := Nat.div_add_mod z (2 ^ K)
    rw [e] at h4
    have hr : y % 2 ^ K ≤ z % 2 ^ K := by omega
    unfold near
    rw [e]
    refine Nat.add_le_add_left ?_ _
    generalize y % 2 ^ K = a at *
    generalize z % 2 ^ K = b at *
    generalize decide (z / 2 ^ K % 2 = 1) = c at *
    by_cases h6 : 2 ^ K < 2 * a
    · have h7 : 2 ^ K < 2 * b := by omega
      simp [h6, h7]
    · by_cases h7 : 2 ^ K < 2 * b
      · simp only [h7, decide_true, Bool.true_or]
        exact Bool.toNat_le _
      · by_cases h8 : 2 ^ K = 2 * a
        · have h9 : 2 ^ K = 2 * b := by omega
          have : a = b := by omega
          subst this
          exact Nat.le_refl _
        · simp [h6, h8]
  · omega

theorem near_exact (q K : Nat) : near (q * 2 ^ K) K = q := by
  have hp : 0 < 2 ^ K := Nat.two_pow_pos _
  unfold near
  rw [Nat.mul_mod_left, Nat.mul_div_cancel _ hp]
  have h1 : ¬ 2 ^ K < 2 * 0 := by omega
  have h2 : ¬ 2 ^ K = 2 * 0 := by omega
  simp only [h1, h2, decide_false, Bool.false_and, Bool.or_false, Bool.toNat_false, Nat.add_zero]

theorem near_scale (y K a : Nat) : near (y * 2 ^ a) (K + a) = near y K := by
  have hp : 0 < 2 ^ a := Nat.two_pow_pos _
  unfold near
  rw [Nat.pow_add, Nat.mul_div_mul_right _ _ hp, Nat.mul_mod_mul_right]
  have e : 2 * (y % 2 ^ K * 2 ^ a) = 2 * (y % 2 ^ K) * 2 ^ a := by rw [Nat.mul_assoc]
  rw [e]
  have h1 : (2 ^ K * 2 ^ a < 2 * (y % 2 ^ K) * 2 ^ a) ↔ 2 ^ K < 2 * (y % 2 ^ K) := Nat.mul_lt_mul_right hp
  have h2 : (2 ^ K * 2 ^ a = 2 * (y % 2 ^ K) * 2 ^ a) ↔ 2 ^ K = 2 * (y % 2 ^ K) := Nat.mul_right_cancel_iff hp
  rw [decide_eq_decide.2 h1, decide_eq_decide.2 h2]

/-- The model's cut, to the nearest, is 'near'. -/
theorem cut_near (neg : Bool) (n d : Nat) : Toward.even.cut neg n d = near n d := by
  unfold Toward.cut near
  simp only [Nat.one_shiftLeft]
  by_cases h : d ≤ n.log2 + 2
  · rw [Nat.min_eq_left h]
    congr 2
  · have hlt : n < 2 ^ (n.log2 + 1) := Nat.lt_log2_self
    have h1 : 2 ^ (n.log2 + 2) = 2 * 2 ^ (n.log2 + 1) := by rw [Nat.pow_succ, Nat.mul_comm]
    have h2 : 2 ^ (n.log2 + 2) ≤ 2 ^ d := Nat.pow_le_pow_right (by omega) (by omega)
    rw [Nat.min_eq_right (by omega), Nat.div_eq_of_lt (show n < 2 ^ (n.log2 + 2) by omega), Nat.mod_eq_of_lt (show n < 2 ^ (n.log2 + 2) by omega), Nat.div_eq_of_lt (show n < 2 ^ d by omega), Nat.mod_eq_of_lt (show n < 2 ^ d by omega)]
    have h3 : ¬ 2 ^ (n.log2 + 2) < 2 * n := by omega
    have h4 : ¬ 2 ^ d < 2 * n := by omega
    have h5 : ¬ 2 ^ d = 2 * n := by omega
    simp [h3, h4, h5]

/-! ### The nearest word -/

/-- How far the last digit that is kept lies above the least place 2^-1074, of 'mag * 2^place'. -/
def upTo (mag : Nat) (place : Int) : Nat := (place + mag.log2 + 1022).toNat

theorem leastPlace_eq : double.leastPlace = -1074 := by decide
theorem binade_eq : double.binade = B := by decide
theorem word_pos (r : Nat) : double.word false r = r := if_neg (by simp)

theorem key_near (mag : Nat) {a k : Nat} : near (mag * 2 ^ (a - k)) (k - a) = near (mag * 2 ^ a) k := by
  rcases Nat.le_total k a with h1 | h1
  · have e4 : k - a = 0 := by omega
    have e5 : mag * 2 ^ a = mag * 2 ^ (a - k) * 2 ^ k := by rw [Nat.mul_assoc, ← Nat.pow_add, Nat.sub_add_cancel h1]
    rw [e4, e5, near_exact]
    have := near_exact (mag * 2 ^ (a - k)) 0
    simpa using this
  · have e4 : a - k = 0 := by omega
    have e6 := near_scale mag (k - a) a
    rw [Nat.sub_add_cancel h1] at e6
    rw [e4, e6, Nat.pow_zero, Nat.mul_one]

/-- The rung nearest to y * 2^-c (y in units of 2^-(1074 + c)), if e is as far as 'upTo' says. -/
theorem nearest_eq {mag : Nat} (h : mag ≠ 0) (place : Int) {c a : Nat} (hp : place = (a : Int) - 1074 - c) :
    double.nearest false mag place = min (upTo mag place * B + near (mag * 2 ^ a) (c + upTo mag place)) double.infRung := by
  have hu : (upTo mag place : Int) = max (place + mag.log2 - 52) (-1074) + 1074 := by unfold upTo; omega
  generalize upTo mag place = e at *
  have hlast : max (place + (mag.log2 : Int) - (double.fractionBits : Int)) double.leastPlace = (e : Int) - 1074 := by
    rw [leastPlace_eq, show (double.fractionBits : Int) = 52 from rfl]
    omega
  have hdef : double.nearest false mag place = double.word false (min ((max (place + (mag.log2 : Int) - (double.fractionBits : Int)) double.leastPlace - double.leastPlace).toNat * double.binade + Toward.even.cut false (mag <<< (place - max (place + (mag.log2 : Int) - (double.fractionBits : Int)) double.leastPlace).toNat) (max (place + (mag.log2 : Int) - (double.fractionBits : Int)) double.leastPlace - place).toNat) double.infRung) := by
    unfold Format.nearest
    rw [if_neg h]
  rw [hdef, hlast, leastPlace_eq, binade_eq, word_pos, cut_near, Nat.shiftLeft_eq]
  have e1 : ((e : Int) - 1074 - -1074).toNat = e := by omega
  have e2 : (place - ((e : Int) - 1074)).toNat = a - (c + e) := by omega
  have e3 : ((e : Int) - 1074 - place).toNat = c + e - a := by omega
  rw [e1, e2, e3, key_near]

theorem nearest_zero (place : Int) : double.nearest false 0 place = 0 := by
  unfold Format.nearest
  rw [if_pos rfl, word_pos]

theorem two53 : (2 : Nat) ^ 53 = 2 * B := by decide

theorem log_le {m n a b : Nat} (hm : m ≠ 0) (h : m * 2 ^ a ≤ n * 2 ^ b) : m.log2 + a ≤ n.log2 + b := by
  rcases Nat.lt_or_ge (n.log2 + b) (m.log2 + a) with h1 | h1
  · exfalso
    have h2 : 2 ^ m.log2 ≤ m := Nat.log2_self_le hm
    have h3 : n < 2 ^ (n.log2 + 1) := Nat.lt_log2_self
    have h4 : 2 ^ (m.log2 + a) ≤ m * 2 ^ a := by rw [Nat.pow_add]; exact Nat.mul_le_mul_right _ h2
    have h5 : n * 2 ^ b < 2 ^ (n.log2 + 1) * 2 ^ b := Nat.mul_lt_mul_of_pos_right h3 (Nat.two_pow_pos _)
    rw [← Nat.pow_add] at h5
    have h6 : 2 ^ (n.log2 + 1 + b) ≤ 2 ^ (m.log2 + a) := Nat.pow_le_pow_right (by omega) (by omega)
    omega
  · exact h1

theorem near_hi {m a k : Nat} (h : m.log2 + 1 + a ≤ 53 + k) : near (m * 2 ^ a) k ≤ 2 * B := by
  have h3 : m < 2 ^ (m.log2 + 1) := Nat.lt_log2_self
  have h4 : m * 2 ^ a < 2 ^ (m.log2 + 1) * 2 ^ a := Nat.mul_lt_mul_of_pos_right h3 (Nat.two_pow_pos _)
  rw [← Nat.pow_add] at h4
  have h6 : 2 ^ (m.log2 + 1 + a) ≤ 2 ^ (53 + k) := Nat.pow_le_pow_right (by omega) h
  rw [Nat.pow_add 2 53, two53] at h6
  have h7 : m * 2 ^ a / 2 ^ k < 2 * B := (Nat.div_lt_iff_lt_mul (Nat.two_pow_pos _)).2 (Nat.lt_of_lt_of_le h4 h6)
  exact Nat.le_trans (near_bounds (m * 2 ^ a) k).2 h7

theorem near_lo {m a k : Nat} (hm : m ≠ 0) (h : 52 + k ≤ m.log2 + a) : B ≤ near (m * 2 ^ a) k := by
  have h3 : 2 ^ m.log2 ≤ m := Nat.log2_self_le hm
  have h4 : 2 ^ m.log2 * 2 ^ a ≤ m * 2 ^ a := Nat.mul_le_mul_right _ h3
  rw [← Nat.pow_add] at h4
  have h6 : 2 ^ (52 + k) ≤ 2 ^ (m.log2 + a) := Nat.pow_le_pow_right (by omega) h
  rw [Nat.pow_add 2 52, ← B_eq] at h6
  have h7 : B ≤ m * 2 ^ a / 2 ^ k := (Nat.le_div_iff_mul_le (Nat.two_pow_pos _)).2 (Nat.le_trans h6 h4)
  exact Nat.le_trans h7 (near_bounds (m * 2 ^ a) k).1

theorem rung_mono {e f x y : Nat} (he : e ≤ f) (h1 : e = f → x ≤ y) (h2 : e < f → x ≤ 2 * B ∧ B ≤ y) : e * B + x ≤ f * B + y := by
  rcases Nat.lt_or_eq_of_le he with h | h
  · obtain ⟨h3, h4⟩ := h2 h
    have h5 : (e + 1) * B ≤ f * B := Nat.mul_le_mul_right _ h
    rw [Nat.add_mul, Nat.one_mul] at h5
    omega
  · subst h
    exact Nat.add_le_add_left (h1 rfl) _

theorem min_mono {x y z : Nat} (h : x ≤ y) : min x z ≤ min y z := by omega

/-- Rounding keeps the order. -/
theorem nearest_mono {m n : Nat} {p q : Int} {c a b : Nat} (hp : p = (a : Int) - 1074 - c) (hq : q = (b : Int) - 1074 - c) (h : m * 2 ^ a ≤ n * 2 ^ b) : double.nearest false m p ≤ double.nearest false n q := by
  by_cases hm : m = 0
  · rw [hm, nearest_zero]; exact Nat.zero_le _
  have hn : n ≠ 0 := by
    intro hn
    rw [hn, Nat.zero_mul] at h
    have : 0 < m * 2 ^ a := Nat.mul_pos (Nat.pos_of_ne_zero hm) (Nat.two_pow_pos _)
    exact absurd h (Nat.not_le.2 this)
  rw [nearest_eq hm p hp, nearest_eq hn q hq]
  have hlog := log_le hm h
  have he : upTo m p ≤ upTo n q := by unfold upTo; omega
  have hA : m.log2 + 1 + a ≤ 53 + (c + upTo m p) := by unfold upTo; omega
  have hC : upTo m p < upTo n q → 52 + (c + upTo n q) ≤ n.log2 + b := by unfold upTo; omega
  exact min_mono (rung_mono he (fun e => by rw [e]; exact near_mono h) (fun hlt => ⟨near_hi hA, near_lo hn (hC hlt)⟩))

theorem nearest_congr {m n : Nat} {p q : Int} {c a b : Nat} (hp : p = (a : Int) - 1074 - c) (hq : q = (b : Int) - 1074 - c) (h : m * 2 ^ a = n * 2 ^ b) : double.nearest false m p = double.nearest false n q :=
  Nat.le_antisymm (nearest_mono hp hq (by omega)) (nearest_mono hq hp (by omega))

theorem infRung_eq : double.infRung = 2047 * B := by decide

/-- What a rung holds is held exactly. -/
theorem nearest_val {r : Nat} (hr : r ≤ double.infRung) : double.nearest false (magOf r) ((upOf r : Int) - 1074) = r := by
  by_cases h0 : r = 0
  · subst h0; exact nearest_zero _
  have hm : magOf r ≠ 0 := by unfold magOf; have := B_pos; split <;> omega
  rw [nearest_eq hm _ (c := 0) (a := upOf r) (by omega), Nat.zero_add]
  by_cases h : r < B
  · have e1 : magOf r = r := if_pos h
    have e2 : upOf r = 0 := if_pos h
    have hlog : r.log2 < 52 := (Nat.log2_lt h0).2 (by rw [← B_eq]; exact h)
    have e3 : upTo (magOf r) ((upOf r : Int) - 1074) = 0 := by rw [e1, e2]; unfold upTo; omega
    rw [e3, e1, e2]
    have := near_exact r 0
    simp only [Nat.pow_zero, Nat.mul_one, Nat.zero_mul, Nat.zero_add] at this ⊢
    rw [this]
    exact Nat.min_eq_left hr
  · have e1 : magOf r = B + r % B := if_neg h
    have e2 : upOf r = r / B - 1 := if_neg h
    have ht : r % B < B := Nat.mod_lt _ B_pos
    have hq : 0 < r / B := Nat.div_pos (by omega) B_pos
    have hlog : (magOf r).log2 = 52 := by
      rw [e1]
      have h1 : (B + r % B).log2 < 53 := (Nat.log2_lt (by omega)).2 (by rw [two53]; omega)
      have h2 : 52 ≤ (B + r % B).log2 := (Nat.le_log2 (by omega)).2 (by rw [← B_eq]; omega)
      omega
    have e3 : upTo (magOf r) ((upOf r : Int) - 1074) = upOf r := by unfold upTo; rw [hlog]; omega
    rw [e3, near_exact, e1, e2]
    have h3 := Nat.div_add_mod r B
    have h4 : (r / B - 1) * B + B = r / B * B := by
      have : r / B = (r / B - 1) + 1 := by omega
      rw [show r / B * B = ((r / B - 1) + 1) * B by rw [← this], Nat.add_mul, Nat.one_mul]
    rw [Nat.mul_comm] at h3
    have h5 : (r / B - 1) * B + (B + r % B) = r := by rw [← Nat.add_assoc, h4, h3]
    rw [h5]
    exact Nat.min_eq_left hr
end Go.Proofs.YthfpnkanccoolaaDoor.Fl
