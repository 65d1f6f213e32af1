import Derived.WalkKit
import Derived.Laws.BitsAllLaws
import Ieee.Arith
import Derived.Laws.FloatBits
import Derived.Test.YtmcdfmhciinocaaGreatDoorMB1
import Derived.Test.YtmcdfmhciinocaaGreatDoorRows
import Derived.Laws.Externs
import Derived.Laws.FloatArith
/- Words of 64 bits: what is returned, and all bits inverted. -/
namespace Go.Proofs.YtmcdfmhciinocaaGreatDoor
open Go.RowKit

theorem ret_u64 {a b : Int} (h : a = b) : Ending.returned (.int .u64 a) = Ending.returned (.int .u64 b) := by rw [h]
theorem ret_i64 {a b : Int} (h : a = b) : Ending.returned (.int .i64 a) = Ending.returned (.int .i64 b) := by rw [h]

/-- All bits inverted, of 64 without a sign. -/
theorem not_u64 (r : Nat) (h : r < 18446744073709551616) : bits .xor .u64 IntKind.u64.max (r : Int) = ((18446744073709551615 - r : Nat) : Int) := by
  have e : IntKind.u64.max = ((18446744073709551615 : Nat) : Int) := rfl
  rw [e, u64_xor_nat 18446744073709551615 r (by omega) h]
  congr 1
  have h2 := congrArg BitVec.toNat (BitVec.allOnes_xor (x := BitVec.ofNat 64 r))
  rw [BitVec.toNat_xor, BitVec.toNat_not, BitVec.toNat_allOnes, BitVec.toNat_ofNat, Nat.mod_eq_of_lt (by omega)] at h2
  exact h2

/-- All bits inverted, of 64 with a sign. -/
theorem not_i64 (z : Nat) (h : z < 9223372036854775808) : bits .xor .i64 (-1) (z : Int) = -(z : Int) - 1 := by
  show IntKind.i64.wrap ((BitVec.ofInt 64 (-1) ^^^ BitVec.ofInt 64 (z : Int)).toNat : Int) = _
  have e1 : BitVec.ofInt 64 (-1) = BitVec.allOnes 64 := by decide
  have e2 : (BitVec.ofInt 64 (z : Int)).toNat = z := by
    rw [BitVec.ofInt_natCast, BitVec.toNat_ofNat]; exact Nat.mod_eq_of_lt (by omega)
  rw [e1, BitVec.allOnes_xor, BitVec.toNat_not, e2, IntKind.wrap_i64]
  omega

end Go.Proofs.YtmcdfmhciinocaaGreatDoor

/- Plain facts on numbers of 64 bits as IEEE 754 has them: their order is that of their bits, rounding keeps the order, and what can be held is held exactly. No program is named. -/
namespace Go.Proofs.YtmcdfmhciinocaaGreatDoor.Fl
open Ieee

/-- Rungs to one binade: 2^52. -/
def B : Nat := 4503599627370496
theorem B_eq : B = 2 ^ 52 := by decide
theorem B_pos : 0 < B := by decide

/-- The value of a rung, in units of the least place. -/
def val (r : Nat) : Nat := if r < B then r else (B + r % B) * 2 ^ (r / B - 1)

def magOf (r : Nat) : Nat := if r < B then r else B + r % B
def upOf (r : Nat) : Nat := if r < B then 0 else r / B - 1

theorem val_eq (r : Nat) : val r = magOf r * 2 ^ upOf r := by
  unfold val magOf upOf
  split
  · simp
  · rfl

theorem val_small {r : Nat} (h : r < B) : val r = r := if_pos h
theorem val_big {r : Nat} (h : B ≤ r) : val r = (B + r % B) * 2 ^ (r / B - 1) := if_neg (by omega)

theorem val_lt_up (r : Nat) : val r < B * 2 ^ (r / B) := by
  by_cases h : r < B
  · rw [val_small h]
    have : 0 < 2 ^ (r / B) := Nat.two_pow_pos _
    exact Nat.lt_of_lt_of_le h (Nat.le_mul_of_pos_right _ this)
  · rw [val_big (by omega)]
    have hq : 0 < r / B := Nat.div_pos (by omega) B_pos
    have ht : r % B < B := Nat.mod_lt _ B_pos
    have e : B * 2 ^ (r / B) = (2 * B) * 2 ^ (r / B - 1) := by
      have : 2 ^ (r / B) = 2 * 2 ^ (r / B - 1) := by rw [← Nat.pow_succ']; congr 1; omega
      rw [this, Nat.mul_comm 2 B, Nat.mul_assoc]
    rw [e]
    exact Nat.mul_lt_mul_of_pos_right (by omega) (Nat.two_pow_pos _)

theorem val_ge_low {r : Nat} (h : 0 < r / B) : B * 2 ^ (r / B - 1) ≤ val r := by
  have hr : B ≤ r := by
    rcases Nat.lt_or_ge r B with h1 | h1
    · rw [Nat.div_eq_of_lt h1] at h; omega
    · exact h1
  rw [val_big hr]
  exact Nat.mul_le_mul_right _ (by omega)

theorem val_mono {r s : Nat} (h : r < s) : val r < val s := by
  have hq : r / B ≤ s / B := Nat.div_le_div_right (by omega)
  by_cases e : r / B = s / B
  · have h1 := Nat.div_add_mod r B
    have h2 := Nat.div_add_mod s B
    rw [e] at h1
    have ht : r % B < s % B := by omega
    by_cases hs : s < B
    · rw [val_small hs, val_small (by omega)]; exact h
    · have hr : B ≤ r := by
        have : 0 < r / B := by rw [e]; exact Nat.div_pos (by omega) B_pos
        rcases Nat.lt_or_ge r B with h3 | h3
        · rw [Nat.div_eq_of_lt h3] at this; omega
        · exact h3
      rw [val_big hr, val_big (by omega), e]
      exact Nat.mul_lt_mul_of_pos_right (by omega) (Nat.two_pow_pos _)
  · have h1 := val_lt_up r
    have hlt : r / B < s / B := Nat.lt_of_le_of_ne hq e
    have h2 := val_ge_low (r := s) (Nat.lt_of_le_of_lt (Nat.zero_le _) hlt)
    have h3 : B * 2 ^ (r / B) ≤ B * 2 ^ (s / B - 1) := Nat.mul_le_mul_left _ (Nat.pow_le_pow_right (by omega) (Nat.le_sub_one_of_lt hlt))
    omega

theorem val_le {r s : Nat} (h : r ≤ s) : val r ≤ val s := by
  rcases Nat.lt_or_eq_of_le h with h | rfl
  · exact Nat.le_of_lt (val_mono h)
  · exact Nat.le_refl _

theorem val_lt_iff {r s : Nat} : val r < val s ↔ r < s := by
  refine ⟨fun h => ?_, val_mono⟩
  rcases Nat.lt_or_ge r s with h1 | h1
  · exact h1
  · have := val_le h1; omega

theorem val_inj {r s : Nat} (h : val r = val s) : r = s := by
  rcases Nat.lt_trichotomy r s with h1 | h1 | h1
  · have := val_mono h1; omega
  · exact h1
  · have := val_mono h1; omega

/-! ### Rounding -/

/-- y / 2^K, to the nearest whole number, the even one between two. -/
def near (y K : Nat) : Nat := y / 2 ^ K + (decide (2 ^ K < 2 * (y % 2 ^ K)) || (decide (2 ^ K = 2 * (y % 2 ^ K)) && decide (y / 2 ^ K % 2 = 1))).toNat

theorem near_bounds (y K : Nat) : y / 2 ^ K ≤ near y K ∧ near y K ≤ y / 2 ^ K + 1 := by
  unfold near
  have := Bool.toNat_le (decide (2 ^ K < 2 * (y % 2 ^ K)) || (decide (2 ^ K = 2 * (y % 2 ^ K)) && decide (y / 2 ^ K % 2 = 1)))
  omega

theorem near_mono {y z K : Nat} (h : y ≤ z) : near y K ≤ near z K := by
  have hq : y / 2 ^ K ≤ z / 2 ^ K := Nat.div_le_div_right h
  obtain ⟨_, h2⟩ := near_bounds y K
  obtain ⟨h3, _⟩ := near_bounds z K
  by_cases e : y / 2 ^ K = z / 2 ^ K
  · have h4 := Nat.div_add_mod y (2 ^ K)
    have h5 := Nat.div_add_mod z (2 ^ K)
    rw [e] at h4
    have hr : y % 2 ^ K ≤ z % 2 ^ K := by omega
    unfold near
    rw [e]
    refine Nat.add_le_add_left ?_ _
    generalize y % 2 ^ K = a at *
    generalize z % 2 ^ K = b at *
    generalize decide (z / 2 ^ K % 2 = 1) = c at *
    by_cases h6 : 2 ^ K < 2 * a
    · have h7 : 2 ^ K < 2 * b := by omega
      simp [h6, h7]
    · by_cases h7 : 2 ^ K < 2 * b
      · simp only [h7, decide_true, Bool.true_or]
        exact Bool.toNat_le _
      · by_cases h8 : 2 ^ K = 2 * a
        · have h9 : 2 ^ K = 2 * b := by omega
          have : a = b := by omega
          subst this
          exact Nat.le_refl _
        · simp [h6, h8]
  · omega

theorem near_exact (q K : Nat) : near (q * 2 ^ K) K = q := by
  have hp : 0 < 2 ^ K := Nat.two_pow_pos _
  unfold near
  rw [Nat.mul_mod_left, Nat.mul_div_cancel _ hp]
  have h1 : ¬ 2 ^ K < 2 * 0 := by omega
  have h2 : ¬ 2 ^ K = 2 * 0 := by omega
  simp only [h1, h2, decide_false, Bool.false_and, Bool.or_false, Bool.toNat_false, Nat.add_zero]

theorem near_scale (y K a : Nat) : near (y * 2 ^ a) (K + a) = near y K := by
  have hp : 0 < 2 ^ a := Nat.two_pow_pos _
  unfold near
  rw [Nat.pow_add, Nat.mul_div_mul_right _ _ hp, Nat.mul_mod_mul_right]
  have e : 2 * (y % 2 ^ K * 2 ^ a) = 2 * (y % 2 ^ K) * 2 ^ a := by rw [Nat.mul_assoc]
  rw [e]
  have h1 : (2 ^ K * 2 ^ a < 2 * (y % 2 ^ K) * 2 ^ a) ↔ 2 ^ K < 2 * (y % 2 ^ K) := Nat.mul_lt_mul_right hp
  have h2 : (2 ^ K * 2 ^ a = 2 * (y % 2 ^ K) * 2 ^ a) ↔ 2 ^ K = 2 * (y % 2 ^ K) := Nat.mul_right_cancel_iff hp
  rw [decide_eq_decide.2 h1, decide_eq_decide.2 h2]

/-- The model's cut, to the nearest, is 'near'. -/
theorem cut_near (neg : Bool) (n d : Nat) : Toward.even.cut neg n d = near n d := by
  unfold Toward.cut near
  simp only [Nat.one_shiftLeft]
  by_cases h : d ≤ n.log2 + 2
  · rw [Nat.min_eq_left h]
    congr 2
  · have hlt : n < 2 ^ (n.log2 + 1) := Nat.lt_log2_self
    have h1 : 2 ^ (n.log2 + 2) = 2 * 2 ^ (n.log2 + 1) := by rw [Nat.pow_succ, Nat.mul_comm]
    have h2 : 2 ^ (n.log2 + 2) ≤ 2 ^ d := Nat.pow_le_pow_right (by omega) (by omega)
    rw [Nat.min_eq_right (by omega), Nat.div_eq_of_lt (show n < 2 ^ (n.log2 + 2) by omega), Nat.mod_eq_of_lt (show n < 2 ^ (n.log2 + 2) by omega), Nat.div_eq_of_lt (show n < 2 ^ d by omega), Nat.mod_eq_of_lt (show n < 2 ^ d by omega)]
    have h3 : ¬ 2 ^ (n.log2 + 2) < 2 * n := by omega
    have h4 : ¬ 2 ^ d < 2 * n := by omega
    have h5 : ¬ 2 ^ d = 2 * n := by omega
    simp [h3, h4, h5]

/-! ### The nearest word -/

/-- How far the last digit that is kept lies above the least place 2^-1074, of 'mag * 2^place'. -/
def upTo (mag : Nat) (place : Int) : Nat := (place + mag.log2 + 1022).toNat

theorem leastPlace_eq : double.leastPlace = -1074 := by decide
theorem binade_eq : double.binade = B := by decide
theorem word_pos (r : Nat) : double.word false r = r := if_neg (by simp)

theorem key_near (mag : Nat) {a k : Nat} : near (mag * 2 ^ (a - k)) (k - a) = near (mag * 2 ^ a) k := by
  rcases Nat.le_total k a with h1 | h1
  · have e4 : k - a = 0 := by omega
    have e5 : mag * 2 ^ a = mag * 2 ^ (a - k) * 2 ^ k := by rw [Nat.mul_assoc, ← Nat.pow_add, Nat.sub_add_cancel h1]
    rw [e4, e5, near_exact]
    have := near_exact (mag * 2 ^ (a - k)) 0
    simpa using this
  · have e4 : a - k = 0 := by omega
    have e6 := near_scale mag (k - a) a
    rw [Nat.sub_add_cancel h1] at e6
    rw [e4, e6, Nat.pow_zero, Nat.mul_one]

/-- The rung nearest to y * 2^-c (y in units of 2^-(1074 + c)), if e is as far as 'upTo' says. -/
theorem nearest_eq {mag : Nat} (h : mag ≠ 0) (place : Int) {c a : Nat} (hp : place = (a : Int) - 1074 - c) :
    double.nearest false mag place = min (upTo mag place * B + near (mag * 2 ^ a) (c + upTo mag place)) double.infRung := by
  have hu : (upTo mag place : Int) = max (place + mag.log2 - 52) (-1074) + 1074 := by unfold upTo; omega
  generalize upTo mag place = e at *
  have hlast : max (place + (mag.log2 : Int) - (double.fractionBits : Int)) double.leastPlace = (e : Int) - 1074 := by
    rw [leastPlace_eq, show (double.fractionBits : Int) = 52 from rfl]
    omega
  have hdef : double.nearest false mag place = double.word false (min ((max (place + (mag.log2 : Int) - (double.fractionBits : Int)) double.leastPlace - double.leastPlace).toNat * double.binade + Toward.even.cut false (mag <<< (place - max (place + (mag.log2 : Int) - (double.fractionBits : Int)) double.leastPlace).toNat) (max (place + (mag.log2 : Int) - (double.fractionBits : Int)) double.leastPlace - place).toNat) double.infRung) := by
    unfold Format.nearest
    rw [if_neg h]
  rw [hdef, hlast, leastPlace_eq, binade_eq, word_pos, cut_near, Nat.shiftLeft_eq]
  have e1 : ((e : Int) - 1074 - -1074).toNat = e := by omega
  have e2 : (place - ((e : Int) - 1074)).toNat = a - (c + e) := by omega
  have e3 : ((e : Int) - 1074 - place).toNat = c + e - a := by omega
  rw [e1, e2, e3, key_near]

theorem nearest_zero (place : Int) : double.nearest false 0 place = 0 := by
  unfold Format.nearest
  rw [if_pos rfl, word_pos]

theorem two53 : (2 : Nat) ^ 53 = 2 * B := by decide

theorem log_le {m n a b : Nat} (hm : m ≠ 0) (h : m * 2 ^ a ≤ n * 2 ^ b) : m.log2 + a ≤ n.log2 + b := by
  rcases Nat.lt_or_ge (n.log2 + b) (m.log2 + a) with h1 | h1
  · exfalso
    have h2 : 2 ^ m.log2 ≤ m := Nat.log2_self_le hm
    have h3 : n < 2 ^ (n.log2 + 1) := Nat.lt_log2_self
    have h4 : 2 ^ (m.log2 + a) ≤ m * 2 ^ a := by rw [Nat.pow_add]; exact Nat.mul_le_mul_right _ h2
    have h5 : n * 2 ^ b < 2 ^ (n.log2 + 1) * 2 ^ b := Nat.mul_lt_mul_of_pos_right h3 (Nat.two_pow_pos _)
    rw [← Nat.pow_add] at h5
    have h6 : 2 ^ (n.log2 + 1 + b) ≤ 2 ^ (m.log2 + a) := Nat.pow_le_pow_right (by omega) (by omega)
    omega
  · exact h1

theorem near_hi {m a k : Nat} (h : m.log2 + 1 + a ≤ 53 + k) : near (m * 2 ^ a) k ≤ 2 * B := by
  have h3 : m < 2 ^ (m.log2 + 1) := Nat.lt_log2_self
  have h4 : m * 2 ^ a < 2 ^ (m.log2 + 1) * 2 ^ a := Nat.mul_lt_mul_of_pos_right h3 (Nat.two_pow_pos _)
  rw [← Nat.pow_add] at h4
  have h6 : 2 ^ (m.log2 + 1 + a) ≤ 2 ^ (53 + k) := Nat.pow_le_pow_right (by omega) h
  rw [Nat.pow_add 2 53, two53] at h6
  have h7 : m * 2 ^ a / 2 ^ k < 2 * B := (Nat.div_lt_iff_lt_mul (Nat.two_pow_pos _)).2 (Nat.lt_of_lt_of_le h4 h6)
  exact Nat.le_trans (near_bounds (m * 2 ^ a) k).2 h7

theorem near_lo {m a k : Nat} (hm : m ≠ 0) (h : 52 + k ≤ m.log2 + a) : B ≤ near (m * 2 ^ a) k := by
  have h3 : 2 ^ m.log2 ≤ m := Nat.log2_self_le hm
  have h4 : 2 ^ m.log2 * 2 ^ a ≤ m * 2 ^ a := Nat.mul_le_mul_right _ h3
  rw [← Nat.pow_add] at h4
  have h6 : 2 ^ (52 + k) ≤ 2 ^ (m.log2 + a) := Nat.pow_le_pow_right (by omega) h
  rw [Nat.pow_add 2 52, ← B_eq] at h6
  have h7 : B ≤ m * 2 ^ a / 2 ^ k := (Nat.le_div_iff_mul_le (Nat.two_pow_pos _)).2 (Nat.le_trans h6 h4)
  exact Nat.le_trans h7 (near_bounds (m * 2 ^ a) k).1

theorem rung_mono {e f x y : Nat} (he : e ≤ f) (h1 : e = f → x ≤ y) (h2 : e < f → x ≤ 2 * B ∧ B ≤ y) : e * B + x ≤ f * B + y := by
  rcases Nat.lt_or_eq_of_le he with h | h
  · obtain ⟨h3, h4⟩ := h2 h
    have h5 : (e + 1) * B ≤ f * B := Nat.mul_le_mul_right _ h
    rw [Nat.add_mul, Nat.one_mul] at h5
    omega
  · subst h
    exact Nat.add_le_add_left (h1 rfl) _

theorem min_mono {x y z : Nat} (h : x ≤ y) : min x z ≤ min y z := by omega

/-- Rounding keeps the order. -/
theorem nearest_mono {m n : Nat} {p q : Int} {c a b : Nat} (hp : p = (a : Int) - 1074 - c) (hq : q = (b : Int) - 1074 - c) (h : m * 2 ^ a ≤ n * 2 ^ b) : double.nearest false m p ≤ double.nearest false n q := by
  by_cases hm : m = 0
  · rw [hm, nearest_zero]; exact Nat.zero_le _
  have hn : n ≠ 0 := by
    intro hn
    rw [hn, Nat.zero_mul] at h
    have : 0 < m * 2 ^ a := Nat.mul_pos (Nat.pos_of_ne_zero hm) (Nat.two_pow_pos _)
    exact absurd h (Nat.not_le.2 this)
  rw [nearest_eq hm p hp, nearest_eq hn q hq]
  have hlog := log_le hm h
  have he : upTo m p ≤ upTo n q := by unfold upTo; omega
  have hA : m.log2 + 1 + a ≤ 53 + (c + upTo m p) := by unfold upTo; omega
  have hC : upTo m p < upTo n q → 52 + (c + upTo n q) ≤ n.log2 + b := by unfold upTo; omega
  exact min_mono (rung_mono he (fun e => by rw [e]; exact near_mono h) (fun hlt => ⟨near_hi hA, near_lo hn (hC hlt)⟩))

theorem nearest_congr {m n : Nat} {p q : Int} {c a b : Nat} (hp : p = (a : Int) - 1074 - c) (hq : q = (b : Int) - 1074 - c) (h : m * 2 ^ a = n * 2 ^ b) : double.nearest false m p = double.nearest false n q :=
  Nat.le_antisymm (nearest_mono hp hq (by omega)) (nearest_mono hq hp (by omega))

theorem infRung_eq : double.infRung = 2047 * B := by decide

/-- What a rung holds is held exactly. -/
theorem nearest_val {r : Nat} (hr : r ≤ double.infRung) : double.nearest false (magOf r) ((upOf r : Int) - 1074) = r := by
  by_cases h0 : r = 0
  · subst h0; exact nearest_zero _
  have hm : magOf r ≠ 0 := by unfold magOf; have := B_pos; split <;> omega
  rw [nearest_eq hm _ (c := 0) (a := upOf r) (by omega), Nat.zero_add]
  by_cases h : r < B
  · have e1 : magOf r = r := if_pos h
    have e2 : upOf r = 0 := if_pos h
    have hlog : r.log2 < 52 := (Nat.log2_lt h0).2 (by rw [← B_eq]; exact h)
    have e3 : upTo (magOf r) ((upOf r : Int) - 1074) = 0 := by rw [e1, e2]; unfold upTo; omega
    rw [e3, e1, e2]
    have := near_exact r 0
    simp only [Nat.pow_zero, Nat.mul_one, Nat.zero_mul, Nat.zero_add] at this ⊢
    rw [this]
    exact Nat.min_eq_left hr
  · have e1 : magOf r = B + r % B := if_neg h
    have e2 : upOf r = r / B - 1 := if_neg h
    have ht : r % B < B := Nat.mod_lt _ B_pos
    have hq : 0 < r / B := Nat.div_pos (by omega) B_pos
    have hlog : (magOf r).log2 = 52 := by
      rw [e1]
      have h1 : (B + r % B).log2 < 53 := (Nat.log2_lt (by omega)).2 (by rw [two53]; omega)
      have h2 : 52 ≤ (B + r % B).log2 := (Nat.le_log2 (by omega)).2 (by rw [← B_eq]; omega)
      omega
    have e3 : upTo (magOf r) ((upOf r : Int) - 1074) = upOf r := by unfold upTo; rw [hlog]; omega
    rw [e3, near_exact, e1, e2]
    have h3 := Nat.div_add_mod r B
    have h4 : (r / B - 1) * B + B = r / B * B := by
      have : r / B = (r / B - 1) + 1 := by omega
      rw [show r / B * B = ((r / B - 1) + 1) * B by rw [← this], Nat.add_mul, Nat.one_mul]
    rw [Nat.mul_comm] at h3
    have h5 : (r / B - 1) * B + (B + r % B) = r := by rw [← Nat.add_assoc, h4, h3]
    rw [h5]
    exact Nat.min_eq_left hr
end Go.Proofs.YtmcdfmhciinocaaGreatDoor.Fl

/- Words of 64 bits as numbers: what is read of them, their order, products, whole parts. No program is named. -/
namespace Go.Proofs.YtmcdfmhciinocaaGreatDoor.Fl
open Ieee

def W : Nat := 9223372036854775808
def I : Nat := 9218868437227405312
theorem W_eq : double.signWeight = W := by decide
theorem I_eq : double.infRung = I := by decide
theorem I_lt : I < W := by decide
theorem I_B : I = 2047 * B := by decide

/-- What a sign and a rung stand for. -/
def datum (s : Bool) (r : Nat) : Datum := if r < I then .number s (magOf r) ((upOf r : Int) - 1074) else if r = I then .infinity s else .nan s (r - I)

theorem read_of {w r : Nat} {s : Bool} (h1 : (w / W % 2 == 1) = s) (h2 : w % W = r) : double.read w = datum s r := by
  unfold Format.read datum
  rw [W_eq, I_eq, binade_eq, leastPlace_eq]
  simp only [h1, h2]
  by_cases h : r < B
  · have hI : r < I := by have : B < I := by decide
                          omega
    have e1 : magOf r = r := if_pos h
    have e2 : upOf r = 0 := if_pos h
    rw [if_pos h, if_pos hI, e1, e2]
    rfl
  · have e1 : magOf r = B + r % B := if_neg h
    have e2 : upOf r = r / B - 1 := if_neg h
    rw [if_neg h, e1, e2]
    by_cases hI : r < I
    · rw [if_pos hI, if_pos hI]
      congr 1
    · rw [if_neg hI, if_neg hI]

theorem read_pos {r : Nat} (h : r < W) : double.read r = datum false r := by
  refine read_of ?_ (Nat.mod_eq_of_lt h)
  rw [Nat.div_eq_of_lt h]; rfl

theorem read_neg {r : Nat} (h : r < W) : double.read (W + r) = datum true r := by
  have hp : 0 < W := by decide
  refine read_of ?_ (by rw [Nat.add_mod_left]; exact Nat.mod_eq_of_lt h)
  rw [Nat.add_div_left _ hp, Nat.div_eq_of_lt h]; rfl

/-- The signed value; the infinity stands above all others. -/
def sv (s : Bool) (r : Nat) : Int := if s then -(val r : Int) else (val r : Int)

theorem signed_eq (s : Bool) (m u : Nat) : signed s m u = if s then -((m * 2 ^ u : Nat) : Int) else ((m * 2 ^ u : Nat) : Int) := by
  unfold signed
  rw [Nat.shiftLeft_eq]

theorem cmp_lt {x y : Int} (h : x < y) : compare x y = .lt := by
  show compareOfLessAndEq x y = .lt
  unfold compareOfLessAndEq
  rw [if_pos h]
theorem cmp_eq (x : Int) : compare x x = .eq := by
  show compareOfLessAndEq x x = .eq
  unfold compareOfLessAndEq
  rw [if_neg (Int.lt_irrefl x), if_pos rfl]
theorem cmp_gt {x y : Int} (h : y < x) : compare x y = .gt := by
  show compareOfLessAndEq x y = .gt
  unfold compareOfLessAndEq
  rw [if_neg (by omega), if_neg (by omega)]

theorem compare_int_scale (x y : Int) {k : Nat} (hk : 0 < k) : compare (x * k) (y * k) = compare x y := by
  have hk' : (0 : Int) < (k : Int) := by omega
  rcases Int.lt_trichotomy x y with h | h | h
  · rw [cmp_lt h, cmp_lt (Int.mul_lt_mul_of_pos_right h hk')]
  · subst h; rw [cmp_eq, cmp_eq]
  · rw [cmp_gt h, cmp_gt (Int.mul_lt_mul_of_pos_right h hk')]

theorem sv_eq (s : Bool) (r k : Nat) : sv s r = (if s then -((magOf r * 2 ^ (upOf r - min (upOf r) k) : Nat) : Int) else ((magOf r * 2 ^ (upOf r - min (upOf r) k) : Nat) : Int)) * ((2 ^ min (upOf r) k : Nat) : Int) := by
  have e : magOf r * 2 ^ (upOf r - min (upOf r) k) * 2 ^ min (upOf r) k = val r := by
    rw [Nat.mul_assoc, ← Nat.pow_add, Nat.sub_add_cancel (Nat.min_le_left _ _), val_eq]
  unfold sv
  split
  · rw [Int.neg_mul, ← Int.natCast_mul, e]
  · rw [← Int.natCast_mul, e]

theorem order_fin (s t : Bool) {r q : Nat} (hr : r < I) (hq : q < I) : (datum s r).order (datum t q) = some (compare (sv s r) (sv t q)) := by
  unfold datum
  rw [if_pos hr, if_pos hq]
  unfold Datum.order
  simp only
  rw [signed_eq, signed_eq]
  have e1 : (((upOf r : Int) - 1074) - min ((upOf r : Int) - 1074) ((upOf q : Int) - 1074)).toNat = upOf r - min (upOf r) (upOf q) := by omega
  have e2 : (((upOf q : Int) - 1074) - min ((upOf r : Int) - 1074) ((upOf q : Int) - 1074)).toNat = upOf q - min (upOf q) (upOf r) := by omega
  rw [e1, e2, sv_eq s r (upOf q), sv_eq t q (upOf r), Nat.min_comm (upOf q) (upOf r)]
  rw [compare_int_scale _ _ (Nat.two_pow_pos _)]

theorem sv_lt_inf (s : Bool) {r : Nat} (hr : r < I) : -(val I : Int) < sv s r ∧ sv s r < (val I : Int) := by
  have h := val_mono hr
  unfold sv
  split <;> omega

/-- The order of two numbers, the infinities among them, is that of their signed values. -/
theorem order_sv (s t : Bool) {r q : Nat} (hr : r ≤ I) (hq : q ≤ I) : (datum s r).order (datum t q) = some (compare (sv s r) (sv t q)) := by
  have hpos : 0 < val I := by have := val_mono (show 0 < I by decide); omega
  rcases Nat.lt_or_eq_of_le hr with h1 | h1 <;> rcases Nat.lt_or_eq_of_le hq with h2 | h2
  · exact order_fin s t h1 h2
  · subst h2
    have hb := sv_lt_inf s h1
    have e1 : datum s r = .number s (magOf r) ((upOf r : Int) - 1074) := if_pos h1
    have e2 : datum t I = .infinity t := by unfold datum; rw [if_neg (Nat.lt_irrefl _), if_pos rfl]
    rw [e1, e2]
    unfold Datum.order
    cases t
    · have : sv false I = (val I : Int) := rfl
      rw [this, cmp_lt hb.2]; rfl
    · have : sv true I = -(val I : Int) := rfl
      rw [this, cmp_gt hb.1]; rfl
  · subst h1
    have hb := sv_lt_inf t h2
    have e1 : datum t q = .number t (magOf q) ((upOf q : Int) - 1074) := if_pos h2
    have e2 : datum s I = .infinity s := by unfold datum; rw [if_neg (Nat.lt_irrefl _), if_pos rfl]
    rw [e1, e2]
    unfold Datum.order
    cases s
    · have : sv false I = (val I : Int) := rfl
      rw [this, cmp_gt hb.2]; rfl
    · have : sv true I = -(val I : Int) := rfl
      rw [this, cmp_lt hb.1]; rfl
  · subst h1
    subst h2
    have e : ∀ u, datum u I = .infinity u := fun u => by unfold datum; rw [if_neg (Nat.lt_irrefl _), if_pos rfl]
    rw [e s, e t]
    unfold Datum.order
    have h3 : sv false I = (val I : Int) := rfl
    have h4 : sv true I = -(val I : Int) := rfl
    cases s <;> cases t
    · rw [cmp_eq]; rfl
    · rw [h3, h4, cmp_gt (show -(val I : Int) < (val I : Int) by omega)]; rfl
    · rw [h3, h4, cmp_lt (show -(val I : Int) < (val I : Int) by omega)]; rfl
    · rw [cmp_eq]; rfl
end Go.Proofs.YtmcdfmhciinocaaGreatDoor.Fl

/- Products, whole parts and whole numbers among the numbers of 64 bits. No program is named. -/
namespace Go.Proofs.YtmcdfmhciinocaaGreatDoor.Fl
open Ieee

def Z : Nat := 1074
theorem Z_eq : Z = 1074 := rfl

/-- 2^1074, the units in 1. -/
def U : Nat := 2 ^ Z
theorem U_pos : 0 < U := Nat.two_pow_pos _

/-- The rung of the product of two finite positive numbers. -/
def mulR (r q : Nat) : Nat := double.nearest false (magOf r * magOf q) ((upOf r : Int) - 1074 + ((upOf q : Int) - 1074))

theorem nearest_le_inf (m : Nat) (p : Int) : double.nearest false m p ≤ I := by
  unfold Format.nearest
  dsimp only
  split
  · rw [word_pos]; exact Nat.zero_le _
  · rw [word_pos, I_eq]; exact Nat.min_le_right _ _

theorem mulR_le (r q : Nat) : mulR r q ≤ I := nearest_le_inf _ _

theorem mul_pos {r q : Nat} (hr : r < I) (hq : q < I) : double.mul r q = some (mulR r q) := by
  unfold Format.mul
  rw [read_pos (Nat.lt_trans hr I_lt), read_pos (Nat.lt_trans hq I_lt)]
  unfold datum
  rw [if_pos hr, if_pos hq]
  rfl

theorem mul_inf {r : Nat} (hr : r < I) (h0 : r ≠ 0) : double.mul r I = some I := by
  unfold Format.mul
  rw [read_pos (Nat.lt_trans hr I_lt), read_pos I_lt]
  unfold datum
  rw [if_pos hr, if_neg (Nat.lt_irrefl _), if_pos rfl]
  unfold Datum.product
  have hm : magOf r ≠ 0 := by unfold magOf; have := B_pos; split <;> omega
  simp only
  rw [if_neg hm]
  show some (double.write (.infinity (false ^^ false))) = some I
  show some (double.word false double.infRung) = some I
  rw [word_pos, I_eq]

theorem mags (r q : Nat) : magOf r * magOf q * 2 ^ (upOf r + upOf q) = val r * val q := by
  rw [val_eq r, val_eq q, Nat.pow_add, Nat.mul_mul_mul_comm]

/-- Products keep the order. -/
theorem mulR_mono {r q q' : Nat} (h : q ≤ q') : mulR r q ≤ mulR r q' := by
  have hZ := Z_eq
  refine nearest_mono (c := Z) (a := upOf r + upOf q) (b := upOf r + upOf q') (by omega) (by omega) ?_
  rw [mags, mags]
  exact Nat.mul_le_mul_left _ (val_le h)

/-- The rung of 1. -/
def one : Nat := 1023 * B

theorem one_mag : magOf one = B := by decide
theorem one_up : upOf one = 1022 := by decide

theorem mulR_one {r : Nat} (hr : r ≤ I) : mulR r one = r := by
  have h1 := nearest_val (r := r) (by rw [I_eq]; exact hr)
  have h2 : double.nearest false (magOf r * magOf one) ((upOf r : Int) - 1074 + ((upOf one : Int) - 1074)) = double.nearest false (magOf r) ((upOf r : Int) - 1074) := by
    have hZ := Z_eq
    refine nearest_congr (c := Z) (a := upOf r + 1022) (b := upOf r + Z) (by rw [one_up]; omega) (by omega) ?_
    have e : 52 + (upOf r + 1022) = upOf r + Z := by omega
    rw [one_mag, Nat.mul_assoc, show B * 2 ^ (upOf r + 1022) = 2 ^ (52 + (upOf r + 1022)) by rw [Nat.pow_add 2 52, ← B_eq], e]
  unfold mulR
  rw [h2, h1]

theorem cut_zero (n d : Nat) : Toward.zero.cut false n d = n / 2 ^ d := by
  unfold Toward.cut
  simp only [Nat.one_shiftLeft, Bool.toNat_false, Nat.add_zero]
  by_cases h : d ≤ n.log2 + 2
  · rw [Nat.min_eq_left h]
  · have hlt : n < 2 ^ (n.log2 + 1) := Nat.lt_log2_self
    have h1 : 2 ^ (n.log2 + 2) = 2 * 2 ^ (n.log2 + 1) := by rw [Nat.pow_succ, Nat.mul_comm]
    have h2 : 2 ^ (n.log2 + 2) ≤ 2 ^ d := Nat.pow_le_pow_right (by omega) (by omega)
    rw [Nat.min_eq_right (by omega), Nat.div_eq_of_lt (show n < 2 ^ (n.log2 + 2) by omega), Nat.div_eq_of_lt (show n < 2 ^ d by omega)]

theorem whole_part (m e : Nat) {i : Int} (hi : i = (e : Int) - Z) : m * 2 ^ i.toNat / 2 ^ (-i).toNat = m * 2 ^ e / 2 ^ Z := by
  generalize Z = z at *
  rcases Nat.le_total z e with h | h
  · have e1 : i.toNat = e - z := by omega
    have e2 : (-i).toNat = 0 := by omega
    have e3 : 2 ^ e = 2 ^ (e - z) * 2 ^ z := by rw [← Nat.pow_add, Nat.sub_add_cancel h]
    rw [e1, e2, e3, Nat.pow_zero, Nat.div_one, ← Nat.mul_assoc, Nat.mul_div_cancel _ (Nat.two_pow_pos _)]
  · have e1 : i.toNat = 0 := by omega
    have e2 : (-i).toNat = z - e := by omega
    have e3 : 2 ^ z = 2 ^ (z - e) * 2 ^ e := by rw [← Nat.pow_add, Nat.sub_add_cancel h]
    rw [e1, e2, e3, Nat.pow_zero, Nat.mul_one, Nat.mul_div_mul_right _ _ (Nat.two_pow_pos _)]

/-- The whole part of a finite positive number. -/
theorem toInt_pos {r : Nat} (hr : r < I) : (double.read r).toInt .zero = some ((val r / U : Nat) : Int) := by
  obtain ⟨i, hi⟩ : ∃ i : Int, i = (upOf r : Int) - 1074 := ⟨_, rfl⟩
  have hd : datum false r = .number false (magOf r) i := by rw [hi]; exact if_pos hr
  rw [read_pos (Nat.lt_trans hr I_lt), hd]
  have key : Toward.zero.cut false (magOf r <<< i.toNat) (-i).toNat = val r / U := by
    rw [cut_zero, Nat.shiftLeft_eq, whole_part (magOf r) (upOf r) (by have := Z_eq; omega), ← val_eq]
    rfl
  have h0 : (Datum.number false (magOf r) i).toInt .zero = some (signed false (Toward.zero.cut false (magOf r <<< i.toNat) (-i).toNat) 0) := rfl
  rw [h0, key]
  have hs : ∀ n : Nat, signed false n 0 = (n : Int) := fun n => by simp [signed]
  rw [hs]

/-- The rung of a whole number. -/
def ofNat (n : Nat) : Nat := double.nearest false n 0

theorem ofNat_le (n : Nat) : ofNat n ≤ I := nearest_le_inf _ _

theorem ofNat_mono {n m : Nat} (h : n ≤ m) : ofNat n ≤ ofNat m :=
  nearest_mono (c := 0) (a := Z) (b := Z) (by have := Z_eq; omega) (by have := Z_eq; omega) (Nat.mul_le_mul_right _ h)

/-- Whole numbers below 2^53 are held exactly. -/
theorem ofNat_exact {n : Nat} (h : n < 2 * B) : val (ofNat n) = n * U ∧ ofNat n < I := by
  by_cases h0 : n = 0
  · subst h0
    have e : ofNat 0 = 0 := nearest_zero _
    rw [e, Nat.zero_mul]
    exact ⟨rfl, by decide⟩
  have hL : n.log2 < 53 := (Nat.log2_lt h0).2 (by rw [two53]; exact h)
  have h1 : 2 ^ n.log2 ≤ n := Nat.log2_self_le h0
  have h2 : n < 2 ^ (n.log2 + 1) := Nat.lt_log2_self
  generalize hl : n.log2 = L at *
  have hm1 : B ≤ n * 2 ^ (52 - L) := by
    have : 2 ^ L * 2 ^ (52 - L) ≤ n * 2 ^ (52 - L) := Nat.mul_le_mul_right _ h1
    rw [← Nat.pow_add, show L + (52 - L) = 52 by omega, ← B_eq] at this
    exact this
  have hm2 : n * 2 ^ (52 - L) < 2 * B := by
    have : n * 2 ^ (52 - L) < 2 ^ (L + 1) * 2 ^ (52 - L) := Nat.mul_lt_mul_of_pos_right h2 (Nat.two_pow_pos _)
    rw [← Nat.pow_add, show L + 1 + (52 - L) = 53 by omega, two53] at this
    exact this
  have hBp := B_pos
  obtain ⟨t, ht⟩ : ∃ t, n * 2 ^ (52 - L) = B + t := ⟨n * 2 ^ (52 - L) - B, by omega⟩
  have htB : t < B := by omega
  have hr1 : ((L + 1023) * B + t) / B = L + 1023 := by
    rw [Nat.mul_comm, Nat.mul_add_div hBp, Nat.div_eq_of_lt htB]
  have hr2 : ((L + 1023) * B + t) % B = t := by rw [Nat.mul_comm, Nat.mul_add_mod]; exact Nat.mod_eq_of_lt htB
  have hge : B ≤ (L + 1023) * B + t := by
    have : 1 * B ≤ (L + 1023) * B := Nat.mul_le_mul_right _ (by omega)
    omega
  have hv : val ((L + 1023) * B + t) = n * U := by
    rw [val_big hge, hr1, hr2, ← ht, Nat.mul_assoc, ← Nat.pow_add]
    have : 52 - L + (L + 1023 - 1) = Z := by have := Z_eq; omega
    rw [this]; rfl
  have hrI : (L + 1023) * B + t < I := by
    have h3 : (L + 1023 + 1) * B ≤ 2047 * B := Nat.mul_le_mul_right _ (by omega)
    rw [Nat.add_mul, Nat.one_mul] at h3
    rw [I_B]
    omega
  have he : ofNat n = (L + 1023) * B + t := by
    have h3 := nearest_val (r := (L + 1023) * B + t) (by rw [I_eq]; omega)
    have h4 : ofNat n = double.nearest false (magOf ((L + 1023) * B + t)) ((upOf ((L + 1023) * B + t) : Int) - 1074) := by
      refine nearest_congr (c := 0) (a := Z) (b := upOf ((L + 1023) * B + t)) (by have := Z_eq; omega) (by omega) ?_
      rw [← val_eq, hv]; rfl
    rw [h4, h3]
  rw [he]
  exact ⟨hv, hrI⟩
end Go.Proofs.YtmcdfmhciinocaaGreatDoor.Fl

/- Ticks scaled by a number: the plain answer, its bound, its order. No program is named. -/
namespace Go.Proofs.YtmcdfmhciinocaaGreatDoor.Fl
open Ieee

/-- The rung of 2^63. -/
def top : Nat := 1086 * B

theorem pow_rung {q : Nat} (hq : 1 ≤ q) : magOf (q * B) = B ∧ upOf (q * B) = q - 1 := by
  have hB := B_pos
  have h1 : B ≤ q * B := Nat.le_mul_of_pos_left _ hq
  unfold magOf upOf
  rw [if_neg (by omega), if_neg (by omega), Nat.mul_mod_left, Nat.mul_div_cancel _ hB]
  exact ⟨rfl, rfl⟩

theorem val_pow {q k : Nat} (hq : q = k + 1023) : val (q * B) = 2 ^ k * U := by
  obtain ⟨h1, h2⟩ := pow_rung (q := q) (by omega)
  have hZ := Z_eq
  have e : 52 + (q - 1) = k + Z := by omega
  rw [val_eq, h1, h2, show B * 2 ^ (q - 1) = 2 ^ (52 + (q - 1)) by rw [Nat.pow_add 2 52, ← B_eq], e, Nat.pow_add]
  rfl

theorem val_top : val top = 2 ^ 63 * U := val_pow rfl

theorem ofNat_pow {k : Nat} (hk : k ≤ 1000) : ofNat (2 ^ k) = (k + 1023) * B := by
  have hZ := Z_eq
  obtain ⟨h1, h2⟩ := pow_rung (q := k + 1023) (by omega)
  have hle : (k + 1023) * B ≤ I := by rw [I_B]; exact Nat.mul_le_mul_right _ (by omega)
  have h3 := nearest_val (r := (k + 1023) * B) (by rw [I_eq]; exact hle)
  have h4 : ofNat (2 ^ k) = double.nearest false (magOf ((k + 1023) * B)) ((upOf ((k + 1023) * B) : Int) - 1074) := by
    refine nearest_congr (c := 0) (a := Z) (b := upOf ((k + 1023) * B)) (by omega) (by omega) ?_
    rw [← val_eq, val_pow rfl]
    rfl
  rw [h4, h3]

theorem ofNat_lt {n : Nat} (h : n < 18446744073709551616) : ofNat n < I := by
  have h1 : ofNat n ≤ ofNat (2 ^ 64) := ofNat_mono (by omega)
  rw [ofNat_pow (by omega)] at h1
  have h2 : (64 + 1023) * B < I := by decide
  omega

/-- The product of ticks and a positive number or the infinity, as a rung. -/
def prodR (n x : Nat) : Nat := if x = I then I else mulR (ofNat n) x

theorem prodR_le (n x : Nat) : prodR n x ≤ I := by
  unfold prodR
  split
  · exact Nat.le_refl _
  · exact mulR_le _ _

theorem prodR_mono {n x y : Nat} (h : x ≤ y) (hy : y ≤ I) : prodR n x ≤ prodR n y := by
  by_cases h1 : y = I
  · have : prodR n y = I := if_pos h1
    rw [this]
    exact prodR_le n x
  · have h2 : x ≠ I := by omega
    unfold prodR
    rw [if_neg h1, if_neg h2]
    exact mulR_mono h

/-- What Scale answers for n ticks and a positive number. -/
def scaleR (n x : Nat) : Nat := if top ≤ prodR n x then 9223372036854775807 else val (prodR n x) / U

theorem scale_low {p : Nat} (h : p < top) : val p / U ≤ 9223372036854775807 := by
  have h1 := val_mono h
  rw [val_top] at h1
  have h2 : val p / U < 2 ^ 63 := (Nat.div_lt_iff_lt_mul U_pos).2 h1
  omega

theorem scaleR_le (n x : Nat) : scaleR n x ≤ 9223372036854775807 := by
  unfold scaleR
  split
  · exact Nat.le_refl _
  · exact scale_low (by omega)

theorem scaleR_mono {n x y : Nat} (h : x ≤ y) (hy : y ≤ I) : scaleR n x ≤ scaleR n y := by
  have hp := prodR_mono (n := n) h hy
  unfold scaleR
  by_cases h2 : top ≤ prodR n y
  · rw [if_pos h2]
    exact scaleR_le n x
  · rw [if_neg h2, if_neg (by omega)]
    exact Nat.div_le_div_right (val_le hp)

theorem scaleR_one {n : Nat} (h : n < 2 * B) : scaleR n one = n := by
  obtain ⟨h1, h2⟩ := ofNat_exact h
  have hne : one ≠ I := by decide
  have hp : prodR n one = ofNat n := by
    unfold prodR
    rw [if_neg hne]
    exact mulR_one (Nat.le_of_lt h2)
  have hlt : ofNat n < top := by
    refine val_lt_iff.1 ?_
    rw [h1, val_top]
    have h3 : (2 * B : Nat) < 2 ^ 63 := by decide
    exact Nat.mul_lt_mul_of_pos_right (by omega) U_pos
  unfold scaleR
  rw [hp, if_neg (by omega), h1, Nat.mul_div_cancel _ U_pos]
end Go.Proofs.YtmcdfmhciinocaaGreatDoor.Fl

/- The walks of the reference's functions on bits and order. -/
namespace Go.Proofs.YtmcdfmhciinocaaGreatDoor
open Go.RowKit Fl

def Q : Nat := 9221120237041090561
def bitsB (b : Nat) : Nat := if I < b % W then Q else b
def rankB (b : Nat) : Nat := if W ≤ b then 18446744073709551615 - b else b + W

theorem and_top {b : Nat} (h : b < 18446744073709551616) : bits .and .u64 (b : Int) 9223372036854775807 = ((b % W : Nat) : Int) := by
  have h1 := u64_and_nat b 9223372036854775807 h (by omega)
  have h2 := Nat.and_two_pow_sub_one_eq_mod b 63
  rw [show (2 : Nat) ^ 63 - 1 = 9223372036854775807 by decide, show (2 : Nat) ^ 63 = W by decide] at h2
  rw [h2] at h1
  exact h1

/-- The library's two functions on bits. -/
theorem run_bits (b : Nat) (w : World) : (callFunc 174 #[.float .f64 b]).run Tryz.prog w = .ok (.value (.int .u64 (b : Int))) w := by
  rw [run_callFunc_extern (e := Extern.MathFloatBits.float64bits) Tryz.func174 (by kernel_rfl) (by kernel_rfl) (by rfl) (by rfl)]
  rfl

theorem run_frombits (b : Nat) (w : World) : (callFunc 176 #[.int .u64 (b : Int)]).run Tryz.prog w = .ok (.value (.float .f64 b)) w := by
  rw [run_callFunc_extern (e := Extern.MathFloatBits.float64frombits) Tryz.func176 (by kernel_rfl) (by kernel_rfl) (by rfl) (by rfl)]
  rfl

set_option maxRecDepth 100000 in
theorem rnan_any (b : Nat) (w : World) (hb : b < 18446744073709551616) :
    Calls Tryz.prog 175 #[.int .u64 (b : Int)] w fun e w' => e = .returned (.bool (decide (I < b % W))) ∧ w = w' := by
  have e := and_top hb
  go_enter Tryz.func175, Tryz.ntmps175
  go_wp2
  go_ret
  exact ⟨ret_bool (decide_eq_decide.2 (by unfold I; omega)), rfl⟩

theorem rnan_is (b : Nat) (w : World) (v : Bool) (hb : b < 18446744073709551616) (hv : decide (I < b % W) = v) :
    Calls Tryz.prog 175 #[.int .u64 (b : Int)] w fun e w' => e = .returned (.bool v) ∧ w = w' := by
  subst hv
  exact rnan_any b w hb

set_option maxRecDepth 100000 in
theorem rbits_any (b : Nat) (w : World) (hb : b < 18446744073709551616) :
    Calls Tryz.prog 151 #[.float .f64 b] w fun e w' => e = .returned (.int .u64 (bitsB b : Nat)) ∧ w = w' := by
  have hx := run_bits
  by_cases h : I < b % W
  · have Hv := Lib.hid (rnan_is b w true hb (decide_eq_true h))
    have Hf := Lib.hid (show ((bitsB b : Nat) : Int) = 9221120237041090561 by unfold bitsB; rw [if_pos h]; rfl)
    clear h
    go_enter Tryz.func151, Tryz.ntmps151
    go_wp2_with fail
    refine Hv.out.mono ?_
    rintro e w' ⟨rfl, rfl⟩
    go_wp2
    go_ret
    exact ⟨ret_u64 Hf.out.symm, rfl⟩
  · have Hv := Lib.hid (rnan_is b w false hb (decide_eq_false h))
    have Hf := Lib.hid (show ((bitsB b : Nat) : Int) = (b : Int) by unfold bitsB; rw [if_neg h])
    clear h
    go_enter Tryz.func151, Tryz.ntmps151
    go_wp2_with fail
    refine Hv.out.mono ?_
    rintro e w' ⟨rfl, rfl⟩
    go_wp2
    go_ret
    exact ⟨ret_u64 Hf.out.symm, rfl⟩

theorem bitsB_lt {b : Nat} (hb : b < 18446744073709551616) : bitsB b < 18446744073709551616 := by
  unfold bitsB
  split
  · decide
  · exact hb

/-- Of: the number with some bits, or none. -/
def ofB (b : Nat) : Option Nat := if I < b % W ∧ b ≠ Q then none else some b

set_option maxRecDepth 100000 in
theorem rof_any (b : Nat) (w : World) (hb : b < 18446744073709551616) :
    Calls Tryz.prog 153 #[.int .u64 (b : Int)] w fun e w' => e = .returned (.tuple #[.float .f64 ((ofB b).getD 0), .bool (ofB b).isSome]) ∧ w = w' := by
  have hx := run_frombits
  by_cases h : I < b % W
  · have Hv := Lib.hid (rnan_is b w true hb (decide_eq_true h))
    by_cases hq : b = Q
    · have Hf := Lib.hid (show ofB b = some b by unfold ofB; rw [if_neg (fun h => h.2 hq)])
      have hqb : ((b : Int) != 9221120237041090561) = false := by rw [hq]; rfl
      rw [Hf.out]
      clear h hq
      go_enter Tryz.func153, Tryz.ntmps153
      go_wp2_with fail
      refine Hv.out.mono ?_
      rintro e w' ⟨rfl, rfl⟩
      go_wp2
      go_ret2
      exact ⟨rfl, rfl⟩
    · have Hf := Lib.hid (show ofB b = none by unfold ofB; rw [if_pos ⟨h, hq⟩])
      have hqb : ((b : Int) != 9221120237041090561) = true := by rw [bne_iff_ne]; unfold Q at hq; omega
      rw [Hf.out]
      clear h hq
      go_enter Tryz.func153, Tryz.ntmps153
      go_wp2_with fail
      refine Hv.out.mono ?_
      rintro e w' ⟨rfl, rfl⟩
      go_wp2
      go_ret2
      exact ⟨rfl, rfl⟩
  · have Hv := Lib.hid (rnan_is b w false hb (decide_eq_false h))
    have Hf := Lib.hid (show ofB b = some b by unfold ofB; rw [if_neg (fun h2 => h h2.1)])
    rw [Hf.out]
    clear h
    go_enter Tryz.func153, Tryz.ntmps153
    go_wp2_with fail
    refine Hv.out.mono ?_
    rintro e w' ⟨rfl, rfl⟩
    go_wp2
    go_ret2
    exact ⟨rfl, rfl⟩

theorem rsame_any (a b : Nat) (w : World) (ha : a < 18446744073709551616) (hb : b < 18446744073709551616) :
    Calls Tryz.prog 124 #[.float .f64 a, .float .f64 b] w fun e w' => e = .returned (.bool (decide (bitsB a = bitsB b))) ∧ w = w' := by
  have H1 := Lib.hid (rbits_any a w ha)
  have H2 := Lib.hid (rbits_any b w hb)
  clear ha hb
  generalize bitsB a = x at *
  generalize bitsB b = y at *
  go_enter Tryz.func124, Tryz.ntmps124
  go_wp2_with fail
  refine H1.out.mono ?_
  rintro e w' ⟨rfl, rfl⟩
  go_wp2_with fail
  refine H2.out.mono ?_
  rintro e w' ⟨rfl, rfl⟩
  go_wp2
  go_ret
  refine ⟨ret_bool ?_, rfl⟩
  rw [Bool.eq_iff_iff]
  simp
  omega

theorem rankB_lt {b : Nat} (hb : b < 18446744073709551616) : rankB b < 18446744073709551616 := by
  unfold rankB W
  split <;> omega

/-- The order: -1, 0 or 1. -/
def cmpR (x y : Nat) : Int := if x < y then -1 else if y < x then 1 else 0
def cmpB (a b : Nat) : Int := cmpR (rankB (bitsB a)) (rankB (bitsB b))

/-- The sum of ticks. -/
def addN (a b : Nat) : Nat := if 9223372036854775807 < a + b then 9223372036854775807 else a + b

end Go.Proofs.YtmcdfmhciinocaaGreatDoor

/- The walk of the reference's Scale: it returns the plain answer. -/
namespace Go.Proofs.YtmcdfmhciinocaaGreatDoor
open Go.RowKit Fl

theorem floatOf (n : Nat) : floatOfInt .f64 (n : Int) = ofNat n := by
  have h : ¬ ((n : Int) < 0) := by omega
  show FloatKind.nearest .f64 (n : Int) = _
  unfold FloatKind.nearest
  rw [Int.natAbs_natCast, decide_eq_false h]
  rfl

/-- The product of ticks and a positive number or the infinity. -/
theorem prod_bits {n x : Nat} (hn : n < 18446744073709551616) (h0 : n ≠ 0) (hx : x ≤ I) : floatBits .mul .f64 (ofNat n) x = some (prodR n x) := by
  show Ieee.double.mul (ofNat n) x = _
  have hlt := ofNat_lt hn
  unfold prodR
  by_cases h : x = I
  · subst h
    rw [if_pos rfl]
    refine mul_inf hlt (fun e => ?_)
    have h1 : ofNat 1 ≤ ofNat n := ofNat_mono (by omega)
    have h2 : ofNat 1 = 1023 * B := by
      have := ofNat_pow (k := 0) (by omega)
      simpa using this
    rw [e, h2] at h1
    have := B_pos
    omega
  · rw [if_neg h]
    exact mul_pos hlt (by omega)

theorem order_top {p : Nat} (hp : p ≤ I) : Ieee.double.order p top = some (compare ((val p : Nat) : Int) ((val top : Nat) : Int)) := by
  have h1 : top < W := by decide
  have h2 : p < W := Nat.lt_of_le_of_lt hp I_lt
  have h3 : top ≤ I := by decide
  unfold Ieee.Format.order
  rw [read_pos h2, read_pos h1, order_sv false false hp h3]
  rfl

theorem order_low {p : Nat} (h : p < top) : FloatKind.f64.format.order p 4890909195324358656 = some .lt := by
  have h3 : top ≤ I := by decide
  have h1 : Ieee.double.order p top = some .lt := by
    rw [order_top (by omega), cmp_lt (by have := val_mono h; omega)]
  exact h1

theorem order_high {p : Nat} (h : top ≤ p) (hp : p ≤ I) : (FloatKind.f64.format.order p 4890909195324358656 == some .gt || FloatKind.f64.format.order p 4890909195324358656 == some .eq) = true := by
  show (Ieee.double.order p top == some .gt || Ieee.double.order p top == some .eq) = true
  rw [order_top hp]
  rcases Nat.lt_or_eq_of_le h with h1 | h1
  · rw [cmp_gt (by have := val_mono h1; omega)]; rfl
  · subst h1; rw [cmp_eq]; rfl

theorem to_ticks {p : Nat} (h : p < top) : floatToIntVal .f64 p .u64 = some ((val p / U : Nat) : Int) := by
  have h3 : top ≤ I := by decide
  have h1 : (FloatKind.f64.decode p).toInt .zero = some ((val p / U : Nat) : Int) := toInt_pos (by omega)
  have h2 := scale_low h
  have hmin : IntKind.u64.min = 0 := rfl
  have hmax : IntKind.u64.max = 18446744073709551615 := rfl
  unfold floatToIntVal
  rw [h1]
  generalize val p / U = v at h2 ⊢
  simp only
  rw [if_pos ⟨by rw [hmin]; omega, by rw [hmax]; omega⟩]

/-- What Scale answers. -/
def scaleB (n b : Nat) : Nat := if n = 0 ∨ bitsB b = Q ∨ bitsB b = 0 ∨ W ≤ bitsB b then 0 else scaleR n (bitsB b)

end Go.Proofs.YtmcdfmhciinocaaGreatDoor

