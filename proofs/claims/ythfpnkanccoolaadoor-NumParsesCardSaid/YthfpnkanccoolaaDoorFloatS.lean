/- Ticks scaled by a number: the plain answer, its bound, its order. No program is named. -/
import Derived.Test.YthfpnkanccoolaaDoorFloatP
namespace Go.Proofs.YthfpnkanccoolaaDoor.Fl
open Ieee

/-- The rung of 2^63. -/
def top : Nat := 1086 * B

theorem pow_rung {q : Nat} (hq : 1 ≤ q) : magOf (q * B) = B ∧ upOf (q * B) = q - 1 := by
  have hB := B_pos
  have h1 : B ≤ q * B := Nat.le_mul_of_pos_left _ hq
  unfold magOf upOf
  rw [if_neg (by omega), if_neg (by omega), Nat.mul_mod_left, Nat.mul_div_cancel _ hB]
  exact ⟨rfl, rfl⟩

theorem val_pow {q k : Nat} (hq : q = k + 1023) : val (q * B) = 2 ^ k * U := by
  obtain ⟨h1, h2⟩ := pow_rung (q := q) (by omega)
  have hZ := Z_eq
  have e : 52 + (q - 1) = k + Z := by omega
  rw [val_eq, h1, h2, show B * 2 ^ (q - 1) = 2 ^ (52 + (q - 1)) by rw [Nat.pow_add 2 52, ← B_eq], e, Nat.pow_add]
  rfl

theorem val_top : val top = 2 ^ 63 * U := val_pow rfl

theorem ofNat_pow {k : Nat} (hk : k ≤ 1000) : ofNat (2 ^ k) = (k + 1023) * B := by
  have hZ := Z_eq
  obtain ⟨h1, h2⟩ := pow_rung (q := k + 1023) (by omega)
  have hle : (k + 1023) * B ≤ I := by rw [I_B]; exact Nat.mul_le_mul_right _ (by omega)
  have h3 := nearest_val (r := (k + 1023) * B) (by rw [I_eq]; exact hle)
  have h4 : ofNat (2 ^ k) = double.nearest false (magOf ((k + 1023) * B)) ((upOf ((k + 1023) * B) : Int) - 1074) := by
    refine nearest_congr (c := 0) (a := Z) (b := upOf ((k + 1023) * B)) (by omega) (by omega) ?_
    rw [← val_eq, val_pow rfl]
    rfl
  rw [h4, h3]

theorem ofNat_lt {n : Nat} (h : n < 18446744073709551616) : ofNat n < I := by
  have h1 : ofNat n ≤ ofNat (2 ^ 64) := ofNat_mono (by omega)
  rw [ofNat_pow (by omega)] at h1
  have h2 : (64 + 1023) * B < I := by decide
  omega

/-- The product of ticks and a positive number or the infinity, as a rung. -/
def prodR (n x : Nat) : Nat := if x = I then I else mulR (ofNat n) x

theorem prodR_le (n x : Nat) : prodR n x ≤ I := by
  unfold prodR
  split
  · exact Nat.le_refl _
  · exact mulR_le _ _

theorem prodR_mono {n x y : Nat} (h : x ≤ y) (hy : y ≤ I) : prodR n x ≤ prodR n y := by
  by_cases h1 : y = I
  · have : prodR n y = I := if_pos h1
    rw [this]
    exact prodR_le n x
  · have h2 : x ≠ I := by omega
    unfold prodR
    rw [if_neg h1, if_neg h2]
    exact mulR_mono h

/-- What Scale answers for n ticks and a positive number. -/
def scaleR (n x : Nat) : Nat := if top ≤ prodR n x then 9223372036854775807 else val (prodR n x) / U

theorem scale_low {p : Nat} (h : p < top) : val p / U ≤ 9223372036854775807 := by
  have h1 := val_mono h
  rw [val_top] at h1
  have h2 : val p / U < 2 ^ 63 := (Nat.div_lt_iff_lt_mul U_pos).2 h1
  omega

theorem scaleR_le (n x : Nat) : scaleR n x ≤ 9223372036854775807 := by
  unfold scaleR
  split
  · exact Nat.le_refl _
  · exact scale_low (by omega)

theorem scaleR_mono {n x y : Nat} (h : x ≤ y) (hy : y ≤ I) : scaleR n x ≤ scaleR n y := by
  have hp := prodR_mono (n := n) h hy
  unfold scaleR
  by_cases h2 : top ≤ prodR n y
  · rw [if_pos h2]
    exact scaleR_le n x
  · rw [if_neg h2, if_neg (by omega)]
    exact Nat.div_le_div_right (val_le hp)

theorem scaleR_one {n : Nat} (h : n < 2 * B) : scaleR n one = n := by
  obtain ⟨h1, h2⟩ := ofNat_exact h
  have hne : one ≠ I := by decide
  have hp : prodR n one = ofNat n := by
    unfold prodR
    rw [if_neg hne]
    exact mulR_one (Nat.le_of_lt h2)
  have hlt : ofNat n < top := by
    refine val_lt_iff.1 ?_
    rw [h1, val_top]
    have h3 : (2 * B : Nat) < 2 ^ 63 := by decide
    exact Nat.mul_lt_mul_of_pos_right (by omega) U_pos
  unfold scaleR
  rw [hp, if_neg (by omega), h1, Nat.mul_div_cancel _ U_pos]
end Go.Proofs.YthfpnkanccoolaaDoor.Fl
