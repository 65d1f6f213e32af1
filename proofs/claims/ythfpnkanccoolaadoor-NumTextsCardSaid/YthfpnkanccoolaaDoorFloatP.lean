/- Products, whole parts and whole numbers among the numbers of 64 bits. No program is named. -/
import Derived.Test.YthfpnkanccoolaaDoorFloatO
import Derived.Laws.FloatBits
namespace Go.Proofs.YthfpnkanccoolaaDoor.Fl
open Ieee

def Z : Nat := 1074
theorem Z_eq : Z = 1074 := rfl

/-- 2^1074, the units in 1. -/
def U : Nat := 2 ^ Z
theorem U_pos : 0 < U := Nat.two_pow_pos _

/-- The rung of the product of two finite positive numbers. -/
def mulR (r q : Nat) : Nat := double.nearest false (magOf r * magOf q) ((upOf r : Int) - 1074 + ((upOf q : Int) - 1074))

theorem nearest_le_inf (m : Nat) (p : Int) : double.nearest false m p ≤ I := by
  unfold Format.nearest
  dsimp only
  split
  · rw [word_pos]; exact Nat.zero_le _
  · rw [word_pos, I_eq]; exact Nat.min_le_right _ _

theorem mulR_le (r q : Nat) : mulR r q ≤ I := nearest_le_inf _ _

theorem mul_pos {r q : Nat} (hr : r < I) (hq : q < I) : double.mul r q = some (mulR r q) := by
  unfold Format.mul
  rw [read_pos (Nat.lt_trans hr I_lt), read_pos (Nat.lt_trans hq I_lt)]
  unfold datum
  rw [if_pos hr, if_pos hq]
  rfl

theorem mul_inf {r : Nat} (hr : r < I) (h0 : r ≠ 0) : double.mul r I = some I := by
  unfold Format.mul
  rw [read_pos (Nat.lt_trans hr I_lt), read_pos I_lt]
  unfold datum
  rw [if_pos hr, if_neg (Nat.lt_irrefl _), if_pos rfl]
  unfold Datum.product
  have hm : magOf r ≠ 0 := by unfold magOf; have := B_pos; split <;> omega
  simp only
  rw [if_neg hm]
  show some (double.write (.infinity (false ^^ false))) = some I
  show some (double.word false double.infRung) = some I
  rw [word_pos, I_eq]

theorem mags (r q : Nat) : magOf r * magOf q * 2 ^ (upOf r + upOf q) = val r * val q := by
  rw [val_eq r, val_eq q, Nat.pow_add, Nat.mul_mul_mul_comm]

/-- Products keep the order. -/
theorem mulR_mono {r q q' : Nat} (h : q ≤ q') : mulR r q ≤ mulR r q' := by
  have hZ := Z_eq
  refine nearest_mono (c := Z) (a := upOf r + upOf q) (b := upOf r + upOf q') (by omega) (by omega) ?_
  rw [mags, mags]
  exact Nat.mul_le_mul_left _ (val_le h)

/-- The rung of 1. -/
def one : Nat := 1023 * B

theorem one_mag : magOf one = B := by decide
theorem one_up : upOf one = 1022 := by decide

theorem mulR_one {r : Nat} (hr : r ≤ I) : mulR r one = r := by
  have h1 := nearest_val (r := r) (by rw [I_eq]; exact hr)
  have h2 : double.nearest false (magOf r * magOf one) ((upOf r : Int) - 1074 + ((upOf one : Int) - 1074)) = double.nearest false (magOf r) ((upOf r : Int) - 1074) := by
    have hZ := Z_eq
    refine nearest_congr (c := Z) (a := upOf r + 1022) (b := upOf r + Z) (by rw [one_up]; omega) (by omega) ?_
    have e : 52 + (upOf r + 1022) = upOf r + Z := by omega
    rw [one_mag, Nat.mul_assoc, show B * 2 ^ (upOf r + 1022) = 2 ^ (52 + (upOf r + 1022)) by rw [Nat.pow_add 2 52, ← B_eq], e]
  unfold mulR
  rw [h2, h1]

theorem cut_zero (n d : Nat) : Toward.zero.cut false n d = n / 2 ^ d := by
  unfold Toward.cut
  simp only [Nat.one_shiftLeft, Bool.toNat_false, Nat.add_zero]
  by_cases h : d ≤ n.log2 + 2
  · rw [Nat.min_eq_left h]
  · have hlt : n < 2 ^ (n.log2 + 1) := Nat.lt_log2_self
    have h1 : 2 ^ (n.log2 + 2) = 2 * 2 ^ (n.log2 + 1) := by rw [Nat.pow_succ, Nat.mul_comm]
    have h2 : 2 ^ (n.log2 + 2) ≤ 2 ^ d := Nat.pow_le_pow_right (by omega) (by omega)
    rw [Nat.min_eq_right (by omega), Nat.div_eq_of_lt (show n < 2 ^ (n.log2 + 2) by omega), Nat.div_eq_of_lt (show n < 2 ^ d by omega)]

theorem whole_part (m e : Nat) {i : Int} (hi : i = (e : Int) - Z) : m * 2 ^ i.toNat / 2 ^ (-i).toNat = m * 2 ^ e / 2 ^ Z := by
  generalize Z = z at *
  rcases Nat.le_total z e with h | h
  · have e1 : i.toNat = e - z := by omega
    have e2 : (-i).toNat = 0 := by omega
    have e3 : 2 ^ e = 2 ^ (e - z) * 2 ^ z := by rw [← Nat.pow_add, Nat.sub_add_cancel h]
    rw [e1, e2, e3, Nat.pow_zero, Nat.div_one, ← Nat.mul_assoc, Nat.mul_div_cancel _ (Nat.two_pow_pos _)]
  · have e1 : i.toNat = 0 := by omega
    have e2 : (-i).toNat = z - e := by omega
    have e3 : 2 ^ z = 2 ^ (z - e) * 2 ^ e := by rw [← Nat.pow_add, Nat.sub_add_cancel h]
    rw [e1, e2, e3, Nat.pow_zero, Nat.mul_one, Nat.mul_div_mul_right _ _ (Nat.two_pow_pos _)]

/-- The whole part of a finite positive number. -/
theorem toInt_pos {r : Nat} (hr : r < I) : (double.read r).toInt .zero = some ((val r / U : Nat) : Int) := by
  obtain ⟨i, hi⟩ : ∃ i : Int, i = (upOf r : Int) - 1074 := ⟨_, rfl⟩
  have hd : datum false r = .number false (magOf r) i := by rw [hi]; exact if_pos hr
  rw [read_pos (Nat.lt_trans hr I_lt), hd]
  have key : Toward.zero.cut false (magOf r <<< i.toNat) (-i).toNat = val r / U := by
    rw [cut_zero, Nat.shiftLeft_eq, whole_part (magOf r) (upOf r) (by have := Z_eq; omega), ← val_eq]
    rfl
  have h0 : (Datum.number false (magOf r) i).toInt .zero = some (signed false (Toward.zero.cut false (magOf r <<< i.toNat) (-i).toNat) 0) := rfl
  rw [h0, key]
  have hs : ∀ n : Nat, signed false n 0 = (n : Int) := fun n => by simp [signed]
  rw [hs]

/-- The rung of a whole number. -/
def ofNat (n : Nat) : Nat := double.nearest false n 0

theorem ofNat_le (n : Nat) : ofNat n ≤ I := nearest_le_inf _ _

theorem ofNat_mono {n m : Nat} (h : n ≤ m) : ofNat n ≤ ofNat m :=
  nearest_mono (c := 0) (a := Z) (b := Z) (by have := Z_eq; omega) (by have := Z_eq; omega) (Nat.mul_le_mul_right _ h)

/-- Whole numbers below 2^53 are held exactly. -/
theorem ofNat_exact {n : Nat} (h : n < 2 * B) : val (ofNat n) = n * U ∧ ofNat n < I := by
  by_cases h0 : n = 0
  · subst h0
    have e : ofNat 0 = 0 := nearest_zero _
    rw [e, Nat.zero_mul]
    exact ⟨rfl, by decide⟩
  have hL : n.log2 < 53 := (Nat.log2_lt h0).2 (by rw [two53]; exact h)
  have h1 : 2 ^ n.log2 ≤ n := Nat.log2_self_le h0
  have h2 : n < 2 ^ (n.log2 + 1) := Nat.lt_log2_self
  generalize hl : n.log2 = L at *
  have hm1 : B ≤ n * 2 ^ (52 - L) := by
    have : 2 ^ L * 2 ^ (52 - L) ≤ n * 2 ^ (52 - L) := Nat.mul_le_mul_right _ h1
    rw [← Nat.pow_add, show L + (52 - L) = 52 by omega, ← B_eq] at this
    exact this
  have hm2 : n * 2 ^ (52 - L) < 2 * B := by
    have : n * 2 ^ (52 - L) < 2 ^ (L + 1) * 2 ^ (52 - L) := Nat.mul_lt_mul_of_pos_right h2 (Nat.two_pow_pos _)
    rw [← Nat.pow_add, show L + 1 + (52 - L) = 53 by omega, two53] at this
    exact this
  have hBp := B_pos
  obtain ⟨t, ht⟩ : ∃ t, n * 2 ^ (52 - L) = B + t := ⟨n * 2 ^ (52 - L) - B, by omega⟩
  have htB : t < B := by omega
  have hr1 : ((L + 1023) * B + t) / B = L + 1023 := by
    rw [Nat.mul_comm, Nat.mul_add_div hBp, Nat.div_eq_of_lt htB]
  have hr2 : ((L + 1023) * B + t) % B = t := by rw [Nat.mul_comm, Nat.mul_add_mod]; exact Nat.mod_eq_of_lt htB
  have hge : B ≤ (L + 1023) * B + t := by
    have : 1 * B ≤ (L + 1023) * B := Nat.mul_le_mul_right _ (by omega)
    omega
  have hv : val ((L + 1023) * B + t) = n * U := by
    rw [val_big hge, hr1, hr2, ← ht, Nat.mul_assoc, ← Nat.pow_add]
    have : 52 - L + (L + 1023 - 1) = Z := by have := Z_eq; omega
    rw [this]; rfl
  have hrI : (L + 1023) * B + t < I := by
    have h3 : (L + 1023 + 1) * B ≤ 2047 * B := Nat.mul_le_mul_right _ (by omega)
    rw [Nat.add_mul, Nat.one_mul] at h3
    rw [I_B]
    omega
  have he : ofNat n = (L + 1023) * B + t := by
    have h3 := nearest_val (r := (L + 1023) * B + t) (by rw [I_eq]; omega)
    have h4 : ofNat n = double.nearest false (magOf ((L + 1023) * B + t)) ((upOf ((L + 1023) * B + t) : Int) - 1074) := by
      refine nearest_congr (c := 0) (a := Z) (b := upOf ((L + 1023) * B + t)) (by have := Z_eq; omega) (by omega) ?_
      rw [← val_eq, hv]; rfl
    rw [h4, h3]
  rw [he]
  exact ⟨hv, hrI⟩
end Go.Proofs.YthfpnkanccoolaaDoor.Fl
