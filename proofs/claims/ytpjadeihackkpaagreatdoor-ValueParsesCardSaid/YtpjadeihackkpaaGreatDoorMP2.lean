import Derived.Test.YtpjadeihackkpaaGreatDoorMP1
import Derived.Laws.FloatBits
import Derived.Test.YtpjadeihackkpaaGreatDoorRows
import Derived.Laws.Externs
import Derived.Laws.FloatArith
/- Products, whole parts and whole numbers among the numbers of 64 bits. No program is named. -/
namespace Go.Proofs.YtpjadeihackkpaaGreatDoor.Fl
open Ieee

def Z : Nat := 1074
theorem Z_eq : Z = 1074 := rfl

/-- 2^1074, the units in 1. -/
def U : Nat := 2 ^ Z
theorem U_pos : 0 < U := Nat.two_pow_pos _

/-- The rung of the product of two finite positive numbers. -/
def mulR (r q : Nat) : Nat := double.nearest false (magOf r * magOf q) ((upOf r : Int) - 1074 + ((upOf q : Int) - 1074))

theorem nearest_le_inf (m : Nat) (p : Int) : double.nearest false m p ≤ I := by
  unfold Format.nearest
  dsimp only
  split
  · rw [word_pos]; exact Nat.zero_le _
  · rw [word_pos, I_eq]; exact Nat.min_le_right _ _

theorem mulR_le (r q : Nat) : mulR r q ≤ I := nearest_le_inf _ _

theorem mul_pos {r q : Nat} (hr : r < I) (hq : q < I) : double.mul r q = some (mulR r q) := by
  unfold Format.mul
  rw [read_pos (Nat.lt_trans hr I_lt), read_pos (Nat.lt_trans hq I_lt)]
  unfold datum
  rw [if_pos hr, if_pos hq]
  rfl

theorem mul_inf {r : Nat} (hr : r < I) (h0 : r ≠ 0) : double.mul r I = some I := by
  unfold Format.mul
  rw [read_pos (Nat.lt_trans hr I_lt), read_pos I_lt]
  unfold datum
  rw [if_pos hr, if_neg (Nat.lt_irrefl _), if_pos rfl]
  unfold Datum.product
  have hm : magOf r ≠ 0 := by unfold magOf; have := B_pos; split <;> omega
  simp only
  rw [if_neg hm]
  show some (double.write (.infinity (false ^^ false))) = some I
  show some (double.word false double.infRung) = some I
  rw [word_pos, I_eq]

theorem mags (r q : Nat) : magOf r * magOf q * 2 ^ (upOf r + upOf q) = val r * val q := by
  rw [val_eq r, val_eq q, Nat.pow_add, Nat.mul_mul_mul_comm]

/-- Products keep the order. -/
theorem mulR_mono {r q q' : Nat} (h : q ≤ q') : mulR r q ≤ mulR r q' := by
  have hZ := Z_eq
  refine nearest_mono (c := Z) (a := upOf r + upOf q) (b := upOf r + upOf q') (by omega) (by omega) ?_
  rw [mags, mags]
  exact Nat.mul_le_mul_left _ (val_le h)

/-- The rung of 1. -/
def one : Nat := 1023 * B

theorem one_mag : magOf one = B := by decide
theorem one_up : upOf one = 1022 := by decide

theorem mulR_one {r : Nat} (hr : r ≤ I) : mulR r one = r := by
  have h1 := nearest_val (r := r) (by rw [I_eq]; exact hr)
  have h2 : double.nearest false (magOf r * magOf one) ((upOf r : Int) - 1074 + ((upOf one : Int) - 1074)) = double.nearest false (magOf r) ((upOf r : Int) - 1074) := by
    have hZ := Z_eq
    refine nearest_congr (c := Z) (a := upOf r + 1022) (b := upOf r + Z) (by rw [one_up]; omega) (by omega) ?_
    have e : 52 + (upOf r + 1022) = upOf r + Z := by omega
    rw [one_mag, Nat.mul_assoc, show B * 2 ^ (upOf r + 1022) = 2 ^ (52 + (upOf r + 1022)) by rw [Nat.pow_add 2 52, ← B_eq], e]
  unfold mulR
  rw [h2, h1]

theorem cut_zero (n d : Nat) : Toward.zero.cut false n d = n / 2 ^ d := by
  unfold Toward.cut
  simp only [Nat.one_shiftLeft, Bool.toNat_false, Nat.add_zero]
  by_cases h : d ≤ n.log2 + 2
  · rw [Nat.min_eq_left h]
  · have hlt : n < 2 ^ (n.log2 + 1) := Nat.lt_log2_self
    have h1 : 2 ^ (n.log2 + 2) = 2 * 2 ^ (n.log2 + 1) := by rw [Nat.pow_succ, Nat.mul_comm]
    have h2 : 2 ^ (n.log2 + 2) ≤ 2 ^ d := Nat.pow_le_pow_right (by omega) (by omega)
    rw [Nat.min_eq_right (by omega), Nat.div_eq_of_lt (show n < 2 ^ (n.log2 + 2) by omega), Nat.div_eq_of_lt (show n < 2 ^ d by omega)]

theorem whole_part (m e : Nat) {i : Int} (hi : i = (e : Int) - Z) : m * 2 ^ i.toNat / 2 ^ (-i).toNat = m * 2 ^ e / 2 ^ Z := by
  generalize Z = z at *
  rcases Nat.le_total z e with h | h
  · have e1 : i.toNat = e - z := by omega
    have e2 : (-i).toNat = 0 := by omega
    have e3 : 2 ^ e = 2 ^ (e - z) * 2 ^ z := by rw [← Nat.pow_add, Nat.sub_add_cancel h]
    rw [e1, e2, e3, Nat.pow_zero, Nat.div_one, ← Nat.mul_assoc, Nat.mul_div_cancel _ (Nat.two_pow_pos _)]
  · have e1 : i.toNat = 0 := by omega
    have e2 : (-i).toNat = z - e := by omega
    have e3 : 2 ^ z = 2 ^ (z - e) * 2 ^ e := by rw [← Nat.pow_add, Nat.sub_add_cancel h]
    rw [e1, e2, e3, Nat.pow_zero, Nat.mul_one, Nat.mul_div_mul_right _ _ (Nat.two_pow_pos _)]

/-- The whole part of a finite positive number. -/
theorem toInt_pos {r : Nat} (hr : r < I) : (double.read r).toInt .zero = some ((val r / U : Nat) : Int) := by
  obtain ⟨i, hi⟩ : ∃ i : Int, i = (upOf r : Int) - 1074 := ⟨_, rfl⟩
  have hd : datum false r = .number false (magOf r) i := by rw [hi]; exact if_pos hr
  rw [read_pos (Nat.lt_trans hr I_lt), hd]
  have key : Toward.zero.cut false (magOf r <<< i.toNat) (-i).toNat = val r / U := by
    rw [cut_zero, Nat.shiftLeft_eq, whole_part (magOf r) (upOf r) (by have := Z_eq; omega), ← val_eq]
    rfl
  have h0 : (Datum.number false (magOf r) i).toInt .zero = some (signed false (Toward.zero.cut false (magOf r <<< i.toNat) (-i).toNat) 0) := rfl
  rw [h0, key]
  have hs : ∀ n : Nat, signed false n 0 = (n : Int) := fun n => by simp [signed]
  rw [hs]

/-- The rung of a whole number. -/
def ofNat (n : Nat) : Nat := double.nearest false n 0

theorem ofNat_le (n : Nat) : ofNat n ≤ I := nearest_le_inf _ _

theorem ofNat_mono {n m : Nat} (h : n ≤ m) : ofNat n ≤ ofNat m :=
  nearest_mono (c := 0) (a := Z) (b := Z) (by have := Z_eq; omega) (by have := Z_eq; omega) (Nat.mul_le_mul_right _ h)

/-- Whole numbers below 2^53 are held exactly. -/
theorem ofNat_exact {n : Nat} (h : n < 2 * B) : val (ofNat n) = n * U ∧ ofNat n < I := by
  by_cases h0 : n = 0
  · subst h0
    have e : ofNat 0 = 0 := nearest_zero _
    rw [e, Nat.zero_mul]
    exact ⟨rfl, by decide⟩
  have hL : n.log2 < 53 := (Nat.log2_lt h0).2 (by rw [two53]; exact h)
  have h1 : 2 ^ n.log2 ≤ n := Nat.log2_self_le h0
  have h2 : n < 2 ^ (n.log2 + 1) := Nat.lt_log2_self
  generalize hl : n.log2 = L at *
  have hm1 : B ≤ n * 2 ^ (52 - L) := by
    have : 2 ^ L * 2 ^ (52 - L) ≤ n * 2 ^ (52 - L) := Nat.mul_le_mul_right _ h1
    rw [← Nat.pow_add, show L + (52 - L) = 52 by omega, ← B_eq] at this
    exact this
  have hm2 : n * 2 ^ (52 - L) < 2 * B := by
    have : n * 2 ^ (52 - L) < 2 ^ (L + 1) * 2 ^ (52 - L) := Nat.mul_lt_mul_of_pos_right h2 (Nat.two_pow_pos _)
    rw [← Nat.pow_add, show L + 1 + (52 - L) = 53 by omega, two53] at this
    exact this
  have hBp := B_pos
  obtain ⟨t, ht⟩ : ∃ t, n * 2 ^ (52 - L) = B + t := ⟨n * 2 ^ (52 - L) - B, by omega⟩
  have htB : t < B := by omega
  have hr1 : ((L + 1023) * B + t) / B = L + 1023 := by
    rw [Nat.mul_comm, Nat.mul_add_div hBp, Nat.div_eq_of_lt htB]
  have hr2 : ((L + 1023) * B + t) % B = t := by rw [Nat.mul_comm, Nat.mul_add_mod]; exact Nat.mod_eq_of_lt htB
  have hge : B ≤ (L + 1023) * B + t := by
    have : 1 * B ≤ (L + 1023) * B := Nat.mul_le_mul_right _ (by omega)
    omega
  have hv : val ((L + 1023) * B + t) = n * U := by
    rw [val_big hge, hr1, hr2, ← ht, Nat.mul_assoc, ← Nat.pow_add]
    have : 52 - L + (L + 1023 - 1) = Z := by have := Z_eq; omega
    rw [this]; rfl
  have hrI : (L + 1023) * B + t < I := by
    have h3 : (L + 1023 + 1) * B ≤ 2047 * B := Nat.mul_le_mul_right _ (by omega)
    rw [Nat.add_mul, Nat.one_mul] at h3
    rw [I_B]
    omega
  have he : ofNat n = (L + 1023) * B + t := by
    have h3 := nearest_val (r := (L + 1023) * B + t) (by rw [I_eq]; omega)
    have h4 : ofNat n = double.nearest false (magOf ((L + 1023) * B + t)) ((upOf ((L + 1023) * B + t) : Int) - 1074) := by
      refine nearest_congr (c := 0) (a := Z) (b := upOf ((L + 1023) * B + t)) (by have := Z_eq; omega) (by omega) ?_
      rw [← val_eq, hv]; rfl
    rw [h4, h3]
  rw [he]
  exact ⟨hv, hrI⟩
end Go.Proofs.YtpjadeihackkpaaGreatDoor.Fl

/- Ticks scaled by a number: the plain answer, its bound, its order. No program is named. -/
namespace Go.Proofs.YtpjadeihackkpaaGreatDoor.Fl
open Ieee

/-- The rung of 2^63. -/
def top : Nat := 1086 * B

theorem pow_rung {q : Nat} (hq : 1 ≤ q) : magOf (q * B) = B ∧ upOf (q * B) = q - 1 := by
  have hB := B_pos
  have h1 : B ≤ q * B := Nat.le_mul_of_pos_left _ hq
  unfold magOf upOf
  rw [if_neg (by omega), if_neg (by omega), Nat.mul_mod_left, Nat.mul_div_cancel _ hB]
  exact ⟨rfl, rfl⟩

theorem val_pow {q k : Nat} (hq : q = k + 1023) : val (q * B) = 2 ^ k * U := by
  obtain ⟨h1, h2⟩ := pow_rung (q := q) (by omega)
  have hZ := Z_eq
  have e : 52 + (q - 1) = k + Z := by omega
  rw [val_eq, h1, h2, show B * 2 ^ (q - 1) = 2 ^ (52 + (q - 1)) by rw [Nat.pow_add 2 52, ← B_eq], e, Nat.pow_add]
  rfl

theorem val_top : val top = 2 ^ 63 * U := val_pow rfl

theorem ofNat_pow {k : Nat} (hk : k ≤ 1000) : ofNat (2 ^ k) = (k + 1023) * B := by
  have hZ := Z_eq
  obtain ⟨h1, h2⟩ := pow_rung (q := k + 1023) (by omega)
  have hle : (k + 1023) * B ≤ I := by rw [I_B]; exact Nat.mul_le_mul_right _ (by omega)
  have h3 := nearest_val (r := (k + 1023) * B) (by rw [I_eq]; exact hle)
  have h4 : ofNat (2 ^ k) = double.nearest false (magOf ((k + 1023) * B)) ((upOf ((k + 1023) * B) : Int) - 1074) := by
    refine nearest_congr (c := 0) (a := Z) (b := upOf ((k + 1023) * B)) (by omega) (by omega) ?_
    rw [← val_eq, val_pow rfl]
    rfl
  rw [h4, h3]

theorem ofNat_lt {n : Nat} (h : n < 18446744073709551616) : ofNat n < I := by
  have h1 : ofNat n ≤ ofNat (2 ^ 64) := ofNat_mono (by omega)
  rw [ofNat_pow (by omega)] at h1
  have h2 : (64 + 1023) * B < I := by decide
  omega

/-- The product of ticks and a positive number or the infinity, as a rung. -/
def prodR (n x : Nat) : Nat := if x = I then I else mulR (ofNat n) x

theorem prodR_le (n x : Nat) : prodR n x ≤ I := by
  unfold prodR
  split
  · exact Nat.le_refl _
  · exact mulR_le _ _

theorem prodR_mono {n x y : Nat} (h : x ≤ y) (hy : y ≤ I) : prodR n x ≤ prodR n y := by
  by_cases h1 : y = I
  · have : prodR n y = I := if_pos h1
    rw [this]
    exact prodR_le n x
  · have h2 : x ≠ I := by omega
    unfold prodR
    rw [if_neg h1, if_neg h2]
    exact mulR_mono h

/-- What Scale answers for n ticks and a positive number. -/
def scaleR (n x : Nat) : Nat := if top ≤ prodR n x then 9223372036854775807 else val (prodR n x) / U

theorem scale_low {p : Nat} (h : p < top) : val p / U ≤ 9223372036854775807 := by
  have h1 := val_mono h
  rw [val_top] at h1
  have h2 : val p / U < 2 ^ 63 := (Nat.div_lt_iff_lt_mul U_pos).2 h1
  omega

theorem scaleR_le (n x : Nat) : scaleR n x ≤ 9223372036854775807 := by
  unfold scaleR
  split
  · exact Nat.le_refl _
  · exact scale_low (by omega)

theorem scaleR_mono {n x y : Nat} (h : x ≤ y) (hy : y ≤ I) : scaleR n x ≤ scaleR n y := by
  have hp := prodR_mono (n := n) h hy
  unfold scaleR
  by_cases h2 : top ≤ prodR n y
  · rw [if_pos h2]
    exact scaleR_le n x
  · rw [if_neg h2, if_neg (by omega)]
    exact Nat.div_le_div_right (val_le hp)

theorem scaleR_one {n : Nat} (h : n < 2 * B) : scaleR n one = n := by
  obtain ⟨h1, h2⟩ := ofNat_exact h
  have hne : one ≠ I := by decide
  have hp : prodR n one = ofNat n := by
    unfold prodR
    rw [if_neg hne]
    exact mulR_one (Nat.le_of_lt h2)
  have hlt : ofNat n < top := by
    refine val_lt_iff.1 ?_
    rw [h1, val_top]
    have h3 : (2 * B : Nat) < 2 ^ 63 := by decide
    exact Nat.mul_lt_mul_of_pos_right (by omega) U_pos
  unfold scaleR
  rw [hp, if_neg (by omega), h1, Nat.mul_div_cancel _ U_pos]
end Go.Proofs.YtpjadeihackkpaaGreatDoor.Fl

/- The walks of the reference's functions on bits and order. -/
namespace Go.Proofs.YtpjadeihackkpaaGreatDoor
open Go.RowKit Fl

def Q : Nat := 9221120237041090561
def bitsB (b : Nat) : Nat := if I < b % W then Q else b
def rankB (b : Nat) : Nat := if W ≤ b then 18446744073709551615 - b else b + W

theorem and_top {b : Nat} (h : b < 18446744073709551616) : bits .and .u64 (b : Int) 9223372036854775807 = ((b % W : Nat) : Int) := by
  have h1 := u64_and_nat b 9223372036854775807 h (by omega)
  have h2 := Nat.and_two_pow_sub_one_eq_mod b 63
  rw [show (2 : Nat) ^ 63 - 1 = 9223372036854775807 by decide, show (2 : Nat) ^ 63 = W by decide] at h2
  rw [h2] at h1
  exact h1

/-- The library's two functions on bits. -/
theorem run_bits (b : Nat) (w : World) : (callFunc 63 #[.float .f64 b]).run Tryz.prog w = .ok (.value (.int .u64 (b : Int))) w := by
  rw [run_callFunc_extern (e := Extern.MathFloatBits.float64bits) Tryz.func63 (by kernel_rfl) (by kernel_rfl) (by rfl) (by rfl)]
  rfl

theorem run_frombits (b : Nat) (w : World) : (callFunc 88 #[.int .u64 (b : Int)]).run Tryz.prog w = .ok (.value (.float .f64 b)) w := by
  rw [run_callFunc_extern (e := Extern.MathFloatBits.float64frombits) Tryz.func88 (by kernel_rfl) (by kernel_rfl) (by rfl) (by rfl)]
  rfl

set_option maxRecDepth 100000 in
theorem rnan_any (b : Nat) (w : World) (hb : b < 18446744073709551616) :
    Calls Tryz.prog 64 #[.int .u64 (b : Int)] w fun e w' => e = .returned (.bool (decide (I < b % W))) ∧ w = w' := by
  have e := and_top hb
  go_enter Tryz.func64, Tryz.ntmps64
  go_wp2
  go_ret
  exact ⟨ret_bool (decide_eq_decide.2 (by unfold I; omega)), rfl⟩

theorem rnan_is (b : Nat) (w : World) (v : Bool) (hb : b < 18446744073709551616) (hv : decide (I < b % W) = v) :
    Calls Tryz.prog 64 #[.int .u64 (b : Int)] w fun e w' => e = .returned (.bool v) ∧ w = w' := by
  subst hv
  exact rnan_any b w hb

set_option maxRecDepth 100000 in
theorem rbits_any (b : Nat) (w : World) (hb : b < 18446744073709551616) :
    Calls Tryz.prog 45 #[.float .f64 b] w fun e w' => e = .returned (.int .u64 (bitsB b : Nat)) ∧ w = w' := by
  have hx := run_bits
  by_cases h : I < b % W
  · have Hv := Lib.hid (rnan_is b w true hb (decide_eq_true h))
    have Hf := Lib.hid (show ((bitsB b : Nat) : Int) = 9221120237041090561 by unfold bitsB; rw [if_pos h]; rfl)
    clear h
    go_enter Tryz.func45, Tryz.ntmps45
    go_wp2_with fail
    refine Hv.out.mono ?_
    rintro e w' ⟨rfl, rfl⟩
    go_wp2
    go_ret
    exact ⟨ret_u64 Hf.out.symm, rfl⟩
  · have Hv := Lib.hid (rnan_is b w false hb (decide_eq_false h))
    have Hf := Lib.hid (show ((bitsB b : Nat) : Int) = (b : Int) by unfold bitsB; rw [if_neg h])
    clear h
    go_enter Tryz.func45, Tryz.ntmps45
    go_wp2_with fail
    refine Hv.out.mono ?_
    rintro e w' ⟨rfl, rfl⟩
    go_wp2
    go_ret
    exact ⟨ret_u64 Hf.out.symm, rfl⟩

theorem bitsB_lt {b : Nat} (hb : b < 18446744073709551616) : bitsB b < 18446744073709551616 := by
  unfold bitsB
  split
  · decide
  · exact hb

/-- Of: the number with some bits, or none. -/
def ofB (b : Nat) : Option Nat := if I < b % W ∧ b ≠ Q then none else some b

theorem rsame_any (a b : Nat) (w : World) (ha : a < 18446744073709551616) (hb : b < 18446744073709551616) :
    Calls Tryz.prog 39 #[.float .f64 a, .float .f64 b] w fun e w' => e = .returned (.bool (decide (bitsB a = bitsB b))) ∧ w = w' := by
  have H1 := Lib.hid (rbits_any a w ha)
  have H2 := Lib.hid (rbits_any b w hb)
  clear ha hb
  generalize bitsB a = x at *
  generalize bitsB b = y at *
  go_enter Tryz.func39, Tryz.ntmps39
  go_wp2_with fail
  refine H1.out.mono ?_
  rintro e w' ⟨rfl, rfl⟩
  go_wp2_with fail
  refine H2.out.mono ?_
  rintro e w' ⟨rfl, rfl⟩
  go_wp2
  go_ret
  refine ⟨ret_bool ?_, rfl⟩
  rw [Bool.eq_iff_iff]
  simp
  omega

theorem rankB_lt {b : Nat} (hb : b < 18446744073709551616) : rankB b < 18446744073709551616 := by
  unfold rankB W
  split <;> omega

/-- The order: -1, 0 or 1. -/
def cmpR (x y : Nat) : Int := if x < y then -1 else if y < x then 1 else 0
def cmpB (a b : Nat) : Int := cmpR (rankB (bitsB a)) (rankB (bitsB b))

/-- The sum of ticks. -/
def addN (a b : Nat) : Nat := if 9223372036854775807 < a + b then 9223372036854775807 else a + b

end Go.Proofs.YtpjadeihackkpaaGreatDoor

/- The walk of the reference's Scale: it returns the plain answer. -/
namespace Go.Proofs.YtpjadeihackkpaaGreatDoor
open Go.RowKit Fl

theorem floatOf (n : Nat) : floatOfInt .f64 (n : Int) = ofNat n := by
  have h : ¬ ((n : Int) < 0) := by omega
  show FloatKind.nearest .f64 (n : Int) = _
  unfold FloatKind.nearest
  rw [Int.natAbs_natCast, decide_eq_false h]
  rfl

/-- The product of ticks and a positive number or the infinity. -/
theorem prod_bits {n x : Nat} (hn : n < 18446744073709551616) (h0 : n ≠ 0) (hx : x ≤ I) : floatBits .mul .f64 (ofNat n) x = some (prodR n x) := by
  show Ieee.double.mul (ofNat n) x = _
  have hlt := ofNat_lt hn
  unfold prodR
  by_cases h : x = I
  · subst h
    rw [if_pos rfl]
    refine mul_inf hlt (fun e => ?_)
    have h1 : ofNat 1 ≤ ofNat n := ofNat_mono (by omega)
    have h2 : ofNat 1 = 1023 * B := by
      have := ofNat_pow (k := 0) (by omega)
      simpa using this
    rw [e, h2] at h1
    have := B_pos
    omega
  · rw [if_neg h]
    exact mul_pos hlt (by omega)

theorem order_top {p : Nat} (hp : p ≤ I) : Ieee.double.order p top = some (compare ((val p : Nat) : Int) ((val top : Nat) : Int)) := by
  have h1 : top < W := by decide
  have h2 : p < W := Nat.lt_of_le_of_lt hp I_lt
  have h3 : top ≤ I := by decide
  unfold Ieee.Format.order
  rw [read_pos h2, read_pos h1, order_sv false false hp h3]
  rfl

theorem order_low {p : Nat} (h : p < top) : FloatKind.f64.format.order p 4890909195324358656 = some .lt := by
  have h3 : top ≤ I := by decide
  have h1 : Ieee.double.order p top = some .lt := by
    rw [order_top (by omega), cmp_lt (by have := val_mono h; omega)]
  exact h1

theorem order_high {p : Nat} (h : top ≤ p) (hp : p ≤ I) : (FloatKind.f64.format.order p 4890909195324358656 == some .gt || FloatKind.f64.format.order p 4890909195324358656 == some .eq) = true := by
  show (Ieee.double.order p top == some .gt || Ieee.double.order p top == some .eq) = true
  rw [order_top hp]
  rcases Nat.lt_or_eq_of_le h with h1 | h1
  · rw [cmp_gt (by have := val_mono h1; omega)]; rfl
  · subst h1; rw [cmp_eq]; rfl

theorem to_ticks {p : Nat} (h : p < top) : floatToIntVal .f64 p .u64 = some ((val p / U : Nat) : Int) := by
  have h3 : top ≤ I := by decide
  have h1 : (FloatKind.f64.decode p).toInt .zero = some ((val p / U : Nat) : Int) := toInt_pos (by omega)
  have h2 := scale_low h
  have hmin : IntKind.u64.min = 0 := rfl
  have hmax : IntKind.u64.max = 18446744073709551615 := rfl
  unfold floatToIntVal
  rw [h1]
  generalize val p / U = v at h2 ⊢
  simp only
  rw [if_pos ⟨by rw [hmin]; omega, by rw [hmax]; omega⟩]

/-- What Scale answers. -/
def scaleB (n b : Nat) : Nat := if n = 0 ∨ bitsB b = Q ∨ bitsB b = 0 ∨ W ≤ bitsB b then 0 else scaleR n (bitsB b)

end Go.Proofs.YtpjadeihackkpaaGreatDoor

