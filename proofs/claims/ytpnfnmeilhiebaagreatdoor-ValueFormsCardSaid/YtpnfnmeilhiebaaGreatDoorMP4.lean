import Derived.Test.YtpnfnmeilhiebaaGreatDoorMP3
import Derived.Test.YtpnfnmeilhiebaaGreatDoorMP1
import Derived.Test.YtpnfnmeilhiebaaGreatDoorRows
import Derived.Test.YtpnfnmeilhiebaaGreatDoorMP2
import Derived.Laws.Externs
import Derived.Laws.FloatArith
/- Ticks scaled by a number: the plain answer, its bound, its order. No program is named. -/
namespace Go.Proofs.YtpnfnmeilhiebaaGreatDoor.Fl
open Ieee

/-- The rung of 2^63. -/
def top : Nat := 1086 * B

theorem pow_rung {q : Nat} (hq : 1 ≤ q) : magOf (q * B) = B ∧ upOf (q * B) = q - 1 := by
  have hB := B_pos
  have h1 : B ≤ q * B := Nat.le_mul_of_pos_left _ hq
  unfold magOf upOf
  rw [if_neg (by omega), if_neg (by omega), Nat.mul_mod_left, Nat.mul_div_cancel _ hB]
  exact ⟨rfl, rfl⟩

theorem val_pow {q k : Nat} (hq : q = k + 1023) : val (q * B) = 2 ^ k * U := by
  obtain ⟨h1, h2⟩ := pow_rung (q := q) (by omega)
  have hZ := Z_eq
  have e : 52 + (q - 1) = k + Z := by omega
  rw [val_eq, h1, h2, show B * 2 ^ (q - 1) = 2 ^ (52 + (q - 1)) by rw [Nat.pow_add 2 52, ← B_eq], e, Nat.pow_add]
  rfl

theorem val_top : val top = 2 ^ 63 * U := val_pow rfl

theorem ofNat_pow {k : Nat} (hk : k ≤ 1000) : ofNat (2 ^ k) = (k + 1023) * B := by
  have hZ := Z_eq
  obtain ⟨h1, h2⟩ := pow_rung (q := k + 1023) (by omega)
  have hle : (k + 1023) * B ≤ I := by rw [I_B]; exact Nat.mul_le_mul_right _ (by omega)
  have h3 := nearest_val (r := (k + 1023) * B) (by rw [I_eq]; exact hle)
  have h4 : ofNat (2 ^ k) = double.nearest false (magOf ((k + 1023) * B)) ((upOf ((k + 1023) * B) : Int) - 1074) := by
    refine nearest_congr (c := 0) (a := Z) (b := upOf ((k + 1023) * B)) (by omega) (by omega) ?_
    rw [← val_eq, val_pow rfl]
    rfl
  rw [h4, h3]

theorem ofNat_lt {n : Nat} (h : n < 18446744073709551616) : ofNat n < I := by
  have h1 : ofNat n ≤ ofNat (2 ^ 64) := ofNat_mono (by omega)
  rw [ofNat_pow (by omega)] at h1
  have h2 : (64 + 1023) * B < I := by decide
  omega

/-- The product of ticks and a positive number or the infinity, as a rung. -/
def prodR (n x : Nat) : Nat := if x = I then I else mulR (ofNat n) x

theorem prodR_le (n x : Nat) : prodR n x ≤ I := by
  unfold prodR
  split
  · exact Nat.le_refl _
  · exact mulR_le _ _

theorem prodR_mono {n x y : Nat} (h : x ≤ y) (hy : y ≤ I) : prodR n x ≤ prodR n y := by
  by_cases h1 : y = I
  · have : prodR n y = I := if_pos h1
    rw [this]
    exact prodR_le n x
  · have h2 : x ≠ I := by omega
    unfold prodR
    rw [if_neg h1, if_neg h2]
    exact mulR_mono h

/-- What Scale answers for n ticks and a positive number. -/
def scaleR (n x : Nat) : Nat := if top ≤ prodR n x then 9223372036854775807 else val (prodR n x) / U

theorem scale_low {p : Nat} (h : p < top) : val p / U ≤ 9223372036854775807 := by
  have h1 := val_mono h
  rw [val_top] at h1
  have h2 : val p / U < 2 ^ 63 := (Nat.div_lt_iff_lt_mul U_pos).2 h1
  omega

theorem scaleR_le (n x : Nat) : scaleR n x ≤ 9223372036854775807 := by
  unfold scaleR
  split
  · exact Nat.le_refl _
  · exact scale_low (by omega)

theorem scaleR_mono {n x y : Nat} (h : x ≤ y) (hy : y ≤ I) : scaleR n x ≤ scaleR n y := by
  have hp := prodR_mono (n := n) h hy
  unfold scaleR
  by_cases h2 : top ≤ prodR n y
  · rw [if_pos h2]
    exact scaleR_le n x
  · rw [if_neg h2, if_neg (by omega)]
    exact Nat.div_le_div_right (val_le hp)

theorem scaleR_one {n : Nat} (h : n < 2 * B) : scaleR n one = n := by
  obtain ⟨h1, h2⟩ := ofNat_exact h
  have hne : one ≠ I := by decide
  have hp : prodR n one = ofNat n := by
    unfold prodR
    rw [if_neg hne]
    exact mulR_one (Nat.le_of_lt h2)
  have hlt : ofNat n < top := by
    refine val_lt_iff.1 ?_
    rw [h1, val_top]
    have h3 : (2 * B : Nat) < 2 ^ 63 := by decide
    exact Nat.mul_lt_mul_of_pos_right (by omega) U_pos
  unfold scaleR
  rw [hp, if_neg (by omega), h1, Nat.mul_div_cancel _ U_pos]
end Go.Proofs.YtpnfnmeilhiebaaGreatDoor.Fl

/- The walks of the reference's functions on bits and order. -/
namespace Go.Proofs.YtpnfnmeilhiebaaGreatDoor
open Go.RowKit Fl

def Q : Nat := 9221120237041090561
def bitsB (b : Nat) : Nat := if I < b % W then Q else b
def rankB (b : Nat) : Nat := if W ≤ b then 18446744073709551615 - b else b + W

theorem and_top {b : Nat} (h : b < 18446744073709551616) : bits .and .u64 (b : Int) 9223372036854775807 = ((b % W : Nat) : Int) := by
  have h1 := u64_and_nat b 9223372036854775807 h (by omega)
  have h2 := Nat.and_two_pow_sub_one_eq_mod b 63
  rw [show (2 : Nat) ^ 63 - 1 = 9223372036854775807 by decide, show (2 : Nat) ^ 63 = W by decide] at h2
  rw [h2] at h1
  exact h1

/-- The library's two functions on bits. -/
theorem run_bits (b : Nat) (w : World) : (callFunc 59 #[.float .f64 b]).run Tryz.prog w = .ok (.value (.int .u64 (b : Int))) w := by
  rw [run_callFunc_extern (e := Extern.MathFloatBits.float64bits) Tryz.func59 (by kernel_rfl) (by kernel_rfl) (by rfl) (by rfl)]
  rfl

theorem run_frombits (b : Nat) (w : World) : (callFunc 81 #[.int .u64 (b : Int)]).run Tryz.prog w = .ok (.value (.float .f64 b)) w := by
  rw [run_callFunc_extern (e := Extern.MathFloatBits.float64frombits) Tryz.func81 (by kernel_rfl) (by kernel_rfl) (by rfl) (by rfl)]
  rfl

set_option maxRecDepth 100000 in
theorem rnan_any (b : Nat) (w : World) (hb : b < 18446744073709551616) :
    Calls Tryz.prog 60 #[.int .u64 (b : Int)] w fun e w' => e = .returned (.bool (decide (I < b % W))) ∧ w = w' := by
  have e := and_top hb
  go_enter Tryz.func60, Tryz.ntmps60
  go_wp2
  go_ret
  exact ⟨ret_bool (decide_eq_decide.2 (by unfold I; omega)), rfl⟩

theorem rnan_is (b : Nat) (w : World) (v : Bool) (hb : b < 18446744073709551616) (hv : decide (I < b % W) = v) :
    Calls Tryz.prog 60 #[.int .u64 (b : Int)] w fun e w' => e = .returned (.bool v) ∧ w = w' := by
  subst hv
  exact rnan_any b w hb

set_option maxRecDepth 100000 in
theorem rbits_any (b : Nat) (w : World) (hb : b < 18446744073709551616) :
    Calls Tryz.prog 42 #[.float .f64 b] w fun e w' => e = .returned (.int .u64 (bitsB b : Nat)) ∧ w = w' := by
  have hx := run_bits
  by_cases h : I < b % W
  · have Hv := Lib.hid (rnan_is b w true hb (decide_eq_true h))
    have Hf := Lib.hid (show ((bitsB b : Nat) : Int) = 9221120237041090561 by unfold bitsB; rw [if_pos h]; rfl)
    clear h
    go_enter Tryz.func42, Tryz.ntmps42
    go_wp2_with fail
    refine Hv.out.mono ?_
    rintro e w' ⟨rfl, rfl⟩
    go_wp2
    go_ret
    exact ⟨ret_u64 Hf.out.symm, rfl⟩
  · have Hv := Lib.hid (rnan_is b w false hb (decide_eq_false h))
    have Hf := Lib.hid (show ((bitsB b : Nat) : Int) = (b : Int) by unfold bitsB; rw [if_neg h])
    clear h
    go_enter Tryz.func42, Tryz.ntmps42
    go_wp2_with fail
    refine Hv.out.mono ?_
    rintro e w' ⟨rfl, rfl⟩
    go_wp2
    go_ret
    exact ⟨ret_u64 Hf.out.symm, rfl⟩

theorem bitsB_lt {b : Nat} (hb : b < 18446744073709551616) : bitsB b < 18446744073709551616 := by
  unfold bitsB
  split
  · decide
  · exact hb

/-- Of: the number with some bits, or none. -/
def ofB (b : Nat) : Option Nat := if I < b % W ∧ b ≠ Q then none else some b

theorem rsame_any (a b : Nat) (w : World) (ha : a < 18446744073709551616) (hb : b < 18446744073709551616) :
    Calls Tryz.prog 37 #[.float .f64 a, .float .f64 b] w fun e w' => e = .returned (.bool (decide (bitsB a = bitsB b))) ∧ w = w' := by
  have H1 := Lib.hid (rbits_any a w ha)
  have H2 := Lib.hid (rbits_any b w hb)
  clear ha hb
  generalize bitsB a = x at *
  generalize bitsB b = y at *
  go_enter Tryz.func37, Tryz.ntmps37
  go_wp2_with fail
  refine H1.out.mono ?_
  rintro e w' ⟨rfl, rfl⟩
  go_wp2_with fail
  refine H2.out.mono ?_
  rintro e w' ⟨rfl, rfl⟩
  go_wp2
  go_ret
  refine ⟨ret_bool ?_, rfl⟩
  rw [Bool.eq_iff_iff]
  simp
  omega

theorem rankB_lt {b : Nat} (hb : b < 18446744073709551616) : rankB b < 18446744073709551616 := by
  unfold rankB W
  split <;> omega

/-- The order: -1, 0 or 1. -/
def cmpR (x y : Nat) : Int := if x < y then -1 else if y < x then 1 else 0
def cmpB (a b : Nat) : Int := cmpR (rankB (bitsB a)) (rankB (bitsB b))

/-- The sum of ticks. -/
def addN (a b : Nat) : Nat := if 9223372036854775807 < a + b then 9223372036854775807 else a + b

end Go.Proofs.YtpnfnmeilhiebaaGreatDoor

/- The walk of the reference's Scale: it returns the plain answer. -/
namespace Go.Proofs.YtpnfnmeilhiebaaGreatDoor
open Go.RowKit Fl

theorem floatOf (n : Nat) : floatOfInt .f64 (n : Int) = ofNat n := by
  have h : ¬ ((n : Int) < 0) := by omega
  show FloatKind.nearest .f64 (n : Int) = _
  unfold FloatKind.nearest
  rw [Int.natAbs_natCast, decide_eq_false h]
  rfl

/-- The product of ticks and a positive number or the infinity. -/
theorem prod_bits {n x : Nat} (hn : n < 18446744073709551616) (h0 : n ≠ 0) (hx : x ≤ I) : floatBits .mul .f64 (ofNat n) x = some (prodR n x) := by
  show Ieee.double.mul (ofNat n) x = _
  have hlt := ofNat_lt hn
  unfold prodR
  by_cases h : x = I
  · subst h
    rw [if_pos rfl]
    refine mul_inf hlt (fun e => ?_)
    have h1 : ofNat 1 ≤ ofNat n := ofNat_mono (by omega)
    have h2 : ofNat 1 = 1023 * B := by
      have := ofNat_pow (k := 0) (by omega)
      simpa using this
    rw [e, h2] at h1
    have := B_pos
    omega
  · rw [if_neg h]
    exact mul_pos hlt (by omega)

theorem order_top {p : Nat} (hp : p ≤ I) : Ieee.double.order p top = some (compare ((val p : Nat) : Int) ((val top : Nat) : Int)) := by
  have h1 : top < W := by decide
  have h2 : p < W := Nat.lt_of_le_of_lt hp I_lt
  have h3 : top ≤ I := by decide
  unfold Ieee.Format.order
  rw [read_pos h2, read_pos h1, order_sv false false hp h3]
  rfl

theorem order_low {p : Nat} (h : p < top) : FloatKind.f64.format.order p 4890909195324358656 = some .lt := by
  have h3 : top ≤ I := by decide
  have h1 : Ieee.double.order p top = some .lt := by
    rw [order_top (by omega), cmp_lt (by have := val_mono h; omega)]
  exact h1

theorem order_high {p : Nat} (h : top ≤ p) (hp : p ≤ I) : (FloatKind.f64.format.order p 4890909195324358656 == some .gt || FloatKind.f64.format.order p 4890909195324358656 == some .eq) = true := by
  show (Ieee.double.order p top == some .gt || Ieee.double.order p top == some .eq) = true
  rw [order_top hp]
  rcases Nat.lt_or_eq_of_le h with h1 | h1
  · rw [cmp_gt (by have := val_mono h1; omega)]; rfl
  · subst h1; rw [cmp_eq]; rfl

theorem to_ticks {p : Nat} (h : p < top) : floatToIntVal .f64 p .u64 = some ((val p / U : Nat) : Int) := by
  have h3 : top ≤ I := by decide
  have h1 : (FloatKind.f64.decode p).toInt .zero = some ((val p / U : Nat) : Int) := toInt_pos (by omega)
  have h2 := scale_low h
  have hmin : IntKind.u64.min = 0 := rfl
  have hmax : IntKind.u64.max = 18446744073709551615 := rfl
  unfold floatToIntVal
  rw [h1]
  generalize val p / U = v at h2 ⊢
  simp only
  rw [if_pos ⟨by rw [hmin]; omega, by rw [hmax]; omega⟩]

/-- What Scale answers. -/
def scaleB (n b : Nat) : Nat := if n = 0 ∨ bitsB b = Q ∨ bitsB b = 0 ∨ W ≤ bitsB b then 0 else scaleR n (bitsB b)

end Go.Proofs.YtpnfnmeilhiebaaGreatDoor

/- The order of numbers by their bits, and how scaling keeps it. -/
namespace Go.Proofs.YtpnfnmeilhiebaaGreatDoor
open Go.RowKit Fl

theorem rankB_inj {x y : Nat} (hx : x < 18446744073709551616) (hy : y < 18446744073709551616) (h : rankB x = rankB y) : x = y := by
  unfold rankB W at h
  split at h <;> split at h <;> omega

theorem cmpR_neg (x y : Nat) : cmpR y x = -cmpR x y := by
  unfold cmpR
  split <;> split <;> omega

theorem cmpR_zero {x y : Nat} : cmpR x y = 0 ↔ x = y := by
  unfold cmpR
  split
  · omega
  · split <;> omega

theorem cmpR_le {x y : Nat} : cmpR x y ≤ 0 ↔ x ≤ y := by
  unfold cmpR
  split
  · omega
  · split <;> omega

theorem cmpR_lt {x y : Nat} : cmpR x y < 0 ↔ x < y := by
  unfold cmpR
  split
  · omega
  · split <;> omega

theorem cmpB_neg (a b : Nat) : cmpB b a = -cmpB a b := cmpR_neg _ _

theorem cmpB_zero {a b : Nat} (ha : a < 18446744073709551616) (hb : b < 18446744073709551616) : cmpB a b = 0 ↔ bitsB a = bitsB b := by
  unfold cmpB
  rw [cmpR_zero]
  exact ⟨fun h => rankB_inj (bitsB_lt ha) (bitsB_lt hb) h, fun h => by rw [h]⟩

theorem cmpB_trans {a b c : Nat} (h1 : cmpB a b ≤ 0) (h2 : cmpB b c ≤ 0) : cmpB a c ≤ 0 := by
  unfold cmpB at *
  rw [cmpR_le] at *
  omega

/-- A word: its sign and its rung. -/
theorem read_word {a : Nat} (ha : a < 18446744073709551616) : Ieee.double.read a = datum (decide (W ≤ a)) (a % W) := by
  by_cases h : W ≤ a
  · have e : a = W + a % W := by unfold W at *; omega
    have hr : a % W < W := by unfold W; omega
    rw [decide_eq_true h]
    conv => lhs; rw [e]
    exact read_neg hr
  · have e : a % W = a := Nat.mod_eq_of_lt (by omega)
    rw [decide_eq_false h, e]
    exact read_pos (by omega)

theorem datum_nan {s : Bool} {r : Nat} (h : I < r) : datum s r = .nan s (r - I) := by
  unfold datum
  rw [if_neg (by omega), if_neg (by omega)]

theorem order_none {a b : Nat} (ha : a < 18446744073709551616) (h : I < a % W) : Ieee.double.order a b = none := by
  unfold Ieee.Format.order
  rw [read_word ha, datum_nan h]
  unfold Ieee.Datum.order
  rfl

theorem order_none' {a b : Nat} (hb : b < 18446744073709551616) (h : I < b % W) : Ieee.double.order a b = none := by
  unfold Ieee.Format.order
  rw [read_word hb, datum_nan h]
  generalize Ieee.double.read a = d
  cases d <;> rfl

theorem order_words {a b : Nat} (ha : a < 18446744073709551616) (hb : b < 18446744073709551616) (h : a % W ≤ I) (h' : b % W ≤ I) :
    Ieee.double.order a b = some (compare (sv (decide (W ≤ a)) (a % W)) (sv (decide (W ≤ b)) (b % W))) := by
  unfold Ieee.Format.order
  rw [read_word ha, read_word hb, order_sv _ _ h h']

theorem sv_lt {a b : Nat} (ha : a < 18446744073709551616) (hb : b < 18446744073709551616) (h : sv (decide (W ≤ a)) (a % W) < sv (decide (W ≤ b)) (b % W)) : rankB a < rankB b := by
  have hW : W = 9223372036854775808 := rfl
  by_cases h1 : W ≤ a <;> by_cases h2 : W ≤ b
  · rw [decide_eq_true h1, decide_eq_true h2] at h
    have h3 : val (b % W) < val (a % W) := by
      have h4 : -(val (a % W) : Int) < -(val (b % W) : Int) := h
      omega
    have h5 := val_lt_iff.1 h3
    have ma : a % W = a - W := by unfold W at *; omega
    have mb : b % W = b - W := by unfold W at *; omega
    rw [ma, mb] at h5
    unfold rankB
    rw [if_pos h1, if_pos h2]
    omega
  · unfold rankB
    rw [if_pos h1, if_neg h2]
    omega
  · rw [decide_eq_false h1, decide_eq_true h2] at h
    have h4 : (val (a % W) : Int) < -(val (b % W) : Int) := h
    omega
  · rw [decide_eq_false h1, decide_eq_false h2] at h
    have h3 : val (a % W) < val (b % W) := by
      have h4 : (val (a % W) : Int) < (val (b % W) : Int) := h
      omega
    have h5 := val_lt_iff.1 h3
    rw [Nat.mod_eq_of_lt (by omega), Nat.mod_eq_of_lt (by omega)] at h5
    unfold rankB
    rw [if_neg h1, if_neg h2]
    omega

theorem compare_lt_of {x y : Int} (h : compare x y = .lt) : x < y := by
  rcases Int.lt_trichotomy x y with h1 | h1 | h1
  · exact h1
  · subst h1; rw [cmp_eq] at h; cases h
  · rw [cmp_gt h1] at h; cases h

/-- What is less as a number is less in the order. -/
theorem less_cmp {a b : Nat} (ha : a < 18446744073709551616) (hb : b < 18446744073709551616) (h : Ieee.double.order a b = some .lt) : cmpB a b < 0 := by
  by_cases h1 : I < a % W
  · rw [order_none ha h1] at h; cases h
  by_cases h2 : I < b % W
  · rw [order_none' hb h2] at h; cases h
  rw [order_words ha hb (by omega) (by omega)] at h
  have h3 := sv_lt ha hb (compare_lt_of (Option.some.inj h))
  have e1 : bitsB a = a := if_neg h1
  have e2 : bitsB b = b := if_neg h2
  unfold cmpB
  rw [e1, e2, cmpR_lt]
  exact h3

/-- A number differs from itself just where it is none. -/
theorem self_order {b : Nat} (hb : b < 18446744073709551616) : (FloatKind.f64.format.order b b != some .eq) = decide (I < b % W) := by
  show (Ieee.double.order b b != some .eq) = _
  by_cases h : I < b % W
  · rw [order_none hb h, decide_eq_true h]; rfl
  · rw [order_words hb hb (by omega) (by omega), cmp_eq, decide_eq_false h]; rfl

theorem scaleB_le (n b : Nat) : scaleB n b ≤ 9223372036854775807 := by
  unfold scaleB
  split
  · omega
  · exact scaleR_le _ _

/-- A greater number scales ticks to no fewer ones. -/
theorem scaleB_mono {n x y : Nat} (hy : y < 18446744073709551616) (h : cmpB x y ≤ 0) (hn : ¬ I < y % W) : scaleB n x ≤ scaleB n y := by
  have hW : W = 9223372036854775808 := rfl
  have hI : I = 9218868437227405312 := rfl
  have hQ : Q = 9221120237041090561 := rfl
  unfold cmpB at h
  rw [cmpR_le] at h
  have ey : bitsB y = y := if_neg hn
  by_cases hz : n = 0 ∨ bitsB x = Q ∨ bitsB x = 0 ∨ W ≤ bitsB x
  · have : scaleB n x = 0 := if_pos hz
    rw [this]
    exact Nat.zero_le _
  · have hx : scaleB n x = scaleR n (bitsB x) := if_neg hz
    have c1 : n ≠ 0 := fun h => hz (.inl h)
    have c3 : bitsB x ≠ 0 := fun h => hz (.inr (.inr (.inl h)))
    have c4 : bitsB x < W := Nat.lt_of_not_le fun h => hz (.inr (.inr (.inr h)))
    have r1 : rankB (bitsB x) = bitsB x + W := if_neg (by omega)
    rw [r1, ey] at h
    have hyW : y < W := by
      rcases Nat.lt_or_ge y W with h1 | h1
      · exact h1
      · have r2 : rankB y = 18446744073709551615 - y := if_pos h1
        rw [r2] at h
        omega
    have r2 : rankB y = y + W := if_neg (by omega)
    rw [r2] at h
    have hyI : y ≤ I := by rw [Nat.mod_eq_of_lt hyW] at hn; omega
    have hz' : ¬ (n = 0 ∨ bitsB y = Q ∨ bitsB y = 0 ∨ W ≤ bitsB y) := by
      rw [ey]
      omega
    have hy2 : scaleB n y = scaleR n y := by
      unfold scaleB
      rw [if_neg hz', ey]
    rw [hx, hy2]
    exact scaleR_mono (by omega) hyI

theorem scaleB_one {k : Nat} (h : k < 2 * B) : scaleB k one = k := by
  have e : bitsB one = one := by decide
  by_cases h0 : k = 0
  · have : scaleB k one = 0 := if_pos (.inl h0)
    rw [this, h0]
  · have hz : ¬ (k = 0 ∨ bitsB one = Q ∨ bitsB one = 0 ∨ W ≤ bitsB one) := by
      rw [e]
      have a1 : one ≠ Q := by decide
      have a2 : one ≠ 0 := by decide
      have a3 : ¬ W ≤ one := by decide
      exact fun h => by rcases h with h | h | h | h <;> contradiction
    have : scaleB k one = scaleR k (bitsB one) := if_neg hz
    rw [this, e]
    exact scaleR_one h

theorem addN_comm (a b : Nat) : addN b a = addN a b := by
  unfold addN
  rw [Nat.add_comm]

theorem addN_le (a b : Nat) : addN a b ≤ 9223372036854775807 := by
  unfold addN
  split <;> omega
end Go.Proofs.YtpnfnmeilhiebaaGreatDoor

