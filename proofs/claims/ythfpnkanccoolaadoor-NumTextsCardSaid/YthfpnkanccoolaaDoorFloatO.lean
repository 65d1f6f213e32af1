/- Words of 64 bits as numbers: what is read of them, their order, products, whole parts. No program is named. -/
import Derived.Test.YthfpnkanccoolaaDoorFloatM
namespace Go.Proofs.YthfpnkanccoolaaDoor.Fl
open Ieee

def W : Nat := 9223372036854775808
def I : Nat := 9218868437227405312
theorem W_eq : double.signWeight = W := by decide
theorem I_eq : double.infRung = I := by decide
theorem I_lt : I < W := by decide
theorem I_B : I = 2047 * B := by decide

/-- What a sign and a rung stand for. -/
def datum (s : Bool) (r : Nat) : Datum := if r < I then .number s (magOf r) ((upOf r : Int) - 1074) else if r = I then .infinity s else .nan s (r - I)

theorem read_of {w r : Nat} {s : Bool} (h1 : (w / W % 2 == 1) = s) (h2 : w % W = r) : double.read w = datum s r := by
  unfold Format.read datum
  rw [W_eq, I_eq, binade_eq, leastPlace_eq]
  simp only [h1, h2]
  by_cases h : r < B
  · have hI : r < I := by have : B < I := by decide
                          omega
    have e1 : magOf r = r := if_pos h
    have e2 : upOf r = 0 := if_pos h
    rw [if_pos h, if_pos hI, e1, e2]
    rfl
  · have e1 : magOf r = B + r % B := if_neg h
    have e2 : upOf r = r / B - 1 := if_neg h
    rw [if_neg h, e1, e2]
    by_cases hI : r < I
    · rw [if_pos hI, if_pos hI]
      congr 1
    · rw [if_neg hI, if_neg hI]

theorem read_pos {r : Nat} (h : r < W) : double.read r = datum false r := by
  refine read_of ?_ (Nat.mod_eq_of_lt h)
  rw [Nat.div_eq_of_lt h]; rfl

theorem read_neg {r : Nat} (h : r < W) : double.read (W + r) = datum true r := by
  have hp : 0 < W := by decide
  refine read_of ?_ (by rw [Nat.add_mod_left]; exact Nat.mod_eq_of_lt h)
  rw [Nat.add_div_left _ hp, Nat.div_eq_of_lt h]; rfl

/-- The signed value; the infinity stands above all others. -/
def sv (s : Bool) (r : Nat) : Int := if s then -(val r : Int) else (val r : Int)

theorem signed_eq (s : Bool) (m u : Nat) : signed s m u = if s then -((m * 2 ^ u : Nat) : Int) else ((m * 2 ^ u : Nat) : Int) := by
  unfold signed
  rw [Nat.shiftLeft_eq]

theorem cmp_lt {x y : Int} (h : x < y) : compare x y = .lt := by
  show compareOfLessAndEq x y = .lt
  unfold compareOfLessAndEq
  rw [if_pos h]
theorem cmp_eq (x : Int) : compare x x = .eq := by
  show compareOfLessAndEq x x = .eq
  unfold compareOfLessAndEq
  rw [if_neg (Int.lt_irrefl x), if_pos rfl]
theorem cmp_gt {x y : Int} (h : y < x) : compare x y = .gt := by
  show compareOfLessAndEq x y = .gt
  unfold compareOfLessAndEq
  rw [if_neg (by omega), if_neg (by omega)]

theorem compare_int_scale (x y : Int) {k : Nat} (hk : 0 < k) : compare (x * k) (y * k) = compare x y := by
  have hk' : (0 : Int) < (k : Int) := by omega
  rcases Int.lt_trichotomy x y with h | h | h
  · rw [cmp_lt h, cmp_lt (Int.mul_lt_mul_of_pos_right h hk')]
  · subst h; rw [cmp_eq, cmp_eq]
  · rw [cmp_gt h, cmp_gt (Int.mul_lt_mul_of_pos_right h hk')]

theorem sv_eq (s : Bool) (r k : Nat) : sv s r = (if s then -((magOf r * 2 ^ (upOf r - min (upOf r) k) : Nat) : Int) else ((magOf r * 2 ^ (upOf r - min (upOf r) k) : Nat) : Int)) * ((2 ^ min (upOf r) k : Nat) : Int) := by
  have e : magOf r * 2 ^ (upOf r - min (upOf r) k) * 2 ^ min (upOf r) k = val r := by
    rw [Nat.mul_assoc, ← Nat.pow_add, Nat.sub_add_cancel (Nat.min_le_left _ _), val_eq]
  unfold sv
  split
  · rw [Int.neg_mul, ← Int.natCast_mul, e]
  · rw [← Int.natCast_mul, e]

theorem order_fin (s t : Bool) {r q : Nat} (hr : r < I) (hq : q < I) : (datum s r).order (datum t q) = some (compare (sv s r) (sv t q)) := by
  unfold datum
  rw [if_pos hr, if_pos hq]
  unfold Datum.order
  simp only
  rw [signed_eq, signed_eq]
  have e1 : (((upOf r : Int) - 1074) - min ((upOf r : Int) - 1074) ((upOf q : Int) - 1074)).toNat = upOf r - min (upOf r) (upOf q) := by omega
  have e2 : (((upOf q : Int) - 1074) - min ((upOf r : Int) - 1074) ((upOf q : Int) - 1074)).toNat = upOf q - min (upOf q) (upOf r) := by omega
  rw [e1, e2, sv_eq s r (upOf q), sv_eq t q (upOf r), Nat.min_comm (upOf q) (upOf r)]
  rw [compare_int_scale _ _ (Nat.two_pow_pos _)]

theorem sv_lt_inf (s : Bool) {r : Nat} (hr : r < I) : -(val I : Int) < sv s r ∧ sv s r < (val I : Int) := by
  have h := val_mono hr
  unfold sv
  split <;> omega

/-- The order of two numbers, the infinities among them, is that of their signed values. -/
theorem order_sv (s t : Bool) {r q : Nat} (hr : r ≤ I) (hq : q ≤ I) : (datum s r).order (datum t q) = some (compare (sv s r) (sv t q)) := by
  have hpos : 0 < val I := by have := val_mono (show 0 < I by decide); omega
  rcases Nat.lt_or_eq_of_le hr with h1 | h1 <;> rcases Nat.lt_or_eq_of_le hq with h2 | h2
  · exact order_fin s t h1 h2
  · subst h2
    have hb := sv_lt_inf s h1
    have e1 : datum s r = .number s (magOf r) ((upOf r : Int) - 1074) := if_pos h1
    have e2 : datum t I = .infinity t := by unfold datum; rw [if_neg (Nat.lt_irrefl _), if_pos rfl]
    rw [e1, e2]
    unfold Datum.order
    cases t
    · have : sv false I = (val I : Int) := rfl
      rw [this, cmp_lt hb.2]; rfl
    · have : sv true I = -(val I : Int) := rfl
      rw [this, cmp_gt hb.1]; rfl
  · subst h1
    have hb := sv_lt_inf t h2
    have e1 : datum t q = .number t (magOf q) ((upOf q : Int) - 1074) := if_pos h2
    have e2 : datum s I = .infinity s := by unfold datum; rw [if_neg (Nat.lt_irrefl _), if_pos rfl]
    rw [e1, e2]
    unfold Datum.order
    cases s
    · have : sv false I = (val I : Int) := rfl
      rw [this, cmp_gt hb.2]; rfl
    · have : sv true I = -(val I : Int) := rfl
      rw [this, cmp_lt hb.1]; rfl
  · subst h1
    subst h2
    have e : ∀ u, datum u I = .infinity u := fun u => by unfold datum; rw [if_neg (Nat.lt_irrefl _), if_pos rfl]
    rw [e s, e t]
    unfold Datum.order
    have h3 : sv false I = (val I : Int) := rfl
    have h4 : sv true I = -(val I : Int) := rfl
    cases s <;> cases t
    · rw [cmp_eq]; rfl
    · rw [h3, h4, cmp_gt (show -(val I : Int) < (val I : Int) by omega)]; rfl
    · rw [h3, h4, cmp_lt (show -(val I : Int) < (val I : Int) by omega)]; rfl
    · rw [cmp_eq]; rfl
end Go.Proofs.YthfpnkanccoolaaDoor.Fl
