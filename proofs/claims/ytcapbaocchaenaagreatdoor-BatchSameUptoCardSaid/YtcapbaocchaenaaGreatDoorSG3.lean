import Derived.WalkKit
import Derived.Laws.BitsAllLaws
import Ieee.Arith
import Derived.Test.YtcapbaocchaenaaGreatDoorSG1
import Derived.Test.YtcapbaocchaenaaGreatDoorRows
import Derived.Laws.FloatBits
import Derived.Laws.Externs
import Derived.Laws.FloatArith
/- Words of 64 bits: what is returned, and all bits inverted. -/
namespace Go.Proofs.YtcapbaocchaenaaGreatDoor
open Go.RowKit

theorem ret_u64 {a b : Int} (h : a = b) : Ending.returned (.int .u64 a) = Ending.returned (.int .u64 b) := by rw [h]
theorem ret_i64 {a b : Int} (h : a = b) : Ending.returned (.int .i64 a) = Ending.returned (.int .i64 b) := by rw [h]

/-- All bits inverted, of 64 without a sign. -/
theorem not_u64 (r : Nat) (h : r < 18446744073709551616) : bits .xor .u64 IntKind.u64.max (r : Int) = ((18446744073709551615 - r : Nat) : Int) := by
  have e : IntKind.u64.max = ((18446744073709551615 : Nat) : Int) := rfl
  rw [e, u64_xor_nat 18446744073709551615 r (by omega) h]
  congr 1
  have h2 := congrArg BitVec.toNat (BitVec.allOnes_xor (x := BitVec.ofNat 64 r))
  rw [BitVec.toNat_xor, BitVec.toNat_not, BitVec.toNat_allOnes, BitVec.toNat_ofNat, Nat.mod_eq_of_lt (by omega)] at h2
  exact h2

end Go.Proofs.YtcapbaocchaenaaGreatDoor

/- Plain facts on numbers of 64 bits as IEEE 754 has them: their order is that of their bits, rounding keeps the order, and what can be held is held exactly. No program is named. -/
namespace Go.Proofs.YtcapbaocchaenaaGreatDoor.Fl
open Ieee

/-- Rungs to one binade: 2^52. -/
def B : Nat := 4503599627370496
theorem B_pos : 0 < B := by decide

/-- The value of a rung, in units of the least place. -/
def val (r : Nat) : Nat := if r < B then r else (B + r % B) * 2 ^ (r / B - 1)

def magOf (r : Nat) : Nat := if r < B then r else B + r % B
def upOf (r : Nat) : Nat := if r < B then 0 else r / B - 1

theorem val_eq (r : Nat) : val r = magOf r * 2 ^ upOf r := by
  unfold val magOf upOf
  split
  · simp
  · rfl

theorem val_small {r : Nat} (h : r < B) : val r = r := if_pos h
theorem val_big {r : Nat} (h : B ≤ r) : val r = (B + r % B) * 2 ^ (r / B - 1) := if_neg (by omega)

theorem val_lt_up (r : Nat) : val r < B * 2 ^ (r / B) := by
  by_cases h : r < B
  · rw [val_small h]
    have : 0 < 2 ^ (r / B) := Nat.two_pow_pos _
    exact Nat.lt_of_lt_of_le h (Nat.le_mul_of_pos_right _ this)
  · rw [val_big (by omega)]
    have hq : 0 < r / B := Nat.div_pos (by omega) B_pos
    have ht : r % B < B := Nat.mod_lt _ B_pos
    have e : B * 2 ^ (r / B) = (2 * B) * 2 ^ (r / B - 1) := by
      have : 2 ^ (r / B) = 2 * 2 ^ (r / B - 1) := by rw [← Nat.pow_succ']; congr 1; omega
      rw [this, Nat.mul_comm 2 B, Nat.mul_assoc]
    rw [e]
    exact Nat.mul_lt_mul_of_pos_right (by omega) (Nat.two_pow_pos _)

theorem val_ge_low {r : Nat} (h : 0 < r / B) : B * 2 ^ (r / B - 1) ≤ val r := by
  have hr : B ≤ r := by
    rcases Nat.lt_or_ge r B with h1 | h1
    · rw [Nat.div_eq_of_lt h1] at h; omega
    · exact h1
  rw [val_big hr]
  exact Nat.mul_le_mul_right _ (by omega)

theorem val_mono {r s : Nat} (h : r < s) : val r < val s := by
  have hq : r / B ≤ s / B := Nat.div_le_div_right (by omega)
  by_cases e : r / B = s / B
  · have h1 := Nat.div_add_mod r B
    have h2 := Nat.div_add_mod s B
    rw [e] at h1
    have ht : r % B < s % B := by omega
    by_cases hs : s < B
    · rw [val_small hs, val_small (by omega)]; exact h
    · have hr : B ≤ r := by
        have : 0 < r / B := by rw [e]; exact Nat.div_pos (by omega) B_pos
        rcases Nat.lt_or_ge r B with h3 | h3
        · rw [Nat.div_eq_of_lt h3] at this; omega
        · exact h3
      rw [val_big hr, val_big (by omega), e]
      exact Nat.mul_lt_mul_of_pos_right (by omega) (Nat.two_pow_pos _)
  · have h1 := val_lt_up r
    have hlt : r / B < s / B := Nat.lt_of_le_of_ne hq e
    have h2 := val_ge_low (r := s) (Nat.lt_of_le_of_lt (Nat.zero_le _) hlt)
    have h3 : B * 2 ^ (r / B) ≤ B * 2 ^ (s / B - 1) := Nat.mul_le_mul_left _ (Nat.pow_le_pow_right (by omega) (Nat.le_sub_one_of_lt hlt))
    omega

/-! ### Rounding -/

/-! ### The nearest word -/

theorem leastPlace_eq : double.leastPlace = -1074 := by decide
theorem binade_eq : double.binade = B := by decide
end Go.Proofs.YtcapbaocchaenaaGreatDoor.Fl

/- Words of 64 bits as numbers: what is read of them, their order, products, whole parts. No program is named. -/
namespace Go.Proofs.YtcapbaocchaenaaGreatDoor.Fl
open Ieee

def W : Nat := 9223372036854775808
def I : Nat := 9218868437227405312
theorem W_eq : double.signWeight = W := by decide
theorem I_eq : double.infRung = I := by decide
/-- What a sign and a rung stand for. -/
def datum (s : Bool) (r : Nat) : Datum := if r < I then .number s (magOf r) ((upOf r : Int) - 1074) else if r = I then .infinity s else .nan s (r - I)

theorem read_of {w r : Nat} {s : Bool} (h1 : (w / W % 2 == 1) = s) (h2 : w % W = r) : double.read w = datum s r := by
  unfold Format.read datum
  rw [W_eq, I_eq, binade_eq, leastPlace_eq]
  simp only [h1, h2]
  by_cases h : r < B
  · have hI : r < I := by have : B < I := by decide
                          omega
    have e1 : magOf r = r := if_pos h
    have e2 : upOf r = 0 := if_pos h
    rw [if_pos h, if_pos hI, e1, e2]
    rfl
  · have e1 : magOf r = B + r % B := if_neg h
    have e2 : upOf r = r / B - 1 := if_neg h
    rw [if_neg h, e1, e2]
    by_cases hI : r < I
    · rw [if_pos hI, if_pos hI]
      congr 1
    · rw [if_neg hI, if_neg hI]

theorem read_pos {r : Nat} (h : r < W) : double.read r = datum false r := by
  refine read_of ?_ (Nat.mod_eq_of_lt h)
  rw [Nat.div_eq_of_lt h]; rfl

theorem read_neg {r : Nat} (h : r < W) : double.read (W + r) = datum true r := by
  have hp : 0 < W := by decide
  refine read_of ?_ (by rw [Nat.add_mod_left]; exact Nat.mod_eq_of_lt h)
  rw [Nat.add_div_left _ hp, Nat.div_eq_of_lt h]; rfl

/-- The signed value; the infinity stands above all others. -/
def sv (s : Bool) (r : Nat) : Int := if s then -(val r : Int) else (val r : Int)

theorem signed_eq (s : Bool) (m u : Nat) : signed s m u = if s then -((m * 2 ^ u : Nat) : Int) else ((m * 2 ^ u : Nat) : Int) := by
  unfold signed
  rw [Nat.shiftLeft_eq]

theorem cmp_lt {x y : Int} (h : x < y) : compare x y = .lt := by
  show compareOfLessAndEq x y = .lt
  unfold compareOfLessAndEq
  rw [if_pos h]
theorem cmp_eq (x : Int) : compare x x = .eq := by
  show compareOfLessAndEq x x = .eq
  unfold compareOfLessAndEq
  rw [if_neg (Int.lt_irrefl x), if_pos rfl]
theorem cmp_gt {x y : Int} (h : y < x) : compare x y = .gt := by
  show compareOfLessAndEq x y = .gt
  unfold compareOfLessAndEq
  rw [if_neg (by omega), if_neg (by omega)]

theorem compare_int_scale (x y : Int) {k : Nat} (hk : 0 < k) : compare (x * k) (y * k) = compare x y := by
  have hk' : (0 : Int) < (k : Int) := by omega
  rcases Int.lt_trichotomy x y with h | h | h
  · rw [cmp_lt h, cmp_lt (Int.mul_lt_mul_of_pos_right h hk')]
  · subst h; rw [cmp_eq, cmp_eq]
  · rw [cmp_gt h, cmp_gt (Int.mul_lt_mul_of_pos_right h hk')]

theorem sv_eq (s : Bool) (r k : Nat) : sv s r = (if s then -((magOf r * 2 ^ (upOf r - min (upOf r) k) : Nat) : Int) else ((magOf r * 2 ^ (upOf r - min (upOf r) k) : Nat) : Int)) * ((2 ^ min (upOf r) k : Nat) : Int) := by
  have e : magOf r * 2 ^ (upOf r - min (upOf r) k) * 2 ^ min (upOf r) k = val r := by
    rw [Nat.mul_assoc, ← Nat.pow_add, Nat.sub_add_cancel (Nat.min_le_left _ _), val_eq]
  unfold sv
  split
  · rw [Int.neg_mul, ← Int.natCast_mul, e]
  · rw [← Int.natCast_mul, e]

theorem order_fin (s t : Bool) {r q : Nat} (hr : r < I) (hq : q < I) : (datum s r).order (datum t q) = some (compare (sv s r) (sv t q)) := by
  unfold datum
  rw [if_pos hr, if_pos hq]
  unfold Datum.order
  simp only
  rw [signed_eq, signed_eq]
  have e1 : (((upOf r : Int) - 1074) - min ((upOf r : Int) - 1074) ((upOf q : Int) - 1074)).toNat = upOf r - min (upOf r) (upOf q) := by omega
  have e2 : (((upOf q : Int) - 1074) - min ((upOf r : Int) - 1074) ((upOf q : Int) - 1074)).toNat = upOf q - min (upOf q) (upOf r) := by omega
  rw [e1, e2, sv_eq s r (upOf q), sv_eq t q (upOf r), Nat.min_comm (upOf q) (upOf r)]
  rw [compare_int_scale _ _ (Nat.two_pow_pos _)]

theorem sv_lt_inf (s : Bool) {r : Nat} (hr : r < I) : -(val I : Int) < sv s r ∧ sv s r < (val I : Int) := by
  have h := val_mono hr
  unfold sv
  split <;> omega

/-- The order of two numbers, the infinities among them, is that of their signed values. -/
theorem order_sv (s t : Bool) {r q : Nat} (hr : r ≤ I) (hq : q ≤ I) : (datum s r).order (datum t q) = some (compare (sv s r) (sv t q)) := by
  have hpos : 0 < val I := by have := val_mono (show 0 < I by decide); omega
  rcases Nat.lt_or_eq_of_le hr with h1 | h1 <;> rcases Nat.lt_or_eq_of_le hq with h2 | h2
  · exact order_fin s t h1 h2
  · subst h2
    have hb := sv_lt_inf s h1
    have e1 : datum s r = .number s (magOf r) ((upOf r : Int) - 1074) := if_pos h1
    have e2 : datum t I = .infinity t := by unfold datum; rw [if_neg (Nat.lt_irrefl _), if_pos rfl]
    rw [e1, e2]
    unfold Datum.order
    cases t
    · have : sv false I = (val I : Int) := rfl
      rw [this, cmp_lt hb.2]; rfl
    · have : sv true I = -(val I : Int) := rfl
      rw [this, cmp_gt hb.1]; rfl
  · subst h1
    have hb := sv_lt_inf t h2
    have e1 : datum t q = .number t (magOf q) ((upOf q : Int) - 1074) := if_pos h2
    have e2 : datum s I = .infinity s := by unfold datum; rw [if_neg (Nat.lt_irrefl _), if_pos rfl]
    rw [e1, e2]
    unfold Datum.order
    cases s
    · have : sv false I = (val I : Int) := rfl
      rw [this, cmp_gt hb.2]; rfl
    · have : sv true I = -(val I : Int) := rfl
      rw [this, cmp_lt hb.1]; rfl
  · subst h1
    subst h2
    have e : ∀ u, datum u I = .infinity u := fun u => by unfold datum; rw [if_neg (Nat.lt_irrefl _), if_pos rfl]
    rw [e s, e t]
    unfold Datum.order
    have h3 : sv false I = (val I : Int) := rfl
    have h4 : sv true I = -(val I : Int) := rfl
    cases s <;> cases t
    · rw [cmp_eq]; rfl
    · rw [h3, h4, cmp_gt (show -(val I : Int) < (val I : Int) by omega)]; rfl
    · rw [h3, h4, cmp_lt (show -(val I : Int) < (val I : Int) by omega)]; rfl
    · rw [cmp_eq]; rfl
end Go.Proofs.YtcapbaocchaenaaGreatDoor.Fl

/- The walks of the reference's functions on bits and order. -/
namespace Go.Proofs.YtcapbaocchaenaaGreatDoor
open Go.RowKit Fl

def Q : Nat := 9221120237041090561
def bitsB (b : Nat) : Nat := if I < b % W then Q else b
def rankB (b : Nat) : Nat := if W ≤ b then 18446744073709551615 - b else b + W

theorem and_top {b : Nat} (h : b < 18446744073709551616) : bits .and .u64 (b : Int) 9223372036854775807 = ((b % W : Nat) : Int) := by
  have h1 := u64_and_nat b 9223372036854775807 h (by omega)
  have h2 := Nat.and_two_pow_sub_one_eq_mod b 63
  rw [show (2 : Nat) ^ 63 - 1 = 9223372036854775807 by decide, show (2 : Nat) ^ 63 = W by decide] at h2
  rw [h2] at h1
  exact h1

/-- The library's two functions on bits. -/
theorem run_bits (b : Nat) (w : World) : (callFunc 169 #[.float .f64 b]).run Tryz.prog w = .ok (.value (.int .u64 (b : Int))) w := by
  rw [run_callFunc_extern (e := Extern.MathFloatBits.float64bits) Tryz.func169 (by kernel_rfl) (by kernel_rfl) (by rfl) (by rfl)]
  rfl

set_option maxRecDepth 100000 in
theorem rnan_any (b : Nat) (w : World) (hb : b < 18446744073709551616) :
    Calls Tryz.prog 170 #[.int .u64 (b : Int)] w fun e w' => e = .returned (.bool (decide (I < b % W))) ∧ w = w' := by
  have e := and_top hb
  go_enter Tryz.func170, Tryz.ntmps170
  go_wp2
  go_ret
  exact ⟨ret_bool (decide_eq_decide.2 (by unfold I; omega)), rfl⟩

theorem rnan_is (b : Nat) (w : World) (v : Bool) (hb : b < 18446744073709551616) (hv : decide (I < b % W) = v) :
    Calls Tryz.prog 170 #[.int .u64 (b : Int)] w fun e w' => e = .returned (.bool v) ∧ w = w' := by
  subst hv
  exact rnan_any b w hb

set_option maxRecDepth 100000 in
theorem rbits_any (b : Nat) (w : World) (hb : b < 18446744073709551616) :
    Calls Tryz.prog 155 #[.float .f64 b] w fun e w' => e = .returned (.int .u64 (bitsB b : Nat)) ∧ w = w' := by
  have hx := run_bits
  by_cases h : I < b % W
  · have Hv := Lib.hid (rnan_is b w true hb (decide_eq_true h))
    have Hf := Lib.hid (show ((bitsB b : Nat) : Int) = 9221120237041090561 by unfold bitsB; rw [if_pos h]; rfl)
    clear h
    go_enter Tryz.func155, Tryz.ntmps155
    go_wp2_with fail
    refine Hv.out.mono ?_
    rintro e w' ⟨rfl, rfl⟩
    go_wp2
    go_ret
    exact ⟨ret_u64 Hf.out.symm, rfl⟩
  · have Hv := Lib.hid (rnan_is b w false hb (decide_eq_false h))
    have Hf := Lib.hid (show ((bitsB b : Nat) : Int) = (b : Int) by unfold bitsB; rw [if_neg h])
    clear h
    go_enter Tryz.func155, Tryz.ntmps155
    go_wp2_with fail
    refine Hv.out.mono ?_
    rintro e w' ⟨rfl, rfl⟩
    go_wp2
    go_ret
    exact ⟨ret_u64 Hf.out.symm, rfl⟩

theorem bitsB_lt {b : Nat} (hb : b < 18446744073709551616) : bitsB b < 18446744073709551616 := by
  unfold bitsB
  split
  · decide
  · exact hb

theorem rsame_any (a b : Nat) (w : World) (ha : a < 18446744073709551616) (hb : b < 18446744073709551616) :
    Calls Tryz.prog 120 #[.float .f64 a, .float .f64 b] w fun e w' => e = .returned (.bool (decide (bitsB a = bitsB b))) ∧ w = w' := by
  have H1 := Lib.hid (rbits_any a w ha)
  have H2 := Lib.hid (rbits_any b w hb)
  clear ha hb
  generalize bitsB a = x at *
  generalize bitsB b = y at *
  go_enter Tryz.func120, Tryz.ntmps120
  go_wp2_with fail
  refine H1.out.mono ?_
  rintro e w' ⟨rfl, rfl⟩
  go_wp2_with fail
  refine H2.out.mono ?_
  rintro e w' ⟨rfl, rfl⟩
  go_wp2
  go_ret
  refine ⟨ret_bool ?_, rfl⟩
  rw [Bool.eq_iff_iff]
  simp
  omega

/-- The order: -1, 0 or 1. -/
def cmpR (x y : Nat) : Int := if x < y then -1 else if y < x then 1 else 0
def cmpB (a b : Nat) : Int := cmpR (rankB (bitsB a)) (rankB (bitsB b))

end Go.Proofs.YtcapbaocchaenaaGreatDoor

/- The order of numbers by their bits, and how scaling keeps it. -/
namespace Go.Proofs.YtcapbaocchaenaaGreatDoor
open Go.RowKit Fl

theorem rankB_inj {x y : Nat} (hx : x < 18446744073709551616) (hy : y < 18446744073709551616) (h : rankB x = rankB y) : x = y := by
  unfold rankB W at h
  split at h <;> split at h <;> omega

theorem cmpR_zero {x y : Nat} : cmpR x y = 0 ↔ x = y := by
  unfold cmpR
  split
  · omega
  · split <;> omega

theorem cmpB_zero {a b : Nat} (ha : a < 18446744073709551616) (hb : b < 18446744073709551616) : cmpB a b = 0 ↔ bitsB a = bitsB b := by
  unfold cmpB
  rw [cmpR_zero]
  exact ⟨fun h => rankB_inj (bitsB_lt ha) (bitsB_lt hb) h, fun h => by rw [h]⟩

/-- A word: its sign and its rung. -/
theorem read_word {a : Nat} (ha : a < 18446744073709551616) : Ieee.double.read a = datum (decide (W ≤ a)) (a % W) := by
  by_cases h : W ≤ a
  · have e : a = W + a % W := by unfold W at *; omega
    have hr : a % W < W := by unfold W; omega
    rw [decide_eq_true h]
    conv => lhs; rw [e]
    exact read_neg hr
  · have e : a % W = a := Nat.mod_eq_of_lt (by omega)
    rw [decide_eq_false h, e]
    exact read_pos (by omega)

theorem datum_nan {s : Bool} {r : Nat} (h : I < r) : datum s r = .nan s (r - I) := by
  unfold datum
  rw [if_neg (by omega), if_neg (by omega)]

theorem order_none {a b : Nat} (ha : a < 18446744073709551616) (h : I < a % W) : Ieee.double.order a b = none := by
  unfold Ieee.Format.order
  rw [read_word ha, datum_nan h]
  unfold Ieee.Datum.order
  rfl

theorem order_words {a b : Nat} (ha : a < 18446744073709551616) (hb : b < 18446744073709551616) (h : a % W ≤ I) (h' : b % W ≤ I) :
    Ieee.double.order a b = some (compare (sv (decide (W ≤ a)) (a % W)) (sv (decide (W ≤ b)) (b % W))) := by
  unfold Ieee.Format.order
  rw [read_word ha, read_word hb, order_sv _ _ h h']

/-- A number differs from itself just where it is none. -/
theorem self_order {b : Nat} (hb : b < 18446744073709551616) : (FloatKind.f64.format.order b b != some .eq) = decide (I < b % W) := by
  show (Ieee.double.order b b != some .eq) = _
  by_cases h : I < b % W
  · rw [order_none hb h, decide_eq_true h]; rfl
  · rw [order_words hb hb (by omega) (by omega), cmp_eq, decide_eq_false h]; rfl

end Go.Proofs.YtcapbaocchaenaaGreatDoor

/- Values as trees: what a world holds of them, and how it is kept while only new memory is made. -/
namespace Go.Proofs.YtcapbaocchaenaaGreatDoor
open Go.RowKit Fl

/-- A value. -/
inductive V where
  | mk (k n : Int) (f : Nat) (s : List Nat) (l : List V)

def V.kind : V → Int | .mk k _ _ _ _ => k
def V.n : V → Int | .mk _ n _ _ _ => n
def V.f : V → Nat | .mk _ _ f _ _ => f
def V.s : V → List Nat | .mk _ _ _ s _ => s
def V.l : V → List V | .mk _ _ _ _ l => l

/-- The five cells of a value. -/
abbrev cells5 (k n : Int) (f : Nat) (s : List Nat) (a : Option Addr) (len cap : Nat) : Array Value := #[.int .i64 k, .int .i64 n, .float .f64 f, .string (str s), .slice a len cap]

mutual
/-- The cells x hold the value v. -/
def VIn (w : World) : V → Array Value → Prop
  | .mk k n f s l, x => (-9223372036854775808 ≤ k ∧ k ≤ 9223372036854775807) ∧ (-9223372036854775808 ≤ n ∧ n ≤ 9223372036854775807) ∧ f < 18446744073709551616 ∧ (∀ c ∈ s, c < 256) ∧ s.length ≤ 9223372036854775807 ∧
    ∃ a cap, x = cells5 k n f s a l.length cap ∧ l.length ≤ cap ∧ cap ≤ 9223372036854775807 ∧ (l = [] ∨ ∃ b o, a = some ⟨b, o, none⟩ ∧ VsIn w l b o)
/-- The values l lie one behind the other. -/
def VsIn (w : World) : List V → Nat → Nat → Prop
  | [], _, _ => True
  | v :: r, b, o => (∃ x : Array Value, x.size = 5 ∧ (∀ j, j < 5 → w.cell? ⟨b, o + j, none⟩ = x[j]?) ∧ VIn w v x) ∧ VsIn w r b (o + 5)
end

theorem VIn.size {w : World} {v : V} {x : Array Value} (h : VIn w v x) : x.size = 5 := by
  obtain ⟨k, n, f, s, l⟩ := v
  rw [VIn] at h
  obtain ⟨_, _, _, _, _, a, cap, rfl, _⟩ := h
  rfl

mutual
theorem VIn.keep {w w' : World} (hw : ∀ p : Addr, p.block < w.heap.size → w'.cell? p = w.cell? p) : ∀ (v : V) (x : Array Value), VIn w v x → VIn w' v x
  | .mk k n f s l, x, h => by
    rw [VIn] at h ⊢
    obtain ⟨h1, h2, h3, h4, h5, a, cap, h6, h7, h8, h9⟩ := h
    refine ⟨h1, h2, h3, h4, h5, a, cap, h6, h7, h8, ?_⟩
    rcases h9 with h9 | ⟨b, o, ha, hv⟩
    · exact .inl h9
    · exact .inr ⟨b, o, ha, VsIn.keep hw l b o hv⟩
theorem VsIn.keep {w w' : World} (hw : ∀ p : Addr, p.block < w.heap.size → w'.cell? p = w.cell? p) : ∀ (l : List V) (b o : Nat), VsIn w l b o → VsIn w' l b o
  | [], _, _, _ => by rw [VsIn]; trivial
  | v :: r, b, o, h => by
    rw [VsIn] at h ⊢
    obtain ⟨⟨x, hx, hc, hv⟩, hr⟩ := h
    refine ⟨⟨x, hx, fun j hj => ?_, VIn.keep hw v x hv⟩, VsIn.keep hw r b (o + 5) hr⟩
    have h1 := hc j hj
    rw [hw _ (World.block_lt_of_cell? _ _ (h1.trans (Array.getElem?_eq_getElem (by omega))))]
    exact h1
end

theorem VIn.below {w w' : World} {v : V} {x : Array Value} (h : VIn w v x) (hb : Below w.heap.size w w') : VIn w' v x := VIn.keep (fun _ hp => hb.cell hp) v x h

/-- An element of a list of values. -/
theorem VsIn.get {w : World} : ∀ {l : List V} {b o : Nat}, VsIn w l b o → ∀ (i : Nat) (v : V), l[i]? = some v → ∃ x : Array Value, x.size = 5 ∧ (∀ j, j < 5 → w.cell? ⟨b, o + 5 * i + j, none⟩ = x[j]?) ∧ VIn w v x
  | [], _, _, _, i, v, h => by simp at h
  | u :: r, b, o, h, i, v, hi => by
    rw [VsIn] at h
    obtain ⟨⟨x, hx, hc, hv⟩, hr⟩ := h
    cases i with
    | zero =>
      simp at hi
      subst hi
      exact ⟨x, hx, fun j hj => hc j hj, hv⟩
    | succ i =>
      obtain ⟨y, hy, hd, hu⟩ := VsIn.get hr i v (by simpa using hi)
      exact ⟨y, hy, fun j hj => by rw [← hd j hj]; congr 2; omega, hu⟩

mutual
theorem V.ind {p : V → Prop} (h : ∀ v : V, (∀ u ∈ v.l, p u) → p v) : ∀ v : V, p v
  | .mk _ _ _ _ l => h _ (V.inds h l)
theorem V.inds {p : V → Prop} (h : ∀ v : V, (∀ u ∈ v.l, p u) → p v) : ∀ l : List V, ∀ u ∈ l, p u
  | [], u, hu => by cases hu
  | v :: r, u, hu => by
    rcases List.mem_cons.1 hu with e | e
    · rw [e]; exact V.ind h v
    · exact V.inds h r u e
end

/-- A value in its parts. -/
theorem VIn.parts {w : World} {v : V} {x : Array Value} (h : VIn w v x) : (-9223372036854775808 ≤ v.kind ∧ v.kind ≤ 9223372036854775807) ∧ (-9223372036854775808 ≤ v.n ∧ v.n ≤ 9223372036854775807) ∧ v.f < 18446744073709551616 ∧ (∀ c ∈ v.s, c < 256) ∧ v.s.length ≤ 9223372036854775807 ∧
    ∃ a cap, x = cells5 v.kind v.n v.f v.s a v.l.length cap ∧ v.l.length ≤ cap ∧ cap ≤ 9223372036854775807 ∧ (v.l = [] ∨ ∃ b o, a = some ⟨b, o, none⟩ ∧ VsIn w v.l b o) := by
  obtain ⟨k, n, f, s, l⟩ := v
  rw [VIn] at h
  exact h

theorem get_mem {l : List V} {i : Nat} (h : i < l.length) : l[i]? = some l[i] ∧ l[i] ∈ l := ⟨List.getElem?_eq_getElem h, List.getElem_mem h⟩

/-- The box of a value: its cells in new memory. -/
theorem box_cell (w : World) (x : Array Value) (t : TypeId) (j : Nat) : (w.alloc (.cells x t)).cell? ⟨w.heap.size, j, none⟩ = x[j]? := cell_of_row _ _ _ _ _ _ (heap_alloc_new w _)

/-- An element of a list of values, cell by cell. -/
theorem VsIn.elem {w : World} {l : List V} {b o j : Nat} (h : VsIn w l b o) (hj : j < l.length) : ∃ a cap, VIn w l[j] (cells5 l[j].kind l[j].n l[j].f l[j].s a l[j].l.length cap) ∧
    w.cell? ⟨b, o + j * 5, none⟩ = some (.int .i64 l[j].kind) ∧ w.cell? ⟨b, o + j * 5 + 1, none⟩ = some (.int .i64 l[j].n) ∧ w.cell? ⟨b, o + j * 5 + 2, none⟩ = some (.float .f64 l[j].f) ∧
    w.cell? ⟨b, o + j * 5 + 3, none⟩ = some (.string (str l[j].s)) ∧ w.cell? ⟨b, o + j * 5 + 4, none⟩ = some (.slice a l[j].l.length cap) := by
  obtain ⟨x, _, hc, hv⟩ := h.get j _ (get_mem hj).1
  obtain ⟨_, _, _, _, _, a, cap, rfl, _⟩ := hv.parts
  rw [Nat.mul_comm] at hc
  exact ⟨a, cap, hv, hc 0 (by omega), hc 1 (by omega), hc 2 (by omega), hc 3 (by omega), hc 4 (by omega)⟩

/-- Where the list of a value lies. -/
theorem VIn.list {w : World} {v : V} {k n : Int} {f : Nat} {s : List Nat} {a : Option Addr} {len cap : Nat} (h : VIn w v (cells5 k n f s a len cap)) (hn : v.l ≠ []) : ∃ b o, a = some ⟨b, o, none⟩ ∧ VsIn w v.l b o := by
  obtain ⟨_, _, _, _, _, a', cap', e, _, _, hs⟩ := h.parts
  have ea : a = a' := by
    unfold cells5 at e
    simp at e
    exact e.2.2.2.2.1
  subst ea
  exact hs.resolve_left hn
end Go.Proofs.YtcapbaocchaenaaGreatDoor

