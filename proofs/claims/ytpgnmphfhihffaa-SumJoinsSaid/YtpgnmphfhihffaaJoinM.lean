/- Plain mathematics of joining checksums: the product of two polynomials modulo the polynomial, and what feeding bytes does to a sum of registers. It speaks of no program. -/
import Derived.Test.YtpgnmphfhihffaaCrc
namespace Go.Proofs.Ytpgnmphfhihffaa.Crc

def mulAcc (a b : Nat) : Nat → Nat
  | 0 => 0
  | k + 1 => if a.testBit (31 - k) then mulAcc a b k ^^^ steps k b else mulAcc a b k

def mul (a b : Nat) : Nat := mulAcc a b 32

theorem mulAcc_lt {a b : Nat} (hb : b < 4294967296) (k : Nat) : mulAcc a b k < 4294967296 := by
  induction k with
  | zero => simp [mulAcc]
  | succ k ih =>
    rw [mulAcc]
    split
    · exact xor_lt ih (steps_lt hb)
    · exact ih

theorem steps_comm (m k b : Nat) : steps k (steps m b) = steps m (steps k b) := by
  rw [← steps_add, ← steps_add, Nat.add_comm]

theorem mulAcc_steps (a b m k : Nat) : mulAcc a (steps m b) k = steps m (mulAcc a b k) := by
  induction k with
  | zero => exact (steps_zero m).symm
  | succ k ih =>
    rw [mulAcc, mulAcc]
    split
    · rw [ih, steps_xor, steps_comm]
    · exact ih

theorem step_two_mul (x : Nat) : step (2 * x) = x := by
  unfold step
  rw [if_neg (by omega)]
  omega

theorem steps_top {k : Nat} (h : k ≤ 31) : steps k 2147483648 = 2 ^ (31 - k) := by
  induction k with
  | zero => rfl
  | succ k ih =>
    rw [steps_succ', ih (by omega), show 31 - k = (31 - (k + 1)) + 1 by omega, Nat.pow_succ, Nat.mul_comm, step_two_mul]

theorem mulAcc_top {a : Nat} {k : Nat} (hk : k ≤ 32) (i : Nat) : (mulAcc a 2147483648 k).testBit i = (decide (32 - k ≤ i) && decide (i < 32) && a.testBit i) := by
  induction k with
  | zero =>
    rw [mulAcc, Nat.zero_testBit]
    by_cases h : 32 ≤ i
    · simp [show ¬ i < 32 by omega]
    · simp [h]
  | succ k ih =>
    rw [mulAcc]
    have ih := ih (by omega)
    rw [steps_top (by omega)]
    by_cases hi : i = 31 - k
    · subst hi
      have h1 : ¬ (32 - k ≤ 31 - k) := by omega

      have h3 : 31 - k < 32 := by omega
      simp only [h1, decide_false, Bool.false_and] at ih
      by_cases ht : a.testBit (31 - k) = true
      · rw [if_pos ht, Nat.testBit_xor, ih, Nat.testBit_two_pow_self]
        simp [h3, ht]
      · rw [if_neg ht, ih]
        simp [ht]
    · have e : (decide (32 - (k + 1) ≤ i)) = decide (32 - k ≤ i) := by
        exact decide_eq_decide.2 (by omega)
      rw [e]
      split
      · rw [Nat.testBit_xor, ih, Nat.testBit_two_pow_of_ne (fun h => hi h.symm)]
        simp
      · exact ih

theorem mul_top {a : Nat} (ha : a < 4294967296) : mul a 2147483648 = a := by
  apply Nat.eq_of_testBit_eq
  intro i
  unfold mul
  rw [mulAcc_top (Nat.le_refl _)]
  by_cases h : i < 32
  · simp [h]
  · have : a.testBit i = false := Nat.testBit_lt_two_pow (Nat.lt_of_lt_of_le ha (by
      have : 2 ^ 32 ≤ 2 ^ i := Nat.pow_le_pow_right (by omega) (by omega)
      exact this))
    simp [h, this]

/-- A register times x to the power of m. -/
theorem mul_steps {a : Nat} (ha : a < 4294967296) (m : Nat) : mul a (steps m 2147483648) = steps m a := by
  unfold mul
  rw [mulAcc_steps]
  congr 1
  exact mul_top ha

theorem feedL_xor (r s : Nat) (l : List Nat) : feedL (r ^^^ s) l = feedL r l ^^^ steps (8 * l.length) s := by
  induction l generalizing r s with
  | nil => rfl
  | cons c l ih =>
    show feedL (feedB (r ^^^ s) c) l = feedL (feedB r c) l ^^^ _
    have e : feedB (r ^^^ s) c = feedB r c ^^^ steps 8 s := by
      unfold feedB
      rw [← steps_xor]
      congr 1
      rw [Nat.xor_assoc, Nat.xor_assoc, Nat.xor_comm s c]
    rw [e, ih, ← steps_add, List.length_cons, show 8 + 8 * l.length = 8 * (l.length + 1) by omega]

theorem inv_xor {x : Nat} (h : x < 4294967296) : inv x = 4294967295 ^^^ x := by
  have h2 := congrArg BitVec.toNat (BitVec.allOnes_xor (x := BitVec.ofNat 32 x))
  rw [BitVec.toNat_xor, BitVec.toNat_not, BitVec.toNat_allOnes, BitVec.toNat_ofNat, Nat.mod_eq_of_lt (by omega)] at h2
  exact h2.symm

/-- The checksum of joined bytes. -/
theorem join_sum {a b : List Nat} (ha : ∀ x ∈ a, x < 256) (hb : ∀ x ∈ b, x < 256) :
    steps (8 * b.length) (inv (feedL 4294967295 a)) ^^^ inv (feedL 4294967295 b) = inv (feedL 4294967295 (a ++ b)) := by
  have h1 : feedL 4294967295 a < 4294967296 := feedL_lt (by omega) ha
  have h2 : feedL 4294967295 b < 4294967296 := feedL_lt (by omega) hb
  have h3 : feedL (feedL 4294967295 a) b < 4294967296 := feedL_lt h1 hb
  have e : feedL 4294967295 a = 4294967295 ^^^ inv (feedL 4294967295 a) := by
    rw [inv_xor h1, ← Nat.xor_assoc, Nat.xor_self, Nat.zero_xor]
  rw [feedL_append, inv_xor h3, inv_xor h2]
  conv => rhs; rw [e, feedL_xor]
  rw [Nat.xor_comm, Nat.xor_assoc]

end Go.Proofs.Ytpgnmphfhihffaa.Crc
