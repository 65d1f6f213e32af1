/- Plain mathematics of bursts: byte lists as numbers, what inverted bits do to a checksum, and that up to 32 of them never keep it. It speaks of no program. -/
import Derived.Test.YtpgnmphfhihffaaJoinM
namespace Go.Proofs.Ytpgnmphfhihffaa.Crc

/-- A byte list as a number, the lowest bit of the first byte first. -/
def num : List Nat → Nat
  | [] => 0
  | c :: l => c ^^^ (2 ^ 8 * num l)

theorem pow_mul_xor (k a b : Nat) : 2 ^ k * (a ^^^ b) = (2 ^ k * a) ^^^ (2 ^ k * b) := by
  apply Nat.eq_of_testBit_eq
  intro i
  rw [Nat.testBit_xor, Nat.testBit_two_pow_mul, Nat.testBit_two_pow_mul, Nat.testBit_two_pow_mul, Nat.testBit_xor]
  by_cases h : k ≤ i <;> simp [h]

theorem steps_mul (k q : Nat) : steps k (2 ^ k * q) = q := by
  induction k generalizing q with
  | zero => simp [steps]
  | succ k ih =>
    rw [steps, show 2 ^ (k + 1) * q = 2 * (2 ^ k * q) by rw [Nat.pow_succ, Nat.mul_comm (2 ^ k) 2, Nat.mul_assoc], step_two_mul]
    exact ih q

theorem feedL_num (r : Nat) (l : List Nat) : feedL r l = steps (8 * l.length) (r ^^^ num l) := by
  induction l generalizing r with
  | nil => simp [num, steps]; rfl
  | cons c l ih =>
    show feedL (feedB r c) l = _
    rw [ih, List.length_cons, show 8 * (l.length + 1) = 8 + 8 * l.length by omega, steps_add]
    congr 1
    unfold feedB
    rw [num, ← Nat.xor_assoc, steps_xor 8 (r ^^^ c) (2 ^ 8 * num l), steps_mul]

theorem step_ne {x : Nat} (h : x < 4294967296) (h0 : x ≠ 0) : step x ≠ 0 := by
  unfold step
  split
  · intro e
    have : x / 2 = 2197175160 := by
      have := congrArg (· ^^^ 2197175160) e
      simpa [Nat.xor_assoc] using this
    omega
  · omega

theorem steps_ne {x : Nat} (n : Nat) (h : x < 4294967296) (h0 : x ≠ 0) : steps n x ≠ 0 := by
  induction n generalizing x with
  | zero => exact h0
  | succ n ih => exact ih (step_lt h) (step_ne h h0)

/-- Some bits of a word, anywhere in front of the end. -/
theorem steps_burst {f m x : Nat} (hf : f ≤ m) (h : x < 4294967296) (h0 : x ≠ 0) : steps m (2 ^ f * x) ≠ 0 := by
  rw [show m = f + (m - f) by omega, steps_add, steps_mul]
  exact steps_ne _ h h0

theorem num_set (l : List Nat) (j x : Nat) (h : j < l.length) : num (l.set j (l.getD j 0 ^^^ x)) = num l ^^^ (2 ^ (8 * j) * x) := by
  induction l generalizing j with
  | nil => simp at h
  | cons c l ih =>
    cases j with
    | zero => simp [num]; rw [Nat.xor_assoc, Nat.xor_assoc, Nat.xor_comm x]
    | succ j =>
      have h' : j < l.length := by simpa using h
      have e := ih j h'
      simp only [List.set_cons_succ, List.getD_cons_succ, num]
      rw [e, pow_mul_xor, ← Nat.xor_assoc, ← Nat.mul_assoc, ← Nat.pow_add]
      congr 3
      omega

theorem num_append (a b : List Nat) : num (a ++ b) = num a ^^^ (2 ^ (8 * a.length) * num b) := by
  induction a with
  | nil => simp [num]
  | cons c a ih =>
    simp only [List.cons_append, num, List.length_cons]
    rw [ih, pow_mul_xor, ← Nat.xor_assoc, ← Nat.mul_assoc, ← Nat.pow_add]
    congr 3
    omega

theorem num_lt {l : List Nat} (h : ∀ x ∈ l, x < 256) : num l < 2 ^ (8 * l.length) := by
  induction l with
  | nil => simp [num]
  | cons c l ih =>
    have h1 := ih (fun x hx => h x (by simp [hx]))
    have hc : c < 256 := h c (by simp)
    rw [num, List.length_cons, show 8 * (l.length + 1) = 8 + 8 * l.length by omega]
    refine Nat.xor_lt_two_pow ?_ ?_
    · exact Nat.lt_of_lt_of_le hc (show 2 ^ 8 ≤ 2 ^ (8 + 8 * l.length) from Nat.pow_le_pow_right (by omega) (by omega))
    · rw [Nat.pow_add]
      exact Nat.mul_lt_mul_of_pos_left h1 (by decide)

/-- Low and high parts of a number: what is below 2^k, and what is from there on. -/
theorem parts_unique {k a b x y : Nat} (ha : a < 2 ^ k) (hb : b < 2 ^ k) (h : a ^^^ (2 ^ k * x) = b ^^^ (2 ^ k * y)) : a = b ∧ x = y := by
  have low : ∀ {a x : Nat}, a < 2 ^ k → ∀ i, (a ^^^ (2 ^ k * x)).testBit i = if i < k then a.testBit i else x.testBit (i - k) := by
    intro a x ha i
    rw [Nat.testBit_xor, Nat.testBit_two_pow_mul]
    by_cases hi : i < k
    · simp [hi, show ¬ k ≤ i by omega]
    · have : a.testBit i = false := Nat.testBit_lt_two_pow (Nat.lt_of_lt_of_le ha (Nat.pow_le_pow_right (by omega) (by omega)))
      simp [hi, this, show k ≤ i by omega]
  constructor
  · apply Nat.eq_of_testBit_eq
    intro i
    by_cases hi : i < k
    · have e := congrArg (fun z => z.testBit i) h
      simp only [low ha, low hb, if_pos hi] at e
      exact e
    · rw [Nat.testBit_lt_two_pow (Nat.lt_of_lt_of_le ha (Nat.pow_le_pow_right (by omega) (by omega))), Nat.testBit_lt_two_pow (Nat.lt_of_lt_of_le hb (Nat.pow_le_pow_right (by omega) (by omega)))]
  · apply Nat.eq_of_testBit_eq
    intro i
    have e := congrArg (fun z => z.testBit (i + k)) h
    simp only [low ha, low hb, if_neg (show ¬ i + k < k by omega), Nat.add_sub_cancel] at e
    exact e

theorem mod_succ_bit (c k : Nat) : c % 2 ^ (k + 1) = (c % 2 ^ k) ^^^ (if c.testBit k then 2 ^ k else 0) := by
  apply Nat.eq_of_testBit_eq
  intro i
  rw [Nat.testBit_xor, Nat.testBit_mod_two_pow, Nat.testBit_mod_two_pow]
  by_cases hi : i = k
  · subst hi
    cases h : c.testBit i <;> simp [Nat.testBit_two_pow_self]
  · have e : decide (i < k + 1) = decide (i < k) := decide_eq_decide.2 (by omega)
    rw [e]
    split
    · rw [Nat.testBit_two_pow_of_ne (fun h => hi h.symm)]; simp
    · simp

theorem split8 (x : Nat) : (x % 256) ^^^ (2 ^ 8 * (x / 256)) = x := by
  apply Nat.eq_of_testBit_eq
  intro i
  rw [Nat.testBit_xor, show (256 : Nat) = 2 ^ 8 from rfl, Nat.testBit_mod_two_pow, Nat.testBit_two_pow_mul]
  by_cases h : i < 8
  · simp [h, show ¬ 8 ≤ i by omega]
  · have h8 : 8 ≤ i := by omega
    have e : (x / 2 ^ 8).testBit (i - 8) = x.testBit i := by rw [Nat.testBit_div_two_pow, Nat.sub_add_cancel h8]
    simp only [h, h8, decide_true, decide_false, Bool.true_and, Bool.false_and, Bool.false_xor]
    exact e

theorem num_four (s : Nat) : num [s % 256, s / 256 % 256, s / 65536 % 256, s / 16777216] = s := by
  have e1 : s / 65536 = s / 256 / 256 := by omega
  have e2 : s / 16777216 = s / 256 / 256 / 256 := by omega
  simp only [num, Nat.mul_zero, Nat.xor_zero]
  rw [e1, e2, split8, split8, split8]

theorem inv_inj {a b : Nat} (ha : a < 4294967296) (hb : b < 4294967296) (h : inv a = inv b) : a = b := by
  unfold inv at h; omega

/-- A burst in front of the checksum, or in it, is never taken for sealed bytes. -/
theorem burst {l b : List Nat} {f x : Nat} (hl : ∀ x ∈ l, x < 256) (hb : ∀ x ∈ b, x < 256) (hlen : b.length = l.length) (h0 : x ≠ 0) (hx : x < 4294967296)
    (hcase : 2 ^ f * x < 2 ^ (8 * l.length) ∨ 8 * l.length ≤ f)
    (h : num b ^^^ (2 ^ (8 * l.length) * inv (feedL 4294967295 b)) = (num l ^^^ (2 ^ (8 * l.length) * inv (feedL 4294967295 l))) ^^^ (2 ^ f * x)) : False := by
  have hnl := num_lt hl
  have hnb := num_lt hb
  rw [hlen] at hnb
  have hfl : feedL 4294967295 l < 4294967296 := feedL_lt (by omega) hl
  have hfb : feedL 4294967295 b < 4294967296 := feedL_lt (by omega) hb
  rcases hcase with hA | hB
  · have h2 : num b ^^^ (2 ^ (8 * l.length) * inv (feedL 4294967295 b)) = (num l ^^^ (2 ^ f * x)) ^^^ (2 ^ (8 * l.length) * inv (feedL 4294967295 l)) := by
      rw [h, Nat.xor_assoc, Nat.xor_comm (2 ^ (8 * l.length) * _), ← Nat.xor_assoc]
    obtain ⟨e1, e2⟩ := parts_unique hnb (Nat.xor_lt_two_pow hnl hA) h2
    have e3 := inv_inj hfb hfl e2
    rw [feedL_num, feedL_num, hlen, e1, ← Nat.xor_assoc, steps_xor] at e3
    have e4 : steps (8 * l.length) (2 ^ f * x) = 0 := by
      have := congrArg (fun z => steps (8 * l.length) (4294967295 ^^^ num l) ^^^ z) e3
      simpa [← Nat.xor_assoc] using this
    have hf : f ≤ 8 * l.length := by
      rcases Nat.lt_or_ge (8 * l.length) f with hlt | hge
      · have h1 : 2 ^ (8 * l.length) ≤ 2 ^ f := Nat.pow_le_pow_right (by omega) (by omega)
        have h2 : 2 ^ f * 1 ≤ 2 ^ f * x := Nat.mul_le_mul_left _ (by omega)
        omega
      · exact hge
    exact steps_burst hf hx h0 e4
  · have e0 : 2 ^ f * x = 2 ^ (8 * l.length) * (2 ^ (f - 8 * l.length) * x) := by
      rw [← Nat.mul_assoc, ← Nat.pow_add]
      congr 2
      omega
    rw [e0, Nat.xor_assoc, ← pow_mul_xor] at h
    obtain ⟨e1, e2⟩ := parts_unique hnb hnl h
    rw [feedL_num, feedL_num 4294967295 l, hlen, e1] at e2
    have e4 : 2 ^ (f - 8 * l.length) * x = 0 := by
      have := congrArg (fun z => inv (steps (8 * l.length) (4294967295 ^^^ num l)) ^^^ z) e2
      simpa [← Nat.xor_assoc] using this.symm
    rcases Nat.mul_eq_zero.1 e4 with h1 | h1
    · exact absurd h1 (Nat.ne_of_gt (Nat.two_pow_pos _))
    · exact h0 h1

end Go.Proofs.Ytpgnmphfhihffaa.Crc
