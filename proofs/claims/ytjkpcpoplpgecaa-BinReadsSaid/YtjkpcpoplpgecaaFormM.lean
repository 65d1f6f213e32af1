/- The forms of numbers and the reading of them, on lists of plain numbers; no program is named. -/
namespace Go.Proofs.Ytjkpcpoplpgecaa

/-- The form of a number. -/
def form (x : Nat) : List Nat := if x < 128 then [x] else (x % 128 + 128) :: form (x / 128)
termination_by x
decreasing_by omega

theorem form_small {x : Nat} (h : x < 128) : form x = [x] := by rw [form, if_pos h]
theorem form_big {x : Nat} (h : 128 ≤ x) : form x = (x % 128 + 128) :: form (x / 128) := by rw [form, if_neg (by omega)]

theorem form_ne (x : Nat) : form x ≠ [] := by
  by_cases h : x < 128
  · rw [form_small h]; simp
  · rw [form_big (by omega)]; simp

theorem form_pos (x : Nat) : 0 < (form x).length := List.length_pos_iff.2 (form_ne x)

theorem form_byte (x : Nat) : ∀ y ∈ form x, y < 256 := by
  induction x using Nat.strongRecOn with
  | ind x ih =>
    intro y hy
    by_cases h : x < 128
    · rw [form_small h] at hy
      simp only [List.mem_singleton] at hy
      omega
    · rw [form_big (by omega)] at hy
      rcases List.mem_cons.1 hy with rfl | hy
      · omega
      · exact ih (x / 128) (by omega) y hy

theorem form_le (k : Nat) : ∀ x : Nat, x < 128 ^ (k + 1) → (form x).length ≤ k + 1 := by
  induction k with
  | zero => intro x h; rw [form_small (by simpa using h)]; simp
  | succ k ih =>
    intro x h
    by_cases hx : x < 128
    · rw [form_small hx]; simp
    · rw [form_big (by omega), List.length_cons]
      have := ih (x / 128) (by rw [Nat.div_lt_iff_lt_mul (by omega), ← Nat.pow_succ]; exact h)
      omega

theorem form_len {x : Nat} (h : x < 18446744073709551616) : (form x).length ≤ 10 := form_le 9 x (by omega)

/-- What reading a number yields, from the i-th digit on, x having been read: the number, and how many bytes it has; 0 if there is none. -/
def numL : List Nat → Nat → Nat → Nat × Nat
  | [], _, _ => (0, 0)
  | c :: r, i, x =>
    if i = 10 then (0, 0) else if i = 9 ∧ 1 < c % 128 then (0, 0) else
    if c < 128 then (if 0 < i ∧ c % 128 = 0 then (0, 0) else (x + c % 128 * 128 ^ i, i + 1)) else numL r (i + 1) (x + c % 128 * 128 ^ i)

theorem numL_nil (i x : Nat) : numL [] i x = (0, 0) := rfl
theorem numL_ten (l : List Nat) (x : Nat) : numL l 10 x = (0, 0) := by cases l <;> simp [numL]
theorem numL_nine {c : Nat} {r : List Nat} {x : Nat} (h : 1 < c % 128) : numL (c :: r) 9 x = (0, 0) := by simp [numL, h]
theorem numL_zero {c : Nat} {r : List Nat} {i x : Nat} (hi : i < 10) (h : c < 128) (h0 : 0 < i) (hc : c % 128 = 0) : numL (c :: r) i x = (0, 0) := by
  rw [numL, if_neg (by omega), if_neg (by omega), if_pos h, if_pos ⟨h0, hc⟩]
theorem numL_last {c : Nat} {r : List Nat} {i x : Nat} (hi : i < 10) (h9 : ¬ (i = 9 ∧ 1 < c % 128)) (h : c < 128) (h0 : ¬ (0 < i ∧ c % 128 = 0)) : numL (c :: r) i x = (x + c % 128 * 128 ^ i, i + 1) := by
  rw [numL, if_neg (by omega), if_neg h9, if_pos h, if_neg h0]
theorem numL_more {c : Nat} {r : List Nat} {i x : Nat} (hi : i < 10) (h9 : ¬ (i = 9 ∧ 1 < c % 128)) (h : ¬ c < 128) : numL (c :: r) i x = numL r (i + 1) (x + c % 128 * 128 ^ i) := by
  rw [numL, if_neg (by omega), if_neg h9, if_neg h]

theorem drop_cons {l : List Nat} {k : Nat} (h : k < l.length) : l.drop k = l.getD k 0 :: l.drop (k + 1) := by
  rw [List.drop_eq_getElem_cons h, List.getD_eq_getElem?_getD, List.getElem?_eq_getElem h]; rfl

/-- Reading inverts writing. -/
theorem numL_form (y : Nat) : ∀ (i x : Nat) (r : List Nat), i < 10 → y * 128 ^ i < 18446744073709551616 → (0 < i → y ≠ 0) → numL (form y ++ r) i x = (x + y * 128 ^ i, i + (form y).length) := by
  induction y using Nat.strongRecOn with
  | ind y ih =>
    intro i x r hi hy h0
    have h9 : i = 9 → y < 2 := by
      intro e
      subst e
      omega
    by_cases h : y < 128
    · rw [form_small h, List.singleton_append, numL_last hi (by omega) h (by omega), Nat.mod_eq_of_lt h]; rfl
    · have hi9 : i < 9 := by
        rcases Nat.lt_or_ge i 9 with hh | hh
        · exact hh
        · have := h9 (by omega); omega
      rw [form_big (by omega), List.cons_append, numL_more hi (by omega) (by omega)]
      have e1 : (y % 128 + 128) % 128 = y % 128 := by omega
      have e2 : y / 128 * 128 ^ (i + 1) = (y / 128 * 128) * 128 ^ i := by rw [Nat.pow_succ, Nat.mul_assoc, Nat.mul_comm 128]
      have e3 : y % 128 * 128 ^ i + y / 128 * 128 ^ (i + 1) = y * 128 ^ i := by
        rw [e2, ← Nat.add_mul]
        congr 1
        omega
      rw [e1, ih (y / 128) (by omega) (i + 1) _ r (by omega) (by omega) (fun _ => by omega)]
      rw [Nat.add_assoc, e3, List.length_cons, Nat.add_assoc, Nat.add_comm 1]

theorem numL_of_form {y : Nat} (h : y < 18446744073709551616) (r : List Nat) : numL (form y ++ r) 0 0 = (y, (form y).length) := by
  rw [numL_form y 0 0 r (by omega) (by simpa using h) (fun h => absurd h (by omega))]
  simp

/-- What is read is a form. -/
theorem numL_only (l : List Nat) : ∀ (i x z n : Nat), i ≤ 10 → (∀ c ∈ l, c < 256) → numL l i x = (z, n) → 0 < n →
    ∃ (y : Nat) (r : List Nat), l = form y ++ r ∧ z = x + y * 128 ^ i ∧ n = i + (form y).length ∧ (0 < i → y ≠ 0) ∧ y * 128 ^ i < 18446744073709551616 := by
  induction l with
  | nil => intro i x z n _ _ h h0; rw [numL_nil] at h; cases h; omega
  | cons c r ih =>
    intro i x z n hi hb h h0
    have hc : c < 256 := hb c (by simp)
    by_cases hi10 : i = 10
    · subst hi10; rw [numL_ten] at h; cases h; omega
    by_cases h9 : i = 9 ∧ 1 < c % 128
    · obtain ⟨rfl, h9⟩ := h9; rw [numL_nine h9] at h; cases h; omega
    have hp : 128 ^ i ≤ 128 ^ 9 := Nat.pow_le_pow_right (by omega) (by omega)
    have hp8 : i < 9 → 128 ^ i ≤ 128 ^ 8 := fun h => Nat.pow_le_pow_right (by omega) (by omega)
    by_cases hlt : c < 128
    · by_cases hz : 0 < i ∧ c % 128 = 0
      · rw [numL_zero (by omega) hlt hz.1 hz.2] at h; cases h; omega
      · rw [numL_last (by omega) h9 hlt hz] at h
        cases h
        refine ⟨c, r, by rw [form_small hlt]; rfl, by rw [Nat.mod_eq_of_lt hlt], by rw [form_small hlt]; rfl, fun h e => hz ⟨h, by omega⟩, ?_⟩
        by_cases e9 : i = 9
        · subst e9; omega
        · have := hp8 (by omega)
          have h2 : c * 128 ^ i ≤ 127 * 128 ^ 8 := Nat.mul_le_mul (by omega) this
          omega
    · rw [numL_more (by omega) h9 hlt] at h
      obtain ⟨y, r', rfl, rfl, rfl, hy, hlim⟩ := ih (i + 1) _ _ _ (by omega) (fun c hc => hb c (by simp [hc])) h h0
      have hy1 : y ≠ 0 := hy (by omega)
      have e1 : (c % 128 + y * 128) / 128 = y := by omega
      have e2 : (c % 128 + y * 128) % 128 + 128 = c := by omega
      have e3 : form (c % 128 + y * 128) = c :: form y := by rw [form_big (by omega), e1, e2]
      have e4 : c % 128 * 128 ^ i + y * 128 ^ (i + 1) = (c % 128 + y * 128) * 128 ^ i := by
        rw [Nat.add_mul, Nat.pow_succ, Nat.mul_assoc, Nat.mul_comm 128]
      refine ⟨c % 128 + y * 128, r', by rw [e3]; rfl, by rw [Nat.add_assoc, e4], by rw [e3, List.length_cons]; omega, fun _ => by omega, ?_⟩
      rw [← e4]
      by_cases e8 : i = 9
      · subst e8
        exfalso
        exact absurd hlim (Nat.not_lt.2 (Nat.le_trans (by decide) (Nat.mul_le_mul (Nat.pos_of_ne_zero hy1) (Nat.le_refl _))))
      · have h2 : c % 128 * 128 ^ i < 128 * 128 ^ i := Nat.mul_lt_mul_of_pos_right (by omega) (Nat.pow_pos (by omega))
        have h3 : 128 * 128 ^ i = 128 ^ (i + 1) := by rw [Nat.pow_succ, Nat.mul_comm]
        have h5 : 128 ^ (i + 1) ∣ 18446744073709551616 ∨ i = 8 := by
          by_cases e : i = 8
          · exact .inr e
          · left
            have : (18446744073709551616 : Nat) = 128 ^ (i + 1) * (2 ^ (64 - 7 * (i + 1))) := by
              rw [show (128 : Nat) = 2 ^ 7 from rfl, ← Nat.pow_mul, ← Nat.pow_add]
              rw [show 7 * (i + 1) + (64 - 7 * (i + 1)) = 64 by omega]
            rw [this]
            exact Nat.dvd_mul_right _ _
        have h5 : 128 ^ (i + 1) ∣ 18446744073709551616 := by
          rcases h5 with h | rfl
          · exact h
          · exact ⟨2, by decide⟩
        obtain ⟨q, hq⟩ := h5
        rw [hq] at hlim ⊢
        have h6 : y < q := by
          rw [Nat.mul_comm] at hlim
          exact Nat.lt_of_mul_lt_mul_left hlim
        have h7 : (y + 1) * 128 ^ (i + 1) ≤ q * 128 ^ (i + 1) := Nat.mul_le_mul_right _ h6
        rw [Nat.add_mul, Nat.one_mul] at h7
        rw [Nat.mul_comm (128 ^ (i + 1)) q]
        omega

theorem numL_read {l : List Nat} {z n : Nat} (hb : ∀ c ∈ l, c < 256) (h : numL l 0 0 = (z, n)) (h0 : 0 < n) : z < 18446744073709551616 ∧ n ≤ l.length ∧ l = form z ++ l.drop n := by
  obtain ⟨y, r, rfl, rfl, rfl, _, h2⟩ := numL_only l 0 0 z n (by omega) hb h h0
  simp only [Nat.pow_zero, Nat.mul_one, Nat.zero_add] at h2 ⊢
  refine ⟨h2, by rw [List.length_append]; omega, by rw [List.drop_left]⟩

theorem numL_size_le {l : List Nat} {z n : Nat} (hb : ∀ c ∈ l, c < 256) (h : numL l 0 0 = (z, n)) : n ≤ l.length ∧ n ≤ 10 ∧ z < 18446744073709551616 ∧ (n = 0 → z = 0) := by
  rcases Nat.eq_zero_or_pos n with rfl | h0
  · have hz : ∀ (l : List Nat) (i x z : Nat), numL l i x = (z, 0) → z = 0 := by
      intro l
      induction l with
      | nil => intro i x z h; rw [numL_nil] at h; cases h; rfl
      | cons c r ih =>
        intro i x z h
        unfold numL at h
        split at h
        · cases h; rfl
        · split at h
          · cases h; rfl
          · split at h
            · split at h
              · cases h; rfl
              · cases h
            · exact ih _ _ _ h
    have := hz l 0 0 z h
    subst this
    exact ⟨Nat.zero_le _, by omega, by omega, fun _ => rfl⟩
  · obtain ⟨h1, h2, h3⟩ := numL_read hb h h0
    refine ⟨h2, ?_, h1, fun h => by omega⟩
    have h4 := numL_of_form h1 (l.drop n)
    rw [← h3, h] at h4
    cases h4
    exact form_len h1

/-- The form of a number with a sign. -/
def foldL (y : Int) : Nat := if 0 ≤ y then 2 * y.toNat else (-(2 * y) - 1).toNat
def unfoldL (u : Nat) : Int := if u % 2 = 0 then ((u / 2 : Nat) : Int) else -((u / 2 : Nat) : Int) - 1

theorem unfold_fold (y : Int) : unfoldL (foldL y) = y := by unfold unfoldL foldL; split <;> split <;> omega
theorem fold_lt {y : Int} (h1 : -9223372036854775808 ≤ y) (h2 : y ≤ 9223372036854775807) : foldL y < 18446744073709551616 := by unfold foldL; split <;> omega
end Go.Proofs.Ytjkpcpoplpgecaa
