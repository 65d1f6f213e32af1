/- Texts of numbers as lists: the digits are read again, and a text is that of one number alone. -/
import Derived.Test.YthfpnkanccoolaaDoorNumT
namespace Go.Proofs.YthfpnkanccoolaaDoor
open Go.RowKit Fl

/-- One byte of a text, read as a digit where it is one. -/
def stepH (b c : Nat) : Nat :=
  let b1 := if 48 ≤ c ∧ c ≤ 57 then (b * 16 + (c - 48)) % 18446744073709551616 else b
  if 97 ≤ c ∧ c ≤ 102 then (b1 * 16 + (c - 97) + 10) % 18446744073709551616 else b1

def hexv (l : List Nat) (b : Nat) : Nat := l.foldl stepH b

theorem stepH_digit {b d : Nat} (h : d < 16) (hb : b * 16 + d < 18446744073709551616) : stepH b (hexD d) = b * 16 + d := by
  unfold stepH hexD
  by_cases h1 : d < 10
  · rw [if_pos h1]
    simp only
    rw [if_pos (show 48 ≤ 48 + d ∧ 48 + d ≤ 57 by omega), if_neg (show ¬ (97 ≤ 48 + d ∧ 48 + d ≤ 102) by omega)]
    omega
  · rw [if_neg h1]
    simp only
    rw [if_neg (show ¬ (48 ≤ 87 + d ∧ 87 + d ≤ 57) by omega), if_pos (show 97 ≤ 87 + d ∧ 87 + d ≤ 102 by omega)]
    omega

theorem hexv_hexs {x : Nat} (hx : x < 18446744073709551616) : ∀ j : Nat, j ≤ 16 → hexv (hexs x j) 0 = x / 2 ^ (4 * (16 - j)) := by
  intro j
  induction j with
  | zero =>
    intro _
    have hp : (2 : Nat) ^ (4 * (16 - 0)) = 18446744073709551616 := by decide
    have h : x / 2 ^ (4 * (16 - 0)) = 0 := Nat.div_eq_of_lt (by rw [hp]; exact hx)
    rw [h]; rfl
  | succ j ih =>
    intro hj
    have h1 := ih (by omega)
    have e : hexv (hexs x (j + 1)) 0 = stepH (hexv (hexs x j) 0) (hexD (x / 2 ^ (4 * (15 - j)) % 16)) := by
      unfold hexv
      rw [hexs, List.foldl_append]; rfl
    rw [e, h1]
    have e2 : 4 * (16 - j) = 4 * (15 - j) + 4 := by omega
    have e3 : 16 - (j + 1) = 15 - j := by omega
    rw [e2, e3, Nat.pow_add, ← Nat.div_div_eq_div_mul]
    generalize hy : x / 2 ^ (4 * (15 - j)) = y
    have hle : y ≤ x := by rw [← hy]; exact Nat.div_le_self _ _
    have h4 : (2 : Nat) ^ 4 = 16 := by decide
    rw [h4]
    have h5 : y / 16 * 16 + y % 16 = y := by omega
    rw [stepH_digit (Nat.mod_lt _ (by omega)) (by omega), h5]

theorem hexv_text {x : Nat} (hx : x < 18446744073709551616) : hexv (hexs x 16) 0 = x := by
  rw [hexv_hexs hx 16 (Nat.le_refl _)]
  simp

/-- The numbers whose texts are words. -/
def special : List Nat := [Q, I, W + I, 0, W]

theorem textL_hex {x : Nat} (h : x ∉ special) : textL x = 120 :: hexs x 16 := by
  unfold special at h
  simp only [List.mem_cons, List.not_mem_nil, or_false, not_or] at h
  obtain ⟨h1, h2, h3, h4, h5⟩ := h
  unfold textL
  rw [if_neg h1, if_neg h2, if_neg h3, if_neg h4, if_neg h5]

theorem textL_special {x : Nat} (h : x ∈ special) : (x = Q ∧ textL x = [110, 97, 110]) ∨ (x = I ∧ textL x = [105, 110, 102]) ∨ (x = W + I ∧ textL x = [45, 105, 110, 102]) ∨ (x = 0 ∧ textL x = [48]) ∨ (x = W ∧ textL x = [45, 48]) := by
  unfold special at h
  simp only [List.mem_cons, List.not_mem_nil, or_false] at h
  have a1 : I ≠ Q := by decide
  have a2 : W + I ≠ Q := by decide
  have a3 : W + I ≠ I := by decide
  have a4 : (0 : Nat) ≠ Q := by decide
  have a5 : (0 : Nat) ≠ I := by decide
  have a6 : (0 : Nat) ≠ W + I := by decide
  have a7 : W ≠ Q := by decide
  have a8 : W ≠ I := by decide
  have a9 : W ≠ W + I := by decide
  have b1 : W ≠ 0 := by decide
  unfold textL
  rcases h with h | h | h | h | h
  · exact .inl ⟨h, if_pos h⟩
  · exact .inr (.inl ⟨h, by rw [h, if_neg a1, if_pos rfl]⟩)
  · exact .inr (.inr (.inl ⟨h, by rw [h, if_neg a2, if_neg a3, if_pos rfl]⟩))
  · exact .inr (.inr (.inr (.inl ⟨h, by rw [h, if_neg a4, if_neg a5, if_neg a6, if_pos rfl]⟩)))
  · exact .inr (.inr (.inr (.inr ⟨h, by rw [h, if_neg a7, if_neg a8, if_neg a9, if_neg b1, if_pos rfl]⟩)))

/-- A text is that of one number alone. -/
theorem textL_inj {x y : Nat} (hx : x < 18446744073709551616) (hy : y < 18446744073709551616) (h : textL x = textL y) : x = y := by
  by_cases sx : x ∈ special <;> by_cases sy : y ∈ special
  · rcases textL_special sx with ⟨ex, tx⟩ | ⟨ex, tx⟩ | ⟨ex, tx⟩ | ⟨ex, tx⟩ | ⟨ex, tx⟩ <;> rcases textL_special sy with ⟨ey, ty⟩ | ⟨ey, ty⟩ | ⟨ey, ty⟩ | ⟨ey, ty⟩ | ⟨ey, ty⟩ <;> first | (rw [ex, ey]; done) | (rw [tx, ty] at h; simp at h)
  · rw [textL_hex sy] at h
    rcases textL_special sx with ⟨ex, tx⟩ | ⟨ex, tx⟩ | ⟨ex, tx⟩ | ⟨ex, tx⟩ | ⟨ex, tx⟩ <;> (rw [tx] at h; simp at h)
  · rw [textL_hex sx] at h
    rcases textL_special sy with ⟨ey, ty⟩ | ⟨ey, ty⟩ | ⟨ey, ty⟩ | ⟨ey, ty⟩ | ⟨ey, ty⟩ <;> (rw [ty] at h; simp at h)
  · rw [textL_hex sx, textL_hex sy] at h
    have h1 : hexs x 16 = hexs y 16 := (List.cons.inj h).2
    rw [← hexv_text hx, h1, hexv_text hy]

theorem textL_byte (x : Nat) : ∀ c ∈ textL x, c < 256 := by
  have hh : ∀ j, ∀ c ∈ hexs x j, c < 256 := by
    intro j
    induction j with
    | zero => intro c hc; cases hc
    | succ j ih =>
      intro c hc
      rw [hexs] at hc
      rcases List.mem_append.1 hc with hc | hc
      · exact ih c hc
      · have e : c = hexD (x / 2 ^ (4 * (15 - j)) % 16) := by simpa using hc
        have hm : x / 2 ^ (4 * (15 - j)) % 16 < 16 := Nat.mod_lt _ (by omega)
        rw [e]
        unfold hexD
        split <;> omega
  by_cases s : x ∈ special
  · rcases textL_special s with ⟨_, t⟩ | ⟨_, t⟩ | ⟨_, t⟩ | ⟨_, t⟩ | ⟨_, t⟩ <;> (rw [t]; decide)
  · rw [textL_hex s]
    intro c hc
    rcases List.mem_cons.1 hc with rfl | hc
    · omega
    · exact hh 16 c hc

/-- Every text is that of what its digits say, or of one of the words' numbers. -/
theorem text_found {s : List Nat} {x : Nat} (hx : x < 18446744073709551616) (h : textL x = s) : x = hexv s.tail 0 ∨ x ∈ special := by
  by_cases sx : x ∈ special
  · exact .inr sx
  · left
    rw [← h, textL_hex sx]
    exact (hexv_text hx).symm
end Go.Proofs.YthfpnkanccoolaaDoor
