/- How a string's range steps over bytes above 127: the rune is valid, and none of its bytes is below 128. -/
import Derived.Lib.MapLaws
import Derived.Lib.IndexAny
import Derived.Laws.Runes
namespace Go.Proofs.Ytdflfimclgapnaa

theorem high_bytes (s : List UInt8) (i n : Nat) (hn : n ≤ 4) (h : ∀ k, k < n → i + k < s.length ∧ 128 ≤ (s.getD (i + k) 0).toNat) : i + n ≤ s.length ∨ n = 0 := by
  rcases Nat.eq_zero_or_pos n with h0 | h0
  · exact .inr h0
  · have := (h (n - 1) (by omega)).1
    exact .inl (by omega)

theorem high_step (s : ByteArray) (i : Nat) (hi : i < s.size) (h : 128 ≤ (s.data.toList.getD i 0).toNat) :
    128 ≤ (Utf8.decode s i).1 ∧ Utf8.valid ((Utf8.decode s i).1 : Int) = true ∧ 1 ≤ (Utf8.decode s i).2 ∧ i + (Utf8.decode s i).2 ≤ s.size ∧
      ∀ j b, i ≤ j → j < i + (Utf8.decode s i).2 → s.data.toList[j]? = some b → 128 ≤ b.toNat := by
  have hsz : s.data.toList.length = s.size := (Lib.size_eq s).symm
  have hget : ∀ j b, s.data.toList[j]? = some b → s.data.toList.getD j 0 = b := fun j b hb => by rw [List.getD, hb]; rfl
  rw [Lib.decode_N]
  have hv : ∀ r : Nat, (r < 55296 ∨ 57344 ≤ r) → r ≤ 1114111 → Utf8.valid (r : Int) = true := by
    intro r h1 h2
    unfold Utf8.valid
    rcases h1 with h1 | h1
    · rw [show decide ((0 : Int) ≤ (r : Int)) = true from decide_eq_true (by omega), show decide ((r : Int) < 0xD800) = true from decide_eq_true (by omega)]; rfl
    · rw [show decide ((0xE000 : Int) ≤ (r : Int)) = true from decide_eq_true (by omega), show decide ((r : Int) ≤ 0x10FFFF) = true from decide_eq_true (by omega)]; simp
  have l0 := (s.data.toList.getD i 0).toNat_lt
  have l1 := (s.data.toList.getD (i + 1) 0).toNat_lt
  have l2 := (s.data.toList.getD (i + 2) 0).toNat_lt
  have l3 := (s.data.toList.getD (i + 3) 0).toNat_lt
  rcases Lib.decodeN_shape (s.data.toList.length - i) (s.data.toList.getD i 0).toNat (s.data.toList.getD (i + 1) 0).toNat (s.data.toList.getD (i + 2) 0).toNat (s.data.toList.getD (i + 3) 0).toNat with
    ⟨a, e⟩ | ⟨a, b, c, d, e⟩ | ⟨a, b, c, d, f, g, e⟩ | ⟨a, b, c, d, f, g, k, e⟩ | e
  · omega
  · rw [e]
    refine ⟨d, hv _ (by omega) (by omega), by show 1 ≤ 2; omega, by show i + 2 ≤ _; omega, fun j x h1 h2 hx => ?_⟩
    have h2 : j < i + 2 := h2
    rcases (show j = i ∨ j = i + 1 by omega) with rfl | rfl
    · rw [← hget _ _ hx]; exact h
    · rw [← hget _ _ hx]; omega
  · rw [e]
    refine ⟨by show 128 ≤ _; omega, hv _ (by omega) (by omega), by show 1 ≤ 3; omega, by show i + 3 ≤ _; omega, fun j x h1 h2 hx => ?_⟩
    have h2 : j < i + 3 := h2
    rcases (show j = i ∨ j = i + 1 ∨ j = i + 2 by omega) with rfl | rfl | rfl
    · rw [← hget _ _ hx]; exact h
    · rw [← hget _ _ hx]; omega
    · rw [← hget _ _ hx]; omega
  · rw [e]
    refine ⟨by show 128 ≤ _; omega, hv _ (by omega) (by omega), by show 1 ≤ 4; omega, by show i + 4 ≤ _; omega, fun j x h1 h2 hx => ?_⟩
    have h2 : j < i + 4 := h2
    rcases (show j = i ∨ j = i + 1 ∨ j = i + 2 ∨ j = i + 3 by omega) with rfl | rfl | rfl | rfl
    · rw [← hget _ _ hx]; exact h
    · rw [← hget _ _ hx]; omega
    · rw [← hget _ _ hx]; omega
    · rw [← hget _ _ hx]; omega
  · rw [e]
    refine ⟨by show 128 ≤ 65533; omega, hv _ (by omega) (by omega), by show 1 ≤ 1; omega, by show i + 1 ≤ _; omega, fun j x h1 h2 hx => ?_⟩
    have h2 : j < i + 1 := h2
    obtain rfl : j = i := by omega
    rw [← hget _ _ hx]; exact h
end Go.Proofs.Ytdflfimclgapnaa
