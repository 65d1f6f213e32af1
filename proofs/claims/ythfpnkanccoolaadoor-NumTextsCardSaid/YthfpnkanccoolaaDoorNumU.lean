/- The walk of the library's ParseUint at base 16. -/
import Derived.Test.YthfpnkanccoolaaDoorNumX
import Derived.Lib.ConvBytes
import Derived.Lib.SmallJoins
namespace Go.Proofs.YthfpnkanccoolaaDoor
open Go.RowKit Fl

/-- The small letter of a letter. -/
def low (c : Nat) : Nat := (bits .or .u8 (c : Int) 32).toNat

theorem low_all : ∀ c : Fin 256, 0 ≤ bits .or .u8 ((c.val : Nat) : Int) 32 ∧ bits .or .u8 ((c.val : Nat) : Int) 32 < 256 ∧ (97 ≤ c.val → c.val ≤ 102 → bits .or .u8 ((c.val : Nat) : Int) 32 = ((c.val : Nat) : Int)) := by decide +kernel

theorem low_is {c : Nat} (h : c < 256) : bits .or .u8 (c : Int) 32 = (low c : Int) ∧ low c < 256 ∧ (97 ≤ c → c ≤ 102 → low c = c) := by
  obtain ⟨h1, h2, h3⟩ := low_all ⟨c, h⟩
  refine ⟨(Int.toNat_of_nonneg h1).symm, ?_, fun h4 h5 => ?_⟩
  · have h6 : bits .or .u8 (c : Int) 32 < 256 := h2
    unfold low; omega
  · have h6 : bits .or .u8 (c : Int) 32 = (c : Int) := h3 h4 h5
    unfold low; omega

theorem lower_any (c : Nat) (w : World) (h : c < 256) :
    Calls Tryd.prog 70 #[.int .u8 (c : Int)] w fun e w' => e = .returned (.int .u8 (low c : Nat)) ∧ w = w' := by
  obtain ⟨e, _, _⟩ := low_is h
  go_enter Tryd.func70, Tryd.ntmps70
  go_wp2
  go_ret
  exact ⟨rfl, rfl⟩

/-- What the number gathered is: of the 16 digits of a number, its first ones. -/
def Gathers (l : List Nat) (k acc : Nat) : Prop := ∀ x, x < 18446744073709551616 → l = hexs x 16 → acc = x / 16 ^ (16 - k)

theorem gathers_zero (l : List Nat) : Gathers l 0 0 := by
  intro x hx _
  rw [Nat.div_eq_of_lt (by simpa using hx)]

theorem gathers_byte {l : List Nat} {k x : Nat} (h : l = hexs x 16) (hk : k < l.length) : k < 16 ∧ l.getD k 0 = hexD (x / 16 ^ (15 - k) % 16) := by
  subst h
  rw [hexs_len] at hk
  refine ⟨hk, ?_⟩
  rw [hexs_get x 16 k hk, show (16 : Nat) = 2 ^ 4 by decide, ← Nat.pow_mul]

theorem gathers_next {l : List Nat} {k acc d : Nat} (h : Gathers l k acc) (hk : k < l.length) (hd : ∀ y, y < 16 → l.getD k 0 = hexD y → d = y) : Gathers l (k + 1) (acc * 16 + d) := by
  intro x hx e
  obtain ⟨hk16, hb⟩ := gathers_byte e hk
  have h1 := h x hx e
  have h2 : d = x / 16 ^ (15 - k) % 16 := hd _ (Nat.mod_lt _ (by omega)) hb
  have h3 : x / 16 ^ (16 - k) = x / 16 ^ (15 - k) / 16 := by
    rw [show 16 - k = (15 - k) + 1 by omega, Nat.pow_succ, Nat.div_div_eq_div_mul]
  rw [show 16 - (k + 1) = 15 - k by omega, h1, h3, h2]
  omega

theorem gathers_end {l : List Nat} {acc : Nat} (h : Gathers l l.length acc) : ∀ x, x < 18446744073709551616 → l = hexs x 16 → acc = x := by
  intro x hx e
  have h1 := h x hx e
  have h2 : l.length = 16 := by rw [e, hexs_len]
  rw [h2, Nat.sub_self, Nat.pow_zero, Nat.div_one] at h1
  exact h1

/-- Where the number gathered would be too great, the bytes are no 16 digits. -/
theorem gathers_big {l : List Nat} {k acc v : Nat} (h : Gathers l k acc) (hk : k < l.length) (hb : 1152921504606846976 ≤ acc) : ∀ x, x < 18446744073709551616 → l = hexs x 16 → v = x := by
  intro x hx e
  obtain ⟨hk16, _⟩ := gathers_byte e hk
  have h1 := h x hx e
  have h3 : x / 16 ^ (16 - k) ≤ x / 16 ^ 1 := Nat.div_le_div_left (Nat.pow_le_pow_right (by omega) (by omega)) (by omega)
  rw [Nat.pow_one] at h3
  omega

/-- Where a byte is no digit, the bytes are no 16 digits. -/
theorem gathers_no {l : List Nat} {k v : Nat} (hk : k < l.length) (hd : ∀ y, y < 16 → l.getD k 0 ≠ hexD y) : ∀ x, x < 18446744073709551616 → l = hexs x 16 → v = x := by
  intro x hx e
  obtain ⟨_, hb⟩ := gathers_byte e hk
  exact absurd hb (hd _ (Nat.mod_lt _ (by omega)))

theorem hexD_digit {c y : Nat} (h : c = hexD y) (hy : y < 16) (h1 : c ≤ 57) : c - 48 = y := by
  unfold hexD at h
  split at h <;> omega

theorem hexD_letter {c y : Nat} (h : c = hexD y) (hy : y < 16) (h1 : ¬ (48 ≤ c ∧ c ≤ 57)) : 97 ≤ c ∧ c ≤ 102 ∧ c - 87 = y := by
  unfold hexD at h
  split at h <;> omega

/-- How ParseUint ends at base 16. -/
def UintEnd (w : World) (l : List Nat) (e : Ending) (w' : World) : Prop :=
  Below w.heap.size w w' ∧ ∃ v : Nat, v < 18446744073709551616 ∧ (∀ x, x < 18446744073709551616 → l = hexs x 16 → v = x) ∧
    (e = .returned (.tuple #[.int .u64 (v : Int), .nilIface]) ∨ e = .returned (.tuple #[.int .u64 (v : Int), .iface 92 (.int .i64 1)]) ∨ e = .returned (.tuple #[.int .u64 (v : Int), .iface 92 (.int .i64 2)]))
end Go.Proofs.YthfpnkanccoolaaDoor
