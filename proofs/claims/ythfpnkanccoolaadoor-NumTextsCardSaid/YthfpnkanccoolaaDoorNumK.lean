/- The walks of the code's functions on bits and order. -/
import Derived.Test.YthfpnkanccoolaaDoorNumOM
namespace Go.Proofs.YthfpnkanccoolaaDoor
open Go.RowKit Fl

theorem isnan_is (b : Nat) (w : World) (v : Bool) (hb : b < 18446744073709551616) (hv : decide (I < b % W) = v) :
    Calls Tryd.prog 30 #[.float .f64 b] w fun e w' => e = .returned (.bool v) ∧ w = w' := by
  have e := self_order hb
  rw [hv] at e
  clear hv
  go_enter Tryd.func30, Tryd.ntmps30
  go_wp2
  go_ret
  exact ⟨rfl, rfl⟩

theorem and_high (b : Nat) (h : b < 18446744073709551616) : bits .and .u64 (b : Int) 9223372036854775808 = if W ≤ b then 9223372036854775808 else 0 := by
  have h1 := u64_and_nat b 9223372036854775808 h (by omega)
  have h2 : b &&& 9223372036854775808 = if W ≤ b then 9223372036854775808 else 0 := by
    have h4 : b.testBit 63 = decide (W ≤ b) := by
      rw [Nat.testBit_eq_decide_div_mod_eq, show (2 : Nat) ^ 63 = 9223372036854775808 by decide, decide_eq_decide]
      unfold W
      omega
    rw [show (9223372036854775808 : Nat) = 2 ^ 63 by decide]
    apply Nat.eq_of_testBit_eq
    intro i
    rw [Nat.testBit_and, Nat.testBit_two_pow]
    by_cases hi : i = 63
    · subst hi
      rw [h4]
      by_cases hw : W ≤ b
      · rw [if_pos hw, decide_eq_true hw, Nat.testBit_two_pow]; simp
      · rw [if_neg hw, decide_eq_false hw]; simp
    · rw [decide_eq_false (fun e => hi e.symm)]
      split
      · rw [Nat.testBit_two_pow, decide_eq_false (fun e => hi e.symm)]; simp
      · simp
  rw [h2] at h1
  have h5 : bits .and .u64 (b : Int) 9223372036854775808 = ((if W ≤ b then 9223372036854775808 else 0 : Nat) : Int) := h1
  rw [h5]
  split <;> rfl

theorem or_high (b : Nat) (h : b < W) : bits .or .u64 (b : Int) 9223372036854775808 = ((b + W : Nat) : Int) := by
  have h1 := u64_or_nat b 9223372036854775808 (by unfold W at h; omega) (by omega)
  have h2 := Nat.two_pow_add_eq_or_of_lt (i := 63) (b := b) (by rw [show (2 : Nat) ^ 63 = W by decide]; exact h) 1
  rw [show (2 : Nat) ^ 63 * 1 = 9223372036854775808 by decide, Nat.or_comm] at h2
  rw [← h2] at h1
  have h3 : bits .or .u64 (b : Int) 9223372036854775808 = ((9223372036854775808 + b : Nat) : Int) := h1
  rw [h3, Nat.add_comm]
  rfl

set_option maxRecDepth 100000 in
theorem bits_any (b : Nat) (w : World) (hb : b < 18446744073709551616) :
    Calls Tryd.prog 13 #[.float .f64 b] w fun e w' => e = .returned (.int .u64 (bitsB b : Nat)) ∧ w = w' := by
  have hx := run_bits
  by_cases h : I < b % W
  · have Hv := Lib.hid (isnan_is b w true hb (decide_eq_true h))
    have Hf := Lib.hid (show ((bitsB b : Nat) : Int) = 9221120237041090561 by unfold bitsB; rw [if_pos h]; rfl)
    clear h
    go_enter Tryd.func13, Tryd.ntmps13
    go_wp2_with fail
    refine Hv.out.mono ?_
    rintro e w' ⟨rfl, rfl⟩
    go_wp2
    go_ret
    exact ⟨ret_u64 Hf.out.symm, rfl⟩
  · have Hv := Lib.hid (isnan_is b w false hb (decide_eq_false h))
    have Hf := Lib.hid (show ((bitsB b : Nat) : Int) = (b : Int) by unfold bitsB; rw [if_neg h])
    clear h
    go_enter Tryd.func13, Tryd.ntmps13
    go_wp2_with fail
    refine Hv.out.mono ?_
    rintro e w' ⟨rfl, rfl⟩
    go_wp2
    go_ret
    exact ⟨ret_u64 Hf.out.symm, rfl⟩

set_option maxRecDepth 100000 in
theorem canon_any (b : Nat) (w : World) (hb : b < 18446744073709551616) :
    Calls Tryd.prog 16 #[.float .f64 b] w fun e w' => e = .returned (.float .f64 (bitsB b)) ∧ w = w' := by
  have hx := run_frombits (bitsB b)
  have H1 := Lib.hid (bits_any b w hb)
  clear hb
  generalize bitsB b = x at *
  go_enter Tryd.func16, Tryd.ntmps16
  go_wp2_with fail
  refine H1.out.mono ?_
  rintro e w' ⟨rfl, rfl⟩
  go_wp2
  go_ret
  exact ⟨rfl, rfl⟩

theorem ofB_bits {b : Nat} : ofB b = if bitsB b = b then some b else none := by
  unfold ofB bitsB
  by_cases h : I < b % W
  · rw [if_pos h]
    by_cases hq : b = Q
    · rw [if_neg (fun h => h.2 hq), if_pos hq.symm]
    · rw [if_pos ⟨h, hq⟩, if_neg (fun e => hq e.symm)]
  · rw [if_neg h, if_neg (fun h2 => h h2.1), if_pos rfl]

set_option maxRecDepth 100000 in
theorem of_any (b : Nat) (w : World) (hb : b < 18446744073709551616) :
    Calls Tryd.prog 9 #[.int .u64 (b : Int)] w fun e w' => e = .returned (.tuple #[.float .f64 ((ofB b).getD 0), .bool (ofB b).isSome]) ∧ w = w' := by
  have hx := run_frombits b
  have H1 := Lib.hid (bits_any b w hb)
  by_cases h : bitsB b = b
  · have Hf := Lib.hid (show ofB b = some b by rw [ofB_bits, if_pos h])
    have hne : (((bitsB b : Nat) : Int) != (b : Int)) = false := by rw [h]; exact bne_self_eq_false _
    rw [Hf.out]
    clear h hb
    generalize bitsB b = x at *
    go_enter Tryd.func9, Tryd.ntmps9
    go_wp2_with fail
    refine H1.out.mono ?_
    rintro e w' ⟨rfl, rfl⟩
    go_wp2
    go_ret2
    exact ⟨rfl, rfl⟩
  · have Hf := Lib.hid (show ofB b = none by rw [ofB_bits, if_neg h])
    have hne : (((bitsB b : Nat) : Int) != (b : Int)) = true := by rw [bne_iff_ne]; omega
    rw [Hf.out]
    clear h hb
    generalize bitsB b = x at *
    go_enter Tryd.func9, Tryd.ntmps9
    go_wp2_with fail
    refine H1.out.mono ?_
    rintro e w' ⟨rfl, rfl⟩
    go_wp2
    go_ret2
    exact ⟨rfl, rfl⟩

theorem same_any (a b : Nat) (w : World) (ha : a < 18446744073709551616) (hb : b < 18446744073709551616) :
    Calls Tryd.prog 19 #[.float .f64 a, .float .f64 b] w fun e w' => e = .returned (.bool (decide (bitsB a = bitsB b))) ∧ w = w' := by
  have H1 := Lib.hid (bits_any a w ha)
  have H2 := Lib.hid (bits_any b w hb)
  clear ha hb
  generalize bitsB a = x at *
  generalize bitsB b = y at *
  go_enter Tryd.func19, Tryd.ntmps19
  go_wp2_with fail
  refine H1.out.mono ?_
  rintro e w' ⟨rfl, rfl⟩
  go_wp2_with fail
  refine H2.out.mono ?_
  rintro e w' ⟨rfl, rfl⟩
  go_wp2
  go_ret
  refine ⟨ret_bool ?_, rfl⟩
  rw [Bool.eq_iff_iff]
  simp
  omega

set_option maxRecDepth 100000 in
theorem rank_any (b : Nat) (w : World) (hb : b < 18446744073709551616) :
    Calls Tryd.prog 34 #[.float .f64 b] w fun e w' => e = .returned (.int .u64 (rankB (bitsB b) : Nat)) ∧ w = w' := by
  have H1 := Lib.hid (bits_any b w hb)
  have hlt := bitsB_lt hb
  clear hb
  generalize bitsB b = x at *
  have ha := and_high x hlt
  by_cases h : W ≤ x
  · rw [if_pos h] at ha
    have Hf := Lib.hid (show ((rankB x : Nat) : Int) = bits .xor .u64 IntKind.u64.max (x : Int) by rw [not_u64 x hlt]; unfold rankB; rw [if_pos h])
    clear h
    go_enter Tryd.func34, Tryd.ntmps34
    go_wp2_with fail
    refine H1.out.mono ?_
    rintro e w' ⟨rfl, rfl⟩
    go_wp2
    go_ret
    exact ⟨ret_u64 Hf.out.symm, rfl⟩
  · rw [if_neg h] at ha
    have hor := or_high x (Nat.lt_of_not_le h)
    have Hf := Lib.hid (show ((rankB x : Nat) : Int) = ((x + W : Nat) : Int) by unfold rankB; rw [if_neg h])
    have h' : x < 9223372036854775808 := by unfold W at h; omega
    rw [← Hf.out] at hor
    clear h Hf
    generalize rankB x = y at *
    go_enter Tryd.func34, Tryd.ntmps34
    go_wp2_with fail
    refine H1.out.mono ?_
    rintro e w' ⟨rfl, rfl⟩
    go_wp2
    go_ret
    exact ⟨rfl, rfl⟩
end Go.Proofs.YthfpnkanccoolaaDoor
