/- The walks of the reference's functions on bits and order. -/
import Derived.Test.YthfpnkanccoolaaDoorBytes
import Derived.Test.YthfpnkanccoolaaDoorRows
import Derived.Test.YthfpnkanccoolaaDoorW64
import Derived.Test.YthfpnkanccoolaaDoorFloatS
import Derived.Laws.Externs
import Derived.Laws.FloatArith
namespace Go.Proofs.YthfpnkanccoolaaDoor
open Go.RowKit Fl

def Q : Nat := 9221120237041090561
def bitsB (b : Nat) : Nat := if I < b % W then Q else b
def rankB (b : Nat) : Nat := if W ≤ b then 18446744073709551615 - b else b + W

theorem and_top {b : Nat} (h : b < 18446744073709551616) : bits .and .u64 (b : Int) 9223372036854775807 = ((b % W : Nat) : Int) := by
  have h1 := u64_and_nat b 9223372036854775807 h (by omega)
  have h2 := Nat.and_two_pow_sub_one_eq_mod b 63
  rw [show (2 : Nat) ^ 63 - 1 = 9223372036854775807 by decide, show (2 : Nat) ^ 63 = W by decide] at h2
  rw [h2] at h1
  exact h1

/-- The library's two functions on bits. -/
theorem run_bits (b : Nat) (w : World) : (callFunc 12 #[.float .f64 b]).run Tryd.prog w = .ok (.value (.int .u64 (b : Int))) w := by
  rw [run_callFunc_extern (e := Extern.MathFloatBits.float64bits) Tryd.func12 (by kernel_rfl) (by kernel_rfl) (by rfl) (by rfl)]
  rfl

theorem run_frombits (b : Nat) (w : World) : (callFunc 11 #[.int .u64 (b : Int)]).run Tryd.prog w = .ok (.value (.float .f64 b)) w := by
  rw [run_callFunc_extern (e := Extern.MathFloatBits.float64frombits) Tryd.func11 (by kernel_rfl) (by kernel_rfl) (by rfl) (by rfl)]
  rfl

set_option maxRecDepth 100000 in
theorem rnan_any (b : Nat) (w : World) (hb : b < 18446744073709551616) :
    Calls Tryd.prog 29 #[.int .u64 (b : Int)] w fun e w' => e = .returned (.bool (decide (I < b % W))) ∧ w = w' := by
  have e := and_top hb
  go_enter Tryd.func29, Tryd.ntmps29
  go_wp2
  go_ret
  exact ⟨ret_bool (decide_eq_decide.2 (by unfold I; omega)), rfl⟩

theorem rnan_is (b : Nat) (w : World) (v : Bool) (hb : b < 18446744073709551616) (hv : decide (I < b % W) = v) :
    Calls Tryd.prog 29 #[.int .u64 (b : Int)] w fun e w' => e = .returned (.bool v) ∧ w = w' := by
  subst hv
  exact rnan_any b w hb

set_option maxRecDepth 100000 in
theorem rbits_any (b : Nat) (w : World) (hb : b < 18446744073709551616) :
    Calls Tryd.prog 14 #[.float .f64 b] w fun e w' => e = .returned (.int .u64 (bitsB b : Nat)) ∧ w = w' := by
  have hx := run_bits
  by_cases h : I < b % W
  · have Hv := Lib.hid (rnan_is b w true hb (decide_eq_true h))
    have Hf := Lib.hid (show ((bitsB b : Nat) : Int) = 9221120237041090561 by unfold bitsB; rw [if_pos h]; rfl)
    clear h
    go_enter Tryd.func14, Tryd.ntmps14
    go_wp2_with fail
    refine Hv.out.mono ?_
    rintro e w' ⟨rfl, rfl⟩
    go_wp2
    go_ret
    exact ⟨ret_u64 Hf.out.symm, rfl⟩
  · have Hv := Lib.hid (rnan_is b w false hb (decide_eq_false h))
    have Hf := Lib.hid (show ((bitsB b : Nat) : Int) = (b : Int) by unfold bitsB; rw [if_neg h])
    clear h
    go_enter Tryd.func14, Tryd.ntmps14
    go_wp2_with fail
    refine Hv.out.mono ?_
    rintro e w' ⟨rfl, rfl⟩
    go_wp2
    go_ret
    exact ⟨ret_u64 Hf.out.symm, rfl⟩

theorem bitsB_lt {b : Nat} (hb : b < 18446744073709551616) : bitsB b < 18446744073709551616 := by
  unfold bitsB
  split
  · decide
  · exact hb

/-- Of: the number with some bits, or none. -/
def ofB (b : Nat) : Option Nat := if I < b % W ∧ b ≠ Q then none else some b

set_option maxRecDepth 100000 in
theorem rof_any (b : Nat) (w : World) (hb : b < 18446744073709551616) :
    Calls Tryd.prog 10 #[.int .u64 (b : Int)] w fun e w' => e = .returned (.tuple #[.float .f64 ((ofB b).getD 0), .bool (ofB b).isSome]) ∧ w = w' := by
  have hx := run_frombits
  by_cases h : I < b % W
  · have Hv := Lib.hid (rnan_is b w true hb (decide_eq_true h))
    by_cases hq : b = Q
    · have Hf := Lib.hid (show ofB b = some b by unfold ofB; rw [if_neg (fun h => h.2 hq)])
      have hqb : ((b : Int) != 9221120237041090561) = false := by rw [hq]; rfl
      rw [Hf.out]
      clear h hq
      go_enter Tryd.func10, Tryd.ntmps10
      go_wp2_with fail
      refine Hv.out.mono ?_
      rintro e w' ⟨rfl, rfl⟩
      go_wp2
      go_ret2
      exact ⟨rfl, rfl⟩
    · have Hf := Lib.hid (show ofB b = none by unfold ofB; rw [if_pos ⟨h, hq⟩])
      have hqb : ((b : Int) != 9221120237041090561) = true := by rw [bne_iff_ne]; unfold Q at hq; omega
      rw [Hf.out]
      clear h hq
      go_enter Tryd.func10, Tryd.ntmps10
      go_wp2_with fail
      refine Hv.out.mono ?_
      rintro e w' ⟨rfl, rfl⟩
      go_wp2
      go_ret2
      exact ⟨rfl, rfl⟩
  · have Hv := Lib.hid (rnan_is b w false hb (decide_eq_false h))
    have Hf := Lib.hid (show ofB b = some b by unfold ofB; rw [if_neg (fun h2 => h h2.1)])
    rw [Hf.out]
    clear h
    go_enter Tryd.func10, Tryd.ntmps10
    go_wp2_with fail
    refine Hv.out.mono ?_
    rintro e w' ⟨rfl, rfl⟩
    go_wp2
    go_ret2
    exact ⟨rfl, rfl⟩

theorem rsame_any (a b : Nat) (w : World) (ha : a < 18446744073709551616) (hb : b < 18446744073709551616) :
    Calls Tryd.prog 20 #[.float .f64 a, .float .f64 b] w fun e w' => e = .returned (.bool (decide (bitsB a = bitsB b))) ∧ w = w' := by
  have H1 := Lib.hid (rbits_any a w ha)
  have H2 := Lib.hid (rbits_any b w hb)
  clear ha hb
  generalize bitsB a = x at *
  generalize bitsB b = y at *
  go_enter Tryd.func20, Tryd.ntmps20
  go_wp2_with fail
  refine H1.out.mono ?_
  rintro e w' ⟨rfl, rfl⟩
  go_wp2_with fail
  refine H2.out.mono ?_
  rintro e w' ⟨rfl, rfl⟩
  go_wp2
  go_ret
  refine ⟨ret_bool ?_, rfl⟩
  rw [Bool.eq_iff_iff]
  simp
  omega

set_option maxRecDepth 100000 in
theorem rrank_any (b : Nat) (w : World) (hb : b < 18446744073709551616) :
    Calls Tryd.prog 35 #[.int .u64 (b : Int)] w fun e w' => e = .returned (.int .u64 (rankB b : Nat)) ∧ w = w' := by
  by_cases h : W ≤ b
  · have Hf := Lib.hid (show rankB b = 18446744073709551615 - b from if_pos h)
    have hq : ((b : Int) / 9223372036854775808 == 1) = true := beq_iff_eq.2 (by unfold W at h; omega)
    have h' : 9223372036854775808 ≤ b := h
    clear h
    go_enter Tryd.func35, Tryd.ntmps35
    go_wp2
    go_ret
    refine ⟨ret_u64 ?_, rfl⟩
    rw [Hf.out, not_u64 b hb]
  · have Hf := Lib.hid (show rankB b = b + W from if_neg h)
    have hq : ((b : Int) / 9223372036854775808 == 1) = false := beq_eq_false_iff_ne.2 (by unfold W at h; omega)
    have h' : b < 9223372036854775808 := by unfold W at h; omega
    clear h
    go_enter Tryd.func35, Tryd.ntmps35
    go_wp2
    go_ret
    refine ⟨ret_u64 ?_, rfl⟩
    rw [Hf.out]
    unfold W
    omega

theorem rankB_lt {b : Nat} (hb : b < 18446744073709551616) : rankB b < 18446744073709551616 := by
  unfold rankB W
  split <;> omega

/-- The order: -1, 0 or 1. -/
def cmpR (x y : Nat) : Int := if x < y then -1 else if y < x then 1 else 0
def cmpB (a b : Nat) : Int := cmpR (rankB (bitsB a)) (rankB (bitsB b))

set_option maxRecDepth 100000 in
theorem rcompare_any (a b : Nat) (w : World) (ha : a < 18446744073709551616) (hb : b < 18446744073709551616) :
    Calls Tryd.prog 18 #[.float .f64 a, .float .f64 b] w fun e w' => e = .returned (.int .i64 (cmpB a b)) ∧ w = w' := by
  have H1 := Lib.hid (rbits_any a w ha)
  have H2 := Lib.hid (rbits_any b w hb)
  have H3 := Lib.hid (rrank_any (bitsB a) w (bitsB_lt ha))
  have H4 := Lib.hid (rrank_any (bitsB b) w (bitsB_lt hb))
  unfold cmpB
  clear ha hb
  generalize bitsB a = a' at *
  generalize bitsB b = b' at *
  generalize rankB a' = x at *
  generalize rankB b' = y at *
  by_cases h1 : x < y
  · have Hf := Lib.hid (show cmpR x y = -1 from if_pos h1)
    go_enter Tryd.func18, Tryd.ntmps18
    go_wp2_with fail
    refine H1.out.mono ?_
    rintro e w' ⟨rfl, rfl⟩
    go_wp2_with fail
    refine H3.out.mono ?_
    rintro e w' ⟨rfl, rfl⟩
    go_wp2_with fail
    refine H2.out.mono ?_
    rintro e w' ⟨rfl, rfl⟩
    go_wp2_with fail
    refine H4.out.mono ?_
    rintro e w' ⟨rfl, rfl⟩
    go_wp2
    go_ret
    exact ⟨ret_i64 Hf.out.symm, rfl⟩
  · by_cases h2 : y < x
    · have Hf := Lib.hid (show cmpR x y = 1 by unfold cmpR; rw [if_neg h1, if_pos h2])
      go_enter Tryd.func18, Tryd.ntmps18
      go_wp2_with fail
      refine H1.out.mono ?_
      rintro e w' ⟨rfl, rfl⟩
      go_wp2_with fail
      refine H3.out.mono ?_
      rintro e w' ⟨rfl, rfl⟩
      go_wp2_with fail
      refine H2.out.mono ?_
      rintro e w' ⟨rfl, rfl⟩
      go_wp2_with fail
      refine H4.out.mono ?_
      rintro e w' ⟨rfl, rfl⟩
      go_wp2
      go_ret
      exact ⟨ret_i64 Hf.out.symm, rfl⟩
    · have Hf := Lib.hid (show cmpR x y = 0 by unfold cmpR; rw [if_neg h1, if_neg h2])
      go_enter Tryd.func18, Tryd.ntmps18
      go_wp2_with fail
      refine H1.out.mono ?_
      rintro e w' ⟨rfl, rfl⟩
      go_wp2_with fail
      refine H3.out.mono ?_
      rintro e w' ⟨rfl, rfl⟩
      go_wp2_with fail
      refine H2.out.mono ?_
      rintro e w' ⟨rfl, rfl⟩
      go_wp2_with fail
      refine H4.out.mono ?_
      rintro e w' ⟨rfl, rfl⟩
      go_wp2
      go_ret
      exact ⟨ret_i64 Hf.out.symm, rfl⟩

/-- The sum of ticks. -/
def addN (a b : Nat) : Nat := if 9223372036854775807 < a + b then 9223372036854775807 else a + b

set_option maxRecDepth 100000 in
theorem radd_any (a b : Nat) (w : World) (ha : a < 18446744073709551616) (hb : b < 18446744073709551616) :
    Calls Tryd.prog 28 #[.int .u64 (a : Int), .int .u64 (b : Int)] w fun e w' => e = .returned (.int .u64 (addN a b : Nat)) ∧ w = w' := by
  by_cases h : 9223372036854775807 < a + b
  · have Hf := Lib.hid (show ((addN a b : Nat) : Int) = 9223372036854775807 by unfold addN; rw [if_pos h]; rfl)
    by_cases h1 : 9223372036854775807 < a
    · have h1' : (9223372036854775807 : Int) < (a : Int) := by omega
      clear h h1
      go_enter Tryd.func28, Tryd.ntmps28
      go_wp2
      go_ret
      exact ⟨ret_u64 Hf.out.symm, rfl⟩
    · have h1' : (a : Int) ≤ 9223372036854775807 := by omega
      have d1 : decide ((9223372036854775807 : Int) < (a : Int)) = false := decide_eq_false (by omega)
      by_cases h2 : 9223372036854775807 < b
      · have h2' : (9223372036854775807 : Int) < (b : Int) := by omega
        have d2 : decide ((9223372036854775807 : Int) < (b : Int)) = true := decide_eq_true (by omega)
        clear h h1 h2
        go_enter Tryd.func28, Tryd.ntmps28
        go_wp2
        go_ret
        exact ⟨ret_u64 Hf.out.symm, rfl⟩
      · have h2' : (b : Int) ≤ 9223372036854775807 := by omega
        have d2 : decide ((9223372036854775807 : Int) < (b : Int)) = false := decide_eq_false (by omega)
        have h3 : (9223372036854775807 : Int) < (a : Int) + (b : Int) := by omega
        have d3 : decide ((9223372036854775807 : Int) < (a : Int) + (b : Int)) = true := decide_eq_true (by omega)
        clear h h1 h2
        go_enter Tryd.func28, Tryd.ntmps28
        go_wp2
        go_ret
        exact ⟨ret_u64 Hf.out.symm, rfl⟩
  · have Hf := Lib.hid (show ((addN a b : Nat) : Int) = (a : Int) + (b : Int) by unfold addN; rw [if_neg h]; omega)
    have d1 : decide ((9223372036854775807 : Int) < (a : Int)) = false := decide_eq_false (by omega)
    have d2 : decide ((9223372036854775807 : Int) < (b : Int)) = false := decide_eq_false (by omega)
    have d3 : decide ((9223372036854775807 : Int) < (a : Int) + (b : Int)) = false := decide_eq_false (by omega)
    have h3 : (a : Int) + (b : Int) ≤ 9223372036854775807 := by omega
    clear h
    go_enter Tryd.func28, Tryd.ntmps28
    go_wp2
    go_ret
    exact ⟨ret_u64 Hf.out.symm, rfl⟩
end Go.Proofs.YthfpnkanccoolaaDoor
