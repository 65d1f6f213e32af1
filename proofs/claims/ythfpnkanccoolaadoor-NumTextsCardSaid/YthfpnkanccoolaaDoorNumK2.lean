/- The walks of the code's Compare, Add and Scale. -/
import Derived.Test.YthfpnkanccoolaaDoorNumK
namespace Go.Proofs.YthfpnkanccoolaaDoor
open Go.RowKit Fl

theorem cisnan_any (x : Nat) (w : World) :
    Calls Tryd.prog 40 #[.int .u64 (x : Int)] w fun e w' => e = .returned (.bool false) ∧ w = w' := by
  have h : ((x : Int) != (x : Int)) = false := bne_self_eq_false _
  go_enter Tryd.func40, Tryd.ntmps40
  go_wp2
  go_ret
  exact ⟨rfl, rfl⟩

theorem cmp_any (x y : Nat) (w : World) :
    Calls Tryd.prog 33 #[.int .u64 (x : Int), .int .u64 (y : Int)] w fun e w' => e = .returned (.int .i64 (cmpR x y)) ∧ w = w' := by
  have H1 := Lib.hid (cisnan_any x w)
  have H2 := Lib.hid (cisnan_any y w)
  by_cases h1 : x < y
  · have Hf := Lib.hid (show cmpR x y = -1 from if_pos h1)
    go_enter Tryd.func33, Tryd.ntmps33
    go_wp2_with fail
    refine H1.out.mono ?_
    rintro e w' ⟨rfl, rfl⟩
    go_wp2_with fail
    refine H2.out.mono ?_
    rintro e w' ⟨rfl, rfl⟩
    go_wp2
    go_ret
    exact ⟨ret_i64 Hf.out.symm, rfl⟩
  · by_cases h2 : y < x
    · have Hf := Lib.hid (show cmpR x y = 1 by unfold cmpR; rw [if_neg h1, if_pos h2])
      go_enter Tryd.func33, Tryd.ntmps33
      go_wp2_with fail
      refine H1.out.mono ?_
      rintro e w' ⟨rfl, rfl⟩
      go_wp2_with fail
      refine H2.out.mono ?_
      rintro e w' ⟨rfl, rfl⟩
      go_wp2
      go_ret
      exact ⟨ret_i64 Hf.out.symm, rfl⟩
    · have Hf := Lib.hid (show cmpR x y = 0 by unfold cmpR; rw [if_neg h1, if_neg h2])
      go_enter Tryd.func33, Tryd.ntmps33
      go_wp2_with fail
      refine H1.out.mono ?_
      rintro e w' ⟨rfl, rfl⟩
      go_wp2_with fail
      refine H2.out.mono ?_
      rintro e w' ⟨rfl, rfl⟩
      go_wp2
      go_ret
      exact ⟨ret_i64 Hf.out.symm, rfl⟩

set_option maxRecDepth 100000 in
theorem compare_any (a b : Nat) (w : World) (ha : a < 18446744073709551616) (hb : b < 18446744073709551616) :
    Calls Tryd.prog 17 #[.float .f64 a, .float .f64 b] w fun e w' => e = .returned (.int .i64 (cmpB a b)) ∧ w = w' := by
  have H1 := Lib.hid (rank_any a w ha)
  have H2 := Lib.hid (rank_any b w hb)
  have H3 := Lib.hid (cmp_any (rankB (bitsB a)) (rankB (bitsB b)) w)
  unfold cmpB
  clear ha hb
  generalize rankB (bitsB a) = x at *
  generalize rankB (bitsB b) = y at *
  go_enter Tryd.func17, Tryd.ntmps17
  go_wp2_with fail
  refine H1.out.mono ?_
  rintro e w' ⟨rfl, rfl⟩
  go_wp2_with fail
  refine H2.out.mono ?_
  rintro e w' ⟨rfl, rfl⟩
  go_wp2_with fail
  refine H3.out.mono ?_
  rintro e w' ⟨rfl, rfl⟩
  go_wp2
  go_ret
  exact ⟨rfl, rfl⟩

set_option maxRecDepth 100000 in
theorem add_any (a b : Nat) (w : World) (ha : a < 18446744073709551616) (hb : b < 18446744073709551616) :
    Calls Tryd.prog 26 #[.int .u64 (a : Int), .int .u64 (b : Int)] w fun e w' => e = .returned (.int .u64 (addN a b : Nat)) ∧ w = w' := by
  by_cases h : 9223372036854775807 < a + b
  · have Hf := Lib.hid (show ((addN a b : Nat) : Int) = 9223372036854775807 by unfold addN; rw [if_pos h]; rfl)
    by_cases h1 : 9223372036854775807 < a
    · have h1' : (9223372036854775807 : Int) < (a : Int) := by omega
      have d1 : decide ((9223372036854775807 : Int) < (a : Int)) = true := decide_eq_true (by omega)
      clear h h1
      go_enter Tryd.func26, Tryd.ntmps26
      go_wp2
      go_ret
      exact ⟨ret_u64 Hf.out.symm, rfl⟩
    · have h1' : (a : Int) ≤ 9223372036854775807 := by omega
      have d1 : decide ((9223372036854775807 : Int) < (a : Int)) = false := decide_eq_false (by omega)
      have h2' : (9223372036854775807 : Int) - (a : Int) < (b : Int) := by omega
      have d2 : decide ((9223372036854775807 : Int) - (a : Int) < (b : Int)) = true := decide_eq_true (by omega)
      clear h h1
      go_enter Tryd.func26, Tryd.ntmps26
      go_wp2
      go_ret
      exact ⟨ret_u64 Hf.out.symm, rfl⟩
  · have Hf := Lib.hid (show ((addN a b : Nat) : Int) = (a : Int) + (b : Int) by unfold addN; rw [if_neg h]; omega)
    have d1 : decide ((9223372036854775807 : Int) < (a : Int)) = false := decide_eq_false (by omega)
    have d2 : decide ((9223372036854775807 : Int) - (a : Int) < (b : Int)) = false := decide_eq_false (by omega)
    have h3 : (a : Int) + (b : Int) ≤ 9223372036854775807 := by omega
    clear h
    go_enter Tryd.func26, Tryd.ntmps26
    go_wp2
    go_ret
    exact ⟨ret_u64 Hf.out.symm, rfl⟩
end Go.Proofs.YthfpnkanccoolaaDoor
