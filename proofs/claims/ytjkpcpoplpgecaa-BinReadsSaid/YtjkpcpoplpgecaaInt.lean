/- The walks of Int, of the code and of the reference, and of what they call. -/
import Derived.Test.YtjkpcpoplpgecaaUint
namespace Go.Proofs.Ytjkpcpoplpgecaa
open Go.RowKit

theorem ret_u64 {a b : Int} (h : a = b) : Ending.returned (.int .u64 a) = Ending.returned (.int .u64 b) := by rw [h]
theorem ret_i64 {a b : Int} (h : a = b) : Ending.returned (.int .i64 a) = Ending.returned (.int .i64 b) := by rw [h]

/-- All bits inverted, of 64 without a sign. -/
theorem not_u64 (r : Nat) (h : r < 18446744073709551616) : bits .xor .u64 IntKind.u64.max (r : Int) = ((18446744073709551615 - r : Nat) : Int) := by
  have e : IntKind.u64.max = ((18446744073709551615 : Nat) : Int) := rfl
  rw [e, u64_xor_nat 18446744073709551615 r (by omega) h]
  congr 1
  have h2 := congrArg BitVec.toNat (BitVec.allOnes_xor (x := BitVec.ofNat 64 r))
  rw [BitVec.toNat_xor, BitVec.toNat_not, BitVec.toNat_allOnes, BitVec.toNat_ofNat, Nat.mod_eq_of_lt (by omega)] at h2
  exact h2

/-- All bits inverted, of 64 with a sign. -/
theorem not_i64 (z : Nat) (h : z < 9223372036854775808) : bits .xor .i64 (-1) (z : Int) = -(z : Int) - 1 := by
  show IntKind.i64.wrap ((BitVec.ofInt 64 (-1) ^^^ BitVec.ofInt 64 (z : Int)).toNat : Int) = _
  have e1 : BitVec.ofInt 64 (-1) = BitVec.allOnes 64 := by decide
  have e2 : (BitVec.ofInt 64 (z : Int)).toNat = z := by
    rw [BitVec.ofInt_natCast, BitVec.toNat_ofNat]; exact Nat.mod_eq_of_lt (by omega)
  rw [e1, BitVec.allOnes_xor, BitVec.toNat_not, e2, IntKind.wrap_i64]
  omega

set_option maxRecDepth 100000 in
theorem fold_any (y : Int) (w : World) (h1 : -9223372036854775808 ≤ y) (h2 : y ≤ 9223372036854775807) :
    Calls Try.prog 33 #[.int .i64 y] w fun e w' => e = .returned (.int .u64 (foldL y : Nat)) ∧ w = w' := by
  by_cases h : 0 ≤ y
  · go_enter Try.func33, Try.ntmps33
    go_wp2
    go_ret
    refine ⟨ret_u64 ?_, rfl⟩
    unfold foldL
    rw [if_pos h]
    omega
  · have h' : y < 0 := by omega
    go_enter Try.func33, Try.ntmps33
    go_wp2
    go_ret
    refine ⟨ret_u64 ?_, rfl⟩
    have e : IntKind.u64.wrap (IntKind.u64.wrap y * 2) = ((18446744073709551616 + 2 * y).toNat : Int) := by
      rw [IntKind.wrap_u64, IntKind.wrap_u64]
      omega
    rw [e, not_u64 _ (by omega)]
    unfold foldL
    rw [if_neg (show ¬ 0 ≤ y by omega)]
    omega

set_option maxRecDepth 100000 in
theorem unfold_any (u : Nat) (w : World) (h1 : u < 18446744073709551616) :
    Calls Try.prog 38 #[.int .u64 (u : Int)] w fun e w' => e = .returned (.int .i64 (unfoldL u)) ∧ w = w' := by
  by_cases h : u % 2 = 1
  · have hq : ((u : Int) % 2 == 1) = true := beq_iff_eq.2 (by omega)
    go_enter Try.func38, Try.ntmps38
    go_wp2
    go_ret
    refine ⟨ret_i64 ?_, rfl⟩
    have e : ((u : Int) / 2) = ((u / 2 : Nat) : Int) := by omega
    rw [e, not_i64 _ (by omega)]
    unfold unfoldL
    rw [if_neg (by omega)]
  · have hq : ((u : Int) % 2 == 1) = false := beq_eq_false_iff_ne.2 (by omega)
    go_enter Try.func38, Try.ntmps38
    go_wp2
    go_ret
    refine ⟨ret_i64 ?_, rfl⟩
    unfold unfoldL
    rw [if_pos (by omega)]
    omega

theorem int_any (y : Int) (w : World) (h1 : -9223372036854775808 ≤ y) (h2 : y ≤ 9223372036854775807) :
    Calls Try.prog 12 #[.int .i64 y] w (NewBytes w (form (foldL y))) := by
  have hl := fold_lt h1 h2
  go_enter Try.func12, Try.ntmps12
  go_wp2_with fail
  refine (fold_any y w h1 h2).mono ?_
  rintro e w1 ⟨rfl, rfl⟩
  go_wp2_with fail
  refine (uint_any _ w hl).mono ?_
  rintro e w1 ⟨v, rfl, hv⟩
  go_wp2
  go_ret
  exact ⟨v, rfl, hv⟩

set_option maxRecDepth 100000 in
theorem rint_any (y : Int) (w : World) (h1 : -9223372036854775808 ≤ y) (h2 : y ≤ 9223372036854775807) :
    Calls Try.prog 13 #[.int .i64 y] w (NewBytes w (form (foldL y))) := by
  have hl := fold_lt h1 h2
  by_cases h : 0 ≤ y
  · obtain ⟨z, rfl⟩ := Int.eq_ofNat_of_zero_le h
    have Hf := Lib.hid (show foldL (z : Int) = 2 * z by unfold foldL; rw [if_pos h]; omega)
    have hz : z < 9223372036854775808 := by omega
    have e := ruint_any (2 * z) w (by omega)
    rw [show ((2 * z : Nat) : Int) = (z : Int) * 2 by omega] at e
    have E := Lib.hid e
    clear e hl
    rw [Hf.out]
    go_enter Try.func13, Try.ntmps13
    go_wp2_with fail
    refine E.out.mono ?_
    rintro e w1 ⟨v, rfl, hv⟩
    go_wp2
    go_ret
    exact ⟨v, rfl, hv⟩
  · have h' : y < 0 := by omega
    have Hf := Lib.hid (show ((foldL y : Nat) : Int) = -(y + 1) * 2 + 1 by unfold foldL; rw [if_neg h]; omega)
    have e := ruint_any (foldL y) w hl
    rw [Hf.out] at e
    have E := Lib.hid e
    clear e
    go_enter Try.func13, Try.ntmps13
    go_wp2_with fail
    refine E.out.mono ?_
    rintro e w1 ⟨v, rfl, hv⟩
    go_wp2
    go_ret
    exact ⟨v, rfl, hv⟩
end Go.Proofs.Ytjkpcpoplpgecaa
