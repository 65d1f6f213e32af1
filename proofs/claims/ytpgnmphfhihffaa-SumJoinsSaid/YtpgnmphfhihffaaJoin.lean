/- The walks of the code's multiply, zeros and Join. -/
import Derived.Test.YtpgnmphfhihffaaSum
import Derived.Test.YtpgnmphfhihffaaJoinM
namespace Go.Proofs.Ytpgnmphfhihffaa
open Go.RowKit Crc

theorem bit_and (a j : Nat) : a &&& 2 ^ j = if a.testBit j then 2 ^ j else 0 := by
  apply Nat.eq_of_testBit_eq
  intro i
  rw [Nat.testBit_and, Nat.testBit_two_pow]
  by_cases h : j = i
  · subst h
    cases ht : a.testBit j <;> simp
  · split
    · rw [Nat.testBit_two_pow]; simp [h]
    · simp [h]

/-- The bit that is looked at in round k. -/
def bitAt (k : Nat) : Nat := 2147483648 / 2 ^ k
theorem bitAt_lt (k : Nat) : bitAt k < 4294967296 := by
  unfold bitAt
  exact Nat.lt_of_le_of_lt (Nat.div_le_self _ _) (by omega)
theorem bitAt_succ (k : Nat) : bitAt (k + 1) = bitAt k / 2 := by
  unfold bitAt
  rw [Nat.pow_succ, Nat.div_div_eq_div_mul]
theorem bitAt_pow {k : Nat} (h : k ≤ 31) : bitAt k = 2 ^ (31 - k) := by
  unfold bitAt
  rw [show (2147483648 : Nat) = 2 ^ 31 from rfl, Nat.pow_div h (by omega)]
theorem bitAt_end : bitAt 32 = 0 := by decide

set_option maxHeartbeats 800000 in
theorem mul_any (a b : Nat) (w : World) (ha : a < 4294967296) (hb : b < 4294967296) :
    Calls Try.prog 24 #[.int .u32 (a : Int), .int .u32 (b : Int)] w fun e w' => e = .returned (.int .u32 (mul a b : Nat)) ∧ w = w' := by
  go_enter Try.func24, Try.ntmps24
  go_wp2
  go_loop [1, 5, 6] (fun x p t => ∃ k : Nat, k ≤ 32 ∧ x = .int .u32 (steps k b : Nat) ∧ p = .int .u32 (mulAcc a b k : Nat) ∧ t = .int .u32 (bitAt k : Nat)) (fun _ _ t => (intOf t).toNat)
  case atStart => exact ⟨0, Nat.zero_le _, rfl, rfl, rfl⟩
  case round =>
    obtain ⟨k, hk, rfl, rfl, rfl⟩ := hrel
    have hbk : steps k b < 4294967296 := steps_lt hb
    have hm : mulAcc a b k < 4294967296 := mulAcc_lt hb k
    have hs := Lib.hid (steps_succ' k b)
    by_cases hlt : k < 32
    · have hbit : 0 < bitAt k := by rw [bitAt_pow (by omega)]; exact Nat.two_pow_pos _
      have hbs := Lib.hid (bitAt_succ k)
      have hne : (((bitAt k : Nat) : Int) != 0) = true := by rw [bne_iff_ne]; omega
      have e1 : bits .and .u32 (a : Int) (bitAt k : Nat) = ((a &&& bitAt k : Nat) : Int) := u32_and_nat _ _ ha (bitAt_lt k)
      have e2 : bits .xor .u32 (mulAcc a b k : Nat) (steps k b : Nat) = ((mulAcc a b k ^^^ steps k b : Nat) : Int) := u32_xor_nat _ _ hm hbk
      by_cases ht : a.testBit (31 - k) = true
      · have ha1 : a &&& bitAt k = bitAt k := by rw [bitAt_pow (by omega), bit_and, if_pos ht]
        have hacc := Lib.hid (show mulAcc a b (k + 1) = mulAcc a b k ^^^ steps k b from if_pos ht)
        rw [ha1] at e1
        have ht := Lib.hid ht
        clear ha1
        rename_i ht0; clear ht0
        generalize bitAt k = t at *
        generalize mulAcc a b k = p at *
        generalize steps k b = x at *
        go_wp2_with ((with_reducible refine (shift_any _ _ hbk).mono ?_); rintro e w' ⟨rfl, rfl⟩)
        go_round
        case rel => exact ⟨k + 1, by omega, u32_eq hs.out.symm, u32_eq hacc.out.symm, u32_eq (a := t / 2) hbs.out.symm⟩
        case measure => simp [intOf]; omega
      · have ha1 : a &&& bitAt k = 0 := by rw [bitAt_pow (by omega), bit_and, if_neg ht]
        have hacc := Lib.hid (show mulAcc a b (k + 1) = mulAcc a b k from if_neg ht)
        rw [ha1] at e1
        have ht := Lib.hid ht
        clear ha1
        rename_i ht0; clear ht0
        have e1 : bits .and .u32 (a : Int) (bitAt k : Nat) = 0 := e1
        rename_i e10; clear e10
        generalize bitAt k = t at *
        generalize mulAcc a b k = p at *
        generalize steps k b = x at *
        go_wp2_with ((with_reducible refine (shift_any _ _ hbk).mono ?_); rintro e w' ⟨rfl, rfl⟩)
        go_round
        case rel => exact ⟨k + 1, by omega, u32_eq hs.out.symm, u32_eq hacc.out.symm, u32_eq (a := t / 2) hbs.out.symm⟩
        case measure => simp [intOf]; omega
    · obtain rfl : k = 32 := by omega
      have hz : (((bitAt 32 : Nat) : Int) != 0) = false := by rw [bitAt_end]; rfl
      go_wp2
      go_ret
      exact ⟨rfl, rfl⟩
def top : Nat := 2147483648
theorem top_lt : top < 4294967296 := by unfold top; omega

theorem mul_tops (p s : Nat) : mul (steps p top) (steps s top) = steps (p + s) top := by
  rw [steps_add, ← mul_steps (steps_lt top_lt) s]; rfl

theorem halves_odd {p s k m : Nat} (h : p + s * k = m) (hk : k % 2 = 1) : p + s + (s + s) * (k / 2) = m := by
  have e : k = 2 * (k / 2) + 1 := by omega
  rw [e] at h
  rw [← h, Nat.mul_add, Nat.mul_one, ← Nat.mul_assoc, Nat.mul_comm s 2, ← Nat.two_mul]
  omega
theorem halves_even {p s k m : Nat} (h : p + s * k = m) (hk : ¬ k % 2 = 1) : p + (s + s) * (k / 2) = m := by
  have e : k = 2 * (k / 2) := by omega
  rw [e] at h
  rw [← h, ← Nat.mul_assoc, Nat.mul_comm s 2, ← Nat.two_mul]

theorem i64_and1 (n : Int) : bits .and .i64 n 1 = n % 2 := by
  have h1 : (BitVec.ofInt 64 1).toNat = 2 ^ 1 - 1 := by decide
  have key : (BitVec.ofInt 64 n &&& BitVec.ofInt 64 1).toNat = (n % ((2 ^ 64 : Nat) : Int)).toNat % 2 ^ 1 := by
    rw [BitVec.toNat_and, BitVec.toNat_ofInt, h1, Nat.and_two_pow_sub_one_eq_mod]
  show IntKind.i64.wrap ((BitVec.ofInt 64 n &&& BitVec.ofInt 64 1).toNat : Nat) = n % 2
  rw [key, IntKind.wrap_i64]
  omega

set_option maxHeartbeats 800000 in
theorem zeros_any (n : Nat) (w : World) (hn : n ≤ 9223372036854775807) :
    Calls Try.prog 25 #[.int .i64 (n : Int)] w fun e w' => e = .returned (.int .u32 (steps (8 * n) top : Nat)) ∧ w = w' := by
  go_enter Try.func25, Try.ntmps25
  go_wp2
  go_loop [0, 3, 4] (fun m x y => ∃ k p s : Nat, p + s * k = 8 * n ∧ k ≤ n ∧ m = .int .i64 k ∧ x = .int .u32 (steps p top : Nat) ∧ y = .int .u32 (steps s top : Nat)) (fun m _ _ => (intOf m).toNat)
  case atStart => exact ⟨n, 0, 8, by omega, Nat.le_refl _, rfl, rfl, rfl⟩
  case round =>
    obtain ⟨k, p, s, hps, hk, rfl, rfl, rfl⟩ := hrel
    have hps := Lib.hid hps
    rename_i hps0; clear hps0
    have hp : steps p top < 4294967296 := steps_lt top_lt
    have hs : steps s top < 4294967296 := steps_lt top_lt
    have e1 := i64_and1 (k : Int)
    by_cases hlt : 0 < k
    · by_cases hodd : k % 2 = 1
      · have ht : (((k : Int) % 2) != 0) = true := by rw [bne_iff_ne]; omega
        go_wp2_with fail
        refine (mul_any _ _ _ hp hs).mono ?_
        rintro e w' ⟨rfl, rfl⟩
        go_wp2_with fail
        refine (mul_any _ _ _ hs hs).mono ?_
        rintro e w' ⟨rfl, rfl⟩
        rw [mul_tops, mul_tops]
        go_wp2
        go_round
        case rel => exact ⟨k / 2, p + s, s + s, halves_odd hps.out hodd, by omega, by go_num, rfl, rfl⟩
        case measure => simp [intOf]; omega
      · have ht : (((k : Int) % 2) != 0) = false := by rw [bne_eq_false_iff_eq]; omega
        go_wp2_with fail
        refine (mul_any _ _ _ hs hs).mono ?_
        rintro e w' ⟨rfl, rfl⟩
        rw [mul_tops]
        go_wp2
        go_round
        case rel => exact ⟨k / 2, p, s + s, halves_even hps.out hodd, by omega, by go_num, rfl, rfl⟩
        case measure => simp [intOf]; omega
    · obtain rfl : k = 0 := by omega
      have hpe : p = 8 * n := by have := hps.out; omega
      subst hpe
      go_wp2
      go_ret
      exact ⟨rfl, rfl⟩

theorem join_any (a b n : Nat) (w : World) (ha : a < 4294967296) (hb : b < 4294967296) (hn : n ≤ 9223372036854775807) :
    Calls Try.prog 15 #[.int .u32 (a : Int), .int .u32 (b : Int), .int .i64 (n : Int)] w fun e w' => e = .returned (.int .u32 (steps (8 * n) a ^^^ b : Nat)) ∧ w = w' := by
  have hz : steps (8 * n) top < 4294967296 := steps_lt top_lt
  have hsa : steps (8 * n) a < 4294967296 := steps_lt ha
  have e1 := u32_xor_nat _ _ hsa hb
  have e2 : mul a (steps (8 * n) top) = steps (8 * n) a := mul_steps ha _
  have e2 := Lib.hid e2
  rename_i e20; clear e20
  go_enter Try.func15, Try.ntmps15
  go_wp2_with fail
  refine (zeros_any n w hn).mono ?_
  rintro e w' ⟨rfl, rfl⟩
  go_wp2_with fail
  refine (mul_any a _ w ha hz).mono ?_
  rintro e w' ⟨rfl, rfl⟩
  rw [e2.out]
  go_wp2
  go_ret
  exact ⟨rfl, rfl⟩
end Go.Proofs.Ytpgnmphfhihffaa
