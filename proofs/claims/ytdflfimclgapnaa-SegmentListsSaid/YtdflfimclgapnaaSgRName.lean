/- The walks of the reference's Name and Number of segments. -/
import Derived.Test.YtdflfimclgapnaaSgM
import Derived.Test.YtdflfimclgapnaaAppend
namespace Go.Proofs.Ytdflfimclgapnaa
open Go.RowKit

theorem sg_ten_all : ∀ d : Fin 10, (ByteArray.mk #[48, 49, 50, 51, 52, 53, 54, 55, 56, 57]).extract d.val (d.val + 1) = str [48 + d.val] := by decide +kernel
theorem sg_ten_at {d : Nat} (h : d < 10) : (ByteArray.mk #[48, 49, 50, 51, 52, 53, 54, 55, 56, 57]).extract d (d + 1) = str [48 + d] := sg_ten_all ⟨d, h⟩

theorem digN_front : ∀ k n, digN (k + 1) n = (48 + n / 10 ^ k % 10) :: digN k n
  | 0, n => by simp [digN]
  | k + 1, n => by
    have e : n / 10 / 10 ^ k = n / 10 ^ (k + 1) := by rw [Nat.div_div_eq_div_mul, Nat.pow_succ, Nat.mul_comm]
    show digN (k + 1) (n / 10) ++ [48 + n % 10] = _
    rw [digN_front k (n / 10), e, List.cons_append]; rfl

theorem tmod_ten (m : Nat) : (m : Int).tmod 10 = ((m % 10 : Nat) : Int) := by rw [Int.tmod_eq_emod_of_nonneg (by omega)]; omega
theorem tdiv_ten (m : Nat) : (m : Int).tdiv 10 = ((m / 10 : Nat) : Int) := by rw [Int.tdiv_eq_ediv_of_nonneg (by omega)]; omega

def NmRel (N : Nat) (x s i : Value) : Prop := ∃ k : Nat, k ≤ 8 ∧ x = .int .i64 ((N / 10 ^ k : Nat) : Int) ∧ s = .string (str (digN k N)) ∧ i = .int .i64 (k : Int)

/-- What Name answers. -/
def NameEnd (n : Int) (e : Ending) : Prop := (1 ≤ n ∧ n ≤ 99999999 ∧ e = .returned (.tuple #[.string (str (nameL n.toNat)), .bool true])) ∨ (¬ (1 ≤ n ∧ n ≤ 99999999) ∧ e = .returned (.tuple #[.string (str []), .bool false]))

set_option maxRecDepth 100000 in
set_option maxHeartbeats 800000 in
theorem rsegname_yes (N : Nat) (w : World) (h1 : 1 ≤ N) (hN : N ≤ 99999999) :
    Calls Try.prog 8 #[.int .i64 (N : Int)] w fun e w' => e = .returned (.tuple #[.string (str (nameL N)), .bool true]) ∧ w = w' := by
  have hlo : ¬ ((N : Int) < 1) := by omega
  have hhi : ¬ ((99999999 : Int) < (N : Int)) := by omega
  have Hst := Lib.hid (show NmRel N (.int .i64 (N : Int)) (.string ⟨#[]⟩) (.int .i64 0) from ⟨0, by omega, by simp, rfl, rfl⟩)
  go_enter Try.func8, Try.ntmps8
  go_wp2
  clear hlo hhi
  go_loop [0, 4, 5, 6] (fun x s i _ => NmRel N x s i) (fun _ _ i _ => 8 - (intOf i).toNat)
  case atStart => exact Hst.out
  case round =>
    obtain ⟨k, hk, rfl, rfl, rfl⟩ := hrel
    by_cases h8 : k < 8
    · have hm : N / 10 ^ k ≤ 99999999 := Nat.le_trans (Nat.div_le_self _ _) hN
      have hnext : N / 10 ^ k / 10 = N / 10 ^ (k + 1) := by rw [Nat.div_div_eq_div_mul, Nat.pow_succ]
      have hcat := str_append [48 + N / 10 ^ k % 10] (digN k N)
      rw [show [48 + N / 10 ^ k % 10] ++ digN k N = digN (k + 1) N from (digN_front k N).symm] at hcat
      have hd : N / 10 ^ k % 10 < 10 := Nat.mod_lt _ (by omega)
      have hex := sg_ten_at hd
      have hmod : ((N / 10 ^ k : Nat) : Int).tmod 10 = ((N / 10 ^ k % 10 : Nat) : Int) := tmod_ten _
      have hdiv : ((N / 10 ^ k : Nat) : Int).tdiv 10 = ((N / 10 ^ (k + 1) : Nat) : Int) := by rw [tdiv_ten, hnext]
      have hsz : (str (digN k N)).size ≤ 1000 := by rw [str_size, digN_len]; omega
      have hsz1 : (str [48 + N / 10 ^ k % 10]).size = 1 := by rw [str_size]; rfl
      have Hnext := Lib.hid (show NmRel N (.int .i64 ((N / 10 ^ (k + 1) : Nat) : Int)) (.string (str (digN (k + 1) N))) (.int .i64 ((k + 1 : Nat) : Int)) from ⟨k + 1, by omega, rfl, rfl, rfl⟩)
      have hm2 : N / 10 ^ (k + 1) ≤ 99999999 := Nat.le_trans (Nat.div_le_self _ _) hN
      clear hnext
      generalize str (digN (k + 1) N) = S at *
      generalize str (digN k N) = s at *
      generalize N / 10 ^ k % 10 = d at *
      generalize N / 10 ^ (k + 1) = m2 at *
      generalize N / 10 ^ k = m at *
      generalize str [48 + d] = s1 at *
      go_wp2
      go_round
      case rel => exact Hnext.out
      case measure => simp [intOf]; omega
    · obtain rfl : k = 8 := by omega
      have hcat := str_append logL (digN 8 N)
      rw [show logL ++ digN 8 N = nameL N from rfl] at hcat
      have hsz : (str (digN 8 N)).size ≤ 1000 := by rw [str_size, digN_len]; omega
      have hL : str logL = ⟨#[108, 111, 103, 45]⟩ := rfl
      rw [hL] at hcat
      generalize hS : str (nameL N) = S at *
      have HS := Lib.hid hS
      clear hS
      generalize str (digN 8 N) = s at *
      go_wp2
      go_ret2
      exact ⟨by rw [HS.out]; rfl, rfl⟩

theorem rsegname_no (n : Int) (w : World) (h : ¬ (1 ≤ n ∧ n ≤ 99999999)) :
    Calls Try.prog 8 #[.int .i64 n] w fun e w' => e = .returned (.tuple #[.string (str []), .bool false]) ∧ w = w' := by
  have he : str [] = ⟨#[]⟩ := rfl
  rw [he]
  by_cases h1 : n < 1
  · clear h
    go_enter Try.func8, Try.ntmps8
    go_wp2
    go_ret2
    exact ⟨rfl, rfl⟩
  · have h2 : 99999999 < n := by omega
    clear h
    go_enter Try.func8, Try.ntmps8
    go_wp2
    go_ret2
    exact ⟨rfl, rfl⟩

theorem rsegname_any (n : Int) (w : World) : Calls Try.prog 8 #[.int .i64 n] w fun e w' => NameEnd n e ∧ w = w' := by
  by_cases h : 1 ≤ n ∧ n ≤ 99999999
  · obtain ⟨N, rfl⟩ : ∃ N : Nat, n = (N : Int) := ⟨n.toNat, by omega⟩
    refine (rsegname_yes N w (by omega) (by omega)).mono ?_
    rintro e w' ⟨rfl, rfl⟩
    exact ⟨.inl ⟨h.1, h.2, rfl⟩, rfl⟩
  · refine (rsegname_no n w h).mono ?_
    rintro e w' ⟨rfl, rfl⟩
    exact ⟨.inr ⟨h, rfl⟩, rfl⟩
end Go.Proofs.Ytdflfimclgapnaa
