/- The place of a deadline: the walks of coarse and place. -/
import Derived.Test.YthidinaflaogfaaWhW
import Derived.BigQuiet
namespace Go.Proofs.Ythidinaflaogfaa
open Go.RowKit

theorem fits_coarse (n a b : Nat) : fitsB (n % 4) (coarseN n a) (coarseN n b) = decide (fitW n a b) := by
  unfold fitsB
  rw [turn_coarse, turn_coarse, decide_eq_decide]
  exact Iff.rfl

set_option maxRecDepth 100000 in
theorem coarse_any (n t : Nat) (hn : n < 11) (_ : t < 18446744073709551616) (w : World) :
    Calls Try.prog 40 #[.int .i64 (n : Int), .int .u64 (t : Int)] w (Reads (.int .u64 (coarseN n t : Int)) w) := by
  obtain ⟨S, hS⟩ : ∃ S, S = coarseN n t := ⟨_, rfl⟩
  rw [← hS]
  unfold coarseN at hS
  obtain rfl | rfl | rfl | rfl | rfl | rfl | rfl | rfl | rfl | rfl | rfl : n = 0 ∨ n = 1 ∨ n = 2 ∨ n = 3 ∨ n = 4 ∨ n = 5 ∨ n = 6 ∨ n = 7 ∨ n = 8 ∨ n = 9 ∨ n = 10 := by omega
  all_goals
    have HS := Lib.hid hS
    clear hS
    go_enter Try.func40, Try.ntmps40
    go_wp2
    go_ret
    exact ⟨ret_u64 (by have := HS.out; omega), 0, rfl⟩

set_option maxRecDepth 100000 in
set_option maxHeartbeats 1600000 in
theorem place_any {d now at' : Nat} {p : Nat → Nat} {w : World} (hc : w.cell? ⟨d, 0, none⟩ = some (.int .u64 (now : Int))) (hp : ∀ i, i < 11 → w.cell? ⟨d, 1 + i, none⟩ = some (.pointer (some ⟨p i, 0, none⟩))) (hl : ∀ i, i < 11 → Low w (p i) (i % 4))
    (hn : now < 18446744073709551616) (ha : at' < 18446744073709551616) :
    Calls Try.prog 34 #[.pointer (some ⟨d, 0, none⟩), .int .u64 (at' : Int)] w fun r w' => ∃ n q, n < 11 ∧ IsPl now (max at' now) n ∧ r = .returned (.tuple #[.pointer (some ⟨p n, 0, none⟩), .int .u64 (coarseN n (max at' now) : Int)]) ∧ w' = w.drewN q := by
  obtain ⟨m, hm⟩ : ∃ m, m = max at' now := ⟨_, rfl⟩
  have hmi : max (at' : Int) (now : Int) = (m : Int) := by rw [hm]; omega
  have hmb : m < 18446744073709551616 := by omega
  rw [← hm]
  have HC := Lib.hid (fun n t hn ht w => coarse_any n t hn ht w)
  have HL := Lib.hid hl
  have HP := Lib.hid hp
  have HN := Lib.hid (And.intro hn hmb)
  clear hm hl hp hn ha hmb
  go_enter Try.func34, Try.ntmps34
  go_wp2
  go_loopw [6] (fun i wr => ∃ j q : Nat, j ≤ 10 ∧ i = .int .i64 (j : Int) ∧ RowKit.Hid (∀ k, k < j → ¬ fitW k now m) ∧ wr = w.drewN q) (fun i _ => 10 - (intOf i).toNat)
  case atStart => exact ⟨0, 0, by decide, rfl, Lib.hid (fun k hk => absurd hk (by omega)), rfl⟩
  case round =>
    obtain ⟨j, q', hj, rfl, Hno, hwr⟩ := hrel
    have hj11 : (j : Int) < 11 := by omega
    have q0 : wr.cell? ⟨d, 1 + j, none⟩ = some (.pointer (some ⟨p j, 0, none⟩)) := by rw [hwr]; exact HP.out j (by omega)
    have q1 : wr.cell? ⟨d, 0, none⟩ = some (.int .u64 (now : Int)) := by rw [hwr]; exact hc
    have Hwr := Lib.hid hwr
    have HF := Lib.hid (fun q => fits_any (p j) (j % 4) (coarseN j now) (coarseN j m) (wr.drewN q) (by omega) (Nat.lt_of_le_of_lt (coarse_le _ _) HN.out.1) (Nat.lt_of_le_of_lt (coarse_le _ _) HN.out.2) (by rw [Hwr.out]; exact HL.out j (by omega)))
    have HA := Lib.hid (show ∀ W, Calls Try.prog 40 #[.int .i64 (j : Int), .int .u64 (now : Int)] W fun r w' => r = .returned (.int .u64 (coarseN j now : Int)) ∧ ∃ q, w' = W.drewN q from fun W => HC.out j now (by omega) HN.out.1 W)
    have HB := Lib.hid (show ∀ W, Calls Try.prog 40 #[.int .i64 (j : Int), .int .u64 (m : Int)] W fun r w' => r = .returned (.int .u64 (coarseN j m : Int)) ∧ ∃ q, w' = W.drewN q from fun W => HC.out j m (by omega) HN.out.2 W)
    rw [fits_coarse] at HF
    clear hwr
    by_cases hf : fitW j now m
    · rw [decide_eq_true hf] at HF
      have Hf := Lib.hid (show IsPl now m j from ⟨hf, Hno.out⟩)
      clear hf
      go_wp2_with fail
      go_quiet (first | (go_at_call 40; with_reducible exact Calls.quiet_of (HA.out _)) | (go_at_call 40; with_reducible exact Calls.quiet_of (HB.out _)) | (go_at_call 42; exact Calls.quiet_of (HF.out _)))
      obtain ⟨wq, hwq⟩ : ∃ wq, wq = wr.drewN nq := ⟨_, rfl⟩
      rw [← hwq]
      have q2 : wq.cell? ⟨d, 1 + j, none⟩ = some (.pointer (some ⟨p j, 0, none⟩)) := by rw [hwq]; exact q0
      have Hwq := Lib.hid hwq
      clear hwq q0 q1
      go_wp2_with fail
      go_quiet (first | (go_at_call 40; with_reducible exact Calls.quiet_of (HB.out _)))
      go_wp2
      refine bodyPost_ret (results_tmp2 rfl _ _ _) rfl ?_
      exact ⟨j, _, by omega, Hf.out, rfl, by rw [Hwq.out, Hwr.out, World.drewN_drewN, World.drewN_drewN]⟩
    · rw [decide_eq_false hf] at HF
      have hlt : j < 10 := by
        rcases Nat.lt_or_ge j 10 with h | h
        · exact h
        · obtain rfl : j = 10 := by omega
          exact absurd (fitW_ten HN.out.1 HN.out.2) hf
      have Hn2 := Lib.hid (show ∀ k, k < j + 1 → ¬ fitW k now m from fun k hk => by
        by_cases e : k = j
        · rw [e]; exact hf
        · exact Hno.out k (by omega))
      clear hf
      go_wp2_with fail
      go_quiet (first | (go_at_call 40; with_reducible exact Calls.quiet_of (HA.out _)) | (go_at_call 40; with_reducible exact Calls.quiet_of (HB.out _)) | (go_at_call 42; exact Calls.quiet_of (HF.out _)))
      go_wp2
      go_roundw
      case rel => exact ⟨j + 1, q' + nq, by omega, by go_num, Hn2, by rw [← World.drewN_drewN, ← Hwr.out]⟩
      case measure => simp [intOf]; omega
end Go.Proofs.Ythidinaflaogfaa
