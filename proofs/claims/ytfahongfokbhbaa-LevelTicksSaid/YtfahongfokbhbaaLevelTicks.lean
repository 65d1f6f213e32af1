/- The law LevelTicks walked. -/
import Derived.Test.YtfahongfokbhbaaLvD
namespace Go.Proofs.Ytfahongfokbhbaa
open Go.RowKit

theorem start_self (k t : Nat) (hk : k < 4) : startN k t (slotN k t : Int) ≤ t ∧ slotN k (startN k t (slotN k t : Int)) = slotN k t ∧ fitsB k (startN k t (slotN k t : Int)) t = true := by
  have hs := slotN_lt k t
  have e : startN k t (slotN k t : Int) = t / 64 ^ (k + 1) * 64 ^ (k + 1) + t / 64 ^ k % 64 * 64 ^ k := by
    unfold startN
    rw [if_pos ((isSlotB_iff _).2 ⟨by omega, by omega⟩), Int.toNat_natCast]
    rfl
  rw [e]
  unfold slotN fitsB turnN
  rw [decide_eq_true_eq]
  obtain rfl | rfl | rfl | rfl : k = 0 ∨ k = 1 ∨ k = 2 ∨ k = 3 := by omega
  all_goals (simp only [Nat.reduceAdd, Nat.reducePow]; omega)

theorem startN_lt (k now : Nat) (s : Int) (hk : k < 4) (hn : now < 18446744073709551616) : startN k now s < 18446744073709551616 := by
  unfold startN
  split
  · rename_i h
    rw [isSlotB_iff] at h
    exact (start_lt k now s.toNat hk hn (by omega)).2.2
  · decide

set_option maxRecDepth 100000 in
set_option maxHeartbeats 3200000 in
theorem levelTicks_any (n now t : Nat) (w : World) (hn : n < 256) (h1 : now < 18446744073709551616) (h2 : t < 18446744073709551616) :
    Calls Try.prog 3 #[.int .u8 (n : Int), .int .u64 (now : Int), .int .u64 (t : Int)] w fun r w' => r = .returned (.bool true) ∧ Below w.heap.size w w' := by
  have hk : n % 4 < 4 := Nat.mod_lt _ (by decide)
  have e4 : (n : Int) % 4 = ((n % 4 : Nat) : Int) := rfl
  generalize n % 4 = k at *
  have HN := Lib.hid (new_any k w hk)
  have hL := low_new k w nil64
  have Hb := Lib.hid ((Below.refl w.heap.size w).alloc (Nat.le_refl _) (.cells (lvC k nil64) 60))
  generalize hw : w.alloc (.cells (lvC k nil64) 60) = w1 at *
  obtain ⟨g1, g2, g3⟩ := start_self k t hk
  have hS0 := startN_lt k t (slotN k t : Int) hk h2
  have HS := Lib.hid (fun t ht q => slot_any w.heap.size k t (w1.drewN q) hk ht hL)
  have HF := Lib.hid (fun a b ha hb q => fits_any w.heap.size k a b (w1.drewN q) hk ha hb hL)
  have HT := Lib.hid (fun now s hn q => start_any w.heap.size k now s (w1.drewN q) hk hn hL)
  have HRS := Lib.hid (fun t ht w => rslot_any k t w hk ht)
  have HRF := Lib.hid (fun a b ha hb w => rfits_any k a b w hk ha hb)
  have HRT := Lib.hid (fun now s hn w => rstart_any k now s w hk hn)
  have HA := Lib.hid (fun w => alive_any w)
  have HS2 := Lib.hid (fun t ht W h => slot_any w.heap.size k t W hk ht h)
  have HF2 := Lib.hid (fun a b ha hb W h => fits_any w.heap.size k a b W hk ha hb h)
  have HL := Lib.hid hL
  have HS0 := Lib.hid hS0
  obtain ⟨sl, hsl⟩ : ∃ sl, sl = slotN k t := ⟨_, rfl⟩
  rw [← hsl] at g1 g2 g3 hS0
  have Hsl := Lib.hid hsl.symm
  obtain ⟨T, hT⟩ : ∃ T, T = startN k t (sl : Int) := ⟨_, rfl⟩
  rw [← hT] at g1 g2 g3 hS0
  have HTT := Lib.hid hT.symm
  have Hg2 := Lib.hid g2
  have Hg3 := Lib.hid g3
  have hadd : ∀ a b, (w1.drewN a).drewN b = w1.drewN (a + b) := fun a b => by simp [World.drewN, Nat.add_assoc]
  have Hadd := Lib.hid hadd
  have H1 := Lib.hid h1
  have H2 := Lib.hid h2
  clear hL hw hk g2 g3 hsl hT hadd
  generalize hd : w.heap.size = d at *
  have Hd := Lib.hid hd
  clear hd
  go_enter Try.func3, Try.ntmps3
  go_wp2_with fail
  refine HN.out.mono ?_
  rintro r w2 ⟨rfl, rfl⟩
  go_wp2_with fail
  refine (HS.out t H2.out 0).mono ?_
  rintro r w3 ⟨rfl, rfl⟩
  rw [Hsl.out]
  go_wp2_with fail
  refine (HRS.out t H2.out _).mono ?_
  rintro r w3 ⟨rfl, q1, rfl⟩
  rw [Hsl.out, Hadd.out]
  go_wp2_with fail
  refine (HF.out now t H1.out H2.out _).mono ?_
  rintro r w3 ⟨rfl, q2, rfl⟩
  rw [Hadd.out]
  go_wp2_with fail
  refine (HRF.out now t H1.out H2.out _).mono ?_
  rintro r w3 ⟨rfl, q3, rfl⟩
  rw [Hadd.out]
  go_wp2_with fail
  go_loopw [10] (fun i wr => ∃ j : Int, -1 ≤ j ∧ j ≤ 65 ∧ i = .int .i64 j ∧ ∃ q, wr = w2.drewN q) (fun i _ => (65 - intOf i).toNat)
  case atStart => exact ⟨-1, by decide, by decide, rfl, _, rfl⟩
  case round =>
    obtain ⟨j, hj0, hj1, rfl, q, rfl⟩ := hrel
    by_cases hlt : j ≤ 64
    · go_wp2_with fail
      refine (HT.out now j H1.out q).mono ?_
      rintro r w4 ⟨rfl, q4, rfl⟩
      rw [Hadd.out]
      go_wp2_with fail
      refine (HRT.out now j H1.out _).mono ?_
      rintro r w4 ⟨rfl, q5, rfl⟩
      rw [Hadd.out]
      go_wp2
      go_roundw
      case rel => exact ⟨j + 1, by omega, by omega, by go_num, _, rfl⟩
      case measure => simp [intOf]; omega
    · go_wp2_with fail
      refine (HT.out t (sl : Int) H2.out q).mono ?_
      rintro r w4 ⟨rfl, q4, rfl⟩
      rw [Hadd.out, HTT.out]
      go_wp2_with fail
      refine (HA.out _).mono ?_
      rintro r w5 ⟨rfl, hb5⟩
      have HL5 := Lib.hid ((show Low (w2.drewN (q + q4)) d k from HL.out).below hb5)
      have Hb5 := Lib.hid ((below_drewN Hb.out (q + q4)).trans (hb5.mono (by rw [← Hd.out]; exact (below_drewN Hb.out (q + q4)).size)))
      have hle : (T : Int) ≤ (t : Int) := by omega
      clear hb5
      go_wp2_with fail
      refine (HS2.out T (by have := HS0.out; omega) _ HL5.out).mono ?_
      rintro r w6 ⟨rfl, rfl⟩
      rw [Hg2.out]
      go_wp2_with fail
      refine (HF2.out T t (by have := HS0.out; omega) H2.out _ HL5.out).mono ?_
      rintro r w6 ⟨rfl, q6, rfl⟩
      rw [Hg3.out]
      go_wp2
      go_ret
      exact ⟨rfl, below_drewN Hb5.out q6⟩
end Go.Proofs.Ytfahongfokbhbaa
