/- The level: the reference's first tick of a slot; the example. -/
import Derived.Test.YtfahongfokbhbaaLvC
import Derived.Deep.RegionHeld3
namespace Go.Proofs.Ytfahongfokbhbaa
open Go.RowKit

theorem start_lt (k now S : Nat) (hk : k < 4) (hn : now < 18446744073709551616) (hS : S < 64) :
    now / 64 ^ (k + 1) * 64 ^ (k + 1) < 18446744073709551616 ∧ S * 64 ^ k < 18446744073709551616 ∧ now / 64 ^ (k + 1) * 64 ^ (k + 1) + S * 64 ^ k < 18446744073709551616 := by
  obtain rfl | rfl | rfl | rfl : k = 0 ∨ k = 1 ∨ k = 2 ∨ k = 3 := by omega
  all_goals (simp only [Nat.reduceAdd, Nat.reducePow]; omega)

theorem u64_fits (a : Nat) (h : a < 18446744073709551616) : IntKind.u64.wrap ((a : Nat) : Int) = (a : Int) := by rw [IntKind.wrap_u64]; omega

theorem width_lit {k : Int} {v : Int} (n : Nat) (hn : n ≤ 4) (hk : k = (n : Int)) (hv : v = ((64 ^ n : Nat) : Int)) (w : World) :
    Calls Try.prog 30 #[.int .i64 k] w fun r w' => r = .returned (.int .u64 v) ∧ w' = w := by
  subst hk
  subst hv
  exact width_any n hn w

set_option maxRecDepth 100000 in
set_option maxHeartbeats 3200000 in
theorem rstart_any (k now : Nat) (s : Int) (w : World) (hk : k < 4) (hn : now < 18446744073709551616) :
    Calls Try.prog 14 #[.int .i64 (k : Int), .int .u64 (now : Int), .int .i64 s] w (Reads (.int .u64 (startN k now s : Int)) w) := by
  obtain ⟨V, hV⟩ : ∃ V, V = startN k now s := ⟨_, rfl⟩
  rw [← hV]
  unfold startN at hV
  cases hs : isSlotB s with
  | false =>
    rw [if_neg (by rw [hs]; decide)] at hV
    subst hV
    have hs' : ¬ (0 ≤ s ∧ s < 64) := fun h => by rw [← isSlotB_iff, hs] at h; cases h
    clear hs
    by_cases h0 : s < 0
    · go_enter Try.func14, Try.ntmps14
      go_wp2
      go_ret
      exact ⟨rfl, 0, rfl⟩
    · have h1 : 63 < s := by omega
      go_enter Try.func14, Try.ntmps14
      go_wp2
      go_ret
      exact ⟨rfl, 0, rfl⟩
  | true =>
    rw [if_pos hs] at hV
    rw [isSlotB_iff] at hs
    obtain ⟨hs0, hs1⟩ := hs
    obtain ⟨S, rfl⟩ := Int.eq_ofNat_of_zero_le hs0
    rw [Int.toNat_natCast] at hV
    have hs2 : S < 64 := by omega
    unfold turnN at hV
    have HV := Lib.hid hV
    have h0 : ¬ (S : Int) < 0 := by omega
    have h1 : ¬ (63 : Int) < (S : Int) := by omega
    clear hV hs0 hs1
    obtain rfl | rfl | rfl | rfl : k = 0 ∨ k = 1 ∨ k = 2 ∨ k = 3 := by omega
    · have HW := Lib.hid (fun W => width_lit (k := IntKind.i64.wrap 1) (v := 64) 1 (by decide) rfl rfl W)
      have HW0 := Lib.hid (fun W => width_lit (k := 0) (v := 1) 0 (by decide) rfl rfl W)
      go_enter Try.func14, Try.ntmps14
      go_wp2_with fail
      go_region_held3 (fun _ => True) (first | trivial) (first
        | (go_at_call 30; (with_reducible refine (HW.out _).mono ?_); rintro r w2 ⟨rfl, rfl⟩)
        | (go_at_call 30; (with_reducible refine (HW0.out _).mono ?_); rintro r w2 ⟨rfl, rfl⟩))
      go_wp2
      go_ret
      exact ⟨ret_u64 (by have := HV.out; simp only [IntKind.wrap_u64]; omega), 1, rfl⟩
    · have HW := Lib.hid (fun W => width_lit (k := IntKind.i64.wrap 2) (v := 4096) 2 (by decide) rfl rfl W)
      have HW0 := Lib.hid (fun W => width_lit (k := 1) (v := 64) 1 (by decide) rfl rfl W)
      go_enter Try.func14, Try.ntmps14
      go_wp2_with fail
      go_region_held3 (fun _ => True) (first | trivial) (first
        | (go_at_call 30; (with_reducible refine (HW.out _).mono ?_); rintro r w2 ⟨rfl, rfl⟩)
        | (go_at_call 30; (with_reducible refine (HW0.out _).mono ?_); rintro r w2 ⟨rfl, rfl⟩))
      go_wp2
      go_ret
      exact ⟨ret_u64 (by have := HV.out; simp only [IntKind.wrap_u64]; omega), 1, rfl⟩
    · have HW := Lib.hid (fun W => width_lit (k := IntKind.i64.wrap 3) (v := 262144) 3 (by decide) rfl rfl W)
      have HW0 := Lib.hid (fun W => width_lit (k := 2) (v := 4096) 2 (by decide) rfl rfl W)
      go_enter Try.func14, Try.ntmps14
      go_wp2_with fail
      go_region_held3 (fun _ => True) (first | trivial) (first
        | (go_at_call 30; (with_reducible refine (HW.out _).mono ?_); rintro r w2 ⟨rfl, rfl⟩)
        | (go_at_call 30; (with_reducible refine (HW0.out _).mono ?_); rintro r w2 ⟨rfl, rfl⟩))
      go_wp2
      go_ret
      exact ⟨ret_u64 (by have := HV.out; simp only [IntKind.wrap_u64]; omega), 1, rfl⟩
    · have HW := Lib.hid (fun W => width_lit (k := IntKind.i64.wrap 4) (v := 16777216) 4 (by decide) rfl rfl W)
      have HW0 := Lib.hid (fun W => width_lit (k := 3) (v := 262144) 3 (by decide) rfl rfl W)
      go_enter Try.func14, Try.ntmps14
      go_wp2_with fail
      go_region_held3 (fun _ => True) (first | trivial) (first
        | (go_at_call 30; (with_reducible refine (HW.out _).mono ?_); rintro r w2 ⟨rfl, rfl⟩)
        | (go_at_call 30; (with_reducible refine (HW0.out _).mono ?_); rintro r w2 ⟨rfl, rfl⟩))
      go_wp2
      go_ret
      exact ⟨ret_u64 (by have := HV.out; simp only [IntKind.wrap_u64]; omega), 1, rfl⟩

theorem low_new (k : Nat) (w : World) (V : List Value) : Low (w.alloc (.cells (lvC k V) 60)) w.heap.size k := by
  unfold Low
  rw [cell_of_row _ _ _ _ _ (0, 0) (heap_alloc_new _ _)]
  rfl

set_option maxRecDepth 100000 in
theorem alive_any (w : World) : Calls Try.prog 15 #[] w fun r w' => r = .returned (.bool true) ∧ Below w.heap.size w w' := by
  have HN := Lib.hid (new_any 1 w (by decide))
  have hL := low_new 1 w nil64
  have Hb := Lib.hid ((Below.refl w.heap.size w).alloc (Nat.le_refl _) (.cells (lvC 1 nil64) 60))
  generalize hw : w.alloc (.cells (lvC 1 nil64) 60) = w1 at *
  have HS := Lib.hid (slot_any w.heap.size 1 130 w1 (by decide) (by decide) hL)
  have HT := Lib.hid (start_any w.heap.size 1 130 2 w1 (by decide) (by decide) hL)
  rw [show slotN 1 130 = 2 by decide] at HS
  rw [show startN 1 130 2 = 128 by decide] at HT
  clear hL hw
  generalize w.heap.size = d at *
  go_enter Try.func15, Try.ntmps15
  go_wp2_with fail
  refine HN.out.mono ?_
  rintro r w2 ⟨rfl, rfl⟩
  go_wp2_with fail
  refine HS.out.mono ?_
  rintro r w3 ⟨rfl, rfl⟩
  go_wp2_with fail
  refine HT.out.mono ?_
  rintro r w3 ⟨rfl, q, rfl⟩
  go_wp2
  go_ret
  exact ⟨rfl, below_drewN Hb.out q⟩
end Go.Proofs.Ytfahongfokbhbaa
