/- The statement WheelNil. -/
import Derived.Test.YthidinaflaogfaaWhAlive
namespace Go.Proofs.Ythidinaflaogfaa
open Go.RowKit

theorem hasW_one (t : It) : hasW [t] t.1 = true := hasW_iff.2 ⟨t, List.mem_cons_self, rfl⟩
theorem hasW_nil (i : Nat) : hasW [] i = false := hasW_no.2 (fun t ht => by cases ht)
theorem insI_nil (t : It) : insI t [] = [t] := rfl

set_option maxRecDepth 100000 in
set_option maxHeartbeats 3200000 in
theorem wheelNil_any (i a : Nat) (w : World) (hi : i < 18446744073709551616) (ha : a < 18446744073709551616) :
    Calls Try.prog 7 #[.int .u64 (i : Int), .int .u64 (a : Int)] w fun r w' => r = .returned (.bool true) ∧ Below w.heap.size w w' := by
  have N1 := Lib.hid (fun w => nilw_adv a w)
  have N2 := Lib.hid (fun w => nilw_next w)
  have N3 := Lib.hid (fun w => nilw_sched i a w)
  have N4 := Lib.hid (fun w => nilw_cancel i w)
  have N5 := Lib.hid (fun w => nilw_now w)
  have N6 := Lib.hid (fun w => nilw_count w)
  have N7 := Lib.hid (fun w => nilw_has i w)
  have HA := Lib.hid (fun w => alive16_any w)
  have HN := Lib.hid (show Calls Try.prog 8 #[.int .u64 10] w fun r w' => r = .returned (.pointer (some ⟨w.heap.size + 1, 0, none⟩)) ∧ WhS w (fun _ => False) w' (w.heap.size + 1) 10 [] from wnewS_any 10 w (by decide))
  obtain ⟨T, c1, c2, n, hT, h1, h2, hsplit⟩ : ∃ (T : List It) (c1 c2 : Int) (n : Nat), schedT [] (i, a) = T ∧ schedC [] (i, a) = c1 ∧ (schedC T (i, a) = c2 ∧ schedT T (i, a) = T ∧ T.length = n) ∧ ((9223372036854775807 < a ∧ c1 = 2 ∧ c2 = 2 ∧ n = 0) ∨ (¬ 9223372036854775807 < a ∧ c1 = 0 ∧ c2 = 7 ∧ n = 1)) := by
    by_cases hb : 9223372036854775807 < a
    · exact ⟨[], 2, 2, 0, if_pos hb, if_pos hb, ⟨if_pos hb, if_pos hb, rfl⟩, .inl ⟨hb, rfl, rfl, rfl⟩⟩
    · refine ⟨[(i, a)], 0, 7, 1, ?_, ?_, ⟨?_, ?_, rfl⟩, .inr ⟨hb, rfl, rfl, rfl⟩⟩
      · unfold schedT; rw [if_neg hb, hasW_nil, if_neg (by decide), insI_nil]
      · unfold schedC; rw [if_neg hb, hasW_nil, if_neg (by decide)]
      · unfold schedC; rw [if_neg hb, if_pos (hasW_one (i, a))]
      · unfold schedT; rw [if_neg hb, if_pos (hasW_one (i, a))]
  have Hi := Lib.hid (And.intro hi ha)
  have HT := Lib.hid (And.intro hT (And.intro h1 h2))
  clear hT h1 h2 hi ha
  go_enter Try.func7, Try.ntmps7
  go_wp2_with (first
    | (go_at_call 14; with_reducible refine (N1.out _).mono ?_; rintro r w' ⟨rfl, rfl⟩)
    | (go_at_call 24; with_reducible refine (N2.out _).mono ?_; rintro r w' ⟨rfl, rfl⟩))
  refine HN.out.mono ?_
  rintro r w1 ⟨rfl, g1⟩
  have H1 := Lib.hid (show Calls Try.prog 13 #[.pointer (some ⟨w.heap.size + 1, 0, none⟩), .int .u64 (i : Int), .int .u64 (a : Int)] w1 fun r w' => r = .returned (.int .i64 c1) ∧ WhSEnd w (fun _ => False) w1 (w.heap.size + 1) 10 T w' from by
    have h := wsched_any g1 (by decide) (i, a) Hi.out.1 Hi.out.2
    rw [HT.out.1, HT.out.2.1] at h
    exact h)
  clear g1
  go_wp2_with (first
    | (go_at_call 13; with_reducible refine (N3.out _).mono ?_; rintro r w' ⟨rfl, rfl⟩)
    | (go_at_call 17; with_reducible refine (N4.out _).mono ?_; rintro r w' ⟨rfl, rfl⟩)
    | (go_at_call 23; with_reducible refine (N5.out _).mono ?_; rintro r w' ⟨rfl, rfl⟩)
    | (go_at_call 18; with_reducible refine (N6.out _).mono ?_; rintro r w' ⟨rfl, rfl⟩)
    | (go_at_call 25; with_reducible refine (N7.out _).mono ?_; rintro r w' ⟨rfl, rfl⟩))
  refine H1.out.mono ?_
  rintro r w2 ⟨rfl, g2⟩
  have hTl : T.length ≤ 990 := by have := HT.out.2.2.2.2; rcases hsplit with h | h <;> omega
  have H2 := Lib.hid (show Calls Try.prog 13 #[.pointer (some ⟨w.heap.size + 1, 0, none⟩), .int .u64 (i : Int), .int .u64 (a : Int)] w2 fun r w' => r = .returned (.int .i64 c2) ∧ WhSEnd w (fun _ => False) w2 (w.heap.size + 1) 10 T w' from by
    have h := wsched_any g2.wh hTl (i, a) Hi.out.1 Hi.out.2
    rw [HT.out.2.2.1, HT.out.2.2.2.1] at h
    exact h)
  have Htl := Lib.hid hTl
  clear g2 hTl
  go_wp2_with fail
  refine H2.out.mono ?_
  rintro r w3 ⟨rfl, g3⟩
  have H3 := Lib.hid (show Calls Try.prog 14 #[.pointer (some ⟨w.heap.size + 1, 0, none⟩), .int .u64 9] w3 fun r w' => ∃ u, r = .returned (.tuple #[u, .int .i64 12]) ∧ WhS w (fun _ => False) w' (w.heap.size + 1) 10 T from by
    refine (wadv_any g3.wh Htl.out 9 (by decide)).mono ?_
    rintro r w' ⟨u, rfl, hr, hS, _⟩
    exact ⟨u, rfl, hS.swap (Below.refl _ _) (fun b hb => hb.elim)⟩)
  clear g3
  go_wp2_with fail
  refine H3.out.mono ?_
  rintro r w4 ⟨u4, rfl, g4⟩
  have H4 := Lib.hid (show Calls Try.prog 14 #[.pointer (some ⟨w.heap.size + 1, 0, none⟩), .int .u64 9223372036854775808] w4 fun r w' => ∃ u, r = .returned (.tuple #[u, .int .i64 2]) ∧ WhS w (fun _ => False) w' (w.heap.size + 1) 10 T from by
    refine (wadv_any g4 Htl.out 9223372036854775808 (by decide)).mono ?_
    rintro r w' ⟨u, rfl, hr, hS, _⟩
    exact ⟨u, rfl, hS.swap (Below.refl _ _) (fun b hb => hb.elim)⟩)
  clear g4
  go_wp2_with fail
  refine H4.out.mono ?_
  rintro r w5 ⟨u5, rfl, g5⟩
  have H5 := Lib.hid (fun W (hW : Below w5.heap.size w5 W) => (show Calls Try.prog 18 #[.pointer (some ⟨w.heap.size + 1, 0, none⟩)] W fun r w' => r = .returned (.int .i64 (n : Int)) ∧ w' = W from by
    obtain ⟨L, h, _⟩ := g5.below hW
    exact wcount_any h HT.out.2.2.2.2))
  have H6 := Lib.hid (fun W (hW : Below w5.heap.size w5 W) => (show Calls Try.prog 23 #[.pointer (some ⟨w.heap.size + 1, 0, none⟩)] W fun r w' => r = .returned (.int .u64 10) ∧ w' = W from by
    obtain ⟨L, h, _⟩ := g5.below hW
    exact wnow_any h))
  have Hb := Lib.hid g5.base
  clear g5
  rcases hsplit with ⟨hb, rfl, rfl, rfl⟩ | ⟨hb, rfl, rfl, rfl⟩
  · have hbi : (9223372036854775807 : Int) < (a : Int) := by omega
    go_wp2_with fail
    refine (HA.out _).mono ?_
    rintro r w6 ⟨rfl, hb6⟩
    have Hb6 := Lib.hid hb6
    clear hb6
    go_wp2_with (go_at_call 18; with_reducible refine (H5.out _ Hb6.out).mono ?_; rintro r w' ⟨rfl, rfl⟩)
    go_ret
    exact ⟨rfl, Hb.out.trans (Hb6.out.mono Hb.out.size)⟩
  · have hbi : ¬ (9223372036854775807 : Int) < (a : Int) := by omega
    go_wp2_with fail
    refine (HA.out _).mono ?_
    rintro r w6 ⟨rfl, hb6⟩
    have Hb6 := Lib.hid hb6
    clear hb6
    go_wp2_with (first
      | (go_at_call 18; with_reducible refine (H5.out _ Hb6.out).mono ?_; rintro r w' ⟨rfl, rfl⟩)
      | (go_at_call 23; with_reducible refine (H6.out _ Hb6.out).mono ?_; rintro r w' ⟨rfl, rfl⟩))
    go_ret
    exact ⟨rfl, Hb.out.trans (Hb6.out.mono Hb.out.size)⟩
end Go.Proofs.Ythidinaflaogfaa
