/- The walk of Next; a wheel that is nil. -/
import Derived.Test.YthidinaflaogfaaWhLeast
namespace Go.Proofs.Ythidinaflaogfaa
open Go.RowKit

/-- What Next answers. -/
def nextT (T : List It) : Nat := match T with | [] => 0 | t :: _ => t.2
def nextB (T : List It) : Bool := match T with | [] => false | _ :: _ => true

theorem head_least {T : List It} (h : TimW T) {h0 : It} {R : List It} (e : T = h0 :: R) : ∀ t ∈ T, h0.2 ≤ t.2 := by
  intro t ht
  have hs := h.srt
  rw [e] at hs ht
  rcases List.mem_cons.1 ht with rfl | h1
  · exact Nat.le_refl _
  · have := (List.pairwise_cons.1 hs).1 t h1
    rw [ltI_iff] at this
    omega

theorem ptrsA_get (p : Nat → Nat) {i : Nat} (hi : i < 11) (w : World) : (Instr.index 63 (.agg #[Value.pointer (some ⟨p 0, 0, none⟩), .pointer (some ⟨p 1, 0, none⟩), .pointer (some ⟨p 2, 0, none⟩), .pointer (some ⟨p 3, 0, none⟩), .pointer (some ⟨p 4, 0, none⟩), .pointer (some ⟨p 5, 0, none⟩), .pointer (some ⟨p 6, 0, none⟩), .pointer (some ⟨p 7, 0, none⟩), .pointer (some ⟨p 8, 0, none⟩), .pointer (some ⟨p 9, 0, none⟩), .pointer (some ⟨p 10, 0, none⟩)]) (.int .i64 (i : Int))).run Try.prog w = .ok (.pointer (some ⟨p i, 0, none⟩)) w := by
  obtain rfl | rfl | rfl | rfl | rfl | rfl | rfl | rfl | rfl | rfl | rfl : i = 0 ∨ i = 1 ∨ i = 2 ∨ i = 3 ∨ i = 4 ∨ i = 5 ∨ i = 6 ∨ i = 7 ∨ i = 8 ∨ i = 9 ∨ i = 10 := by omega
  all_goals kernel_rfl

set_option maxRecDepth 100000 in
set_option maxHeartbeats 3200000 in
theorem wnext_any {w0 : World} {X : Nat → Prop} {w : World} {d now : Nat} {T : List It} (h : WhS w0 X w d now T) (hl : T.length ≤ 990) :
    Calls Try.prog 24 #[.pointer (some ⟨d, 0, none⟩)] w fun r w' => r = .returned (.tuple #[.int .u64 (nextT T : Int), .bool (nextB T)]) ∧ WhSEnd w0 X w d now T w' := by
  have H := Lib.hid h
  obtain ⟨L, ⟨o, p, V, mb, h1⟩, h2, h3, h4⟩ := h
  have c0 := h1.ptr (i := 0) (by decide)
  have c1 := h1.ptr (i := 1) (by decide)
  have c2 := h1.ptr (i := 2) (by decide)
  have c3 := h1.ptr (i := 3) (by decide)
  have c4 := h1.ptr (i := 4) (by decide)
  have c5 := h1.ptr (i := 5) (by decide)
  have c6 := h1.ptr (i := 6) (by decide)
  have c7 := h1.ptr (i := 7) (by decide)
  have c8 := h1.ptr (i := 8) (by decide)
  have c9 := h1.ptr (i := 9) (by decide)
  have c10 := h1.ptr (i := 10) (by decide)
  simp only [Nat.reduceAdd] at c0 c1 c2 c3 c4 c5 c6 c7 c8 c9 c10
  have H1 := Lib.hid h1
  have HG := Lib.hid (And.intro h2 (And.intro h3 (And.intro h4 hl)))
  clear h1 h2 h3 h4 hl
  go_enter Try.func24, Try.ntmps24
  go_wp2_with fail
  obtain ⟨A, hA⟩ : ∃ A : Array Value, A = #[Value.pointer (some ⟨p 0, 0, none⟩), .pointer (some ⟨p 1, 0, none⟩), .pointer (some ⟨p 2, 0, none⟩), .pointer (some ⟨p 3, 0, none⟩), .pointer (some ⟨p 4, 0, none⟩), .pointer (some ⟨p 5, 0, none⟩), .pointer (some ⟨p 6, 0, none⟩), .pointer (some ⟨p 7, 0, none⟩), .pointer (some ⟨p 8, 0, none⟩), .pointer (some ⟨p 9, 0, none⟩), .pointer (some ⟨p 10, 0, none⟩)] := ⟨_, rfl⟩
  rw [← hA]
  have HA := Lib.hid (show ∀ i w, i < 11 → (Instr.index 63 (.agg A) (.int .i64 ((i : Nat) : Int))).run Try.prog w = .ok (.pointer (some ⟨p i, 0, none⟩)) w from fun i w hi => by rw [hA]; exact ptrsA_get p hi w)
  clear hA c0 c1 c2 c3 c4 c5 c6 c7 c8 c9 c10
  go_loopw [13] (fun i wr => ∃ j : Nat, j ≤ 11 ∧ i = .int .i64 (j : Int) ∧ RowKit.Hid (∀ m, m < j → L m = []) ∧ wr = w) (fun i _ => 11 - (intOf i).toNat)
  case atStart => exact ⟨0, by decide, rfl, Lib.hid (fun m hm => absurd hm (by omega)), rfl⟩
  case round =>
    obtain ⟨j, hj, rfl, HE, rfl⟩ := hrel
    by_cases hlt : j < 11
    · have hji : (j : Int) < 11 := by omega
      have ga := HA.out j wr hlt
      have HF := Lib.hid (first_any (H1.out.lv j hlt) 0 0 (by decide))
      go_wp2_with fail
      refine HF.out.mono ?_
      rintro r w1 ⟨x, rfl, hx, rfl⟩
      rcases hx with ⟨rfl, he⟩ | ⟨t, rfl, _, ht, hne, hem⟩
      · have HE2 := Lib.hid (show ∀ m, m < j + 1 → L m = [] from fun m hm => by
          rcases Nat.lt_or_eq_of_le (Nat.le_of_lt_succ hm) with h5 | rfl
          · exact HE.out m h5
          · refine List.eq_nil_iff_forall_not_mem.2 fun y hy => ?_
            have h6 := he (slotN (m % 4) y.2) (Nat.zero_le _) (slotN_lt _ _)
            have h7 : y ∈ slF (m % 4) (L m) (slotN (m % 4) y.2) := mem_slF.2 ⟨hy, rfl⟩
            rw [h6] at h7
            cases h7)
        clear he
        go_wp2
        go_roundw
        case rel => exact ⟨j + 1, by omega, by go_num, HE2, trivial⟩
        case measure => simp [intOf]; omega
      · obtain ⟨x0, hx0⟩ := List.exists_mem_of_ne_nil _ hne
        obtain ⟨u, hu, _⟩ := (HG.out.1.mem j x0).1 (mem_slF.1 hx0).1
        obtain ⟨h0, R, hT⟩ : ∃ h0 R, T = h0 :: R := by
          cases T with
          | nil => cases hu
          | cons h0 R => exact ⟨h0, R, rfl⟩
        have hmin := head_least HG.out.2.1 hT
        have hh : h0 ∈ T := by rw [hT]; exact List.mem_cons_self
        have HL := Lib.hid (wleast_any H1.out HG.out.1 HG.out.2.1 HG.out.2.2.1 HG.out.2.2.2 hlt ht hh hmin (first_least HG.out.1 HG.out.2.1 HG.out.2.2.1 HE.out (fun u hu => hem u (Nat.zero_le _) hu) hx0 hh hmin))
        have Hn := Lib.hid (show nextT T = h0.2 ∧ nextB T = true from by rw [hT]; exact ⟨rfl, rfl⟩)
        have hti : (0 : Int) ≤ (t : Int) := by omega
        clear hmin hh hT hx0 hu hem hne
        go_wp2_with fail
        refine HL.out.mono ?_
        rintro r w2 ⟨rfl, hE⟩
        have HE3 := Lib.hid hE
        clear hE
        go_wp2
        refine bodyPost_ret (results_tmp2 rfl _ _ _) rfl ?_
        rw [Hn.out.1, Hn.out.2]
        exact ⟨rfl, HE3.out.toS HG.out.1 HG.out.2.1 HG.out.2.2.1⟩
    · have hji : ¬ (j : Int) < 11 := by omega
      have hT : T = [] := List.eq_nil_iff_forall_not_mem.2 fun t ht => by
        have h5 := HG.out.2.1.tick t ht
        have h6 := HG.out.2.2.1
        obtain ⟨m, hm, hp⟩ := pl_le (now := now) (a := max t.2 now) (by omega) (by omega)
        have h7 : itW now m t ∈ L m := (HG.out.1.mem m _).2 ⟨t, ht, trivial, hp, rfl⟩
        rw [HE.out m (by omega)] at h7
        cases h7
      have Hn := Lib.hid (show nextT T = 0 ∧ nextB T = false from by rw [hT]; exact ⟨rfl, rfl⟩)
      clear hT
      go_wp2
      refine bodyPost_ret (results_tmp2 rfl _ _ _) rfl ?_
      rw [Hn.out.1, Hn.out.2]
      exact ⟨rfl, WhSEnd.same H.out (Below.refl _ _)⟩

theorem nilw_sched (i a : Nat) (w : World) : Calls Try.prog 13 #[.pointer none, .int .u64 (i : Int), .int .u64 (a : Int)] w fun r w' => r = .returned (.int .i64 1) ∧ w = w' := by
  go_enter Try.func13, Try.ntmps13
  go_wp2
  go_ret
  exact ⟨rfl, rfl⟩
theorem nilw_cancel (i : Nat) (w : World) : Calls Try.prog 17 #[.pointer none, .int .u64 (i : Int)] w fun r w' => r = .returned (.int .i64 1) ∧ w = w' := by
  go_enter Try.func17, Try.ntmps17
  go_wp2
  go_ret
  exact ⟨rfl, rfl⟩
theorem nilw_adv (i : Nat) (w : World) : Calls Try.prog 14 #[.pointer none, .int .u64 (i : Int)] w fun r w' => r = .returned (.tuple #[.slice none 0 0, .int .i64 1]) ∧ w = w' := by
  go_enter Try.func14, Try.ntmps14
  go_wp2
  refine bodyPost_ret (results_tmp2 rfl _ _ _) rfl ?_
  exact ⟨rfl, rfl⟩
theorem nilw_next (w : World) : Calls Try.prog 24 #[.pointer none] w fun r w' => r = .returned (.tuple #[.int .u64 0, .bool false]) ∧ w = w' := by
  go_enter Try.func24, Try.ntmps24
  go_wp2
  refine bodyPost_ret (results_tmp2 rfl _ _ _) rfl ?_
  exact ⟨rfl, rfl⟩
theorem nilw_now (w : World) : Calls Try.prog 23 #[.pointer none] w fun r w' => r = .returned (.int .u64 0) ∧ w = w' := by
  go_enter Try.func23, Try.ntmps23
  go_wp2
  go_ret
  exact ⟨rfl, rfl⟩
theorem nilw_count (w : World) : Calls Try.prog 18 #[.pointer none] w fun r w' => r = .returned (.int .i64 0) ∧ w = w' := by
  go_enter Try.func18, Try.ntmps18
  go_wp2
  go_ret
  exact ⟨rfl, rfl⟩
theorem nilw_has (i : Nat) (w : World) : Calls Try.prog 25 #[.pointer none, .int .u64 (i : Int)] w fun r w' => r = .returned (.bool false) ∧ w = w' := by
  go_enter Try.func25, Try.ntmps25
  go_wp2
  go_ret
  exact ⟨rfl, rfl⟩
end Go.Proofs.Ythidinaflaogfaa
