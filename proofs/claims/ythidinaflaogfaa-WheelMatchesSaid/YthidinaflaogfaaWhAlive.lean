/- The statements' alive. No condition. -/
import Derived.Test.YthidinaflaogfaaWhNew
import Derived.Test.YthidinaflaogfaaWhAdv
import Derived.Test.YthidinaflaogfaaWhNext
namespace Go.Proofs.Ythidinaflaogfaa
open Go.RowKit

theorem good_nil (now : Nat) : GoodP now [] (fun _ => True) (fun _ => []) := ⟨fun _ => List.Pairwise.nil, fun n x => ⟨fun h => (by cases h), fun ⟨t, ht, _⟩ => (by cases ht)⟩⟩
theorem tim_nil : TimW [] := ⟨List.Pairwise.nil, fun a ha => (by cases ha), fun a ha => (by cases ha), fun a ha => (by cases ha)⟩

theorem wnewS_any (now : Nat) (w : World) (hn : now < 18446744073709551616) :
    Calls Try.prog 8 #[.int .u64 (now : Int)] w fun r w' => r = .returned (.pointer (some ⟨w.heap.size + 1, 0, none⟩)) ∧ WhS w (fun _ => False) w' (w.heap.size + 1) (min now 9223372036854775807) [] := by
  refine (wnew_any now w hn).mono ?_
  rintro r w' ⟨e, h⟩
  exact ⟨e, _, h, good_nil _, tim_nil, by omega⟩

theorem ex_t1 : schedT [] (1, 100) = [(1, 100)] ∧ schedC [] (1, 100) = 0 := by decide +kernel
theorem ex_t2 : schedT [(1, 100)] (2, 50) = [(2, 50), (1, 100)] ∧ schedC [(1, 100)] (2, 50) = 0 := by decide +kernel
theorem ex_a : advC 0 70 = 0 ∧ advD 0 70 [(2, 50), (1, 100)] = [(2, 50)] ∧ advT 0 70 [(2, 50), (1, 100)] = [(1, 100)] ∧ advN 0 70 = 70 := by decide +kernel

set_option maxRecDepth 100000 in
set_option maxHeartbeats 1600000 in
theorem alive16_any (w : World) : Calls Try.prog 9 #[] w fun r w' => r = .returned (.bool true) ∧ Below w.heap.size w w' := by
  have HN := Lib.hid (show Calls Try.prog 8 #[.int .u64 0] w fun r w' => r = .returned (.pointer (some ⟨w.heap.size + 1, 0, none⟩)) ∧ WhS w (fun _ => False) w' (w.heap.size + 1) 0 [] from wnewS_any 0 w (by decide))
  go_enter Try.func9, Try.ntmps9
  go_wp2_with fail
  refine HN.out.mono ?_
  rintro r w1 ⟨rfl, h1⟩
  have H1 := Lib.hid (show Calls Try.prog 13 #[.pointer (some ⟨w.heap.size + 1, 0, none⟩), .int .u64 1, .int .u64 100] w1 fun r w' => r = .returned (.int .i64 0) ∧ WhSEnd w (fun _ => False) w1 (w.heap.size + 1) 0 [(1, 100)] w' from by
    have h := wsched_any h1 (by decide) (1, 100) (by decide) (by decide)
    rw [ex_t1.1, ex_t1.2] at h
    exact h)
  clear h1
  go_wp2_with fail
  refine H1.out.mono ?_
  rintro r w2 ⟨rfl, h2⟩
  have H2 := Lib.hid (show Calls Try.prog 13 #[.pointer (some ⟨w.heap.size + 1, 0, none⟩), .int .u64 2, .int .u64 50] w2 fun r w' => r = .returned (.int .i64 0) ∧ WhSEnd w (fun _ => False) w2 (w.heap.size + 1) 0 [(2, 50), (1, 100)] w' from by
    have h := wsched_any h2.wh (by decide) (2, 50) (by decide) (by decide)
    rw [ex_t2.1, ex_t2.2] at h
    exact h)
  clear h2
  go_wp2_with fail
  refine H2.out.mono ?_
  rintro r w3 ⟨rfl, h3⟩
  have H3 := Lib.hid (show Calls Try.prog 14 #[.pointer (some ⟨w.heap.size + 1, 0, none⟩), .int .u64 70] w3 fun r w' => ∃ b c, r = .returned (.tuple #[.slice (some ⟨b, 0, none⟩) 1 c, .int .i64 0]) ∧ Items w' (some ⟨b, 0, none⟩) 1 c [(2, 50)] ∧ WhS w (fun x => x = b) w' (w.heap.size + 1) 70 [(1, 100)] from by
    refine (wadv_any h3.wh (by decide) 70 (by decide)).mono ?_
    rintro r w' ⟨u, rfl, hr, hS, _⟩
    rw [ex_a.1, ex_a.2.1] at *
    rw [ex_a.2.2.1, ex_a.2.2.2] at hS
    obtain ⟨_, g1 | ⟨g, cap, cur, rfl, _⟩⟩ := id hr
    · have := g1.2; simp at this
    · obtain ⟨p, c, e, hI⟩ := OwnL.items hr rfl
      rw [Value.slice.injEq] at e
      obtain ⟨rfl, _, rfl⟩ := e
      exact ⟨g, cap, rfl, hI, hS.swap (Below.refl _ _) (fun b hb => ⟨.inl (.inr (by rw [hb]; rfl)), hS.xb b (.inr (by rw [hb]; rfl))⟩)⟩)
  clear h3
  go_wp2_with fail
  refine H3.out.mono ?_
  rintro r w4 ⟨b, c, rfl, hI, h4⟩
  have H4 := Lib.hid (show Calls Try.prog 24 #[.pointer (some ⟨w.heap.size + 1, 0, none⟩)] w4 fun r w' => r = .returned (.tuple #[.int .u64 100, .bool true]) ∧ WhSEnd w (fun x => x = b) w4 (w.heap.size + 1) 70 [(1, 100)] w' from wnext_any h4 (by decide))
  have HI := Lib.hid hI
  clear hI h4
  go_wp2_with fail
  refine H4.out.mono ?_
  rintro r w5 ⟨rfl, h5⟩
  obtain ⟨b', o', e, hc⟩ := HI.out.cell (by decide)
  cases e
  obtain ⟨c0, c1⟩ := hc 0 _ rfl
  have hk := h5.keep b rfl
  have d0 : w5.cell? ⟨b, 0, none⟩ = some (.int .u64 2) := by
    have : w4.cell? ⟨b, 0, none⟩ = some (.int .u64 2) := c0
    rw [← this]; unfold World.cell?; rw [hk]
  have d1 : w5.cell? ⟨b, 1, none⟩ = some (.int .u64 50) := by
    have : w4.cell? ⟨b, 1, none⟩ = some (.int .u64 50) := c1
    rw [← this]; unfold World.cell?; rw [hk]
  have Hb := Lib.hid h5.wh.base
  clear hc c0 c1 hk h5
  go_wp2
  go_ret
  exact ⟨rfl, Hb.out⟩
end Go.Proofs.Ythidinaflaogfaa
