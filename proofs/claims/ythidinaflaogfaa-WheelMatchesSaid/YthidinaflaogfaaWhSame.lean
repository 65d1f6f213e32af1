/- The walk of the law's same. -/
import Derived.Test.YthidinaflaogfaaWheelFar
import Derived.BigQuiet
import Derived.Deep.RegionHeld3
namespace Go.Proofs.Ythidinaflaogfaa
open Go.RowKit

set_option maxRecDepth 100000 in
set_option maxHeartbeats 3200000 in
theorem same16_any {w0 : World} {X Y : Nat → Prop} {wr : World} {d now : Nat} {T : List It} {p : Option Addr} {c : Nat} (h : WhS w0 X wr d now T) (hR : RowAt Y wr p T.length c T) (hYX : ∀ b, Y b → X b) (hl : T.length ≤ 990) :
    Calls Try.prog 28 #[.pointer (some ⟨d, 0, none⟩), .agg #[.int .u64 (now : Int), .slice p T.length c]] wr fun r w' => r = .returned (.bool true) ∧ WhSEnd w0 X wr d now T w' := by
  obtain ⟨N, hN⟩ : ∃ N, T.length = N := ⟨_, rfl⟩
  rw [hN] at hR ⊢
  have hmx := hR.items.max
  have hle := hR.items.le
  have hb0 : Below wr.heap.size wr (wr.alloc (.cells #[.int .u64 (now : Int), .slice p N c] 29)) := (Below.refl _ _).alloc (Nat.le_refl _) _
  have d0 := heap_alloc_new wr (.cells #[.int .u64 (now : Int), .slice p N c] 29)
  have hS1 : WhS w0 (fun b => X b ∨ b = wr.heap.size) (wr.alloc (.cells #[.int .u64 (now : Int), .slice p N c] 29)) d now T := h.swap hb0 (fun b hb => by
    rcases hb with hb | rfl
    · exact ⟨.inl hb, Nat.lt_of_lt_of_le (h.xb b hb) hb0.size⟩
    · exact ⟨.inr (Nat.le_refl _), by simp⟩)
  have hI1 := hR.below hb0
  obtain ⟨w1, hw1⟩ : ∃ w1, w1 = wr.alloc (.cells #[.int .u64 (now : Int), .slice p N c] 29) := ⟨_, rfl⟩
  rw [← hw1] at hb0 d0 hS1 hI1
  have HNx := Lib.hid (wnext_any hS1 hl)
  have HI := Lib.hid (And.intro hI1 (And.intro hYX d0))
  have Hb0 := Lib.hid (And.intro hb0 (And.intro h.xb h.base.size))
  have HT := Lib.hid h.tim
  have HN := Lib.hid hN
  obtain ⟨V, hV⟩ : ∃ V, V = nextT T := ⟨_, rfl⟩
  obtain ⟨O, hO⟩ : ∃ O, O = nextB T := ⟨_, rfl⟩
  rw [← hV, ← hO] at HNx
  have hcase : (N = 0 ∧ V = 0 ∧ O = false) ∨ (∃ t, T[0]? = some t ∧ 0 < N ∧ V = t.2 ∧ O = true) := by
    cases hTe : T with
    | nil => rw [hTe] at hN hV hO; exact .inl ⟨hN.symm, hV, hO⟩
    | cons t R => rw [hTe] at hN hV hO; exact .inr ⟨t, rfl, by rw [← hN]; simp, hV, hO⟩
  clear h hR hYX hb0 d0 hS1 hI1 hN hV hO
  go_enter Try.func28, Try.ntmps28
  go_upto_region 1 with fail
  rw [← hw1]
  clear hw1
  go_wp2_with fail
  refine HNx.out.mono ?_
  rintro r w2 ⟨rfl, hE⟩
  have k2 := (hE.keep wr.heap.size (.inr rfl)).trans HI.out.2.2
  obtain ⟨e0, e1, _, _⟩ := cells_of2 k2
  have HI2 := Lib.hid (items_same HI.out.1.items (fun b o e => hE.keep b (.inl (HI.out.2.1 b (HI.out.1.mem b o e).1))))
  have HW2 := Lib.hid (show ∀ q, WhS w0 X (w2.drewN q) d now T from fun q => hE.wh.swap (below_drew w2 q) (fun b hb => ⟨.inl (.inl hb), by have := hE.wh.xb b (.inl hb); exact this⟩))
  have HE2 := Lib.hid (show ∀ q, WhSEnd w0 X wr d now T (w2.drewN q) from fun q => ⟨HW2.out q, fun b hb => (hE.keep b (.inl hb)).trans (Hb0.out.1.block b (Hb0.out.2.1 b hb)), ((Hb0.out.1.mono Hb0.out.2.2).trans hE.below).trans ((below_drew w2 q).mono hE.wh.base.size)⟩)
  have HNw := Lib.hid (show ∀ q, Calls Try.prog 23 #[.pointer (some ⟨d, 0, none⟩)] (w2.drewN q) fun r w' => r = .returned (.int .u64 (now : Int)) ∧ ∃ m, w' = (w2.drewN q).drewN m from fun q => by
    obtain ⟨L, h, _⟩ := HW2.out q
    exact (wnow_any h).mono (fun r w' h => ⟨h.1, 0, h.2⟩))
  have HCo := Lib.hid (show ∀ q, Calls Try.prog 18 #[.pointer (some ⟨d, 0, none⟩)] (w2.drewN q) fun r w' => r = .returned (.int .i64 (N : Int)) ∧ ∃ m, w' = (w2.drewN q).drewN m from fun q => by
    obtain ⟨L, h, _⟩ := HW2.out q
    exact (wcount_any h HN.out).mono (fun r w' h => ⟨h.1, 0, h.2⟩))
  clear hE k2
  rcases hcase with ⟨rfl, rfl, rfl⟩ | ⟨t, ht, hN0, rfl, rfl⟩
  · go_wp2_with fail
    go_quiet (first | (go_at_call 23; with_reducible exact Calls.quiet_of (HNw.out _)) | (go_at_call 18; with_reducible exact Calls.quiet_of (HCo.out _)))
    go_wp2
    go_ret
    exact ⟨rfl, HE2.out _⟩
  · have hNi : (0 : Int) < (N : Int) := by omega
    obtain ⟨b, o, rfl, hc⟩ := HI2.out.cell hN0
    have c1 : w2.cell? ⟨b, o + 1, none⟩ = some (.int .u64 (t.2 : Int)) := by
      have h5 := (hc 0 t ht).2
      rwa [Nat.zero_mul, Nat.add_zero] at h5
    clear hc ht
    go_wp2_with fail
    go_quiet (first | (go_at_call 23; with_reducible exact Calls.quiet_of (HNw.out _)) | (go_at_call 18; with_reducible exact Calls.quiet_of (HCo.out _)))
    go_wp2
    go_ret
    exact ⟨rfl, HE2.out _⟩
end Go.Proofs.Ythidinaflaogfaa
