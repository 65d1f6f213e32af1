/- The statement WheelMatches. -/
import Derived.Test.YthidinaflaogfaaWhPlay
namespace Go.Proofs.Ythidinaflaogfaa
open Go.RowKit

set_option maxRecDepth 100000 in
set_option maxHeartbeats 3200000 in
theorem wheelMatches_any (now : Nat) (p : Option Addr) (n c : Nat) (l : List Ow) (w : World) (hnow : now < 18446744073709551616) (h : Ows w p n c l) (hw : ∀ y ∈ l, owW y) :
    Calls Try.prog 3 #[.int .u64 (now : Int), .slice p n c] w fun r w' => r = .returned (.bool true) ∧ Below w.heap.size w w' := by
  have hle := h.le
  have hmx := h.max
  have HA := Lib.hid (fun w => alive16_any w)
  obtain ⟨s, hs⟩ : ∃ s, s = min now 9223372036854775807 := ⟨_, rfl⟩
  have HN := Lib.hid (show Calls Try.prog 8 #[.int .u64 (now : Int)] w fun r w' => r = .returned (.pointer (some ⟨w.heap.size + 1, 0, none⟩)) ∧ WhS w (fun _ => False) w' (w.heap.size + 1) s [] from by
    have h := wnewS_any now w hnow
    rwa [← hs] at h)
  by_cases hbig : 100 < n
  · have hb : (100 : Int) < (n : Int) := by omega
    clear h hw hs hbig
    go_enter Try.func3, Try.ntmps3
    go_wp2_with fail
    refine HN.out.mono ?_
    rintro r w1 ⟨rfl, hW⟩
    have HW := Lib.hid hW
    clear hW
    go_wp2_with fail
    refine (HA.out _).mono ?_
    rintro r w2 ⟨rfl, hb2⟩
    have Hend := Lib.hid (HW.out.base.trans (hb2.mono HW.out.base.size))
    clear hb2
    go_wp2
    go_ret
    exact ⟨rfl, Hend.out⟩
  · have hb : ¬ (100 : Int) < (n : Int) := by omega
    have HR := Lib.hid (show ∀ W, Calls Try.prog 11 #[.int .u64 (now : Int)] W fun r w' => r = .returned (.agg #[.int .u64 (s : Int), .slice none 0 0]) ∧ Below W.heap.size W w' from fun W => by
      have h := rnew16_any now W
      rwa [← hs] at h)
    have HO := Lib.hid (And.intro h (And.intro hw (show n ≤ 100 by omega)))
    clear h hw hs hbig
    go_enter Try.func3, Try.ntmps3
    go_wp2_with fail
    refine HN.out.mono ?_
    rintro r w1 ⟨rfl, hW⟩
    have HW := Lib.hid hW
    clear hW
    go_wp2_with fail
    refine (HR.out _).mono ?_
    rintro r w2 ⟨rfl, hb2⟩
    have HP := Lib.hid (play16_any (HW.out.below hb2) p n c l HO.out.1 HO.out.2.1 HO.out.2.2)
    clear hb2
    go_wp2_with fail
    refine HP.out.mono ?_
    rintro r w3 ⟨m, q, u, v, rfl, hb3⟩
    have Hb3 := Lib.hid hb3
    clear hb3
    go_wp2_with fail
    refine (HA.out _).mono ?_
    rintro r w4 ⟨rfl, hb4⟩
    have Hb4 := Lib.hid hb4
    clear hb4
    go_wp2
    go_ret
    exact ⟨rfl, Hb3.out.trans (((Below.refl _ _).alloc (Nat.le_refl _) _).trans (Hb4.out.mono (by simp)) |>.mono Hb3.out.size)⟩
end Go.Proofs.Ythidinaflaogfaa
