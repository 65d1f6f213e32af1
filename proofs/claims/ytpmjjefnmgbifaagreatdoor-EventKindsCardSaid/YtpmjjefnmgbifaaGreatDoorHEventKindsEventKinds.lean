/- The walk of the statement EventKinds. -/
import Derived.Test.YtpmjjefnmgbifaaGreatDoorMB32
import Derived.Test.YtpmjjefnmgbifaaGreatDoorMB33
import Derived.Deep.RegionHeld3
namespace Go.Proofs.YtpmjjefnmgbifaaGreatDoor
open Go.RowKit Go.Shelf Fl
attribute [local go_sem ↓] Go.wp_at_zero Go.wp_at_succ

set_option maxRecDepth 100000 in
theorem eventKinds_any (k : Int) (w : World) (hp : Pow10 w) (ht : Tab16 w) : Calls Tryz.prog 6 #[.int .i64 k] w fun e w' => e = .returned (.bool true) ∧ Below w.heap.size w w' := by
  have HA := Lib.hid (fun W (hW : Below w.heap.size w W) => alive11_any W (hp.below hW) (tab_below ht hW))
  have HN := Lib.hid (evname_any k)
  have HR := Lib.hid (rname11_any k)
  have HO := Lib.hid (outside_any k)
  have HC := Lib.hid (closes_any k)
  have hs : ((str (evName k)).toList == (str (evName k)).toList) = true := str_eq _
  clear hp ht
  have h5 : (¬ 1 ≤ k ∧ k ≤ 6 ∧ ¬ 9 ≤ k ∧ k ≤ 11) ∨ (1 ≤ k ∧ k ≤ 6 ∧ ¬ 9 ≤ k ∧ k ≤ 11) ∨ (1 ≤ k ∧ ¬ k ≤ 6 ∧ ¬ 9 ≤ k ∧ k ≤ 11) ∨ (1 ≤ k ∧ ¬ k ≤ 6 ∧ 9 ≤ k ∧ k ≤ 11) ∨ (1 ≤ k ∧ ¬ k ≤ 6 ∧ 9 ≤ k ∧ ¬ k ≤ 11) := by omega
  rcases h5 with ⟨q1, q2, q3, q4⟩ | ⟨q1, q2, q3, q4⟩ | ⟨q1, q2, q3, q4⟩ | ⟨q1, q2, q3, q4⟩ | ⟨q1, q2, q3, q4⟩
  all_goals simp only [q1, q2, q3, q4, decide_true, decide_false, Bool.and_true, Bool.and_false] at HO HC
  all_goals go_enter Tryz.func6, Tryz.ntmps6
  all_goals go_wp2_with fail
  all_goals refine (HA.out w (Below.refl _ _)).mono ?_
  all_goals rintro e w1 ⟨rfl, hb1⟩
  all_goals have Hb1 := Lib.hid hb1
  all_goals clear hb1
  all_goals go_wp2_with fail
  all_goals refine (HN.out _).mono ?_
  all_goals rintro e w2 ⟨rfl, hb2⟩
  all_goals have Hb2 := Lib.hid (Hb1.out.trans (hb2.mono Hb1.out.size))
  all_goals clear hb2
  all_goals go_wp2_with fail
  all_goals refine (HR.out _).mono ?_
  all_goals rintro e w3 ⟨rfl, hb3⟩
  all_goals have Hb3 := Lib.hid (Hb2.out.trans (hb3.mono Hb2.out.size))
  all_goals clear hb3
  all_goals go_wp2_with fail
  all_goals refine (HO.out _).mono ?_
  all_goals rintro e w4 ⟨rfl, rfl⟩
  all_goals go_wp2_with fail
  all_goals refine (HC.out _).mono ?_
  all_goals rintro e w5 ⟨rfl, rfl⟩
  all_goals go_wp2
  all_goals go_ret
  all_goals refine ⟨congrArg (fun b => Ending.returned (.bool b)) ?_, Hb3.out⟩
  all_goals first | rfl | (simp [q2, q4]; done) | (simp [q2, q3, q4]; done) | trace_state
end Go.Proofs.YtpmjjefnmgbifaaGreatDoor
