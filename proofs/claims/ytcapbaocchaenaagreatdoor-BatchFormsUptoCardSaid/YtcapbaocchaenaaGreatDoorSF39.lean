import Derived.Test.YtcapbaocchaenaaGreatDoorSF2
import Derived.Lib.Hide
/- The names of kinds, the code's and the reference's; Outside and Closes. -/
namespace Go.Proofs.YtcapbaocchaenaaGreatDoor
open Go.RowKit

set_option maxRecDepth 100000 in
set_option maxHeartbeats 3200000 in
theorem rname11_any (k : Int) (w : World) : Calls Tryz.prog 69 #[.int .i64 k] w fun e w' => e = .returned (.string (str (evName k))) ∧ Below w.heap.size w w' := by
  by_cases h1 : k < 1
  · have e1 := (evName_none (k := k) (by omega)).1
    rw [e1]
    clear e1
    go_enter Tryz.func69, Tryz.ntmps69
    go_wp2
    go_ret
    exact ⟨rfl, Below.refl _ _⟩
  by_cases h2 : (11 : Int) < k
  · have e1 := (evName_none (k := k) (by omega)).1
    rw [e1]
    clear e1
    go_enter Tryz.func69, Tryz.ntmps69
    go_wp2
    go_ret
    exact ⟨rfl, Below.refl _ _⟩
  have hb := fun o => (Below.refl w.heap.size w).alloc (Nat.le_refl _) o
  have hk : k = 1 ∨ k = 2 ∨ k = 3 ∨ k = 4 ∨ k = 5 ∨ k = 6 ∨ k = 7 ∨ k = 8 ∨ k = 9 ∨ k = 10 ∨ k = 11 := by omega
  clear h1 h2
  rcases hk with rfl | rfl | rfl | rfl | rfl | rfl | rfl | rfl | rfl | rfl | rfl
  all_goals go_enter Tryz.func69, Tryz.ntmps69
  all_goals go_wp2
  all_goals go_ret
  all_goals exact ⟨congrArg (fun x => Ending.returned (.string x)) (by kernel_rfl), hb _⟩
end Go.Proofs.YtcapbaocchaenaaGreatDoor

