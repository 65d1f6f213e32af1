import Derived.Test.YtcapbaocchaenaaGreatDoorSG2
import Derived.Lib.Hide
/- The names of kinds, the code's and the reference's; Outside and Closes. -/
namespace Go.Proofs.YtcapbaocchaenaaGreatDoor
open Go.RowKit

set_option maxRecDepth 100000 in
theorem outside_any (k : Int) (w : World) : Calls Tryz.prog 47 #[.int .i64 k] w fun e w' => e = .returned (.bool (decide (1 ≤ k) && decide (k ≤ 6))) ∧ w' = w := by
  by_cases h : (1 : Int) ≤ k
  · go_enter Tryz.func47, Tryz.ntmps47
    go_wp2
    go_ret
    exact ⟨by simp [h], rfl⟩
  · go_enter Tryz.func47, Tryz.ntmps47
    go_wp2
    go_ret
    exact ⟨by simp; omega, rfl⟩

end Go.Proofs.YtcapbaocchaenaaGreatDoor

