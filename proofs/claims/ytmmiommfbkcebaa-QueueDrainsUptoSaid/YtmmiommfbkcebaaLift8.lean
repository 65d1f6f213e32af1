/- A byte that came in. -/
import Derived.Test.YtmmiommfbkcebaaLift
namespace Go.Proofs.Ytmmiommfbkcebaa
open Go.ChangeShapes Go.WideShapes Go.ChangeAt Go.RowKit Go.Deep

theorem nat_u8 {n : Int} (h : (Lit.int .u8 n).wf = true) : ∃ x : Nat, x < 256 ∧ n = (x : Int) := by
  have := wf_u8 h
  exact ⟨n.toNat, by omega, by omega⟩
end Go.Proofs.Ytmmiommfbkcebaa
