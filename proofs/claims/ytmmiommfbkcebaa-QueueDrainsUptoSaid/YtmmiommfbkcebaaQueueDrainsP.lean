/- For all arguments whose values and letters together are at most 1048576 in number, in whatever memory, the statement QueueDrains answers true, and leaves its arguments as they were. Its one condition is that bound. -/
import Derived.Test.YtmmiommfbkcebaaQueueDrains
import Derived.Test.YtmmiommfbkcebaaRows
import Derived.Test.YtmmiommfbkcebaaLift
import Derived.Test.YtmmiommfbkcebaaLift8
import Derived.Test.YtmmiommfbkcebaaOpenQB
import Derived.Test.YtmmiommfbkcebaaQmKit
import Derived.Test.YtmmiommfbkcebaaLift
import Derived.JoinedCond
namespace Go.Proofs.Ytmmiommfbkcebaa.QueueDrainsP
open Go.ChangeShapes Go.WideShapes Go.ChangeAt Go.RowKit Go.Deep

theorem own : ownKnob Try.prog.godebug = none := by kernel_rfl
theorem laidOut : laidOutB Try.prog = true := by kernel_rfl


set_option maxRecDepth 100000 in
theorem lifted (os : Os) (started : os.Started) (H : Type) (enc : TypeId × Value → H) (F0 : Stop.Interp) :
    ReturnsInHanded {} Try.checked os 5 .any ((Rows.OpenSpec.upto Rows.queueDrainsSpec).pre6 enc Try.prog Try.f5 Rows.queueDrainsUptoRow.domain false) (((Rows.OpenSpec.upto Rows.queueDrainsSpec).at F0).post enc Try.prog Try.f5 false true false false) := by
  refine returnsInHanded_of_cond (C := Try.checked) (s := Rows.OpenSpec.upto Rows.queueDrainsSpec) (k := Rows.uptoSmall) rfl own started (by kernel_rfl) Try.func5
    (OpenSpec.witness (enc := enc) (C := Try.checked) (s := Rows.OpenSpec.upto Rows.queueDrainsSpec) (k := Rows.uptoSmall) rfl false ⟨#[], #[.slice none 0 0, .slice none 0 0, .int .u8 0], []⟩ 8 (by kernel_rfl) (by kernel_rfl) (by kernel_rfl)
      (x := ([.nil, .nil, .lit (.int .u8 0)], [], [])) (by kernel_rfl) (by kernel_rfl) (by kernel_rfl)) ?_
  intro W base args ds gs before hval0 hW _ hk _
  have hval : ∀ (j : Nat) t v, Try.f5.params[j]? = some t → args[j]? = some v → Value.okWide Try.prog W .any base t v := hval0
  have hW' := hW
  obtain ⟨p, q, hA0, hV, rfl, _, _⟩ := hW
  have hA : DataW.TrodAll enc Try.prog W 0 (fun _ => true) true Try.f5.params.toList args.toList ds p := hA0
  rw [Try.params5] at hA hval
  obtain ⟨v0, v1, v2, d0, d1, d2, p0, p1, p2, rfl, rfl, rfl, h0, h1, h2⟩ := trodAll_three hA
  obtain ⟨rfl, rfl⟩ := trodVars_none hV
  have hb : Rows.uptoBulkAll [d0, d1, d2] ≤ 1048576 := of_decide_eq_true hk
  obtain ⟨a0, n0, cap0, l0, rfl, hP0, hW0, hB0⟩ := open_qb (hval 0 22 v0 rfl rfl) h0
  have hS0 : n0 ≤ 1048576 := by simp only [Rows.uptoBulkAll] at hb; omega
  obtain ⟨a1, n1, cap1, l1, rfl, hP1, hW1, hB1⟩ := open_qb (hval 1 22 v1 rfl rfl) h1
  have hS1 : n1 ≤ 1048576 := by simp only [Rows.uptoBulkAll] at hb; omega
  obtain ⟨z2, rfl, rfl, rfl, wz2⟩ := open_int Try.underlying5 (hval 2 5 v2 rfl rfl) h2
  obtain ⟨x2, hx2, rfl⟩ := nat_u8 wz2
  clear hb
  refine (queueDrains_any theKit a0 n0 cap0 l0 a1 n1 cap1 l1 x2 W hP0 hS0 hP1 hW0 hW1 hx2).mono fun e W' ⟨he, hb⟩ => ?_
  subst he
  exact ⟨_, rfl, law_post (s := Rows.queueDrainsSpec) laidOut (by kernel_rfl) rfl (by kernel_rfl) Try.underlying4 hW' rfl hb⟩

theorem proved : Rows.QueueDrainsUptoSaid :=
  OpenClaim.holds_of_cond 5 Try.f5 rfl rfl rfl rfl rfl rfl rfl ⟨rfl, rfl, rfl, rfl, rfl⟩ rfl rfl rfl rfl rfl (by kernel_rfl) Try.func5 (by kernel_rfl)
    (of_decide_eq_true (by kernel_rfl)) (by unfold Func.isWrapper; first | (rw [if_pos (by decide +kernel)]; kernel_rfl) | (rw [if_neg (by decide +kernel)]; exact ⟨rfl, rfl⟩))
    (fun os started H enc _ F0 => lifted os started H enc F0)
#print axioms proved
end Go.Proofs.Ytmmiommfbkcebaa.QueueDrainsP
