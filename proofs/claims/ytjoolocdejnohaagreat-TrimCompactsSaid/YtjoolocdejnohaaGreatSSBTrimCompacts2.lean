import Derived.Test.YtjoolocdejnohaaGreatSSBTrimCompacts1
import Derived.Test.YtjoolocdejnohaaGreatSSB47
import Derived.Test.YtjoolocdejnohaaGreatSSB34
import Derived.Test.YtjoolocdejnohaaGreatSSB7
import Derived.Test.YtjoolocdejnohaaGreatSSB1
import Derived.OpenShut
/- For all arguments, in whatever memory, the statement TrimCompacts answers true, and leaves its arguments as they were: proved for every input that can be read. No condition. -/
namespace Go.Proofs.YtjoolocdejnohaaGreat.TrimCompactsP
open Go.ChangeShapes Go.WideShapes Go.ChangeAt Go.RowKit Go.Deep

theorem own : ownKnob Tryz.prog.godebug = none := by kernel_rfl
theorem laidOut : laidOutB Tryz.prog = true := by kernel_rfl

set_option maxRecDepth 100000 in
theorem lifted (os : Os) (started : os.Started) (H : Type) (enc : TypeId × Value → H) :
    ReturnsInHanded {} Tryz.checked os 8 .any (Rows.trimCompactsSpec.pre6 enc Tryz.prog Tryz.f8 Rows.trimCompactsRow.domain false) (Rows.trimCompactsSpec.post enc Tryz.prog Tryz.f8 false true false false) := by
  refine returnsInHanded_of_change (C := Tryz.checked) own started (by kernel_rfl) Tryz.func8
    (ChangeSpec.witness6 (enc := enc) (C := Tryz.checked) false ⟨#[], #[.agg #[.int .u16 0, .int .u16 0], .agg #[.slice none 0 0, .slice none 0 0], .int .u8 0], []⟩ 8 (by kernel_rfl) (by kernel_rfl) (by kernel_rfl) (by kernel_rfl)) ?_
  intro W base args ds gs before hval0 hW _ _
  have hval : ∀ (j : Nat) t v, Tryz.f8.params[j]? = some t → args[j]? = some v → Value.okWide Tryz.prog W .any base t v := hval0
  have hW' := hW
  obtain ⟨p, q, hA0, hV, rfl, _, _⟩ := hW
  have hA : DataW.TrodAll enc Tryz.prog W 0 (fun _ => true) true Tryz.f8.params.toList args.toList ds p := hA0
  rw [Tryz.params8] at hA hval
  obtain ⟨v0, v1, v2, d0, d1, d2, p0, p1, p2, rfl, rfl, rfl, h0, h1, h2⟩ := trodAll_three hA
  obtain ⟨rfl, rfl⟩ := trodVars_none hV
  obtain ⟨z0, m0, rfl, wz0, wm0⟩ := open_pairu (hval 0 70 v0 rfl rfl) h0
  obtain ⟨a1, n1, cap1, l1, b1, m1, dap1, k1, rfl, hP1, hQ1⟩ := open_pair (hval 1 71 v1 rfl rfl) h1
  obtain ⟨z2, rfl, rfl, rfl, wz2⟩ := open_int Tryz.underlying5 (hval 2 5 v2 rfl rfl) h2
  obtain ⟨x2, hx2, rfl⟩ := nat_u8 wz2
  obtain ⟨y0, hy0, rfl⟩ := nat_u16 wz0
  obtain ⟨y1, hy1, rfl⟩ := nat_u16 wm0
  refine (trimCompacts_any y0 y1 hy0 hy1 a1 n1 cap1 l1 b1 m1 dap1 k1 x2 hx2 W hP1 hQ1).mono fun e W' ⟨he, hb⟩ => ?_
  subst he
  exact ⟨_, rfl, law_post laidOut (by kernel_rfl) rfl (by kernel_rfl) Tryz.underlying4 hW' rfl hb⟩

theorem proved : Rows.TrimCompactsSaid :=
  OpenClaim.holds_of_wide 8 Tryz.f8 rfl rfl rfl rfl rfl rfl rfl ⟨rfl, rfl, rfl, rfl, rfl⟩ rfl rfl rfl rfl rfl (by kernel_rfl) Tryz.func8 (by kernel_rfl)
    (of_decide_eq_true (by kernel_rfl)) (by unfold Func.isWrapper; first | (rw [if_pos (by decide +kernel)]; kernel_rfl) | (rw [if_neg (by decide +kernel)]; exact ⟨rfl, rfl⟩))
    (fun os started H enc _ => lifted os started H enc)
#print axioms proved
end Go.Proofs.YtjoolocdejnohaaGreat.TrimCompactsP

