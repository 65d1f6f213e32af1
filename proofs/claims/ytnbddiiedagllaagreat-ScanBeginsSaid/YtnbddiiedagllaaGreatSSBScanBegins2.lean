import Derived.Test.YtnbddiiedagllaaGreatSSBScanBegins1
import Derived.Test.YtnbddiiedagllaaGreatSSB46
import Derived.Test.YtnbddiiedagllaaGreatSSB7
import Derived.Test.YtnbddiiedagllaaGreatSSB47
/- For all arguments, in whatever memory, the statement ScanBegins answers true, and leaves its arguments as they were: proved for every input that can be read. No condition. -/
namespace Go.Proofs.YtnbddiiedagllaaGreat.ScanBeginsP
open Go.ChangeShapes Go.WideShapes Go.ChangeAt Go.RowKit Go.Deep

theorem own : ownKnob Tryz.prog.godebug = none := by kernel_rfl
theorem laidOut : laidOutB Tryz.prog = true := by kernel_rfl
theorem cells_b : Tryz.prog.cellsOf 5 = 1 := by kernel_rfl
theorem cells_p : Tryz.prog.cellsOf 58 = 1 := by kernel_rfl
theorem cells_i : Tryz.prog.cellsOf 3 = 1 := by kernel_rfl

set_option maxRecDepth 100000 in
theorem lifted (os : Os) (started : os.Started) (H : Type) (enc : TypeId × Value → H) :
  ReturnsInHanded {} Tryz.checked os 6 .any (Rows.scanBeginsSpec.pre6 enc Tryz.prog Tryz.f6 Rows.scanBeginsRow.domain false) (Rows.scanBeginsSpec.post enc Tryz.prog Tryz.f6 false true false false) := by
 refine returnsInHanded_of_change (C := Tryz.checked) own started (by kernel_rfl) Tryz.func6
  (ChangeSpec.witness6 (enc := enc) (C := Tryz.checked) false ⟨#[], #[.agg #[.int .u8 0, .int .u8 0], .slice none 0 0, .slice none 0 0], []⟩ 8 (by kernel_rfl) (by kernel_rfl) (by kernel_rfl) (by kernel_rfl)) ?_
 intro W base args ds gs before hval0 hW _ _
 have hval : ∀ (j : Nat) t v, Tryz.f6.params[j]? = some t → args[j]? = some v → Value.okWide Tryz.prog W .any base t v := hval0
 have hW' := hW
 obtain ⟨p, q, hA0, hV, rfl, _, _⟩ := hW
 have hA : DataW.TrodAll enc Tryz.prog W 0 (fun _ => true) true Tryz.f6.params.toList args.toList ds p := hA0
 rw [Tryz.params6] at hA hval
 obtain ⟨v0, v1, v2, d0, d1, d2, p0, p1, p2, rfl, rfl, rfl, h0, h1, h2⟩ := trodAll_three hA
 obtain ⟨rfl, rfl⟩ := trodVars_none hV
 obtain ⟨z0, m0, rfl, wz0, wm0⟩ := open_pairb (hval 0 55 v0 rfl rfl) h0
 obtain ⟨x0, hx0, rfl⟩ := nat_u8 wz0
 obtain ⟨x1, hx1, rfl⟩ := nat_u8 wm0
 obtain ⟨a1, n1, cap1, l1, rfl, hP1⟩ := open_parts Tryz.underlying29 Tryz.underlying58 Tryz.underlying5 cells_p cells_b (hval 1 29 v1 rfl rfl) h1
 obtain ⟨a2, n2, cap2, l2, rfl, hP2⟩ := open_nums Tryz.underlying33 Tryz.underlying3 cells_i (hval 2 33 v2 rfl rfl) h2
 refine (scanBegins_any x0 x1 hx0 hx1 a1 n1 cap1 l1 a2 n2 cap2 l2 W hP1 hP2).mono fun e W' ⟨he, hb⟩ => ?_
 subst he
 exact ⟨_, rfl, law_post laidOut (by kernel_rfl) rfl (by kernel_rfl) Tryz.underlying4 hW' rfl hb⟩

theorem proved : Rows.ScanBeginsSaid :=
 OpenClaim.holds_of_wide 6 Tryz.f6 rfl rfl rfl rfl rfl rfl rfl ⟨rfl, rfl, rfl, rfl, rfl⟩ rfl rfl rfl rfl rfl (by kernel_rfl) Tryz.func6 (by kernel_rfl)
  (of_decide_eq_true (by kernel_rfl)) (by unfold Func.isWrapper; first | (rw [if_pos (by decide +kernel)]; kernel_rfl) | (rw [if_neg (by decide +kernel)]; exact ⟨rfl, rfl⟩))
  (fun os started H enc _ => lifted os started H enc)
#print axioms proved
end Go.Proofs.YtnbddiiedagllaaGreat.ScanBeginsP

