/- For all arguments, in whatever memory, the statement WalMatches answers true, and leaves its arguments as they were: proved for every input that can be read. No condition. -/
import Derived.Test.YtehjgkkcpiblcaaGreatHWalMatchesWalMatches
import Derived.Test.YtehjgkkcpiblcaaGreatHWalMatchesOpenO
import Derived.Test.YtehjgkkcpiblcaaGreatMB44
import Derived.Test.YtehjgkkcpiblcaaGreatMB9
import Derived.SizedLaws
namespace Go.Proofs.YtehjgkkcpiblcaaGreat.WalMatchesP
open Go.ChangeShapes Go.WideShapes Go.ChangeAt Go.RowKit Go.Deep

theorem own : ownKnob Tryz.prog.godebug = none := by kernel_rfl
theorem laidOut : laidOutB Tryz.prog = true := by kernel_rfl


theorem bytes_op : Tryz.prog.bytesOf 94 = 40 := by kernel_rfl

set_option maxRecDepth 100000 in
theorem lifted (os : Os) (started : os.Started) (H : Type) (enc : TypeId × Value → H) :
    ReturnsInHanded {} Tryz.checked os 3 .any (Rows.walMatchesSpec.pre6 enc Tryz.prog Tryz.f3 Rows.walMatchesRow.domain false) (Rows.walMatchesSpec.post enc Tryz.prog Tryz.f3 false true false false) := by
  refine returnsInHanded_of_change_sized (C := Tryz.checked) own started (by kernel_rfl) Tryz.func3
    (ChangeSpec.witness6 (enc := enc) (C := Tryz.checked) false ⟨#[], #[.int .u16 0, .int .u16 0, .slice none 0 0], []⟩ 8 (by kernel_rfl) (by kernel_rfl) (by kernel_rfl) (by kernel_rfl)) ?_
  intro W base args ds gs before hval0 hW _ hsz0 _
  have hsz : (DataW.weightsEach Tryz.prog (Tryz.f3.params.toList ++ Rows.walMatchesSpec.plain.varTypes Tryz.prog) (ds ++ gs)).all (· ≤ reachBytes) = true := hsz0
  have hval : ∀ (j : Nat) t v, Tryz.f3.params[j]? = some t → args[j]? = some v → Value.okWide Tryz.prog W .any base t v := hval0
  have hW' := hW
  obtain ⟨p, q, hA0, hV, rfl, _, _⟩ := hW
  have hA : DataW.TrodAll enc Tryz.prog W 0 (fun _ => true) true Tryz.f3.params.toList args.toList ds p := hA0
  rw [Tryz.params3] at hA hval hsz
  obtain ⟨v0, v1, v2, d0, d1, d2, p0, p1, p2, rfl, rfl, rfl, h0, h1, h2⟩ := trodAll_three hA
  obtain ⟨rfl, rfl⟩ := trodVars_none hV
  obtain ⟨z0, rfl, rfl, rfl, wz0⟩ := open_int Tryz.underlying22 (hval 0 22 v0 rfl rfl) h0
  obtain ⟨x0, hx0, rfl⟩ := nat_u16 wz0
  obtain ⟨z1, rfl, rfl, rfl, wz1⟩ := open_int Tryz.underlying22 (hval 1 22 v1 rfl rfl) h1
  obtain ⟨x1, hx1, rfl⟩ := nat_u16 wz1
  obtain ⟨a2, n2, cap2, l2, rfl, hP2, hN2⟩ := open_opms (hval 2 23 v2 rfl rfl) h2
  have h40 : n2 * 40 ≤ 140737488351232 := by
    rcases hN2 with rfl | ⟨el, sp, rfl, hle⟩
    · omega
    · have h2 : (el.length + sp.length) * Tryz.prog.bytesOf 94 ≤ reachBytes := of_decide_eq_true (List.all_eq_true.1 hsz ((el.length + sp.length) * Tryz.prog.bytesOf 94) (by simp [DataW.weights, DataW.weightsEach, Tryz.underlying23]))
      rw [bytes_op] at h2
      simp only [reachBytes] at h2
      omega
  refine (walMatches_any x0 x1 a2 n2 cap2 l2 W hx0 hx1 hP2 h40).mono fun e W' ⟨he, hb⟩ => ?_
  subst he
  exact ⟨_, rfl, law_post laidOut (by kernel_rfl) rfl (by kernel_rfl) Tryz.underlying4 hW' rfl hb⟩

theorem proved : Rows.WalMatchesSaid :=
  OpenClaim.holds_of_wide 3 Tryz.f3 rfl rfl rfl rfl rfl rfl rfl ⟨rfl, rfl, rfl, rfl, rfl⟩ rfl rfl rfl rfl rfl (by kernel_rfl) Tryz.func3 (by kernel_rfl)
    (of_decide_eq_true (by kernel_rfl)) (by unfold Func.isWrapper; first | (rw [if_pos (by decide +kernel)]; kernel_rfl) | (rw [if_neg (by decide +kernel)]; exact ⟨rfl, rfl⟩))
    (fun os started H enc _ => lifted os started H enc)
#print axioms proved
end Go.Proofs.YtehjgkkcpiblcaaGreat.WalMatchesP
