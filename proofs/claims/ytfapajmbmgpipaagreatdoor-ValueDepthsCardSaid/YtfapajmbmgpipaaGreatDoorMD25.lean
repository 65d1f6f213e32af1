import Derived.Test.YtfapajmbmgpipaaGreatDoorMD24
import Derived.Test.YtfapajmbmgpipaaGreatDoorMD6
import Derived.Test.YtfapajmbmgpipaaGreatDoorMD13
import Derived.Test.YtfapajmbmgpipaaGreatDoorMD11
import Derived.Test.YtfapajmbmgpipaaGreatDoorCards
import Derived.Test.YtfapajmbmgpipaaGreatDoorTie
/- What the listed variables of the library's errors give the walks. -/
namespace Go.Proofs.YtfapajmbmgpipaaGreatDoor
open Go.RowKit

theorem star : "*" ++ "errors.errorString" = "*errors.errorString" := by decide
theorem rowE (u : TypeId) (h : Tryz.prog.typeName? 3 u = some "*errors.errorString") : u = 158 :=
  typeName_ptr_named (nm := "errors.errorString") (by rw [star]; kernel_rfl) (by kernel_rfl) (by decide) u (by rw [star]; exact h)
theorem gSyn : Tryz.prog.globalNamed "strconv.ErrSyntax" = some 2 := by kernel_rfl
theorem gRan : Tryz.prog.globalNamed "strconv.ErrRange" = some 3 := by kernel_rfl

theorem errs_of_laid {d1 d2 d3 : String × DataW Unit} {x y : List UInt8} {rest : List (String × DataW Unit)} {W : World}
    (h : laidMet Tryz.prog (d1 :: d2 :: d3 :: ("strconv.ErrRange", .iface "*errors.errorString" (.ptr (.agg [.lit (.string x)]))) :: ("strconv.ErrSyntax", .iface "*errors.errorString" (.ptr (.agg [.lit (.string y)]))) :: rest) W) : Errs W := by
  have h1 := h.tail.tail.tail
  obtain ⟨a, _, v, _, _, _⟩ := laid_sentinel h1 gRan (by kernel_rfl : (Tryz.prog.globals[3]?).map (·.type) = some 105) Tryz.underlying105 rowE Tryz.underlying158 Tryz.underlying160 rfl rfl Tryz.underlying9 (by kernel_rfl) (by kernel_rfl)
  obtain ⟨a', _, v', _, _, _⟩ := laid_sentinel h1.tail gSyn (by kernel_rfl : (Tryz.prog.globals[2]?).map (·.type) = some 105) Tryz.underlying105 rowE Tryz.underlying158 Tryz.underlying160 rfl rfl Tryz.underlying9 (by kernel_rfl) (by kernel_rfl)
  have c := World.var?_cell gRan v 0
  have c' := World.var?_cell gSyn v' 0
  exact ⟨⟨_, _, by simpa using c'⟩, ⟨_, _, by simpa using c⟩⟩
end Go.Proofs.YtfapajmbmgpipaaGreatDoor

/- What the listed table of powers of ten gives the walks. -/
namespace Go.Proofs.YtfapajmbmgpipaaGreatDoor
open Go.RowKit

theorem gPow : Tryz.prog.globalNamed "internal/strconv.uint64pow10" = some 4 := by kernel_rfl

theorem pow10_of_laid {d1 d2 : String × DataW Unit} {rest : List (String × DataW Unit)} {W : World} (h : laidMet Tryz.prog (d1 :: d2 :: ("internal/strconv.uint64pow10", Lib.tabData .u64 Lib.pow10Tab) :: rest) W) : Pow10 W :=
  Lib.tabIs_of_head gPow (by kernel_rfl : (Tryz.prog.globals[4]?).map (·.type) = some 162) Tryz.underlying162 Tryz.underlying46 (by kernel_rfl) (by kernel_rfl) (laidMet.tail (laidMet.tail h))
end Go.Proofs.YtfapajmbmgpipaaGreatDoor

/- For all arguments, in whatever memory in which the listed package-level variables hold what the program's text lays, the statement ValueDepths answers true, and leaves its arguments as they were. The card ties the listed variables to the text. No condition of our own. -/
namespace Go.Proofs.YtfapajmbmgpipaaGreatDoor.ValueDepthsP
open Go.ChangeShapes Go.WideShapes Go.ChangeAt Go.WideMaps Go.WideElems Go.RowKit
open Go.ChangeMaps (open_string)

theorem own : ownKnob Tryz.prog.godebug = none := by kernel_rfl
theorem laidOut : laidOutB Tryz.prog = true := by kernel_rfl


theorem door_met (os : Os) (args : Array Value) : laidMetH Tryz.prog Rows.valueDepthsRow.laid ((World.doorLaid Tryz.prog 400 os).forCall (fun _ _ => 0) ⟨#[], args, []⟩).memory :=
  laidMetH_of_parts3 (fuel := 8) (laidMet_of_run' 8 (by kernel_rfl) (by kernel_rfl)) (by kernel_rfl) (by kernel_rfl)

set_option maxRecDepth 100000 in
theorem lifted (os : Os) (started : os.Started) (H : Type) (enc : TypeId × Value → H) :
    ReturnsInHanded {} Tryz.checked os 5 .any (fun w args => (Rows.valueDepthsSpec.pre enc Tryz.prog Tryz.f5 [] false w args ∧ laidMetH Tryz.prog Rows.valueDepthsRow.laid w) ∧ sizedMet enc Tryz.prog Tryz.f5 (OpenSpec.ofChange Rows.valueDepthsSpec) false w args)
      (Rows.valueDepthsSpec.post enc Tryz.prog Tryz.f5 false true false false) := by
  refine returnsInHanded_of_change_and (C := Tryz.checked) (X := fun w _ => laidMetH Tryz.prog Rows.valueDepthsRow.laid w) (fun _ _ _ hh h => h.of_heap hh) own started (by kernel_rfl) Tryz.func5
    (ChangeSpec.witness_shaped (enc := enc) (C := Tryz.checked) (os := os) (X := fun w _ => laidMetH Tryz.prog Rows.valueDepthsRow.laid w) false (World.doorLaid Tryz.prog 400 os) #[.int .u8 0, .agg #[.int .i64 0, .int .i64 0, .float .f64 0, .string ⟨#[]⟩, .slice none 0 0]] 8 rfl (World.shaped_of_RefB (by kernel_rfl) (by kernel_rfl)) (by kernel_rfl) (by kernel_rfl) (by kernel_rfl) (door_met os _)) ?_
  intro W base args ds gs before hval0 hW _ _ hL _
  have hval : ∀ (j : Nat) t v, Tryz.f5.params[j]? = some t → args[j]? = some v → Value.okWide Tryz.prog W .any base t v := hval0
  have hW' := hW
  obtain ⟨p, q, hA0, hV, rfl, _, _⟩ := hW
  have hA : DataW.TrodAll enc Tryz.prog W 0 (fun _ => true) true Tryz.f5.params.toList args.toList ds p := hA0
  rw [Tryz.params5] at hA hval
  obtain ⟨v0, v1, d0, d1, p0, p1, rfl, rfl, rfl, h0, h1⟩ := trodAll_two hA
  obtain ⟨rfl, rfl⟩ := trodVars_none hV
  obtain ⟨z0, rfl, rfl, rfl, wz0⟩ := open_int Tryz.underlying5 (hval 0 5 v0 rfl rfl) h0
  obtain ⟨x0, hx0, rfl⟩ := nat_u8 wz0
  obtain ⟨x1, u1, rfl, hV1⟩ := open_value (hval 1 25 v1 rfl rfl) h1
  have hM : laidMet Tryz.prog Rows.valueDepthsRow.laid W := by
    have h := hL
    rw [MakeChecks.laidMetH_plain _ _ _ (by kernel_rfl)] at h
    exact h
  have ht := tab_of_laid hM
  have he := errs_of_laid hM
  have hp := pow10_of_laid hM
  refine (depths_any x0 u1 x1 W hx0 hV1 hp he ht).mono fun e W' ⟨he, hb⟩ => ?_
  subst he
  exact ⟨_, rfl, law_post laidOut (by kernel_rfl) rfl (by kernel_rfl) Tryz.underlying4 hW' rfl hb⟩

theorem row_holds : Rows.ValueDepthsSaid :=
  OpenClaim.holds_of_wide 5 Tryz.f5 rfl rfl rfl rfl rfl rfl rfl ⟨rfl, rfl, rfl, rfl, rfl⟩ rfl rfl rfl rfl rfl (by kernel_rfl) Tryz.func5 (by kernel_rfl)
    (of_decide_eq_true (by kernel_rfl)) (by unfold Func.isWrapper; first | (rw [if_pos (by decide +kernel)]; kernel_rfl) | (rw [if_neg (by decide +kernel)]; exact ⟨rfl, rfl⟩))
    (fun os started H enc _ => lifted os started H enc)

theorem proved : Rows.ValueDepthsCardSaid :=
  Claim7.holds_tied_plain_at .later [] Rows.valueDepthsCard.laidKinds Rows.valueDepthsCard.laidTests Rows.valueDepthsCard.stood.harness Rows.valueDepthsCard.stood.looks
    row_holds (fun _ h => by cases h) (by kernel_rfl) (fun _ h => by cases h) valueDepths_row_tie rfl ⟨rfl, rfl⟩ (by kernel_rfl) rfl
    (fun f fn hf hfn => by
      obtain rfl : f = 5 := Option.some.inj ((show Tryz.prog.funcNamed "clockwork/clockworklaw04.ValueDepths" = some 5 by kernel_rfl).symm.trans hf) |>.symm
      obtain rfl : fn = Tryz.f5 := (Option.some.inj (Tryz.func5.symm.trans hfn)).symm
      exact ⟨by kernel_rfl, fun j t ht => by
        rw [Tryz.params5] at ht
        have hm : t ∈ [5, 25] := by simpa using Array.mem_of_getElem? ht
        have hall : ([5, 25].all fun u => !Tryz.prog.wantsStandIn u) = true := by kernel_rfl
        exact (show Tryz.prog.wantsStandIn t = false by simpa using List.all_eq_true.1 hall t hm)⟩)
    (by kernel_rfl)
#print axioms proved
end Go.Proofs.YtfapajmbmgpipaaGreatDoor.ValueDepthsP

