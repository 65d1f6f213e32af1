import Derived.Test.YtcapbaocchaenaaGreatDoorSF32
import Derived.Test.YtcapbaocchaenaaGreatDoorSF38
import Derived.Test.YtcapbaocchaenaaGreatDoorSF43
import Derived.Test.YtcapbaocchaenaaGreatDoorSF6
import Derived.Deep.RegionHeld3
import Derived.Test.YtcapbaocchaenaaGreatDoorSF44
import Derived.Test.YtcapbaocchaenaaGreatDoorCards
import Derived.Test.YtcapbaocchaenaaGreatDoorTie
import Derived.Deep.DeepHandedRow
/- The walk of the statement BatchForms. -/
namespace Go.Proofs.YtcapbaocchaenaaGreatDoor
open Go.RowKit Go.Shelf Fl
attribute [local go_sem ↓] Go.wp_at_zero Go.wp_at_succ

set_option maxRecDepth 100000 in
set_option maxHeartbeats 12800000 in
theorem batchForms_any (t : Bt) (x : Array Value) (w : World) (hn : t.es.length ≤ 1048576) (h : BtIn w t x) (hp : Pow10 w) (ht : Tab16 w) :
    Calls Tryz.prog 3 #[.agg x] w fun r w' => r = .returned (.bool true) ∧ Below w.heap.size w w' := by
  have HA := Lib.hid (fun W => alive13_any W)
  have Hn := Lib.hid hn
  have HI0 := Lib.hid h
  have HP := Lib.hid hp
  have HT := Lib.hid ht
  obtain ⟨_, _, a, n, c, rfl, _⟩ := h
  have hal := (Below.refl w.heap.size w).alloc (Nat.le_refl _) (.cells #[.string (str t.flow), .int .u64 (t.at_ : Int), .slice a n c] 25)
  have HX1 := Lib.hid (heap_alloc_new w (.cells #[.string (str t.flow), .int .u64 (t.at_ : Int), .slice a n c] 25))
  have HI1 := Lib.hid (HI0.out.below hal)
  have HFw := Lib.hid (few13_any t _ _ HI1.out)
  have Hb1 := Lib.hid hal
  obtain ⟨y0, y1, y2⟩ := box3 HX1.out
  clear hal hn hp ht
  go_enter Tryz.func3, Tryz.ntmps3
  go_wp2_with fail
  generalize w.alloc (.cells #[.string (str t.flow), .int .u64 (t.at_ : Int), .slice a n c] 25) = w1 at *
  refine HFw.out.mono ?_
  rintro r w2 ⟨rfl, hb2⟩
  have Hb2 := Lib.hid (Hb1.out.trans (hb2.mono Hb1.out.size))
  have HX2 := Lib.hid (blk HX1.out hb2)
  have HI2 := Lib.hid (HI1.out.below hb2)
  clear hb2 HX1 HI1 Hb1 HFw y0 y1 y2
  cases hfw : fewB13 t with
  | false =>
    go_wp2_with fail
    refine (HA.out _).mono ?_
    rintro r w3 ⟨rfl, hb3⟩
    have Hb3 := Lib.hid (Hb2.out.trans (hb3.mono Hb2.out.size))
    clear hb3
    go_wp2
    go_ret
    exact ⟨rfl, Hb3.out⟩
  | true =>
    obtain ⟨hfl, hfe⟩ : t.flow.length ≤ 1100 ∧ t.es.all fewE = true := by
      unfold fewB13 at hfw
      rw [Bool.and_eq_true, decide_eq_true_eq] at hfw
      exact hfw
    have HB := Lib.hid (bbytes_any t _ w2 Hn.out hfe HI2.out)
    have Hfe := Lib.hid hfe
    have Hfl := Lib.hid hfl
    obtain ⟨y0, y1, y2⟩ := box3 HX2.out
    clear hfw hfe hfl
    go_wp2_with fail
    refine HB.out.mono ?_
    rintro r w3 hr3
    obtain ⟨p, cp, rfl, hB3, hb3⟩ := bytes_end hr3 HI2.out
    have HB3 := Lib.hid hB3
    have Hb3 := Lib.hid (Hb2.out.trans (hb3.mono Hb2.out.size))
    have HX3 := Lib.hid (blk HX2.out hb3)
    have HI3 := Lib.hid (HI2.out.below hb3)
    have HRB := Lib.hid (rbytes13_any t _ w3 Hn.out Hfe.out HI3.out)
    obtain ⟨L, hL⟩ : ∃ L, L = formOr t := ⟨_, rfl⟩
    rw [← hL] at HB3 ⊢
    have HL := Lib.hid hL
    clear hr3 hB3 hb3 HB HX2 y0 y1 y2 hL
    obtain ⟨y0, y1, y2⟩ := box3 HX3.out
    go_wp2_with fail
    refine HRB.out.mono ?_
    rintro r w4 hr4
    obtain ⟨p', cp', rfl, hB4, hb4⟩ := bytes_end hr4 HI3.out
    rw [← HL.out] at hB4 ⊢
    have HB4 := Lib.hid (HB3.out.grow hb4)
    have HB4' := Lib.hid hB4
    have Hb4 := Lib.hid (Hb3.out.trans (hb4.mono Hb3.out.size))
    have HX4 := Lib.hid (blk HX3.out hb4)
    have HI4 := Lib.hid (HI3.out.below hb4)
    clear hr4 hB4 hb4 HB3 HX3 HI3 HRB y0 y1 y2
    obtain ⟨y0, y1, y2⟩ := box3 HX4.out
    have HJ := Lib.hid (fun W (hW : Below w4.heap.size w4 W) => Hb4.out.trans (hW.mono Hb4.out.size))
    have HK := Lib.hid (fun W (hW : Below w4.heap.size w4 W) => box3 (blk HX4.out hW))
    have HV := Lib.hid (fun W (hW : Below w4.heap.size w4 W) => bvalid_any 20 (by omega) t _ W (fun e he => (few_parts (List.all_eq_true.1 Hfe.out e he)).2.1) (HI4.out.below hW))
    have HEq := Lib.hid (fun W (hW : Below w4.heap.size w4 W) => equal_any p p' L.length cp L.length cp' L L W (HB4.out.grow hW) (HB4'.out.grow hW))
    rw [show decide (L = L) = true from decide_eq_true rfl] at HEq
    have HTx := Lib.hid (fun W (hW : Below w4.heap.size w4 W) => btext_any t _ W Hn.out Hfe.out (HI4.out.below hW) (HP.out.below (HJ.out W hW)) (tab_below HT.out (HJ.out W hW)))
    have HRx := Lib.hid (fun W (hW : Below w4.heap.size w4 W) => rtext13_any t _ W Hn.out Hfe.out (HI4.out.below hW))
    generalize (if okB t = true then textBt t else []) = tx at HTx HRx
    obtain ⟨ok, hok⟩ : ∃ ok, ok = okB t := ⟨_, rfl⟩
    rw [← hok] at HV ⊢
    have Hok := Lib.hid hok
    have htx : ((str tx).toList == (str tx).toList) = true := by simp
    have hbn : (ok != ok) = false := by simp
    have hd : Below w4.heap.size w4 w4.drew := (Below.refl _ _).drew
    have Hd := Lib.hid hd
    clear hok y0 y1 y2 hd
    go_wp2_with fail
    go_region_held3 (fun W => W.cell? ⟨w.heap.size, 0, none⟩ = some (.string (str t.flow)) ∧ W.cell? ⟨w.heap.size, 1, none⟩ = some (.int .u64 (t.at_ : Int)) ∧ W.cell? ⟨w.heap.size, 2, none⟩ = some (.slice a n c))
      (first | with_reducible exact HK.out _ Hd.out | with_reducible exact HK.out _ hb6 | with_reducible exact HK.out _ hb7 | with_reducible exact HK.out _ hb8 | with_reducible exact HK.out _ hb9)
      (first | (go_at_call 9; (with_reducible refine (HV.out _ Hd.out).mono ?_); rintro r w6 ⟨rfl, hb60⟩
                have hb6 : Below w4.heap.size w4 w6 := Hd.out.trans (hb60.mono Hd.out.size)
                clear hb60)
             | (go_at_call 10; (with_reducible refine (HEq.out _ hb6).mono ?_); rintro r w7 ⟨rfl, hb70⟩
                have hb7 : Below w4.heap.size w4 w7 := hb6.trans (hb70.mono hb6.size)
                clear hb70)
             | (go_at_call 11; (with_reducible refine (HTx.out _ hb7).mono ?_); rintro r w8 ⟨rfl, hb80⟩
                have hb8 : Below w4.heap.size w4 w8 := hb7.trans (hb80.mono hb7.size)
                clear hb80)
             | (go_at_call 12; (with_reducible refine (HRx.out _ hb8).mono ?_); rintro r w9 ⟨rfl, hb90⟩
                have hb9 : Below w4.heap.size w4 w9 := hb8.trans (hb90.mono hb8.size)
                clear hb90))
    have hlb : L.length ≤ 99000000000 := by
      rw [HL.out]
      unfold formOr
      cases ho : okB t with
      | false => simp
      | true => rw [if_pos rfl]; exact formBt_tight HI0.out Hn.out Hfe.out ho
    have HPa := Lib.hid (bparse_any p L.length cp L w9 (HB4.out.grow hb9) (by omega))
    have Hw9 := Lib.hid (HJ.out _ hb9)
    have HI9 := Lib.hid (HI4.out.below hb9)
    have HX9 := Lib.hid (blk HX4.out hb9)
    clear hlb hb6 hb7 hb8 hb9 htx hbn HV HEq HTx HRx HK HJ HX4 HI4 HB4 HB4'
    go_wp2_with fail
    refine HPa.out.mono ?_
    rintro r w10 ⟨hb10, ⟨t', x', rfl, hi', hx'⟩ | ⟨hno, rfl⟩⟩
    · obtain ⟨hot, hLt⟩ : ok = true ∧ L = formBt t := by
        have h1 := HL.out
        unfold formOr at h1
        rw [← Hok.out] at h1
        cases ok with
        | false => rw [if_neg (by decide)] at h1; rw [h1] at hi'; exact absurd hi' (noB_nil t')
        | true => exact ⟨rfl, by rw [if_pos rfl] at h1; exact h1⟩
      have hsm : sameB t' t = true := hi'.uniq (by rw [hLt]; exact btIn_isB HI0.out (by rw [← Hok.out]; exact hot) Hn.out)
      have Hsm := Lib.hid hsm
      subst hot
      have HY := Lib.hid hx'
      obtain ⟨_, _, ta, tn, tc, rfl, _⟩ := hx'
      have hal := (Below.refl w10.heap.size w10).alloc (Nat.le_refl _) (.cells #[.string (str t'.flow), .int .u64 (t'.at_ : Int), .slice ta tn tc] 25)
      have HY11 := Lib.hid (heap_alloc_new w10 (.cells #[.string (str t'.flow), .int .u64 (t'.at_ : Int), .slice ta tn tc] 25))
      have HIy := Lib.hid (HY.out.below hal)
      have HIx := Lib.hid (HI9.out.below (hb10.trans (hal.mono hb10.size)))
      have HX11 := Lib.hid (blk (blk HX9.out hb10) hal)
      have Hw11 := Lib.hid (Hw9.out.trans ((hb10.trans (hal.mono hb10.size)).mono Hw9.out.size))
      clear hi' hLt hsm hb10 hal HPa
      go_wp2_with fail
      generalize w10.alloc (.cells #[.string (str t'.flow), .int .u64 (t'.at_ : Int), .slice ta tn tc] 25) = w11 at *
      refine (HA.out _).mono ?_
      rintro r w12 ⟨rfl, hb12⟩
      have HSm := Lib.hid (rsame12_any t' t _ _ w12 (HIy.out.below hb12) (HIx.out.below hb12))
      rw [Hsm.out] at HSm
      obtain ⟨y0, y1, y2⟩ := box3 (blk HY11.out hb12)
      obtain ⟨q0, q1, q2⟩ := box3 (blk HX11.out hb12)
      have Hw12 := Lib.hid (Hw11.out.trans (hb12.mono Hw11.out.size))
      clear hb12
      go_wp2_with fail
      refine HSm.out.mono ?_
      rintro r w13 ⟨rfl, hb13⟩
      have Hz := Lib.hid (Hw12.out.trans (hb13.mono Hw12.out.size))
      clear hb13 y0 y1 y2 q0 q1 q2
      go_wp2
      go_ret
      exact ⟨rfl, Hz.out⟩
    · have hof : ok = false := by
        cases ok with
        | false => rfl
        | true =>
          have h1 := HL.out
          unfold formOr at h1
          rw [← Hok.out, if_pos rfl] at h1
          exact absurd (btIn_isB HI0.out Hok.out.symm Hn.out) (by rw [← h1]; exact hno t)
      subst hof
      have Hw11 := Lib.hid (Hw9.out.trans ((hb10.trans (((Below.refl w10.heap.size w10).alloc (Nat.le_refl _) (.cells btZ 25)).mono hb10.size)).mono Hw9.out.size))
      clear hno hb10 HPa
      go_wp2_with fail
      generalize w10.alloc (.cells btZ 25) = w11 at *
      refine (HA.out _).mono ?_
      rintro r w12 ⟨rfl, hb12⟩
      have Hz := Lib.hid (Hw11.out.trans (hb12.mono Hw11.out.size))
      clear hb12
      go_wp2
      go_ret
      exact ⟨rfl, Hz.out⟩
end Go.Proofs.YtcapbaocchaenaaGreatDoor

/- For all arguments whose values and letters together are at most 1048576 in number, in whatever memory in which the listed package-level variables hold what the program's text lays, the statement BatchForms answers true, and leaves its arguments as they were. The card ties the listed variables to the text. The bound is its one condition. -/
namespace Go.Proofs.YtcapbaocchaenaaGreatDoor.BatchFormsP
open Go.ChangeShapes Go.WideShapes Go.ChangeAt Go.WideMaps Go.WideElems Go.RowKit Go.Deep
open Go.ChangeMaps (open_string)

theorem own : ownKnob Tryz.prog.godebug = none := by kernel_rfl
theorem laidOut : laidOutB Tryz.prog = true := by kernel_rfl

theorem laid_met (os : Os) : laidMet Tryz.prog Rows.batchFormsUptoRow.laid ((World.doorLaid Tryz.prog 400 os).forCall (fun _ _ => 0) ⟨#[], #[.agg #[.string ⟨#[]⟩, .int .u64 0, .slice none 0 0]], []⟩).memory :=
  laidMet_of_run' 8 (by kernel_rfl) (by kernel_rfl)

theorem reads (os : Os) {H : Type} (enc : TypeId × Value → H) : ∃ places, DataW.whole enc Tryz.prog ((World.doorLaid Tryz.prog 400 os).forCall (fun _ _ => 0) ⟨#[], #[.agg #[.string ⟨#[]⟩, .int .u64 0, .slice none 0 0]], []⟩).memory Tryz.f3.params.toList Rows.batchFormsSpec.vars false (#[.agg #[.string ⟨#[]⟩, .int .u64 0, .slice none 0 0]] : Array Value).toList 8 = some ([.agg [.lit (.string []), .lit (.int .u64 0), .nil]], [], places) :=
  ⟨[], by kernel_rfl⟩

set_option maxRecDepth 100000 in
theorem lifted (os : Os) (started : os.Started) (H : Type) (enc : TypeId × Value → H) (F : Stop.Interp) :
    ReturnsInHanded {} Tryz.checked os 3 .any ((Rows.OpenSpec.upto Rows.batchFormsSpec).preRow enc Tryz.prog Tryz.f3 Rows.batchFormsUptoRow.domain false Rows.batchFormsUptoRow.laid) (((Rows.OpenSpec.upto Rows.batchFormsSpec).at F).post enc Tryz.prog Tryz.f3 false true false false) := by
  obtain ⟨places, hx⟩ := reads os enc
  refine returnsInHanded_of_row (C := Tryz.checked) (s := Rows.OpenSpec.upto Rows.batchFormsSpec) own started (by kernel_rfl) Tryz.func3
    (witness_row_at (enc := enc) (C := Tryz.checked) false (World.doorLaid Tryz.prog 400 os) #[.agg #[.string ⟨#[]⟩, .int .u64 0, .slice none 0 0]] rfl (by kernel_rfl) (by kernel_rfl) (by kernel_rfl)
      (OpenSpec.preRow_of_cond 8 hx (by kernel_rfl) (fun k hk => by cases hk; kernel_rfl) (by kernel_rfl) (laid_met os))) ?_
  intro W base args ds gs before hval0 hW _ hcond _ hL _ _
  have hval : ∀ (j : Nat) t v, Tryz.f3.params[j]? = some t → args[j]? = some v → Value.okWide Tryz.prog W .any base t v := hval0
  have hW' := hW
  obtain ⟨p, q, hA0, hV, rfl, _, _⟩ := hW
  have hA : DataW.TrodAll enc Tryz.prog W 0 (fun _ => true) true Tryz.f3.params.toList args.toList ds p := hA0
  rw [Tryz.params3] at hA hval
  obtain ⟨v0, d0, rfl, rfl, h0⟩ := trodAll_one hA
  obtain ⟨rfl, rfl⟩ := trodVars_none hV
  have hb : Rows.uptoBulkAll ([d0] ++ []) ≤ 1048576 := of_decide_eq_true (hcond _ rfl)
  rw [List.append_nil] at hb
  obtain ⟨x0, u0, rfl, hV0, hB0⟩ := open_batch (hval 0 25 v0 rfl rfl) h0
  have hS0 : u0.es.length ≤ 1048576 := by simp only [Rows.uptoBulkAll] at hb; omega
  clear hb
  have hM : laidMet Tryz.prog Rows.batchFormsUptoRow.laid W := by
    have h := hL
    rw [MakeChecks.laidMetH_plain _ _ _ (by kernel_rfl)] at h
    exact h
  have hpw := pow10w_of_laid hM
  have htw := tab_of_laid hM
  refine (batchForms_any u0 x0 W hS0 hV0 hpw htw).mono fun e W' ⟨he, hb⟩ => ?_
  subst he
  exact ⟨_, rfl, law_post (s := Rows.batchFormsSpec) laidOut (by kernel_rfl) rfl (by kernel_rfl) Tryz.underlying4 hW' rfl hb⟩

theorem row_holds : Rows.BatchFormsUptoSaid :=
  OpenClaim.holds_of_cond 3 Tryz.f3 rfl rfl rfl rfl rfl rfl rfl ⟨rfl, rfl, rfl, rfl, rfl⟩ rfl rfl rfl rfl rfl (by kernel_rfl) Tryz.func3 (by kernel_rfl)
    (of_decide_eq_true (by kernel_rfl)) (by unfold Func.isWrapper; first | (rw [if_pos (by decide +kernel)]; kernel_rfl) | (rw [if_neg (by decide +kernel)]; exact ⟨rfl, rfl⟩))
    (fun os started H enc _ F => by rw [OpenClaim.pre_eq_preRow]; exact lifted os started H enc F)

theorem plain (f : FuncId) (fn : Func) (hf : Tryz.pinned.checked.prog.funcNamed "clockwork/clockworklaw13.BatchForms" = some f) (hfn : Tryz.pinned.checked.prog.funcs[f]? = some fn) :
    true = Tryz.pinned.checked.prog.looks [] ∧ ∀ (j : Nat) t, fn.params[j]? = some t → Tryz.pinned.checked.prog.wantsStandIn t = false := by
  obtain rfl : f = 3 := Option.some.inj ((show Tryz.prog.funcNamed "clockwork/clockworklaw13.BatchForms" = some 3 by kernel_rfl).symm.trans hf) |>.symm
  obtain rfl : fn = Tryz.f3 := (Option.some.inj (Tryz.func3.symm.trans hfn)).symm
  refine ⟨by kernel_rfl, fun j t ht => ?_⟩
  rw [Tryz.params3] at ht
  have hm : t ∈ [25] := by simpa using Array.mem_of_getElem? ht
  have hall : ([25].all fun u => !Tryz.prog.wantsStandIn u) = true := by kernel_rfl
  exact (show Tryz.prog.wantsStandIn t = false by simpa using List.all_eq_true.1 hall t hm)

theorem proved : Rows.BatchFormsUptoCardSaid :=
  Claim7.holds_tied_plain_at .later [] _ _ _ _ row_holds (fun _ h => by cases h) (by kernel_rfl) (fun _ h => by cases h) batchFormsUpto_row_tie rfl ⟨rfl, rfl⟩ (by kernel_rfl) rfl plain (by kernel_rfl)
#print axioms proved
end Go.Proofs.YtcapbaocchaenaaGreatDoor.BatchFormsP

