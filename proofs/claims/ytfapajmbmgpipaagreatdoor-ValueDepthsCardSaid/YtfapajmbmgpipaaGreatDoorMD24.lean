import Derived.Test.YtfapajmbmgpipaaGreatDoorMD23
import Derived.Test.YtfapajmbmgpipaaGreatDoorMD9
import Derived.Test.YtfapajmbmgpipaaGreatDoorMD1
import Derived.ProofKit
import Derived.SizedLaws
import Derived.Deep.Matrix
import Derived.Test.YtfapajmbmgpipaaGreatDoorMD7
import Derived.Test.YtfapajmbmgpipaaGreatDoorMD13
import Derived.Test.YtfapajmbmgpipaaGreatDoorMD3
import Derived.Lib.LaidTab
import Derived.Stop.LaidErr
import Derived.LaidMore
import Derived.OpenShut
import Derived.Stop.Joined
/- The statement ValueDepths answers true. -/
namespace Go.Proofs.YtfapajmbmgpipaaGreatDoor
open Go.RowKit Go.Shelf Fl

theorem less_down {K j : Nat} (h : j < K) : K - ((j : Int) + 1).toNat < K - ((j : Int)).toNat := by omega

set_option maxRecDepth 100000 in
set_option maxHeartbeats 3200000 in
theorem depths_any (m : Nat) (v : V) (x : Array Value) (w : World) (hm : m < 256) (hv : VIn w v x) (hP : Pow10 w) (hE : Errs w) (hT : Tab16 w) :
    Calls Tryz.prog 5 #[.int .u8 (m : Int), .agg x] w fun e w' => e = .returned (.bool true) ∧ Below w.heap.size w w' := by
  obtain ⟨_, _, _, _, _, a, cap, rfl, _⟩ := hv.parts
  have hal := (Below.refl w.heap.size w).alloc (Nat.le_refl _) (.cells (cells5 v.kind v.n v.f v.s a v.l.length cap) 25)
  have HA := Lib.hid hal
  have HF := Lib.hid (few_any v _ _ (hv.below hal))
  have C0 := Lib.hid (new5 w (.int .i64 v.kind) (.int .i64 v.n) (.float .f64 v.f) (.string (str v.s)) (.slice a v.l.length cap) 25)
  have HV := Lib.hid (hv.below hal)
  have HW := Lib.hid (VIn.within v _ hv)
  have HS := Lib.hid (VIn.sound v _ hv)
  have HRow := Lib.hid (heap_alloc_new w (.cells (cells5 v.kind v.n v.f v.s a v.l.length cap) 25))
  have HSz := Lib.hid (show (w.alloc (.cells (cells5 v.kind v.n v.f v.s a v.l.length cap) 25)).heap.size = w.heap.size + 1 from by simp)
  have HL := Lib.hid (fun (w1 : World) (h : Below w.heap.size w w1) => valive_any w1 (hP.below h) (tab_below hT h))
  have hw64 : wrap64 (m : Int) = (m : Int) := by unfold wrap64; omega
  have hmod : (wrap64 (m : Int)).tmod 12 = ((m % 12 : Nat) : Int) := by rw [hw64, Int.tmod_eq_emod_of_nonneg (by omega)]; omega
  clear hw64
  clear hv hal
  unfold cells5 at *
  go_enter Tryz.func5, Tryz.ntmps5
  go_wp2_with fail
  refine HF.out.mono ?_
  rintro e w1 ⟨rfl, hb⟩
  obtain ⟨z0, z1, z2, z3, z4⟩ := keep5 hb C0.out
  have Hb1 := Lib.hid (HA.out.trans (hb.mono HA.out.size))
  have HRow1 := Lib.hid ((hb.block w.heap.size (by have := HSz.out; omega)).trans HRow.out)
  have HSz1 := Lib.hid (show w.heap.size < w1.heap.size from by have := HSz.out; have := hb.size; omega)
  have HV1 := Lib.hid (HV.out.below hb)
  clear hb
  cases hf : fewB v with
  | false =>
    have HX := Lib.hid (HL.out w1 Hb1.out)
    clear hmod hm
    go_wp2_with fail
    refine HX.out.mono ?_
    rintro e w2 ⟨rfl, hb⟩
    have Hb2 := Lib.hid (Hb1.out.trans (hb.mono Hb1.out.size))
    clear hb
    go_wp2
    go_ret
    exact ⟨rfl, Hb2.out⟩
  | true =>
    have HF2 := Lib.hid hf
    clear hf
    by_cases hk : v.kind = 4
    · have HX := Lib.hid (HL.out w1 Hb1.out)
      have hk1 : (v.kind == 4) = true := by simpa using hk
      clear hmod hm hk
      go_wp2_with fail
      refine HX.out.mono ?_
      rintro e w2 ⟨rfl, hb⟩
      have Hb2 := Lib.hid (Hb1.out.trans (hb.mono Hb1.out.size))
      clear hb
      go_wp2
      go_ret
      exact ⟨rfl, Hb2.out⟩
    have HK := Lib.hid hk
    have hk2 : (v.kind == 4) = false := by simpa using hk
    have HR := Lib.hid (rvalid_any v _ w1 HV1.out)
    go_wp2_with fail
    refine HR.out.mono ?_
    rintro e w2 ⟨rfl, hb⟩
    have Hb2 := Lib.hid (Hb1.out.trans (hb.mono Hb1.out.size))
    have HV2 := Lib.hid (HV1.out.below hb)
    have HRow2 := Lib.hid ((hb.block w.heap.size HSz1.out).trans HRow1.out)
    obtain ⟨y0, y1, y2, y3, y4⟩ := keep5 hb ⟨z0, z1, z2, z3, z4⟩
    clear hb z0 z1 z2 z3 z4
    cases hr : rightN 8 v with
    | false =>
      have HX := Lib.hid (HL.out w2 Hb2.out)
      clear hmod hm
      go_wp2_with fail
      refine HX.out.mono ?_
      rintro e w3 ⟨rfl, hb⟩
      have Hb3 := Lib.hid (Hb2.out.trans (hb.mono Hb2.out.size))
      clear hb
      go_wp2
      go_ret
      exact ⟨rfl, Hb3.out⟩
    | true =>
      have HR8 := Lib.hid hr
      clear hr hk hk2
      have Hst : NestRel w v (m % 12) (.int .i64 0) w2 := by
        have hrow := HRow2.out
        refine ⟨0, a, cap, Nat.zero_le _, rfl, Hb2.out, hrow, ?_⟩
        have := (Array.getElem?_eq_some_iff.1 hrow).1
        exact VInP.turn (fun b h => ⟨by omega, by omega⟩) (fun p hp => Hb2.out.cell hp) v _ HW.out
      clear y0 y1 y2 y3 y4
      have HFacts := Lib.hid (nest_facts HS.out HF2.out HK.out HR8.out (m % 12) (by omega))
      have HK12 := Lib.hid (show m % 12 < 12 by omega)
      clear hm
      generalize m % 12 = K at *
      go_wp2
      go_loopw [29] (fun i wr => NestRel w v K i wr) (fun i _ => K - (intOf i).toNat)
      case atStart => exact Hst
      case round =>
        obtain ⟨j, a1, cap1, hj, rfl, hbr, hrow, hvr⟩ := hrel
        by_cases hlt : j < K
        · have hji : (j : Int) < (K : Int) := by omega
          have HN := Lib.hid (NestRel.next (m := K) hlt hbr hrow hvr)
          obtain ⟨⟨z0, z1, z2, z3, z4⟩, _⟩ := row_cells hrow
          have hal := Below.heap_alloc wr (.cells (cells5 (nestV j v).kind (nestV j v).n (nestV j v).f (nestV j v).s a1 (nestV j v).l.length cap1) 25) w.heap.size (Array.getElem?_eq_some_iff.1 hrow).1
          obtain ⟨_, ⟨y0, y1, y2, y3, y4⟩⟩ := row_cells (hal.trans hrow)
          have hfl : ∀ (w : World) (a : Addr) (m : Mode) (b : Nat), (store a (.float .f64 b) m).run Tryz.prog w = stored Tryz.prog w a (.float .f64 b) m := fun w a m b => run_store Tryz.prog w a _ m rfl
          have Hlt := Lib.hid hlt
          clear hbr hrow hvr hal hlt
          unfold cells5 at *
          have e1 : ((j + 1 : Nat) : Int) = (j : Int) + 1 := by omega
          rw [e1] at HN
          have hK12 : (K : Int) < 12 := by have := HK12.out; omega
          clear e1
          go_wp2
          go_roundw
          case rel => exact HN.out
          case measure => simp [intOf]; have := Hlt.out; omega
        · have hjK : j = K := by omega
          subst hjK
          have hji : ¬ ((j : Int) < (j : Int)) := by omega
          have hvw := VInP.weak _ _ hvr
          have Hv := Lib.hid hvw
          have Hrow := Lib.hid hrow
          have Hbr := Lib.hid hbr
          have hz := (Array.getElem?_eq_some_iff.1 hrow).1
          have Hz := Lib.hid hz
          obtain ⟨⟨z0, z1, z2, z3, z4⟩, _⟩ := row_cells hrow
          obtain ⟨f1, f2, f3, f4, f5, f6⟩ := HFacts.out
          have HB := Lib.hid (vbytes_any 32 (by omega) (nestV j v) _ wr f3 hvw f5 f6)
          have HP1 := Lib.hid (hP.below hbr)
          have HT1 := Lib.hid (tab_below hT hbr)
          have HE1 := Lib.hid (hE.below hbr)
          have HTx := Lib.hid (fun (w1 : World) (h : Below wr.heap.size wr w1) => vText_any 32 (by omega) (nestV j v) _ w1 f3 (hvw.below h) (by unfold textB; split <;> first | omega | simp) (HP1.out.below h) (tab_below HT1.out h))
          have HVa := Lib.hid (fun (w1 : World) (h : Below wr.heap.size wr w1) => valid_any 32 (by omega) (nestV j v) _ w1 f3 (hvw.below h))
          have F1 := Lib.hid f1
          have F2 := Lib.hid f2
          have F4 := Lib.hid f4
          clear hbr hrow hvr hlt hvw hz f1 f3 f4 f5 f6
          by_cases h8 : 8 < j
          · have hj8 : (8 : Int) < (j : Int) := by omega
            rw [decide_eq_false (by omega)] at f2
            have Hf2 := Lib.hid f2
            rw [f2] at HVa
            have htb : textB (nestV j v) = [] := by unfold textB; rw [f2]; rfl
            rw [htb] at HTx
            clear htb f2
            have hse : (str []).toList.isEmpty = true := by rw [str_list]; rfl
            unfold cells5 at *
            generalize nestV j v = u at *
            go_wp2_with fail
            refine HB.out.mono ?_
            intro e w3 hbe
            rcases hbe with ⟨_, rfl, hb3⟩ | ⟨h, _⟩
            · obtain ⟨y0, y1, y2, y3, y4⟩ := keep5 hb3 ⟨z0, z1, z2, z3, z4⟩
              have Hb3 := Lib.hid hb3
              have HX := Lib.hid (HTx.out w3 hb3)
              clear hb3 z0 z1 z2 z3 z4
              go_wp2_with fail
              refine HX.out.mono ?_
              rintro e w4 ⟨rfl, hb⟩
              obtain ⟨z0, z1, z2, z3, z4⟩ := keep5 hb ⟨y0, y1, y2, y3, y4⟩
              have Hb4 := Lib.hid (Hb3.out.trans (hb.mono Hb3.out.size))
              have HXL := Lib.hid (HL.out w4 (Hbr.out.trans (Hb4.out.mono Hbr.out.size)))
              clear hb y0 y1 y2 y3 y4
              go_wp2_with fail
              refine HXL.out.mono ?_
              rintro e w5 ⟨rfl, hb⟩
              obtain ⟨y0, y1, y2, y3, y4⟩ := keep5 hb ⟨z0, z1, z2, z3, z4⟩
              have Hb5 := Lib.hid (Hb4.out.trans (hb.mono Hb4.out.size))
              have HXV := Lib.hid (HVa.out w5 Hb5.out)
              clear hb z0 z1 z2 z3 z4
              go_wp2_with fail
              refine HXV.out.mono ?_
              rintro e w6 ⟨rfl, hb⟩
              have Hb6 := Lib.hid (Hb5.out.trans (hb.mono Hb5.out.size))
              clear hb y0 y1 y2 y3 y4
              go_wp2
              go_ret
              exact ⟨rfl, Hbr.out.trans (Hb6.out.mono Hbr.out.size)⟩
            · rw [Hf2.out] at h; cases h
          · have hj8 : ¬ ((8 : Int) < (j : Int)) := by omega
            rw [decide_eq_true (by omega)] at f2
            have Hf2 := Lib.hid f2
            rw [f2] at HVa
            have htb : textB (nestV j v) = textV (nestV j v) := by unfold textB; rw [f2]; rfl
            rw [htb] at HTx
            have HPa := Lib.hid (fun (w1 : World) (h : Below wr.heap.size wr w1) => vparse_any (textV (nestV j v)) w1 (text_byte _ F1.out) F4.out (HE1.out.below h) (tab_below HT1.out h) (HP1.out.below h) (fun i => idx_ascii _ (fun c hc => text_ascii _ F1.out c (List.mem_of_mem_drop hc)) (by have := F4.out; rw [List.length_drop]; omega)))
            clear htb f2
            unfold cells5 at *
            generalize nestV j v = u at *
            go_wp2_with fail
            refine HB.out.mono ?_
            intro e w3 hbe
            rcases hbe with ⟨h, _⟩ | ⟨_, bv, rfl, _, hb3⟩
            · rw [Hf2.out] at h; cases h
            · obtain ⟨y0, y1, y2, y3, y4⟩ := keep5 hb3 ⟨z0, z1, z2, z3, z4⟩
              have Hb3 := Lib.hid hb3
              have HX := Lib.hid (HTx.out w3 hb3)
              clear hb3 z0 z1 z2 z3 z4
              go_wp2_with fail
              refine HX.out.mono ?_
              rintro e w4 ⟨rfl, hb⟩
              obtain ⟨z0, z1, z2, z3, z4⟩ := keep5 hb ⟨y0, y1, y2, y3, y4⟩
              have Hb4 := Lib.hid (Hb3.out.trans (hb.mono Hb3.out.size))
              have HXP := Lib.hid (HPa.out w4 Hb4.out)
              clear hb y0 y1 y2 y3 y4
              go_wp2_with fail
              refine HXP.out.mono ?_
              rintro e w5 ⟨v', x', ok, rfl, hv', hb, hyes, hno⟩
              cases ok with
              | false => exact absurd rfl ((hno rfl).2 u Hf2.out F1.out)
              | true =>
                obtain ⟨hr', ht'⟩ := hyes rfl
                have hsm : sameV v' u = true := (text_split v' u 8 8 [] [] hr' Hf2.out (soundV.words _ (VIn.sound _ _ hv')) (soundV.words _ F1.out) ends_nil ends_nil (by rw [ht'])).1
                obtain ⟨y0, y1, y2, y3, y4⟩ := keep5 hb ⟨z0, z1, z2, z3, z4⟩
                have Hb5 := Lib.hid (Hb4.out.trans (hb.mono Hb4.out.size))
                obtain ⟨_, _, _, _, _, a2, cap2, rfl, _⟩ := hv'.parts
                have hal2 := (Below.refl w5.heap.size w5).alloc (Nat.le_refl _) (.cells (cells5 v'.kind v'.n v'.f v'.s a2 v'.l.length cap2) 25)
                have D0 := new5 w5 (.int .i64 v'.kind) (.int .i64 v'.n) (.float .f64 v'.f) (.string (str v'.s)) (.slice a2 v'.l.length cap2) 25
                have Hal2 := Lib.hid hal2
                have Hv' := Lib.hid hv'
                have Hsm := Lib.hid hsm
                have HXL := Lib.hid (HL.out _ ((Hbr.out.trans (Hb5.out.mono Hbr.out.size)).trans (hal2.mono (Hbr.out.trans (Hb5.out.mono Hbr.out.size)).size)))
                obtain ⟨z0, z1, z2, z3, z4⟩ := keep5 hal2 ⟨y0, y1, y2, y3, y4⟩
                have hfl : ∀ (w : World) (a : Addr) (m : Mode) (b : Nat), (store a (.float .f64 b) m).run Tryz.prog w = stored Tryz.prog w a (.float .f64 b) m := fun w a m b => run_store Tryz.prog w a _ m rfl
                clear hb hv' hr' ht' hsm hyes hno hal2
                unfold cells5 at *
                go_wp2_with fail
                refine HXL.out.mono ?_
                rintro e w6 ⟨rfl, hb⟩
                obtain ⟨y0, y1, y2, y3, y4⟩ := keep5 hb ⟨z0, z1, z2, z3, z4⟩
                obtain ⟨d0, d1, d2, d3, d4⟩ := keep5 hb D0
                have Hb6 := Lib.hid (Hal2.out.trans (hb.mono Hal2.out.size))
                have HXV := Lib.hid (HVa.out w6 (Hb5.out.trans (Hb6.out.mono Hb5.out.size)))
                clear hb z0 z1 z2 z3 z4 D0
                go_wp2_with fail
                refine HXV.out.mono ?_
                rintro e w7 ⟨rfl, hb⟩
                obtain ⟨z0, z1, z2, z3, z4⟩ := keep5 hb ⟨y0, y1, y2, y3, y4⟩
                obtain ⟨e0, e1, e2, e3, e4⟩ := keep5 hb ⟨d0, d1, d2, d3, d4⟩
                have Hb7 := Lib.hid (Hb6.out.trans (hb.mono Hb6.out.size))
                have HXS := Lib.hid (vsame_any v' u _ _ w7 (Hv'.out.below Hb7.out) (Hv.out.below (Hb5.out.trans (Hb7.out.mono Hb5.out.size))))
                rw [Hsm.out] at HXS
                clear hb y0 y1 y2 y3 y4 d0 d1 d2 d3 d4
                go_wp2_with fail
                refine HXS.out.mono ?_
                rintro e w8 ⟨rfl, hb⟩
                have Hb8 := Lib.hid (Hb7.out.trans (hb.mono Hb7.out.size))
                clear hb z0 z1 z2 z3 z4 e0 e1 e2 e3 e4
                go_wp2
                go_ret
                exact ⟨rfl, (Hbr.out.trans (Hb5.out.mono Hbr.out.size)).trans (Hb8.out.mono (Hbr.out.trans (Hb5.out.mono Hbr.out.size)).size)⟩
end Go.Proofs.YtfapajmbmgpipaaGreatDoor

/- How a statement that answers true, and writes into new memory only, is lifted from its contract; how byte slices that come in are read as lists. -/
namespace Go.Proofs.YtfapajmbmgpipaaGreatDoor
open Go.ChangeShapes Go.WideShapes Go.ChangeAt Go.RowKit Go.Deep

section
variable {H : Type} {enc : TypeId × Value → H} {P : Program}

theorem below_trodAll (hl : laidOutB P = true) {W W' : World} (hb : Below W.heap.size W W') : ∀ {ts : List TypeId} {vs : List Value} {ds : List (DataW H)} {ps : List MemPlace},
    ts.all (fun t => P.readableRec t && decide (t < P.types.size)) = true → DataW.TrodAll enc P W 0 (fun _ => true) true ts vs ds ps →
    DataW.TrodAll enc P W' 0 (fun b => decide (b < W.heap.size)) true ts vs ds ps
  | [], vs, ds, ps, _, h => by
    obtain ⟨rfl, rfl, rfl⟩ := trodAll_nil h
    exact rfl
  | t :: ts, vs, ds, ps, ht, h => by
    obtain ⟨v, vs', d, ds', p, q, rfl, rfl, rfl, h0, h1⟩ := trodAll_cons h
    simp only [List.all_cons, Bool.and_eq_true, decide_eq_true_eq] at ht
    have hlt : ∀ x ∈ p, x.block < W.heap.size := fun x hx => h.lt x (by simp [hx])
    exact ⟨p, q, Below.trod hl ht.1.1 ht.1.2 h0 hb hlt, below_trodAll hl hb ht.2 h1, rfl⟩

theorem law_post {fn : Func} {s : ChangeSpec} {tb : TypeId} (hl : laidOutB P = true) (hrd : fn.params.toList.all (fun t => P.readableRec t && decide (t < P.types.size)) = true)
    (hvars : s.vars = []) (hrt : fn.resultTypes = #[tb]) (htb : P.underlying tb = some .bool)
    {W W' : World} {args : Array Value} {ds gs : List (DataW H)} {before : List MemPlace} (hW : DataW.Whole enc P fn.params.toList s.vars false W args.toList ds gs before)
    (hspec : s.fn H (ds ++ []) = { results := [.lit (.bool true)], args := ds }) (hb : Below W.heap.size W W') :
    s.post enc P fn false true false false W args (.bool true) W' := by
  have hW' := hW
  obtain ⟨p, q, hA, hV, rfl, _, _⟩ := hW
  rw [hvars] at hV
  obtain ⟨rfl, rfl⟩ := trodVars_none hV
  refine ⟨ds, [], p ++ [], [], p, [], hW', ?_, ?_, ?_, hb.frame _, fun h => by cases h⟩
  · rw [hspec, hrt]
    exact trodAll_mk1 (shut_bool htb _)
  · rw [hspec]
    exact below_trodAll hl hb hrd hA
  · rw [hspec, hvars]
    exact rfl

theorem wf_u8 {n : Int} (h : (Lit.int .u8 n).wf = true) : 0 ≤ n ∧ n < 256 := by
  have h1 : IntKind.u8.min = 0 := rfl
  have h2 : IntKind.u8.max = 255 := rfl
  simp only [Lit.wf, Bool.and_eq_true, decide_eq_true_eq] at h
  omega

theorem nat_u32 {n : Int} (h : (Lit.int .u32 n).wf = true) : ∃ x : Nat, x < 4294967296 ∧ n = (x : Int) := by
  have h1 : IntKind.u32.min = 0 := rfl
  have h2 : IntKind.u32.max = 4294967295 := rfl
  simp only [Lit.wf, Bool.and_eq_true, decide_eq_true_eq] at h
  exact ⟨n.toNat, by omega, by omega⟩

theorem nat_u16 {n : Int} (h : (Lit.int .u16 n).wf = true) : ∃ x : Nat, x < 65536 ∧ n = (x : Int) := by
  have h1 : IntKind.u16.min = 0 := rfl
  have h2 : IntKind.u16.max = 65535 := rfl
  simp only [Lit.wf, Bool.and_eq_true, decide_eq_true_eq] at h
  exact ⟨n.toNat, by omega, by omega⟩

theorem nat_u64 {n : Int} (h : (Lit.int .u64 n).wf = true) : ∃ x : Nat, x < 18446744073709551616 ∧ n = (x : Int) := by
  have h1 : IntKind.u64.min = 0 := rfl
  have h2 : IntKind.u64.max = 18446744073709551615 := rfl
  simp only [Lit.wf, Bool.and_eq_true, decide_eq_true_eq] at h
  exact ⟨n.toNat, by omega, by omega⟩

theorem wf_i64_of {n : Int} (h : (Lit.int .i64 n).wf = true) : -9223372036854775808 ≤ n ∧ n ≤ 9223372036854775807 := by
  have h1 : IntKind.i64.min = -9223372036854775808 := rfl
  have h2 : IntKind.i64.max = 9223372036854775807 := rfl
  simp only [Lit.wf, Bool.and_eq_true, decide_eq_true_eq] at h
  omega

theorem bytes_of_ints {W : World} {A : Option Addr} {len cap : Nat} {zs : List Int} (hl : len ≤ cap) (hm : cap ≤ maxLen) (hz : zs.length = cap) (hnil : A = none → cap = 0)
    (hcell : ∀ a, A = some a → ∀ c, c < cap → W.cell? (a.add c) = some (.int .u8 (zs.getD c 0))) (hw : ∀ n ∈ zs, (Lit.int .u8 n).wf = true) :
    Bytes W A len cap ((zs.take len).map Int.toNat) := by
  refine ⟨by simp; omega, hl, hm, ?_, hnil, fun hn => ?_⟩
  · intro x hx
    obtain ⟨n, hn, rfl⟩ := List.mem_map.1 hx
    have := wf_u8 (hw n (List.mem_of_mem_take hn))
    omega
  · cases A with
    | none => have := hnil rfl; omega
    | some a =>
      obtain ⟨b, o, spot⟩ := a
      have hspot : spot = none := by simpa [Addr.add] using World.cell?_spot (hcell _ rfl 0 (by omega))
      subst hspot
      refine ⟨b, o, rfl, fun i hi => ?_⟩
      have hc := hcell _ rfl i (by omega)
      rw [add_plain] at hc
      have hi' : i < zs.length := by omega
      have e1 : zs.getD i 0 = zs[i] := by rw [List.getD_eq_getElem?_getD, List.getElem?_eq_getElem hi']; rfl
      have e2 : ((zs.take len).map Int.toNat).getD i 0 = zs[i].toNat := by
        rw [List.getD_eq_getElem?_getD, List.getElem?_map, List.getElem?_take, if_pos hi, List.getElem?_eq_getElem hi']; rfl
      have hwf := wf_u8 (hw zs[i] (List.getElem_mem _))
      rw [hc, e1, e2]
      congr 2
      omega

/-- A byte slice that came in. -/
theorem open_bytes {W : World} {t e : TypeId} {v : Value} {d : DataW H} {p : List MemPlace} (ht : P.underlying t = some (.slice e)) (he : P.underlying e = some (.int .u8)) (ce : P.cellsOf e = 1)
    {base : Nat} (hv : Value.okWide P W .any base t v) (h : DataW.Trod enc P W 0 (fun _ => true) true t v d p) : ∃ a n cap l, v = .slice a n cap ∧ Bytes W a n cap l := by
  obtain ⟨a0, len, cap, rfl⟩ := okWide_slice ht hv
  obtain ⟨fuel, hf⟩ := h
  rcases open_ints ht he ce hf with ⟨hcs, _⟩ | ⟨a, len', cap', zs, hcs, _, hl, hm, hz, _, hcell, hw⟩
  · simp [Value.cells] at hcs
    obtain ⟨rfl, rfl, rfl⟩ := hcs
    exact ⟨none, 0, 0, [], rfl, rfl, Nat.le_refl _, by omega, by simp, fun _ => rfl, fun h => absurd h (Nat.lt_irrefl _)⟩
  · simp [Value.cells] at hcs
    obtain ⟨rfl, rfl, rfl⟩ := hcs
    simp only [if_true] at hz
    refine ⟨some a, len, cap, _, rfl, bytes_of_ints (zs := zs) hl hm hz (fun h => by cases h) (fun a' ha' c hc => ?_) hw⟩
    cases ha'
    exact hcell c (by omega)

/-- A slice of byte slices that came in. -/
theorem open_parts {W : World} {t e q : TypeId} {v : Value} {d : DataW H} {p : List MemPlace} (ht : P.underlying t = some (.slice e)) (he : P.underlying e = some (.slice q)) (hq : P.underlying q = some (.int .u8)) (ce : P.cellsOf e = 1) (cq : P.cellsOf q = 1)
    {base : Nat} (hv : Value.okWide P W .any base t v) (h : DataW.Trod enc P W 0 (fun _ => true) true t v d p) : ∃ a n cap ls, v = .slice a n cap ∧ Parts W a n cap ls := by
  obtain ⟨a0, len, cap, rfl⟩ := okWide_slice ht hv
  obtain ⟨fuel, hf⟩ := h
  rcases open_int_rows ht he hq ce cq hf with ⟨hcs, _⟩ | ⟨a, len', cap', A, L, C, Z, hcs, _, hl, hm, _, hrows⟩
  · simp [Value.cells] at hcs
    obtain ⟨rfl, rfl, rfl⟩ := hcs
    exact ⟨none, 0, 0, [], rfl, rfl, Nat.le_refl _, by omega, fun h => absurd h (Nat.lt_irrefl _)⟩
  · simp [Value.cells] at hcs
    obtain ⟨rfl, rfl, rfl⟩ := hcs
    refine ⟨some a, len, cap, (List.range len).map fun r => ((Z r).take (L r)).map Int.toNat, rfl, by simp, hl, hm, fun hn => ?_⟩
    obtain ⟨b, o, spot⟩ := a
    have hspot : spot = none := by simpa [Addr.add] using World.cell?_spot (hrows 0 (by omega)).1
    subst hspot
    have hc0 := (hrows 0 (by omega)).1
    rw [add_plain] at hc0
    refine ⟨b, o, rfl, World.block_lt_of_cell? _ _ hc0, fun i hi => ?_⟩
    obtain ⟨h1, h2, h3, h4, h5, h6, h7⟩ := hrows i (by omega)
    rw [add_plain] at h1
    refine ⟨A i, L i, C i, h1, ?_⟩
    have e1 : ((List.range len).map fun r => ((Z r).take (L r)).map Int.toNat).getD i [] = ((Z i).take (L i)).map Int.toNat := by
      rw [List.getD_eq_getElem?_getD, List.getElem?_map, List.getElem?_range hi]; rfl
    rw [e1]
    exact bytes_of_ints h2 h3 h4 h6 (fun a' ha' c hc => (h7 a' ha').2 c hc) h5
end
end Go.Proofs.YtfapajmbmgpipaaGreatDoor

/- Values that come in, read as trees. -/
namespace Go.Proofs.YtfapajmbmgpipaaGreatDoor
open Go.ChangeShapes Go.WideShapes Go.ChangeAt Go.RowKit Go.Deep

section
variable {H : Type} {enc : TypeId × Value → H} {W : World}

theorem trod_f64 {P : Program} {w : World} {base : Nat} {spare : Nat → Bool} {held : Bool} {fuel : Nat} {t : TypeId} {cs : List Value} {x : DataW H × List MemPlace} (ht : P.underlying t = some (.float .f64)) (h : DataW.trod enc P w base spare held fuel t cs = some x) :
    ∃ b : Nat, cs = [.float .f64 b] ∧ (Lit.float .f64 b).wf = true := by
  cases fuel with
  | zero => simp [DataW.trod] at h
  | succ n =>
    unfold DataW.trod at h
    rw [ht] at h
    split at h <;> simp_all

theorem cells_value : Tryz.prog.cellsOf 25 = 5 := by kernel_rfl
theorem cells_int : Tryz.prog.cellsOf 3 = 1 := by kernel_rfl
theorem cells_i64 : Tryz.prog.cellsOf 2 = 1 := by kernel_rfl
theorem cells_f64 : Tryz.prog.cellsOf 22 = 1 := by kernel_rfl
theorem cells_str : Tryz.prog.cellsOf 9 = 1 := by kernel_rfl
theorem cells_vs : Tryz.prog.cellsOf 23 = 1 := by kernel_rfl

theorem vs_of {b : Nat} : ∀ (n o : Nat), (∀ i, i < n → ∃ (cs : List Value) (v : V), cs.length = 5 ∧ (∀ j, j < 5 → W.cell? ⟨b, o + i * 5 + j, none⟩ = cs[j]?) ∧ VIn W v cs.toArray) → ∃ l : List V, l.length = n ∧ VsIn W l b o
  | 0, _, _ => ⟨[], rfl, by rw [VsIn]; trivial⟩
  | n + 1, o, h => by
    obtain ⟨cs, v, hl, hc, hv⟩ := h 0 (by omega)
    obtain ⟨l, hn, hr⟩ := vs_of n (o + 5) (fun i hi => by
      obtain ⟨cs, v, hl, hc, hv⟩ := h (i + 1) (by omega)
      exact ⟨cs, v, hl, fun j hj => by rw [← hc j hj]; congr 2; omega, hv⟩)
    refine ⟨v :: l, by rw [List.length_cons, hn], ?_⟩
    rw [VsIn]
    refine ⟨⟨cs.toArray, by simpa using hl, fun j hj => ?_, hv⟩, hr⟩
    have := hc j hj
    simpa using this

set_option maxRecDepth 100000 in
theorem open_v : ∀ (fuel : Nat) (cs : List Value) (x : DataW H × List MemPlace), DataW.trod enc Tryz.prog W 0 (fun _ => true) true fuel 25 cs = some x → ∃ v : V, VIn W v cs.toArray := by
  intro fuel
  induction fuel using Nat.strongRecOn with
  | ind fuel ih =>
    intro cs x h
    obtain ⟨xs, n, rfl, _, hlen, hxl, hf⟩ := DataW.trod_struct Tryz.underlying25 h
    rw [cells_value] at hlen
    match cs, hlen, xs, hxl with
    | [c0, c1, c2, c3, c4], _, [y0, y1, y2, y3, y4], _ =>
      have f0 := hf 0 _ rfl
      have f1 := hf 1 _ rfl
      have f2 := hf 2 _ rfl
      have f3 := hf 3 _ rfl
      have f4 := hf 4 _ rfl
      simp [cells_int, cells_i64, cells_f64, cells_str, cells_vs] at f0 f1 f2 f3 f4
      obtain ⟨k, e0, _, w0⟩ := DataW.trod_int Tryz.underlying3 f0
      obtain ⟨m, e1, _, w1⟩ := DataW.trod_int Tryz.underlying2 f1
      obtain ⟨f, e2, w2⟩ := trod_f64 Tryz.underlying22 f2
      obtain ⟨s, e3, _, w3⟩ := DataW.trod_string Tryz.underlying9 f3
      obtain rfl := List.cons.inj e0 |>.1
      obtain rfl := List.cons.inj e1 |>.1
      obtain rfl := List.cons.inj e2 |>.1
      obtain rfl := List.cons.inj e3 |>.1
      obtain ⟨q, hq, rfl⟩ := str_of s
      have hk := wf_i64_of w0
      have hm := wf_i64_of w1
      have hff : f < 18446744073709551616 := by
        simp only [Lit.wf, decide_eq_true_eq] at w2
        exact w2
      have hqs : q.length ≤ 9223372036854775807 := by
        rw [str_size, maxLen_nat] at w3
        exact w3
      clear e0 e1 e2 e3 w0 w1 w2 w3 f0 f1 f2 f3 hf
      rcases DataW.trod_slice Tryz.underlying23 f4 with ⟨e, _⟩ | ⟨a, len, cap, elems, rest, r, rfl, e, _, _, hle, hcm, hel, hi, _, _⟩
      · obtain rfl := List.cons.inj e |>.1
        refine ⟨.mk k m f q [], ?_⟩
        rw [VIn]
        exact ⟨hk, hm, hff, hq, hqs, none, 0, rfl, Nat.le_refl _, by omega, .inl rfl⟩
      · obtain rfl := List.cons.inj e |>.1
        rw [maxLen_nat] at hcm
        rw [cells_value] at hi
        have hel2 : ∀ i, i < len → ∃ (cs : List Value) (v : V), cs.length = 5 ∧ (∀ j, j < 5 → W.cell? ((a.add (i * 5)).add j) = cs[j]?) ∧ VIn W v cs.toArray := by
          intro i hlt
          have h1 := hi i hlt
          rw [List.getElem?_eq_getElem (by omega)] at h1
          obtain ⟨cs', h2, h3⟩ := Option.bind_eq_some_iff.1 h1
          obtain ⟨_, h4, h5⟩ := World.cells?_some h2
          obtain ⟨v, hv⟩ := ih r (by omega) cs' _ h3
          exact ⟨cs', v, h4, h5, hv⟩
        by_cases h0 : len = 0
        · subst h0
          refine ⟨.mk k m f q [], ?_⟩
          rw [VIn]
          exact ⟨hk, hm, hff, hq, hqs, some a, cap, rfl, hle, hcm, .inl rfl⟩
        · obtain ⟨b, o, spot⟩ := a
          have hspot : spot = none := by
            obtain ⟨cs', v, g1, g2, _⟩ := hel2 0 (by omega)
            have g3 := g2 0 (by omega)
            rw [List.getElem?_eq_getElem (by omega)] at g3
            simpa [Addr.add] using World.cell?_spot g3
          subst hspot
          obtain ⟨l, hl, hvs⟩ := vs_of (W := W) (b := b) len o (fun i hlt => by
            obtain ⟨cs', v, g1, g2, g3⟩ := hel2 i hlt
            refine ⟨cs', v, g1, fun j hj => ?_, g3⟩
            have g4 := g2 j hj
            rw [add_plain, add_plain] at g4
            exact g4)
          refine ⟨.mk k m f q l, ?_⟩
          rw [VIn]
          refine ⟨hk, hm, hff, hq, hqs, some ⟨b, o, none⟩, cap, ?_, by omega, hcm, .inr ⟨b, o, rfl, hvs⟩⟩
          rw [hl]

set_option maxRecDepth 100000 in
/-- A value that came in. -/
theorem open_value {v : Value} {d : DataW H} {p : List MemPlace} {base : Nat} (hv : Value.okWide Tryz.prog W .any base 25 v) (h : DataW.Trod enc Tryz.prog W 0 (fun _ => true) true 25 v d p) : ∃ (x : Array Value) (u : V), v = .agg x ∧ VIn W u x := by
  obtain ⟨x, rfl, _⟩ := okWide_struct Tryz.underlying25 hv
  obtain ⟨fuel, hf⟩ := h
  obtain ⟨u, hu⟩ := open_v fuel _ _ hf
  have e : (Value.agg x).cells.toList.toArray = x := Array.toArray_toList
  rw [e] at hu
  exact ⟨x, u, rfl, hu⟩

theorem nat_u8 {n : Int} (h : (Lit.int .u8 n).wf = true) : ∃ x : Nat, x < 256 ∧ n = (x : Int) := by
  have := wf_u8 h
  exact ⟨n.toNat, by omega, by omega⟩
end
end Go.Proofs.YtfapajmbmgpipaaGreatDoor

/- What the listed package-level variables give the walks, and how a statement over them is lifted. -/
namespace Go.Proofs.YtfapajmbmgpipaaGreatDoor
open Go.RowKit

def deBruijn64 : List Int := [0, 1, 56, 2, 57, 49, 28, 3, 61, 58, 42, 50, 38, 29, 17, 4, 62, 47, 59, 36, 45, 43, 51, 22, 53, 39, 33, 30, 24, 18, 12, 5, 63, 55, 48, 27, 60, 41, 37, 16, 46, 35, 44, 21, 52, 32, 23, 11, 54, 26, 40, 15, 34, 20, 31, 10, 25, 14, 19, 9, 13, 8, 7, 6]

theorem gTab : Tryz.prog.globalNamed "math/bits.deBruijn64tab" = some 6 := by kernel_rfl

theorem tab_of_laid {d : DataW Unit} {rest : List (String × DataW Unit)} {W : World} (h : laidMet Tryz.prog (("math/bits.deBruijn32tab", d) :: ("math/bits.deBruijn64tab", Lib.tabData .u8 deBruijn64) :: rest) W) : Tab16 W :=
  Lib.TabIs.cell (Lib.tabIs_of_head gTab (by kernel_rfl : (Tryz.prog.globals[6]?).map (·.type) = some 170) Tryz.underlying170 Tryz.underlying5 (by kernel_rfl) (by kernel_rfl) (laidMet.tail h)) gTab 15 (by decide)
end Go.Proofs.YtfapajmbmgpipaaGreatDoor

