import Derived.Test.YtjoolocdejnohaaGreatSC45
import Derived.Deep.RegionHeld3
import Derived.Test.YtjoolocdejnohaaGreatSC32
import Derived.Test.YtjoolocdejnohaaGreatSC46
import Derived.Test.YtjoolocdejnohaaGreatSC11
/- The statement TrimCosts answers true. -/
namespace Go.Proofs.YtjoolocdejnohaaGreat
open Go.RowKit Go.Maps Go.Shelf

attribute [local go_sem ↓] Go.wp_at_zero Go.wp_at_succ

theorem sizeL_mem : ∀ {ls : List (List Nat)} {r : List Nat}, r ∈ ls → r.length ≤ sizeL ls
  | l :: ls, r, h => by
    rw [sizeL_cons]
    rcases List.mem_cons.1 h with rfl | h
    · omega
    · have := sizeL_mem h
      omega

theorem Own.xlt {w0 : World} {X : Nat → Prop} {w : World} {d : Nat} {M : DM} (h : Own w0 X w d M) : ∀ b, X b → b < w.heap.size := by
  obtain ⟨S, _, _, hX, _⟩ := h
  exact hX

set_option maxRecDepth 100000 in
set_option maxHeartbeats 12800000 in
theorem trimCosts_any (x : Nat) (hx : x < 256) (a : Option Addr) (n cap : Nat) (ls : List (List Nat)) (a' : Option Addr) (n' cap' : Nat) (ms : List (List Nat)) (w : World) (hl : Parts w a n cap ls) (hm : Parts w a' n' cap' ms) :
    Calls Tryz.prog 11 #[.int .u8 (x : Int), .agg #[.slice a n cap, .slice a' n' cap']] w fun e w' => e = .returned (.bool true) ∧ Below w.heap.size w w' := by
  obtain ⟨w1, hw1⟩ : ∃ w1, w1 = w.alloc (.cells #[.slice a n cap, .slice a' n' cap'] 71) := ⟨_, rfl⟩
  have hb1 : Below w.heap.size w w1 := by rw [hw1]; exact (Below.refl _ _).alloc (Nat.le_refl _) _
  have hB1 : w1.heap[w.heap.size]? = some (.cells #[.slice a n cap, .slice a' n' cap'] 71 (0, 0)) := by rw [hw1]; exact heap_alloc_new _ _
  have k0 : w1.cell? ⟨w.heap.size, 0, none⟩ = some (.slice a n cap) := by rw [cell_of_row _ _ _ _ _ (0, 0) hB1]; rfl
  have k1 : w1.cell? ⟨w.heap.size, 1, none⟩ = some (.slice a' n' cap') := by rw [cell_of_row _ _ _ _ _ (0, 0) hB1]; rfl
  have HP := Lib.hid (fun W (hW : Below w1.heap.size w1 W) => (show Parts W a n cap ls ∧ Parts W a' n' cap' ms ∧ W.cell? ⟨w.heap.size, 0, none⟩ = some (.slice a n cap) ∧ W.cell? ⟨w.heap.size, 1, none⟩ = some (.slice a' n' cap') from ⟨hl.grow (hb1.trans (hW.mono hb1.size)), hm.grow (hb1.trans (hW.mono hb1.size)), cell_keep hW k0, cell_keep hW k1⟩))
  have HFew := Lib.hid (fun W (hW : Below w1.heap.size w1 W) => fewF_any a n cap ls W (HP.out W hW).1)
  have HFew2 := Lib.hid (fun W (hW : Below w1.heap.size w1 W) => fewF_any a' n' cap' ms W (HP.out W hW).2.1)
  have Hb1 := Lib.hid hb1
  have Hw1 := Lib.hid hw1
  have Hln := Lib.hid hl.len
  have Hlm := Lib.hid hm.len
  clear hl hm hb1 hw1 hB1
  go_enter Tryz.func11, Tryz.ntmps11
  go_wp2_with fail
  rw [← Hw1.out]
  clear Hw1
  refine (HFew.out _ (Below.refl _ _)).mono ?_
  rintro e w2 ⟨⟨b1, rfl, hf1⟩, rfl⟩
  cases b1 with
  | false =>
    clear hf1
    go_wp2_with fail
    refine (talive_any _).mono ?_
    rintro e w3 ⟨rfl, hb3⟩
    have Hb3 := Lib.hid (Hb1.out.trans (hb3.mono Hb1.out.size))
    clear hb3
    go_wp2
    go_ret
    exact ⟨rfl, Hb3.out⟩
  | true =>
    obtain ⟨hs1, hc1⟩ := few_size (hf1 rfl)
    clear hf1
    go_wp2_with fail
    refine (HFew2.out _ (Below.refl _ _)).mono ?_
    rintro e w2 ⟨⟨b2, rfl, hf2⟩, rfl⟩
    cases b2 with
    | false =>
      clear hf2 hs1 hc1
      go_wp2_with fail
      refine (talive_any _).mono ?_
      rintro e w3 ⟨rfl, hb3⟩
      have Hb3 := Lib.hid (Hb1.out.trans (hb3.mono Hb1.out.size))
      clear hb3
      go_wp2
      go_ret
      exact ⟨rfl, Hb3.out⟩
    | true =>
      obtain ⟨hs2, hc2⟩ := few_size (hf2 rfl)
      have hLn := Hln.out
      have hLm := Hlm.out
      have HSt := Lib.hid (start10_any 100000 (x : Int) (by omega) (by omega) (by omega) (by omega) a n cap ls w1 (HP.out w1 (Below.refl _ _)).1 (by omega) (by omega))
      have HS := Lib.hid (And.intro (And.intro hs1 hc1) (And.intro hs2 hc2))
      clear hf2 hs1 hc1 hs2 hc2 k1 HFew HFew2 hLn hLm
      go_wp2_with fail
      refine HSt.out.mono ?_
      rintro e w3 ⟨d, g, a3, n3, c3, R3, Y3, X3, rfl, hL, hR, hf, hXY⟩
      have hrun := run_ok 100000 (x : Int) ls (by have := HS.out.1; show _ ≤ 100000; omega) (by have := HS.out.1; omega) ls.length
      have htk : ls.take ls.length = ls := List.take_length
      have hrl := hrun.len
      have hru := hrun.used
      have hrn := hrun.names
      rw [htk] at hrl hru hrn
      have HBy := Lib.hid (fun out (ho : SegsOf (runP (startW 100000 (x : Int)) ls).D out) => run_bytes (x : Int) ls (by have := HS.out.1; omega) (by have := HS.out.1; omega) ho)
      obtain ⟨W0, hW0⟩ : ∃ W0, W0 = runP (startW 100000 (x : Int)) ls := ⟨_, rfl⟩
      have hlen : W0.D.fs.length ≤ 100 := by rw [hW0]; have := hrl; have := HS.out.1; omega
      have husd : usedF W0.D.fs ≤ 5000 := by rw [hW0]; have := hru; have := HS.out.1; omega
      have hnms : ∀ f ∈ W0.D.fs, f.n.length ≤ 9223372036854775807 := by rw [hW0]; exact hrn
      rw [← hW0] at hL hf HBy ⊢
      have hO3 := hL.own
      obtain ⟨w4, hw4⟩ : ∃ w4, w4 = w3.alloc (.cells #[.int .i64 (W0.D.room : Int), .slice a3 n3 c3, .int .i64 (W0.D.plan : Int), .bool W0.D.down, .int .i64 W0.most, .int .i64 (W0.n : Int), .int .i64 (W0.size : Int), .int .i64 (W0.wait : Int)] 47) := ⟨_, rfl⟩
      have h43 : Below w3.heap.size w3 w4 := by rw [hw4]; exact (Below.refl _ _).alloc (Nat.le_refl _) _
      have hcells : w4.heap[w3.heap.size]? = some (.cells #[.int .i64 (W0.D.room : Int), .slice a3 n3 c3, .int .i64 (W0.D.plan : Int), .bool W0.D.down, .int .i64 W0.most, .int .i64 (W0.n : Int), .int .i64 (W0.size : Int), .int .i64 (W0.wait : Int)] 47 (0, 0)) := by rw [hw4]; exact heap_alloc_new _ _
      have hO4 := hO3.below h43
      have hR4 := hR.below (fun b hb => hO3.xlt b (hXY b hb).1) h43
      have hX4 : ∀ b, X3 b → b < w4.heap.size := fun b hb => Nat.lt_of_lt_of_le (hO3.xlt b (hXY b hb).1) h43.size
      have HB4 := Lib.hid hO4.base
      have HP4 := Lib.hid (fun W (hW : Below w4.heap.size w4 W) => HP.out W (HB4.out.trans (hW.mono HB4.out.size)))
      have hm1 : ms.length ≤ 60 ∧ sizeL ms ≤ 1980 ∧ n' = ms.length := ⟨HS.out.2.2, HS.out.2.1, Hlm.out.symm⟩
      obtain ⟨hm1, hm2, hm3⟩ := hm1
      have HRB := Lib.hid (fun W (hW : Below w4.heap.size w4 W) => rbytes10_any a' n' cap' ms W (HP4.out W hW).2.1 (by omega) (fun r hr => by have := sizeL_mem hr; omega) (by omega))
      have HLi := Lib.hid (fun W (hW : Below w4.heap.size w4 W) => own_list (hO4.below hW) (by omega))
      have HRd := Lib.hid (fun W (hW : Below w4.heap.size w4 W) N => own_read (hO4.below hW) (nmB N) (by unfold nmB; rw [List.length_map, nameL_len]; decide) (by omega))
      have HWo := Lib.hid (fun W (hW : Below w4.heap.size w4 W) => (tworth_any (hO4.below hW) (by omega) (by omega) hnms a' n' cap' ms (HP4.out W hW).2.1 (by omega) (by omega)).mono (R' := fun e w' => e = .returned (.bool (decide (((sizeL ms + 8 : Nat) : Int) < ((segF W0.D.fs : Nat) : Int)))) ∧ Below W.heap.size W w') (by
        rintro e w' ⟨out, ho, rfl, hb⟩
        refine ⟨?_, hb⟩
        rw [HBy.out out ho]
        congr 2
        exact decide_eq_decide.2 (by omega)))
      have HWn := Lib.hid (fun W (hW : Below w4.heap.size w4 W) => tworth_nil a' n' cap' ms W (HP4.out W hW).2.1 (by omega) (by omega))
      have HCo := Lib.hid (fun W (hW : Below w4.heap.size w4 W) => cost_any a' n' cap' ms W (HP4.out W hW).2.1 (by omega) (by omega))
      have HSz := Lib.hid (fun W (hW : Below w4.heap.size w4 W) => size_any a' n' cap' ms W (HP4.out W hW).2.1 (by omega))
      have HUs := Lib.hid (fun W (hW : Below w4.heap.size w4 W) => rused10_any (hR4.below hX4 hW) (fun b hb => Nat.lt_of_lt_of_le (hX4 b hb) hW.size) (W0.D.room : Int) (W0.D.plan : Int) W0.D.down (by rw [hf]; omega))
      rw [hf] at HUs
      obtain ⟨g0, g1, g2, g3, _⟩ := box8 hcells
      have HKl := Lib.hid (fun W (hW : Below w4.heap.size w4 W) => (show (W.cell? ⟨w.heap.size, 0, none⟩ = some (.slice a n cap) ∧ W.cell? ⟨w.heap.size, 1, none⟩ = some (.slice a' n' cap')) ∧ W.cell? ⟨w3.heap.size, 0, none⟩ = some (.int .i64 (W0.D.room : Int)) ∧ W.cell? ⟨w3.heap.size, 1, none⟩ = some (.slice a3 n3 c3) ∧ W.cell? ⟨w3.heap.size, 2, none⟩ = some (.int .i64 (W0.D.plan : Int)) ∧ W.cell? ⟨w3.heap.size, 3, none⟩ = some (.bool W0.D.down) from
        ⟨(HP4.out W hW).2.2, cell_keep hW g0, cell_keep hW g1, cell_keep hW g2, cell_keep hW g3⟩))
      have Hlen := Lib.hid hlen
      have Husd := Lib.hid husd
      have Hnms := Lib.hid hnms
      have Hw4 := Lib.hid hw4
      have j1 : (w3.alloc (.cells #[.int .i64 (W0.D.room : Int), .slice a3 n3 c3, .int .i64 (W0.D.plan : Int), .bool W0.D.down, .int .i64 W0.most, .int .i64 (W0.n : Int), .int .i64 (W0.size : Int), .int .i64 (W0.wait : Int)] 47)).cell? ⟨w.heap.size, 1, none⟩ = some (.slice a' n' cap') := by rw [← hw4]; exact (HKl.out w4 (Below.refl _ _)).1.2
      unfold logV
      unfold refV at HUs
      clear hL hR hf hXY hrun htk hrl hru hrn hW0 hlen husd hnms hO3 hO4 hR4 hX4 h43 hcells g0 g1 g2 g3 k0 HSt hm1 hm2 hm3 hw4
      go_wp2_with fail
      rw [← Hw4.out]
      clear Hw4 j1
      refine (HRB.out _ (Below.refl _ _)).mono ?_
      rintro e w5 ⟨p5, c5, rfl, _, _, hb5⟩
      have Hb5 := Lib.hid hb5
      clear hb5
      go_wp2_with fail
      refine (HLi.out _ Hb5.out).mono ?_
      rintro e w7 ⟨v7, rfl, hown7, hb7⟩
      obtain ⟨p7, k7, rfl, hS7⟩ := strs_row hown7 (fun n hn => by obtain ⟨f, hf, rfl⟩ := List.mem_map.1 hn; exact Hnms.out f hf)
      have HSl := Lib.hid (seglist_any p7 W0.D.fs.length k7 _ w7 hS7 (by have := Hlen.out; omega))
      have Hb7 := Lib.hid hb7
      clear hown7 hS7 hb7
      go_wp2_with fail
      refine HSl.out.mono ?_
      rintro e w8 ⟨v8, out, rfl, hasc, hmem, hol, hown8, hb8⟩
      obtain ⟨p8, k8, rfl, hI⟩ := own_ints hown8
      have hmap : (W0.D.fs.map F.n).map nmL = W0.D.fs.map fun f => nmL f.n := by rw [List.map_map]; rfl
      rw [hmap] at hmem
      have Hseg := Lib.hid (show SegsOf W0.D out from ⟨hasc, hmem⟩)
      have HI := Lib.hid hI
      have Hb8 := Lib.hid (Hb5.out.trans ((Hb7.out.trans (hb8.mono Hb7.out.size)).mono Hb5.out.size))
      have hol2 : out.length ≤ 1000 := by have := Hlen.out; rw [List.length_map, List.length_map] at hol; omega
      clear hasc hmem hown8 hb8 hI hmap hol
      go_wp2_with fail
      go_loopw [10, 47] (fun v i wr => BytesRel w4 W0.D out v i wr ∧ Below w8.heap.size w8 wr) (fun _ i _ => out.length - (intOf i).toNat)
      case atStart => exact ⟨⟨0, Nat.zero_le _, rfl, rfl, Hb8.out⟩, Below.refl _ _⟩
      case round =>
        obtain ⟨⟨j, hj, rfl, rfl, hb⟩, hbr⟩ := hrel
        have hle := bytesM_le (M := W0.D) j hj
        have hle2 : bytesM W0.D (out.take j) ≤ 200000000 := Nat.le_trans hle (Nat.le_trans (Nat.mul_le_mul (Nat.le_trans hj hol2) Husd.out) (by decide))
        clear hle
        by_cases hlt : j < out.length
        · obtain ⟨b, o, rfl, hc0⟩ := (HI.out.grow hbr).cell (by omega)
          have hc := hc0 j hlt
          have hxj : out.getD j 0 = out[j] := by rw [List.getD_eq_getElem?_getD, List.getElem?_eq_getElem hlt]; rfl
          rw [hxj] at hc
          obtain ⟨l, hl1, hl2, hl3⟩ := (Hseg.out.2 out[j]).1 (List.getElem_mem hlt)
          have hle := segNum_le l
          obtain ⟨N, hN⟩ : ∃ N, N = segNum l := ⟨_, rfl⟩
          rw [← hN] at hl2 hl3 hle
          rw [hl3] at hc
          have htk := bytesM_take (M := W0.D) hlt
          rw [hl3] at htk
          have HNa := Lib.hid (fun W => segname_yes N W (by omega) hle)
          have HRdN := Lib.hid (fun W (hW : Below w4.heap.size w4 W) => HRd.out W hW N)
          have Hb := Lib.hid hb
          have Hbr := Lib.hid hbr
          have Hlt := Lib.hid hlt
          have Htk := Lib.hid htk
          have hji : (j : Int) < (out.length : Int) := by omega
          have hfile := readM_len (nmB N) W0.D
          have hu2 := Husd.out
          clear hc0 hxj hl1 hl2 hl3 hle hN hb hbr htk
          go_wp2_with fail
          refine (HNa.out _).mono ?_
          rintro e w9 ⟨rfl, hb9⟩
          have Hb9 := Lib.hid (Hb.out.trans (hb9.mono Hb.out.size))
          have Hb9r := Lib.hid hb9
          have HR := Lib.hid (HRdN.out w9 Hb9.out)
          clear hb9
          go_wp2_with fail
          refine HR.out.mono ?_
          rintro e w10 ⟨p10, c10, rfl, hB10, _, hb10, _⟩
          have Hb10r := Lib.hid (Hb9r.out.trans (hb10.mono Hb9r.out.size))
          have Hb10 := Lib.hid (Hb9.out.trans (hb10.mono Hb9.out.size))
          have hlen : (readM (nmB N) W0.D).1.length ≤ 200000 := by omega
          clear hB10 hb10 hfile hu2
          go_wp2_with fail
          go_roundw
          case rel =>
            exact ⟨⟨j + 1, Hlt.out, by go_num, by rw [Htk.out]; rfl, Hb10.out⟩, Hbr.out.trans (Hb10r.out.mono Hbr.out.size)⟩
          case measure => simp [intOf]; omega
        · have e1 : j = out.length := by omega
          have htk : out.take j = out := by rw [e1, List.take_length]
          rw [htk, HBy.out out Hseg.out] at *
          have Hb := Lib.hid hb
          have hji : ¬ (j : Int) < (out.length : Int) := by omega
          have hsm2 : sizeL ms ≤ 1980 := HS.out.2.1
          have Hend0 := Lib.hid (fun W (hW : Below w4.heap.size w4 W) => Hb1.out.trans ((HB4.out.trans (hW.mono HB4.out.size)).mono Hb1.out.size))
          clear hb hbr e1 htk HRd HLi HRB HP HP4 HBy Husd Hnms Hlen HS HI
          have HK2 := Lib.hid (fun W (hW : Below w4.heap.size w4 W) => And.intro (HKl.out W hW).1.2 (HKl.out W hW).2)
          clear HKl
          have hz : IntKind.i64.wrap (((sizeL ms : Nat) : Int) + 8) = ((sizeL ms + 8 : Nat) : Int) := by rw [wrap_small _ (by omega) (by omega)]; omega
          generalize sizeL ms + 8 = S at *
          generalize ((sizeL ms : Nat) : Int) = z at *
          generalize segF W0.D.fs = U at *
          generalize (W0.D.room : Int) = ro at *
          generalize (W0.D.plan : Int) = pl at *
          generalize W0.D.down = dn at *
          have hq1 : ((S : Int) == (S : Int)) = true := by simp
          have hq2 : ((U : Int) == (U : Int)) = true := by simp
          have hq3 : (decide ((S : Int) < (U : Int)) == decide ((S : Int) < (U : Int))) = true := by simp
          clear hsm2
          go_wp2_with fail
          go_region_held3 (fun w' => w'.cell? ⟨w.heap.size, 1, none⟩ = some (.slice a' n' cap') ∧ w'.cell? ⟨w3.heap.size, 0, none⟩ = some (.int .i64 ro) ∧ w'.cell? ⟨w3.heap.size, 1, none⟩ = some (.slice a3 n3 c3) ∧ w'.cell? ⟨w3.heap.size, 2, none⟩ = some (.int .i64 pl) ∧ w'.cell? ⟨w3.heap.size, 3, none⟩ = some (.bool dn))
            (first | exact HK2.out _ hc | exact HK2.out _ (Hb.out.drew))
            (first
              | (go_at_call 36; (with_reducible refine (talive_any _).mono ?_); rintro e w17 ⟨rfl, hb0⟩; have hc : Below w4.heap.size w4 w17 := (Hb.out.drew).trans (hb0.mono (by have := Hb.out.size; exact this)); clear hb0)
              | (go_at_call 50; (with_reducible refine (HCo.out _ hc).mono ?_); rintro e w18 ⟨rfl, hb0⟩; replace hc := hc.trans (hb0.mono hc.size); clear hb0)
              | (go_at_call 51; (with_reducible refine (HSz.out _ hc).mono ?_); rintro e w19 ⟨rfl, rfl⟩)
              | (go_at_call 53; (with_reducible refine (HUs.out _ hc).mono ?_); rintro e w20 ⟨rfl, hb0⟩; replace hc := hc.trans (hb0.mono hc.size); clear hb0)
              | (go_at_call 52; (with_reducible refine (HWo.out _ hc).mono ?_); rintro e w21 ⟨rfl, hb0⟩; replace hc := hc.trans (hb0.mono hc.size); clear hb0)
              | (go_at_call 52; (with_reducible refine (HWn.out _ hc).mono ?_); rintro e w22 ⟨rfl, hb0⟩; replace hc := hc.trans (hb0.mono hc.size); clear hb0))
          have Hend := Lib.hid (Hend0.out _ hc)
          clear hc
          go_wp2
          go_ret
          exact ⟨rfl, Hend.out⟩
end Go.Proofs.YtjoolocdejnohaaGreat

/- For all arguments, in whatever memory, the statement TrimCosts answers true, and leaves its arguments as they were: proved for every input that can be read. No condition. -/
namespace Go.Proofs.YtjoolocdejnohaaGreat.TrimCostsP
open Go.ChangeShapes Go.WideShapes Go.ChangeAt Go.RowKit Go.Deep

theorem own : ownKnob Tryz.prog.godebug = none := by kernel_rfl
theorem laidOut : laidOutB Tryz.prog = true := by kernel_rfl

set_option maxRecDepth 100000 in
theorem lifted (os : Os) (started : os.Started) (H : Type) (enc : TypeId × Value → H) :
    ReturnsInHanded {} Tryz.checked os 11 .any (Rows.trimCostsSpec.pre6 enc Tryz.prog Tryz.f11 Rows.trimCostsRow.domain false) (Rows.trimCostsSpec.post enc Tryz.prog Tryz.f11 false true false false) := by
  refine returnsInHanded_of_change (C := Tryz.checked) own started (by kernel_rfl) Tryz.func11
    (ChangeSpec.witness6 (enc := enc) (C := Tryz.checked) false ⟨#[], #[.int .u8 0, .agg #[.slice none 0 0, .slice none 0 0]], []⟩ 8 (by kernel_rfl) (by kernel_rfl) (by kernel_rfl) (by kernel_rfl)) ?_
  intro W base args ds gs before hval0 hW _ _
  have hval : ∀ (j : Nat) t v, Tryz.f11.params[j]? = some t → args[j]? = some v → Value.okWide Tryz.prog W .any base t v := hval0
  have hW' := hW
  obtain ⟨p, q, hA0, hV, rfl, _, _⟩ := hW
  have hA : DataW.TrodAll enc Tryz.prog W 0 (fun _ => true) true Tryz.f11.params.toList args.toList ds p := hA0
  rw [Tryz.params11] at hA hval
  obtain ⟨v0, v1, d0, d1, p0, p1, rfl, rfl, rfl, h0, h1⟩ := trodAll_two hA
  obtain ⟨rfl, rfl⟩ := trodVars_none hV
  obtain ⟨z0, rfl, rfl, rfl, wz0⟩ := open_int Tryz.underlying5 (hval 0 5 v0 rfl rfl) h0
  obtain ⟨a1, n1, cap1, l1, b1, m1, dap1, k1, rfl, hP1, hQ1⟩ := open_pair (hval 1 71 v1 rfl rfl) h1
  obtain ⟨x0, hx0, rfl⟩ := nat_u8 wz0
  refine (trimCosts_any x0 hx0 a1 n1 cap1 l1 b1 m1 dap1 k1 W hP1 hQ1).mono fun e W' ⟨he, hb⟩ => ?_
  subst he
  exact ⟨_, rfl, law_post laidOut (by kernel_rfl) rfl (by kernel_rfl) Tryz.underlying4 hW' rfl hb⟩

theorem proved : Rows.TrimCostsSaid :=
  OpenClaim.holds_of_wide 11 Tryz.f11 rfl rfl rfl rfl rfl rfl rfl ⟨rfl, rfl, rfl, rfl, rfl⟩ rfl rfl rfl rfl rfl (by kernel_rfl) Tryz.func11 (by kernel_rfl)
    (of_decide_eq_true (by kernel_rfl)) (by unfold Func.isWrapper; first | (rw [if_pos (by decide +kernel)]; kernel_rfl) | (rw [if_neg (by decide +kernel)]; exact ⟨rfl, rfl⟩))
    (fun os started H enc _ => lifted os started H enc)
#print axioms proved
end Go.Proofs.YtjoolocdejnohaaGreat.TrimCostsP

