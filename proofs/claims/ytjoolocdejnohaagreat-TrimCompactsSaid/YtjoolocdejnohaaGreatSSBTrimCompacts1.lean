import Derived.Test.YtjoolocdejnohaaGreatSSB46
import Derived.Test.YtjoolocdejnohaaGreatSSB47
import Derived.Deep.RegionHeld3
/- The statement TrimCompacts answers true. -/
namespace Go.Proofs.YtjoolocdejnohaaGreat
open Go.RowKit Go.Maps Go.Shelf

attribute [local go_sem ↓] Go.wp_at_zero Go.wp_at_succ

set_option maxRecDepth 100000 in
set_option maxHeartbeats 12800000 in
theorem trimCompacts_any (x y : Nat) (hx : x < 65536) (hy : y < 65536) (a : Option Addr) (n cap : Nat) (ls : List (List Nat)) (a' : Option Addr) (n' cap' : Nat) (ms : List (List Nat)) (z : Nat) (hz : z < 256) (w : World) (hl : Parts w a n cap ls) (hm : Parts w a' n' cap' ms) :
    Calls Tryz.prog 8 #[.agg #[.int .u16 (x : Int), .int .u16 (y : Int)], .agg #[.slice a n cap, .slice a' n' cap'], .int .u8 (z : Int)] w fun e w' => e = .returned (.bool true) ∧ Below w.heap.size w w' := by
  obtain ⟨w1, hw1⟩ : ∃ w1, w1 = (w.alloc (.cells #[.int .u16 (x : Int), .int .u16 (y : Int)] 70)).alloc (.cells #[.slice a n cap, .slice a' n' cap'] 71) := ⟨_, rfl⟩
  have hb1 : Below w.heap.size w w1 := by rw [hw1]; exact ((Below.refl _ _).alloc (Nat.le_refl _) _).alloc (by simp) _
  have hB0 : w1.heap[w.heap.size]? = some (.cells #[.int .u16 (x : Int), .int .u16 (y : Int)] 70 (0, 0)) := by rw [hw1]; exact (Below.heap_alloc _ _ _ (by simp)).trans (heap_alloc_new _ _)
  have hB1 : w1.heap[w.heap.size + 1]? = some (.cells #[.slice a n cap, .slice a' n' cap'] 71 (0, 0)) := by
    have h := heap_alloc_new (w.alloc (.cells #[.int .u16 (x : Int), .int .u16 (y : Int)] 70)) (.cells #[.slice a n cap, .slice a' n' cap'] 71)
    rw [World.size_alloc] at h
    rw [hw1]; exact h
  have j0 : w1.cell? ⟨w.heap.size, 0, none⟩ = some (.int .u16 (x : Int)) := by rw [cell_of_row _ _ _ _ _ (0, 0) hB0]; rfl
  have j1 : w1.cell? ⟨w.heap.size, 1, none⟩ = some (.int .u16 (y : Int)) := by rw [cell_of_row _ _ _ _ _ (0, 0) hB0]; rfl
  have k0 : w1.cell? ⟨w.heap.size + 1, 0, none⟩ = some (.slice a n cap) := by rw [cell_of_row _ _ _ _ _ (0, 0) hB1]; rfl
  have k1 : w1.cell? ⟨w.heap.size + 1, 1, none⟩ = some (.slice a' n' cap') := by rw [cell_of_row _ _ _ _ _ (0, 0) hB1]; rfl
  have HP := Lib.hid (fun W (hW : Below w1.heap.size w1 W) => (show (Parts W a n cap ls ∧ Parts W a' n' cap' ms) ∧ W.cell? ⟨w.heap.size, 0, none⟩ = some (.int .u16 (x : Int)) ∧ W.cell? ⟨w.heap.size, 1, none⟩ = some (.int .u16 (y : Int)) ∧ W.cell? ⟨w.heap.size + 1, 0, none⟩ = some (.slice a n cap) ∧ W.cell? ⟨w.heap.size + 1, 1, none⟩ = some (.slice a' n' cap') from ⟨⟨hl.grow (hb1.trans (hW.mono hb1.size)), hm.grow (hb1.trans (hW.mono hb1.size))⟩, cell_keep hW j0, cell_keep hW j1, cell_keep hW k0, cell_keep hW k1⟩))
  have HFew := Lib.hid (fun W (hW : Below w1.heap.size w1 W) => fewF_any a n cap ls W (HP.out W hW).1.1)
  have HFew2 := Lib.hid (fun W (hW : Below w1.heap.size w1 W) => fewF_any a' n' cap' ms W (HP.out W hW).1.2)
  have Hb1 := Lib.hid hb1
  have Hw1 := Lib.hid hw1
  have Hln := Lib.hid hl.len
  have Hlm := Lib.hid hm.len
  clear hl hm hb1 hw1 hB0 hB1
  go_enter Tryz.func8, Tryz.ntmps8
  go_wp2_with fail
  rw [← Hw1.out]
  clear Hw1
  refine (HFew.out _ (Below.refl _ _)).mono ?_
  rintro e w2 ⟨⟨b1, rfl, hf1⟩, rfl⟩
  cases b1 with
  | false =>
    clear hf1
    go_wp2_with fail
    refine (talive_any _).mono ?_
    rintro e w3 ⟨rfl, hb3⟩
    have Hb3 := Lib.hid (Hb1.out.trans (hb3.mono Hb1.out.size))
    clear hb3
    go_wp2
    go_ret
    exact ⟨rfl, Hb3.out⟩
  | true =>
    obtain ⟨hs1, hc1⟩ := few_size (hf1 rfl)
    clear hf1
    go_wp2_with fail
    refine (HFew2.out _ (Below.refl _ _)).mono ?_
    rintro e w2 ⟨⟨b2, rfl, hf2⟩, rfl⟩
    cases b2 with
    | false =>
      clear hf2 hs1 hc1
      go_wp2_with fail
      refine (talive_any _).mono ?_
      rintro e w3 ⟨rfl, hb3⟩
      have Hb3 := Lib.hid (Hb1.out.trans (hb3.mono Hb1.out.size))
      clear hb3
      go_wp2
      go_ret
      exact ⟨rfl, Hb3.out⟩
    | true =>
      obtain ⟨hs2, hc2⟩ := few_size (hf2 rfl)
      have hLn := Hln.out
      have hLm := Hlm.out
      have HSt := Lib.hid (start10_any (x : Int) (y : Int) (by omega) (by omega) (by omega) (by omega) a n cap ls w1 (HP.out w1 (Below.refl _ _)).1.1 (by omega) (by omega))
      have HS := Lib.hid (And.intro (And.intro hs1 hc1) (And.intro hs2 hc2))
      clear hf2 hs1 hc1 hs2 hc2 k1 HFew HFew2
      go_wp2_with fail
      refine HSt.out.mono ?_
      rintro e w3 ⟨d, g, a3, n3, c3, R3, Y3, X3, rfl, hL, hR, hf, hXY⟩
      have htd0 := tidy_run (tidy_start (x : Int) (y : Int)) ls
      obtain ⟨W0, hW0⟩ : ∃ W0, W0 = runP (startW (x : Int) (y : Int)) ls := ⟨_, rfl⟩
      rw [← hW0] at hL hf htd0 ⊢
      have htd : Tidy W0 200 2000 70 2000 70 (x : Int).toNat (y : Int) := by have := HS.out.1; exact htd0.mono (by omega) (by omega) (by omega) (by omega) (by omega)
      have hfl := htd.neat.small.files
      have hbo := StartEnd.both (T := fun _ => False) hL hR hf (fun b hb => ⟨(hXY b hb).1, (hXY b hb).2, fun h => h⟩) (by omega) (fun _ h => h.elim) (fun h => h)
      unfold logO at hbo
      unfold logV
      obtain ⟨w4, hw4⟩ : ∃ w4, w4 = w3.alloc (.cells #[.int .i64 (W0.D.room : Int), .slice a3 n3 c3, .int .i64 (W0.D.plan : Int), .bool W0.D.down, .int .i64 W0.most, .int .i64 (W0.n : Int), .int .i64 (W0.size : Int), .int .i64 (W0.wait : Int)] 47) := ⟨_, rfl⟩
      rw [← hw4] at hbo
      obtain ⟨Y4, hO4, _, hn4⟩ := hbo.stepDisk (Below.refl _ _)
      have HArm := Lib.hid (own_arm hO4 (z : Int) (by omega) (by omega))
      have Hn4 := Lib.hid hn4
      have Hw4 := Lib.hid hw4
      have Htd := Lib.hid htd
      clear hL hR hf hXY hW0 htd htd0 hfl hbo hw4 hO4 hn4 HSt j0 j1 k0
      go_wp2_with fail
      rw [← Hw4.out]
      clear Hw4
      refine HArm.out.mono ?_
      rintro e w5 ⟨⟨v5, rfl⟩, hE5⟩
      have hbo5 := Hn4.out _ w5 hE5
      obtain ⟨X5, a5, n5, c5, hcells, _⟩ := hbo5.stepBox
      have hbo6 := hbo5.stepPlan (z : Int) (by omega)
      have hnA := neat_arm Htd.out.neat (z : Int) (by omega)
      have hmA : Named (armM (z : Int) W0.D) := Htd.out.named
      have hA1 : 1 ≤ W0.n := Htd.out.n1
      have hA2 : W0.n ≤ 70 := Htd.out.n2
      obtain ⟨WA, hWA⟩ : ∃ WA : WM, WA = { W0 with D := armM (z : Int) W0.D } := ⟨_, rfl⟩
      have e1 : WA.D = armM (z : Int) W0.D := by rw [hWA]
      have e2 : WA.n = W0.n := by rw [hWA]
      rw [← hWA] at hbo6
      rw [← e1] at hnA hmA
      rw [← e2] at hA1 hA2
      obtain ⟨w6, hw6⟩ : ∃ w6, w6 = w5.setCell ⟨w3.heap.size, 2, none⟩ (.int .i64 (z : Int)) := ⟨_, rfl⟩
      rw [← hw6] at hbo6
      obtain ⟨⟨hP6, hQ6⟩, _, j1, _, k1⟩ := HP.out w6 hbo6.base
      rw [hw6] at j1 k1
      unfold logO at hcells
      obtain ⟨g0, g1, g2, g3, g4, g5, g6, g7, gf⟩ := box8 hcells
      have HCo := Lib.hid (hbo6.comp (Below.refl _ _) (hnA.mono (N' := 900) (U' := 2000) (by omega) (Nat.le_refl _)) (by omega) hmA hA1 (by omega) (y : Int) a' n' cap' ms hQ6 (by have := Hlm.out; have := HS.out.2.2; omega) (by have := HS.out.2.1; omega))
      have Hw6 := Lib.hid hw6
      have HnA := Lib.hid hnA
      have HmA := Lib.hid hmA
      have HA := Lib.hid (And.intro hA1 hA2)
      clear hE5 hbo5 hcells hbo6 hnA hmA hA1 hA2 hWA e1 e2 hw6 hP6 hQ6 Htd
      go_wp2_with fail
      rw [← Hw6.out]
      clear Hw6
      refine HCo.out.mono ?_
      rintro e w7 ⟨r, hC, hcase⟩
      have hq := compOf_neat (W := WA) (recs := ms) HnA.out HmA.out hC
      have hsm : r.1.fs.length ≤ 1000 ∧ usedF r.1.fs ≤ 10000 := by
        have h1 := hq.1.small.files
        have h2 := hq.1.small.used
        have h3 := HnA.out.small.files
        have := HS.out.2.1
        exact ⟨by omega, by omega⟩
      obtain ⟨vm, gx, WX, rfl, hbo, hWX, hvm⟩ : ∃ vm gx WX, e = .returned (.tuple #[vm, .int .i64 r.2]) ∧ Both w1 (fun _ => False) w4 gx d w3.heap.size WX WA w7 ∧ WX.D = r.1 ∧ ((r.2 ≠ 0 ∧ vm = .pointer none) ∨ (r.2 = 0 ∧ vm = .pointer (some ⟨gx, 0, none⟩) ∧ WX = compW WA (y : Int) ms r.1)) := by
        rcases hcase with ⟨hz, rfl, hbo⟩ | ⟨hz, g2, rfl, hbo⟩
        · exact ⟨_, _, _, rfl, hbo, rfl, .inl ⟨hz, rfl⟩⟩
        · exact ⟨_, _, _, by rw [hz], hbo, rfl, .inr ⟨hz, rfl, rfl⟩⟩
      obtain ⟨⟨hP7, hQ7⟩, _, j1, _, k1⟩ := HP.out w7 hbo.base
      obtain ⟨a8, n8, c8, hcells, hcall⟩ := hbo.rcomp (HnA.out.mono (N' := 900) (U' := 2000) (by omega) (Nat.le_refl _)) (by omega) HmA.out HA.out.1 (by have := HA.out.2; omega) (y : Int) a' n' cap' ms hQ7 (by have := Hlm.out; have := HS.out.2.2; omega) (by have := HS.out.2.1; omega) (by have := HnA.out.small.files; omega)
      unfold logO at hcells
      unfold logV at hcall
      obtain ⟨g0, g1, g2, g3, g4, g5, g6, g7, gf⟩ := box8 hcells
      have HRC := Lib.hid hcall
      have HC := Lib.hid hC
      have Hsm := Lib.hid hsm
      have HWX := Lib.hid hWX
      have Hvm := Lib.hid hvm
      clear hcells hcall hP7 hQ7 hbo hC hq hsm hWX hvm hcase HCo
      go_wp2_with fail
      refine HRC.out.mono ?_
      rintro e w9 ⟨r', a9, n9, c9, W2, hC, hW2, rfl, hbo⟩
      obtain rfl := compOf_uniq HC.out hC
      have hD2 : W2.D = r.1 := by rw [hW2]; exact compR_D _ _ _ _
      have hne : (r.2 != r.2) = false := by simp
      unfold logO at hbo
      obtain ⟨w10, hw10⟩ : ∃ w10, w10 = w9.alloc (.cells #[.int .i64 (W2.D.room : Int), .slice a9 n9 c9, .int .i64 (W2.D.plan : Int), .bool W2.D.down, .int .i64 W2.most, .int .i64 (W2.n : Int), .int .i64 (W2.size : Int), .int .i64 (W2.wait : Int)] 47) := ⟨_, rfl⟩
      rw [← hw10] at hbo
      obtain ⟨Y10, hO10, _, _⟩ := hbo.stepDisk (Below.refl _ _)
      rw [HWX.out] at hO10
      obtain ⟨YL, hLg, _, _, X, ⟨aa, nn, cc, R, hcells, hR, hf, hnn, hXl⟩, hXY⟩ := hbo.log
      have hXb : ∀ b, X b → b < w10.heap.size := fun b hb => (hXl b hb).1
      have HLi := Lib.hid (fun W (hW : Below w10.heap.size w10 W) => own_list (hO10.below hW) (by have := Hsm.out.1; omega))
      have HUs := Lib.hid (fun W (hW : Below w10.heap.size w10 W) => own_used (hO10.below hW))
      have HNm := Lib.hid (fun W (hW : Below w10.heap.size w10 W) => rnames_any (X := X) (w := W) (v := refV (W2.D.room : Int) aa nn cc (W2.D.plan : Int) W2.D.down) (M := W2.D) ⟨aa, nn, cc, R, rfl, hR.below hXb hW, hf, hnn⟩ (fun b hb => Nat.lt_of_lt_of_le (hXb b hb) hW.size))
      have HV := Lib.hid (fun W (hW : Below w10.heap.size w10 W) => rused_any (hR.below hXb hW) (fun b hb => Nat.lt_of_lt_of_le (hXb b hb) hW.size) (W2.D.room : Int) (W2.D.plan : Int) W2.D.down (by rw [hf, hD2]; have := Hsm.out.2; omega))
      rw [hD2] at HNm HV hcells
      rw [hf, hD2] at HV
      unfold refV at HNm HV
      unfold logO at hcells
      have HK := Lib.hid (fun W (hW : Below w10.heap.size w10 W) => (show (W.cell? ⟨w9.heap.size, 0, none⟩ = some (.int .i64 (r.1.room : Int)) ∧ W.cell? ⟨w9.heap.size, 1, none⟩ = some (.slice aa nn cc) ∧ W.cell? ⟨w9.heap.size, 2, none⟩ = some (.int .i64 (r.1.plan : Int)) ∧ W.cell? ⟨w9.heap.size, 3, none⟩ = some (.bool r.1.down)) ∧ W.cell? ⟨w9.heap.size, 5, none⟩ = some (.int .i64 (W2.n : Int)) ∧ W.cell? ⟨w9.heap.size, 6, none⟩ = some (.int .i64 (W2.size : Int)) from by
        obtain ⟨g0, g1, g2, g3, g4, g5, g6, g7, _⟩ := box8 ((hW.block _ (Array.getElem?_eq_some_iff.1 hcells).1).trans hcells)
        exact ⟨⟨g0, g1, g2, g3⟩, g5, g6⟩))
      have HLg := Lib.hid (fun W (hW : Below w10.heap.size w10 W) => (show W.cell? ⟨gx, 0, none⟩ = some (.int .i64 (WX.n : Int)) ∧ W.cell? ⟨gx, 1, none⟩ = some (.int .i64 (WX.size : Int)) ∧ W.cell? ⟨gx, 2, none⟩ = some (.int .i64 (WX.wait : Int)) from ⟨cell_keep hW hLg.cell.1, cell_keep hW hLg.cell.2.1, cell_keep hW hLg.cell.2.2.1⟩))
      have Hb10 := Lib.hid (Hb1.out.trans (hbo.base.mono Hb1.out.size))
      have HW2 := Lib.hid hW2
      have Hw10 := Lib.hid hw10
      clear hC hW2 hD2 hbo hw10 hO10 hLg hcells hR hf hnn hXl hXY hXb g0 g1 g2 g3 g4 g5 g6 g7 gf j1 k1 HRC
      generalize r.1.fs.length = nf at *
      generalize r.1.fs.map F.n = ss at *
      generalize usedF r.1.fs = u at *
      generalize (r.1.plan : Int) = pl at *
      generalize (r.1.room : Int) = ro at *
      generalize r.1.down = dn at *
      have hue : ((u : Int) != (u : Int)) = false := by simp
      go_wp2_with fail
      rw [← Hw10.out]
      clear Hw10
      go_region_held3 (fun w' => w'.cell? ⟨w9.heap.size, 0, none⟩ = some (.int .i64 ro) ∧ w'.cell? ⟨w9.heap.size, 1, none⟩ = some (.slice aa nn cc) ∧ w'.cell? ⟨w9.heap.size, 2, none⟩ = some (.int .i64 pl) ∧ w'.cell? ⟨w9.heap.size, 3, none⟩ = some (.bool dn))
        (first | exact (HK.out _ hb16).1 | exact (HK.out _ hb15).1 | exact (HK.out _ hb14).1 | exact (HK.out _ hb13).1 | exact (HK.out _ hb12).1 | exact (HK.out _ ((Below.refl _ _).drew)).1)
        (first
          | (go_at_call 41; (with_reducible refine (HLi.out _ ((Below.refl _ _).drew)).mono ?_); rintro e w12 ⟨v2, rfl, hown2, hb0⟩; have hb12 : Below w10.heap.size w10 w12 := ((Below.refl _ _).drew).trans hb0; clear hb0; obtain ⟨p2, k2, rfl, hs2⟩ := strsQ_of_own hown2; have HS2 := Lib.hid hs2; clear hs2 hown2)
          | (go_at_call 42; (with_reducible refine (HNm.out _ hb12).mono ?_); rintro e w13 ⟨v3, rfl, hown3, hb0⟩; have hb13 : Below w10.heap.size w10 w13 := hb12.trans (hb0.mono hb12.size); obtain ⟨p3, k3, rfl, hs3⟩ := strsQ_of_own hown3; have HE3 := Lib.hid (sequal_any p2 p3 _ k2 k3 _ w13 (HS2.out.grow hb0) hs3); clear hb0 hown3 hs3)
          | (go_at_call 40; (with_reducible refine HE3.out.mono ?_); rintro e w14 ⟨rfl, hb0⟩; have hb14 : Below w10.heap.size w10 w14 := hb13.trans (hb0.mono hb13.size); clear hb0)
          | (go_at_call 43; (with_reducible refine (HUs.out _ hb14).mono ?_); rintro e w15 ⟨rfl, hb0⟩; have hb15 : Below w10.heap.size w10 w15 := hb14.trans (hb0.mono hb14.size); clear hb0)
          | (go_at_call 44; (with_reducible refine (HV.out _ hb15).mono ?_); rintro e w16 ⟨rfl, hb0⟩; have hb16 : Below w10.heap.size w10 w16 := hb15.trans (hb0.mono hb15.size); clear hb0))
      have Hb16 := Lib.hid hb16
      clear hb12 hb13 hb14 hb15 hb16
      go_wp2_with fail
      rcases Hvm.out with ⟨hz, rfl⟩ | ⟨hz, rfl, hX⟩
      · have hz2 : (r.2 != 0) = true := by simp [hz]
        have hz3 : (r.2 == 0) = false := by simp [hz]
        clear hz
        refine wp_region_noPanic ?_
        refine wp_region_held_drew (S := fun _ => True) (by kernel_rfl) trivial (fun _ => ?_)
        refine wpAnyH_ready (rs := [0]) (by kernel_rfl) (by simp) ?_
        refine AllReadyH.cons (o := { dst := some 87, op := Op.call { callee := Callee.value (Operand.func 36), args := #[], argTypes := #[] }, type := 4, pos := "law.go:53", after := #[], guard := none }) rfl (fun K hK => ?_) AllReadyH.nil
        go_simp
        go_at_call 36; (with_reducible refine (talive_any _).mono ?_); rintro e w17 ⟨rfl, hb0⟩; have hb17 : Below w10.heap.size w10 w17 := (Hb16.out.drew).trans (hb0.mono (by have := Hb16.out.size; exact this)); clear hb0
        go_wp2_with fail
        refine hK.out _ _ trivial (fun _ => ?_)
        clear hK K
        try simp only [Act.put, List.setIfInBounds_toArray, List.set_cons_zero, List.set_cons_succ]
        refine wpAnyH_take (i := 1) (oi := { dst := some 88, op := Op.move (Operand.tmp 87), type := 4, pos := "law.go:53", after := #[{ on := 0, ground := Ground.data }, { on := 0, ground := Ground.chain }], guard := none }) (v := ?v1) rfl (by kernel_rfl) (by kernel_rfl) (by kernel_rfl) (fun _ _ _ h => h) (Or.inl ⟨by rfl, ?y1⟩) trivial ?r1
        case y1 => (intro w hSw; go_simp; first | done | with_reducible rfl)
        try simp only [Act.put, List.setIfInBounds_toArray, List.set_cons_zero, List.set_cons_succ]
        refine wpAnyH_take (i := 2) (oi := { dst := some 89, op := Op.move (Operand.tmp 13), type := 3, pos := "law.go:53", after := #[{ on := 1, ground := Ground.guard }], guard := some (1, true) }) (v := ?v2) rfl (by kernel_rfl) (by kernel_rfl) (by kernel_rfl) (fun _ _ _ h => h) (Or.inl ⟨by rfl, ?y2⟩) trivial ?r2
        case y2 => (intro w hSw; go_simp; first | done | with_reducible rfl)
        try simp only [Act.put, List.setIfInBounds_toArray, List.set_cons_zero, List.set_cons_succ]
        refine wpAnyH_take (i := 3) (oi := { dst := some 90, op := Op.binOp BinOp.neq 3 (Operand.tmp 89) (Operand.const (Value.int IntKind.i64 0)) 3, type := 4, pos := "law.go:53", after := #[{ on := 2, ground := Ground.data }, { on := 1, ground := Ground.guard }], guard := some (1, true) }) (v := ?v3) rfl (by kernel_rfl) (by kernel_rfl) (by kernel_rfl) (fun _ _ _ h => h) (Or.inl ⟨by rfl, ?y3⟩) trivial ?r3
        case y3 => (intro w hSw; go_simp; first | done | with_reducible rfl)
        try simp only [Act.put, List.setIfInBounds_toArray, List.set_cons_zero, List.set_cons_succ]
        refine wpAnyH_take (i := 4) (oi := { dst := some 91, op := Op.move (Operand.tmp 90), type := 4, pos := "law.go:53", after := #[{ on := 3, ground := Ground.data }, { on := 1, ground := Ground.chain }, { on := 1, ground := Ground.guard }], guard := some (1, true) }) (v := ?v4) rfl (by kernel_rfl) (by kernel_rfl) (by kernel_rfl) (fun _ _ _ h => h) (Or.inl ⟨by rfl, ?y4⟩) trivial ?r4
        case y4 => (intro w hSw; go_simp; first | done | with_reducible rfl)
        try simp only [Act.put, List.setIfInBounds_toArray, List.set_cons_zero, List.set_cons_succ]
        refine wpAnyH_take (i := 5) (oi := { dst := some 92, op := Op.move (Operand.tmp 10), type := 43, pos := "law.go:53", after := #[{ on := 4, ground := Ground.guard }], guard := some (4, true) }) (v := ?v5) rfl (by kernel_rfl) (by kernel_rfl) (by kernel_rfl) (fun _ _ _ h => h) (Or.inl ⟨by rfl, ?y5⟩) trivial ?r5
        case y5 => (intro w hSw; go_simp; first | done | with_reducible rfl)
        try simp only [Act.put, List.setIfInBounds_toArray, List.set_cons_zero, List.set_cons_succ]
        refine wpAnyH_take (i := 6) (oi := { dst := some 93, op := Op.binOp BinOp.eql 43 (Operand.tmp 92) (Operand.const (Value.pointer none)) 43, type := 4, pos := "law.go:53", after := #[{ on := 5, ground := Ground.data }, { on := 4, ground := Ground.guard }], guard := some (4, true) }) (v := ?v6) rfl (by kernel_rfl) (by kernel_rfl) (by kernel_rfl) (fun _ _ _ h => h) (Or.inl ⟨by rfl, ?y6⟩) trivial ?r6
        case y6 => (intro w hSw; go_simp; first | done | with_reducible rfl)
        try simp only [Act.put, List.setIfInBounds_toArray, List.set_cons_zero, List.set_cons_succ]
        refine wpAnyH_take (i := 7) (oi := { dst := some 94, op := Op.pick (Operand.tmp 91) (Operand.tmp 93) (Operand.const (Value.bool false)), type := 4, pos := "law.go:53", after := #[{ on := 4, ground := Ground.data }, { on := 6, ground := Ground.data }, { on := 1, ground := Ground.guard }], guard := some (1, true) }) (v := ?v7) rfl (by kernel_rfl) (by kernel_rfl) (by kernel_rfl) (fun _ _ _ h => h) (Or.inl ⟨by rfl, ?y7⟩) trivial ?r7
        case y7 => (intro w hSw; go_simp; first | done | with_reducible rfl)
        try simp only [Act.put, List.setIfInBounds_toArray, List.set_cons_zero, List.set_cons_succ]
        refine wpAnyH_take (i := 8) (oi := { dst := some 95, op := Op.move (Operand.tmp 94), type := 4, pos := "law.go:53", after := #[{ on := 7, ground := Ground.data }, { on := 4, ground := Ground.chain }, { on := 1, ground := Ground.guard }], guard := some (1, true) }) (v := ?v8) rfl (by kernel_rfl) (by kernel_rfl) (by kernel_rfl) (fun _ _ _ h => h) (Or.inl ⟨by rfl, ?y8⟩) trivial ?r8
        case y8 => (intro w hSw; go_simp; first | done | with_reducible rfl)
        try simp only [Act.put, List.setIfInBounds_toArray, List.set_cons_zero, List.set_cons_succ]
        refine wpAnyH_take (i := 9) (oi := { dst := some 96, op := Op.move (Operand.tmp 13), type := 3, pos := "law.go:53", after := #[{ on := 8, ground := Ground.guard }], guard := some (8, false) }) (v := undef) rfl (by kernel_rfl) (by kernel_rfl) (by kernel_rfl) (fun _ _ _ h => h) (Or.inr ⟨by rfl, rfl⟩) trivial ?_
        try simp only [Act.put, List.setIfInBounds_toArray, List.set_cons_zero, List.set_cons_succ]
        refine wpAnyH_take (i := 10) (oi := { dst := some 97, op := Op.binOp BinOp.eql 3 (Operand.tmp 96) (Operand.const (Value.int IntKind.i64 0)) 3, type := 4, pos := "law.go:53", after := #[{ on := 9, ground := Ground.data }, { on := 8, ground := Ground.guard }], guard := some (8, false) }) (v := undef) rfl (by kernel_rfl) (by kernel_rfl) (by kernel_rfl) (fun _ _ _ h => h) (Or.inr ⟨by rfl, rfl⟩) trivial ?_
        try simp only [Act.put, List.setIfInBounds_toArray, List.set_cons_zero, List.set_cons_succ]
        refine wpAnyH_take (i := 11) (oi := { dst := some 98, op := Op.move (Operand.tmp 97), type := 4, pos := "law.go:53", after := #[{ on := 10, ground := Ground.data }, { on := 8, ground := Ground.chain }, { on := 8, ground := Ground.guard }], guard := some (8, false) }) (v := undef) rfl (by kernel_rfl) (by kernel_rfl) (by kernel_rfl) (fun _ _ _ h => h) (Or.inr ⟨by rfl, rfl⟩) trivial ?_
        try simp only [Act.put, List.setIfInBounds_toArray, List.set_cons_zero, List.set_cons_succ]
        refine wpAnyH_take (i := 12) (oi := { dst := some 99, op := Op.move (Operand.tmp 10), type := 43, pos := "law.go:53", after := #[{ on := 11, ground := Ground.guard }], guard := some (11, true) }) (v := undef) rfl (by kernel_rfl) (by kernel_rfl) (by kernel_rfl) (fun _ _ _ h => h) (Or.inr ⟨by rfl, rfl⟩) trivial ?_
        try simp only [Act.put, List.setIfInBounds_toArray, List.set_cons_zero, List.set_cons_succ]
        refine wpAnyH_take (i := 13) (oi := { dst := some 100, op := Op.call { callee := Callee.value (Operand.func 25), args := #[Operand.tmp 99], argTypes := #[43] }, type := 3, pos := "law.go:53", after := #[{ on := 12, ground := Ground.data }, { on := 11, ground := Ground.chain }, { on := 11, ground := Ground.guard }], guard := some (11, true) }) (v := undef) rfl (by kernel_rfl) (by kernel_rfl) (by kernel_rfl) (fun _ _ _ h => h) (Or.inr ⟨by rfl, rfl⟩) trivial ?_
        try simp only [Act.put, List.setIfInBounds_toArray, List.set_cons_zero, List.set_cons_succ]
        refine wpAnyH_take (i := 14) (oi := { dst := some 101, op := Op.fieldAddr 47 (Operand.tmp 12) 2, type := 0, pos := "law.go:53", after := #[{ on := 11, ground := Ground.guard }], guard := some (11, true) }) (v := undef) rfl (by kernel_rfl) (by kernel_rfl) (by kernel_rfl) (fun _ _ _ h => h) (Or.inr ⟨by rfl, rfl⟩) trivial ?_
        try simp only [Act.put, List.setIfInBounds_toArray, List.set_cons_zero, List.set_cons_succ]
        refine wpAnyH_take (i := 15) (oi := { dst := some 102, op := Op.load 3 (Operand.tmp 101), type := 3, pos := "law.go:53", after := #[{ on := 14, ground := Ground.data }, { on := 11, ground := Ground.guard }], guard := some (11, true) }) (v := undef) rfl (by kernel_rfl) (by kernel_rfl) (by kernel_rfl) (fun _ _ _ h => h) (Or.inr ⟨by rfl, rfl⟩) trivial ?_
        try simp only [Act.put, List.setIfInBounds_toArray, List.set_cons_zero, List.set_cons_succ]
        refine wpAnyH_take (i := 16) (oi := { dst := some 103, op := Op.binOp BinOp.eql 3 (Operand.tmp 100) (Operand.tmp 102) 3, type := 4, pos := "law.go:53", after := #[{ on := 13, ground := Ground.data }, { on := 15, ground := Ground.data }, { on := 11, ground := Ground.guard }], guard := some (11, true) }) (v := undef) rfl (by kernel_rfl) (by kernel_rfl) (by kernel_rfl) (fun _ _ _ h => h) (Or.inr ⟨by rfl, rfl⟩) trivial ?_
        try simp only [Act.put, List.setIfInBounds_toArray, List.set_cons_zero, List.set_cons_succ]
        refine wpAnyH_take (i := 17) (oi := { dst := some 104, op := Op.pick (Operand.tmp 98) (Operand.tmp 103) (Operand.const (Value.bool false)), type := 4, pos := "law.go:53", after := #[{ on := 11, ground := Ground.data }, { on := 16, ground := Ground.data }, { on := 8, ground := Ground.guard }], guard := some (8, false) }) (v := undef) rfl (by kernel_rfl) (by kernel_rfl) (by kernel_rfl) (fun _ _ _ h => h) (Or.inr ⟨by rfl, rfl⟩) trivial ?_
        try simp only [Act.put, List.setIfInBounds_toArray, List.set_cons_zero, List.set_cons_succ]
        refine wpAnyH_take (i := 18) (oi := { dst := some 105, op := Op.move (Operand.tmp 104), type := 4, pos := "law.go:53", after := #[{ on := 17, ground := Ground.data }, { on := 13, ground := Ground.chain }, { on := 8, ground := Ground.guard }], guard := some (8, false) }) (v := undef) rfl (by kernel_rfl) (by kernel_rfl) (by kernel_rfl) (fun _ _ _ h => h) (Or.inr ⟨by rfl, rfl⟩) trivial ?_
        try simp only [Act.put, List.setIfInBounds_toArray, List.set_cons_zero, List.set_cons_succ]
        refine wpAnyH_take (i := 19) (oi := { dst := some 106, op := Op.move (Operand.tmp 10), type := 43, pos := "law.go:53", after := #[{ on := 18, ground := Ground.guard }], guard := some (18, true) }) (v := undef) rfl (by kernel_rfl) (by kernel_rfl) (by kernel_rfl) (fun _ _ _ h => h) (Or.inr ⟨by rfl, rfl⟩) trivial ?_
        try simp only [Act.put, List.setIfInBounds_toArray, List.set_cons_zero, List.set_cons_succ]
        refine wpAnyH_take (i := 20) (oi := { dst := some 107, op := Op.call { callee := Callee.value (Operand.func 26), args := #[Operand.tmp 106], argTypes := #[43] }, type := 3, pos := "law.go:53", after := #[{ on := 19, ground := Ground.data }, { on := 18, ground := Ground.chain }, { on := 18, ground := Ground.guard }], guard := some (18, true) }) (v := undef) rfl (by kernel_rfl) (by kernel_rfl) (by kernel_rfl) (fun _ _ _ h => h) (Or.inr ⟨by rfl, rfl⟩) trivial ?_
        try simp only [Act.put, List.setIfInBounds_toArray, List.set_cons_zero, List.set_cons_succ]
        refine wpAnyH_take (i := 21) (oi := { dst := some 108, op := Op.fieldAddr 47 (Operand.tmp 12) 3, type := 0, pos := "law.go:53", after := #[{ on := 18, ground := Ground.guard }], guard := some (18, true) }) (v := undef) rfl (by kernel_rfl) (by kernel_rfl) (by kernel_rfl) (fun _ _ _ h => h) (Or.inr ⟨by rfl, rfl⟩) trivial ?_
        try simp only [Act.put, List.setIfInBounds_toArray, List.set_cons_zero, List.set_cons_succ]
        refine wpAnyH_take (i := 22) (oi := { dst := some 109, op := Op.load 3 (Operand.tmp 108), type := 3, pos := "law.go:53", after := #[{ on := 21, ground := Ground.data }, { on := 18, ground := Ground.guard }], guard := some (18, true) }) (v := undef) rfl (by kernel_rfl) (by kernel_rfl) (by kernel_rfl) (fun _ _ _ h => h) (Or.inr ⟨by rfl, rfl⟩) trivial ?_
        try simp only [Act.put, List.setIfInBounds_toArray, List.set_cons_zero, List.set_cons_succ]
        refine wpAnyH_take (i := 23) (oi := { dst := some 110, op := Op.binOp BinOp.eql 3 (Operand.tmp 107) (Operand.tmp 109) 3, type := 4, pos := "law.go:53", after := #[{ on := 20, ground := Ground.data }, { on := 22, ground := Ground.data }, { on := 18, ground := Ground.guard }], guard := some (18, true) }) (v := undef) rfl (by kernel_rfl) (by kernel_rfl) (by kernel_rfl) (fun _ _ _ h => h) (Or.inr ⟨by rfl, rfl⟩) trivial ?_
        try simp only [Act.put, List.setIfInBounds_toArray, List.set_cons_zero, List.set_cons_succ]
        refine wpAnyH_take (i := 24) (oi := { dst := some 111, op := Op.pick (Operand.tmp 105) (Operand.tmp 110) (Operand.const (Value.bool false)), type := 4, pos := "law.go:53", after := #[{ on := 18, ground := Ground.data }, { on := 23, ground := Ground.data }, { on := 8, ground := Ground.guard }], guard := some (8, false) }) (v := undef) rfl (by kernel_rfl) (by kernel_rfl) (by kernel_rfl) (fun _ _ _ h => h) (Or.inr ⟨by rfl, rfl⟩) trivial ?_
        try simp only [Act.put, List.setIfInBounds_toArray, List.set_cons_zero, List.set_cons_succ]
        refine wpAnyH_take (i := 25) (oi := { dst := some 112, op := Op.move (Operand.tmp 111), type := 4, pos := "law.go:53", after := #[{ on := 24, ground := Ground.data }, { on := 20, ground := Ground.chain }, { on := 8, ground := Ground.guard }], guard := some (8, false) }) (v := undef) rfl (by kernel_rfl) (by kernel_rfl) (by kernel_rfl) (fun _ _ _ h => h) (Or.inr ⟨by rfl, rfl⟩) trivial ?_
        try simp only [Act.put, List.setIfInBounds_toArray, List.set_cons_zero, List.set_cons_succ]
        refine wpAnyH_take (i := 26) (oi := { dst := some 113, op := Op.move (Operand.tmp 10), type := 43, pos := "law.go:53", after := #[{ on := 25, ground := Ground.guard }], guard := some (25, true) }) (v := undef) rfl (by kernel_rfl) (by kernel_rfl) (by kernel_rfl) (fun _ _ _ h => h) (Or.inr ⟨by rfl, rfl⟩) trivial ?_
        try simp only [Act.put, List.setIfInBounds_toArray, List.set_cons_zero, List.set_cons_succ]
        refine wpAnyH_take (i := 27) (oi := { dst := some 114, op := Op.call { callee := Callee.value (Operand.func 45), args := #[Operand.tmp 113], argTypes := #[43] }, type := 3, pos := "law.go:53", after := #[{ on := 26, ground := Ground.data }, { on := 25, ground := Ground.chain }, { on := 25, ground := Ground.guard }], guard := some (25, true) }) (v := undef) rfl (by kernel_rfl) (by kernel_rfl) (by kernel_rfl) (fun _ _ _ h => h) (Or.inr ⟨by rfl, rfl⟩) trivial ?_
        try simp only [Act.put, List.setIfInBounds_toArray, List.set_cons_zero, List.set_cons_succ]
        refine wpAnyH_take (i := 28) (oi := { dst := some 115, op := Op.binOp BinOp.eql 3 (Operand.tmp 114) (Operand.const (Value.int IntKind.i64 0)) 3, type := 4, pos := "law.go:53", after := #[{ on := 27, ground := Ground.data }, { on := 25, ground := Ground.guard }], guard := some (25, true) }) (v := undef) rfl (by kernel_rfl) (by kernel_rfl) (by kernel_rfl) (fun _ _ _ h => h) (Or.inr ⟨by rfl, rfl⟩) trivial ?_
        try simp only [Act.put, List.setIfInBounds_toArray, List.set_cons_zero, List.set_cons_succ]
        refine wpAnyH_take (i := 29) (oi := { dst := some 116, op := Op.pick (Operand.tmp 112) (Operand.tmp 115) (Operand.const (Value.bool false)), type := 4, pos := "law.go:53", after := #[{ on := 25, ground := Ground.data }, { on := 28, ground := Ground.data }, { on := 8, ground := Ground.guard }], guard := some (8, false) }) (v := undef) rfl (by kernel_rfl) (by kernel_rfl) (by kernel_rfl) (fun _ _ _ h => h) (Or.inr ⟨by rfl, rfl⟩) trivial ?_
        try simp only [Act.put, List.setIfInBounds_toArray, List.set_cons_zero, List.set_cons_succ]
        refine wpAnyH_take (i := 30) (oi := { dst := some 117, op := Op.pick (Operand.tmp 95) (Operand.const (Value.bool true)) (Operand.tmp 116), type := 4, pos := "law.go:53", after := #[{ on := 8, ground := Ground.data }, { on := 29, ground := Ground.data }, { on := 1, ground := Ground.guard }], guard := some (1, true) }) (v := ?v30) rfl (by kernel_rfl) (by kernel_rfl) (by kernel_rfl) (fun _ _ _ h => h) (Or.inl ⟨by rfl, ?y30⟩) trivial ?r30
        case y30 => (intro w hSw; go_simp; first | done | with_reducible rfl)
        try simp only [Act.put, List.setIfInBounds_toArray, List.set_cons_zero, List.set_cons_succ]
        refine wpAnyH_take (i := 31) (oi := { dst := some 118, op := Op.pick (Operand.tmp 88) (Operand.tmp 117) (Operand.const (Value.bool false)), type := 4, pos := "law.go:53", after := #[{ on := 1, ground := Ground.data }, { on := 30, ground := Ground.data }], guard := none }) (v := ?v31) rfl (by kernel_rfl) (by kernel_rfl) (by kernel_rfl) (fun _ _ _ h => h) (Or.inl ⟨by rfl, ?y31⟩) trivial ?r31
        case y31 => (intro w hSw; go_simp; first | done | with_reducible rfl)
        try simp only [Act.put, List.setIfInBounds_toArray, List.set_cons_zero, List.set_cons_succ]
        refine wpAnyH_take (i := 32) (oi := { dst := some 6, op := Op.assign (Operand.tmp 118), type := 4, pos := "law.go:53", after := #[{ on := 31, ground := Ground.data }, { on := 27, ground := Ground.chain }, { on := 0, ground := Ground.phase }, { on := 1, ground := Ground.phase }, { on := 2, ground := Ground.phase }, { on := 3, ground := Ground.phase }, { on := 4, ground := Ground.phase }, { on := 5, ground := Ground.phase }, { on := 6, ground := Ground.phase }, { on := 7, ground := Ground.phase }, { on := 8, ground := Ground.phase }, { on := 9, ground := Ground.phase }, { on := 10, ground := Ground.phase }, { on := 11, ground := Ground.phase }, { on := 12, ground := Ground.phase }, { on := 13, ground := Ground.phase }, { on := 14, ground := Ground.phase }, { on := 15, ground := Ground.phase }, { on := 16, ground := Ground.phase }, { on := 17, ground := Ground.phase }, { on := 18, ground := Ground.phase }, { on := 19, ground := Ground.phase }, { on := 20, ground := Ground.phase }, { on := 21, ground := Ground.phase }, { on := 22, ground := Ground.phase }, { on := 23, ground := Ground.phase }, { on := 24, ground := Ground.phase }, { on := 25, ground := Ground.phase }, { on := 26, ground := Ground.phase }, { on := 27, ground := Ground.phase }, { on := 28, ground := Ground.phase }, { on := 29, ground := Ground.phase }, { on := 30, ground := Ground.phase }, { on := 31, ground := Ground.phase }], guard := none }) (v := ?v32) rfl (by kernel_rfl) (by kernel_rfl) (by kernel_rfl) (fun _ _ _ h => h) (Or.inl ⟨by rfl, ?y32⟩) trivial ?r32
        case y32 => (intro w hSw; go_simp; first | done | with_reducible rfl)
        try simp only [Act.put, List.setIfInBounds_toArray, List.set_cons_zero, List.set_cons_succ]
        refine wpAnyH_done (by kernel_rfl) ?_ _
        refine NoPanic.normal ?_
        have Hend := Lib.hid (Hb10.out.trans (hb17.mono Hb10.out.size))
        clear hb17
        go_wp2
        go_ret
        exact ⟨rfl, Hend.out⟩
      · have hz2 : (r.2 != 0) = false := by simp [hz]
        have hz3 : (r.2 == 0) = true := by simp [hz]
        have hW : W2 = WX := by rw [HW2.out, hX, compR_yes hz]
        have hwt : (WX.wait : Int) = 0 := by rw [hX]; rfl
        rw [hW] at HK
        rw [hwt] at HLg
        have hn1 : ((WX.n : Int) == (WX.n : Int)) = true := by simp
        have hn2 : ((WX.size : Int) == (WX.size : Int)) = true := by simp
        clear hz hX hW hwt
        generalize (WX.n : Int) = na at *
        generalize (WX.size : Int) = sa at *
        refine wp_region_noPanic ?_
        refine wp_region_held_drew (S := (fun w' => w'.cell? ⟨w9.heap.size, 5, none⟩ = some (.int .i64 na) ∧ w'.cell? ⟨w9.heap.size, 6, none⟩ = some (.int .i64 sa))) (by kernel_rfl) (HK.out _ (Hb16.out.drew)).2 (fun hHeld => ?_)
        refine wpAnyH_ready (rs := [0]) (by kernel_rfl) (by simp) ?_
        refine AllReadyH.cons (o := { dst := some 87, op := Op.call { callee := Callee.value (Operand.func 36), args := #[], argTypes := #[] }, type := 4, pos := "law.go:53", after := #[], guard := none }) rfl (fun K hK => ?_) AllReadyH.nil
        go_simp
        go_at_call 36; (with_reducible refine (talive_any _).mono ?_); rintro e w17 ⟨rfl, hb0⟩; have hb17 : Below w10.heap.size w10 w17 := (Hb16.out.drew).trans (hb0.mono (by have := Hb16.out.size; exact this)); clear hb0
        go_wp2_with fail
        refine hK.out _ _ (HK.out _ hb17).2 (fun hHeld2 => ?_)
        clear hHeld hK K; have hHeld := hHeld2; clear hHeld2
        try simp only [Act.put, List.setIfInBounds_toArray, List.set_cons_zero, List.set_cons_succ]
        refine wpAnyH_take (i := 1) (oi := { dst := some 88, op := Op.move (Operand.tmp 87), type := 4, pos := "law.go:53", after := #[{ on := 0, ground := Ground.data }, { on := 0, ground := Ground.chain }], guard := none }) (v := ?cv1) rfl (by kernel_rfl) (by kernel_rfl) (by kernel_rfl) (fun _ _ _ h => h) (Or.inl ⟨by rfl, ?cy1⟩) hHeld ?cr1
        case cy1 => (intro w hSw; (try dsimp only at hSw); go_simp; first | done | with_reducible rfl)
        try simp only [Act.put, List.setIfInBounds_toArray, List.set_cons_zero, List.set_cons_succ]
        refine wpAnyH_take (i := 2) (oi := { dst := some 89, op := Op.move (Operand.tmp 13), type := 3, pos := "law.go:53", after := #[{ on := 1, ground := Ground.guard }], guard := some (1, true) }) (v := ?cv2) rfl (by kernel_rfl) (by kernel_rfl) (by kernel_rfl) (fun _ _ _ h => h) (Or.inl ⟨by rfl, ?cy2⟩) hHeld ?cr2
        case cy2 => (intro w hSw; (try dsimp only at hSw); go_simp; first | done | with_reducible rfl)
        try simp only [Act.put, List.setIfInBounds_toArray, List.set_cons_zero, List.set_cons_succ]
        refine wpAnyH_take (i := 3) (oi := { dst := some 90, op := Op.binOp BinOp.neq 3 (Operand.tmp 89) (Operand.const (Value.int IntKind.i64 0)) 3, type := 4, pos := "law.go:53", after := #[{ on := 2, ground := Ground.data }, { on := 1, ground := Ground.guard }], guard := some (1, true) }) (v := ?cv3) rfl (by kernel_rfl) (by kernel_rfl) (by kernel_rfl) (fun _ _ _ h => h) (Or.inl ⟨by rfl, ?cy3⟩) hHeld ?cr3
        case cy3 => (intro w hSw; (try dsimp only at hSw); go_simp; first | done | with_reducible rfl)
        try simp only [Act.put, List.setIfInBounds_toArray, List.set_cons_zero, List.set_cons_succ]
        refine wpAnyH_take (i := 4) (oi := { dst := some 91, op := Op.move (Operand.tmp 90), type := 4, pos := "law.go:53", after := #[{ on := 3, ground := Ground.data }, { on := 1, ground := Ground.chain }, { on := 1, ground := Ground.guard }], guard := some (1, true) }) (v := ?cv4) rfl (by kernel_rfl) (by kernel_rfl) (by kernel_rfl) (fun _ _ _ h => h) (Or.inl ⟨by rfl, ?cy4⟩) hHeld ?cr4
        case cy4 => (intro w hSw; (try dsimp only at hSw); go_simp; first | done | with_reducible rfl)
        try simp only [Act.put, List.setIfInBounds_toArray, List.set_cons_zero, List.set_cons_succ]
        refine wpAnyH_take (i := 5) (oi := { dst := some 92, op := Op.move (Operand.tmp 10), type := 43, pos := "law.go:53", after := #[{ on := 4, ground := Ground.guard }], guard := some (4, true) }) (v := undef) rfl (by kernel_rfl) (by kernel_rfl) (by kernel_rfl) (fun _ _ _ h => h) (Or.inr ⟨by rfl, rfl⟩) hHeld ?_
        try simp only [Act.put, List.setIfInBounds_toArray, List.set_cons_zero, List.set_cons_succ]
        refine wpAnyH_take (i := 6) (oi := { dst := some 93, op := Op.binOp BinOp.eql 43 (Operand.tmp 92) (Operand.const (Value.pointer none)) 43, type := 4, pos := "law.go:53", after := #[{ on := 5, ground := Ground.data }, { on := 4, ground := Ground.guard }], guard := some (4, true) }) (v := undef) rfl (by kernel_rfl) (by kernel_rfl) (by kernel_rfl) (fun _ _ _ h => h) (Or.inr ⟨by rfl, rfl⟩) hHeld ?_
        try simp only [Act.put, List.setIfInBounds_toArray, List.set_cons_zero, List.set_cons_succ]
        refine wpAnyH_take (i := 7) (oi := { dst := some 94, op := Op.pick (Operand.tmp 91) (Operand.tmp 93) (Operand.const (Value.bool false)), type := 4, pos := "law.go:53", after := #[{ on := 4, ground := Ground.data }, { on := 6, ground := Ground.data }, { on := 1, ground := Ground.guard }], guard := some (1, true) }) (v := ?cv7) rfl (by kernel_rfl) (by kernel_rfl) (by kernel_rfl) (fun _ _ _ h => h) (Or.inl ⟨by rfl, ?cy7⟩) hHeld ?cr7
        case cy7 => (intro w hSw; (try dsimp only at hSw); go_simp; first | done | with_reducible rfl)
        try simp only [Act.put, List.setIfInBounds_toArray, List.set_cons_zero, List.set_cons_succ]
        refine wpAnyH_take (i := 8) (oi := { dst := some 95, op := Op.move (Operand.tmp 94), type := 4, pos := "law.go:53", after := #[{ on := 7, ground := Ground.data }, { on := 4, ground := Ground.chain }, { on := 1, ground := Ground.guard }], guard := some (1, true) }) (v := ?cv8) rfl (by kernel_rfl) (by kernel_rfl) (by kernel_rfl) (fun _ _ _ h => h) (Or.inl ⟨by rfl, ?cy8⟩) hHeld ?cr8
        case cy8 => (intro w hSw; (try dsimp only at hSw); go_simp; first | done | with_reducible rfl)
        try simp only [Act.put, List.setIfInBounds_toArray, List.set_cons_zero, List.set_cons_succ]
        refine wpAnyH_take (i := 9) (oi := { dst := some 96, op := Op.move (Operand.tmp 13), type := 3, pos := "law.go:53", after := #[{ on := 8, ground := Ground.guard }], guard := some (8, false) }) (v := ?cv9) rfl (by kernel_rfl) (by kernel_rfl) (by kernel_rfl) (fun _ _ _ h => h) (Or.inl ⟨by rfl, ?cy9⟩) hHeld ?cr9
        case cy9 => (intro w hSw; (try dsimp only at hSw); go_simp; first | done | with_reducible rfl)
        try simp only [Act.put, List.setIfInBounds_toArray, List.set_cons_zero, List.set_cons_succ]
        refine wpAnyH_take (i := 10) (oi := { dst := some 97, op := Op.binOp BinOp.eql 3 (Operand.tmp 96) (Operand.const (Value.int IntKind.i64 0)) 3, type := 4, pos := "law.go:53", after := #[{ on := 9, ground := Ground.data }, { on := 8, ground := Ground.guard }], guard := some (8, false) }) (v := ?cv10) rfl (by kernel_rfl) (by kernel_rfl) (by kernel_rfl) (fun _ _ _ h => h) (Or.inl ⟨by rfl, ?cy10⟩) hHeld ?cr10
        case cy10 => (intro w hSw; (try dsimp only at hSw); go_simp; first | done | with_reducible rfl)
        try simp only [Act.put, List.setIfInBounds_toArray, List.set_cons_zero, List.set_cons_succ]
        refine wpAnyH_take (i := 11) (oi := { dst := some 98, op := Op.move (Operand.tmp 97), type := 4, pos := "law.go:53", after := #[{ on := 10, ground := Ground.data }, { on := 8, ground := Ground.chain }, { on := 8, ground := Ground.guard }], guard := some (8, false) }) (v := ?cv11) rfl (by kernel_rfl) (by kernel_rfl) (by kernel_rfl) (fun _ _ _ h => h) (Or.inl ⟨by rfl, ?cy11⟩) hHeld ?cr11
        case cy11 => (intro w hSw; (try dsimp only at hSw); go_simp; first | done | with_reducible rfl)
        try simp only [Act.put, List.setIfInBounds_toArray, List.set_cons_zero, List.set_cons_succ]
        refine wpAnyH_take (i := 12) (oi := { dst := some 99, op := Op.move (Operand.tmp 10), type := 43, pos := "law.go:53", after := #[{ on := 11, ground := Ground.guard }], guard := some (11, true) }) (v := ?cv12) rfl (by kernel_rfl) (by kernel_rfl) (by kernel_rfl) (fun _ _ _ h => h) (Or.inl ⟨by rfl, ?cy12⟩) hHeld ?cr12
        case cy12 => (intro w hSw; (try dsimp only at hSw); go_simp; first | done | with_reducible rfl)
        try simp only [Act.put, List.setIfInBounds_toArray, List.set_cons_zero, List.set_cons_succ]
        refine wpAnyH_take (i := 14) (oi := { dst := some 101, op := Op.fieldAddr 47 (Operand.tmp 12) 2, type := 0, pos := "law.go:53", after := #[{ on := 11, ground := Ground.guard }], guard := some (11, true) }) (v := ?cv14) rfl (by kernel_rfl) (by kernel_rfl) (by kernel_rfl) (fun _ _ _ h => h) (Or.inl ⟨by rfl, ?cy14⟩) hHeld ?cr14
        case cy14 => (intro w hSw; (try dsimp only at hSw); go_simp; first | done | with_reducible rfl)
        try simp only [Act.put, List.setIfInBounds_toArray, List.set_cons_zero, List.set_cons_succ]
        refine wpAnyH_take (i := 15) (oi := { dst := some 102, op := Op.load 3 (Operand.tmp 101), type := 3, pos := "law.go:53", after := #[{ on := 14, ground := Ground.data }, { on := 11, ground := Ground.guard }], guard := some (11, true) }) (v := ?cv15) rfl (by kernel_rfl) (by kernel_rfl) (by kernel_rfl) (fun _ _ _ h => h) (Or.inl ⟨by rfl, ?cy15⟩) hHeld ?cr15
        case cy15 => (intro w hSw; (try dsimp only at hSw); go_simp; first | done | with_reducible rfl)
        try simp only [Act.put, List.setIfInBounds_toArray, List.set_cons_zero, List.set_cons_succ]
        refine wpAnyH_ready (rs := [13]) (by kernel_rfl) (by simp) ?_
        refine AllReadyH.cons (o := { dst := some 100, op := Op.call { callee := Callee.value (Operand.func 25), args := #[Operand.tmp 99], argTypes := #[43] }, type := 3, pos := "law.go:53", after := #[{ on := 12, ground := Ground.data }, { on := 11, ground := Ground.chain }, { on := 11, ground := Ground.guard }], guard := some (11, true) }) rfl (fun K hK => ?_) AllReadyH.nil
        go_simp
        go_at_call 25; (with_reducible refine (segment_any (HLg.out _ hb17).1).mono ?_); rintro e w18 ⟨rfl, rfl⟩
        go_wp2_with fail
        refine hK.out _ _ (HK.out _ hb17).2 (fun hHeld2 => ?_)
        clear hHeld hK K; have hHeld := hHeld2; clear hHeld2
        try simp only [Act.put, List.setIfInBounds_toArray, List.set_cons_zero, List.set_cons_succ]
        refine wpAnyH_take (i := 16) (oi := { dst := some 103, op := Op.binOp BinOp.eql 3 (Operand.tmp 100) (Operand.tmp 102) 3, type := 4, pos := "law.go:53", after := #[{ on := 13, ground := Ground.data }, { on := 15, ground := Ground.data }, { on := 11, ground := Ground.guard }], guard := some (11, true) }) (v := ?cv16) rfl (by kernel_rfl) (by kernel_rfl) (by kernel_rfl) (fun _ _ _ h => h) (Or.inl ⟨by rfl, ?cy16⟩) hHeld ?cr16
        case cy16 => (intro w hSw; (try dsimp only at hSw); go_simp; first | done | with_reducible rfl)
        try simp only [Act.put, List.setIfInBounds_toArray, List.set_cons_zero, List.set_cons_succ]
        refine wpAnyH_take (i := 17) (oi := { dst := some 104, op := Op.pick (Operand.tmp 98) (Operand.tmp 103) (Operand.const (Value.bool false)), type := 4, pos := "law.go:53", after := #[{ on := 11, ground := Ground.data }, { on := 16, ground := Ground.data }, { on := 8, ground := Ground.guard }], guard := some (8, false) }) (v := ?cv17) rfl (by kernel_rfl) (by kernel_rfl) (by kernel_rfl) (fun _ _ _ h => h) (Or.inl ⟨by rfl, ?cy17⟩) hHeld ?cr17
        case cy17 => (intro w hSw; (try dsimp only at hSw); go_simp; first | done | with_reducible rfl)
        try simp only [Act.put, List.setIfInBounds_toArray, List.set_cons_zero, List.set_cons_succ]
        refine wpAnyH_take (i := 18) (oi := { dst := some 105, op := Op.move (Operand.tmp 104), type := 4, pos := "law.go:53", after := #[{ on := 17, ground := Ground.data }, { on := 13, ground := Ground.chain }, { on := 8, ground := Ground.guard }], guard := some (8, false) }) (v := ?cv18) rfl (by kernel_rfl) (by kernel_rfl) (by kernel_rfl) (fun _ _ _ h => h) (Or.inl ⟨by rfl, ?cy18⟩) hHeld ?cr18
        case cy18 => (intro w hSw; (try dsimp only at hSw); go_simp; first | done | with_reducible rfl)
        try simp only [Act.put, List.setIfInBounds_toArray, List.set_cons_zero, List.set_cons_succ]
        refine wpAnyH_take (i := 19) (oi := { dst := some 106, op := Op.move (Operand.tmp 10), type := 43, pos := "law.go:53", after := #[{ on := 18, ground := Ground.guard }], guard := some (18, true) }) (v := ?cv19) rfl (by kernel_rfl) (by kernel_rfl) (by kernel_rfl) (fun _ _ _ h => h) (Or.inl ⟨by rfl, ?cy19⟩) hHeld ?cr19
        case cy19 => (intro w hSw; (try dsimp only at hSw); go_simp; first | done | with_reducible rfl)
        try simp only [Act.put, List.setIfInBounds_toArray, List.set_cons_zero, List.set_cons_succ]
        refine wpAnyH_take (i := 21) (oi := { dst := some 108, op := Op.fieldAddr 47 (Operand.tmp 12) 3, type := 0, pos := "law.go:53", after := #[{ on := 18, ground := Ground.guard }], guard := some (18, true) }) (v := ?cv21) rfl (by kernel_rfl) (by kernel_rfl) (by kernel_rfl) (fun _ _ _ h => h) (Or.inl ⟨by rfl, ?cy21⟩) hHeld ?cr21
        case cy21 => (intro w hSw; (try dsimp only at hSw); go_simp; first | done | with_reducible rfl)
        try simp only [Act.put, List.setIfInBounds_toArray, List.set_cons_zero, List.set_cons_succ]
        refine wpAnyH_take (i := 22) (oi := { dst := some 109, op := Op.load 3 (Operand.tmp 108), type := 3, pos := "law.go:53", after := #[{ on := 21, ground := Ground.data }, { on := 18, ground := Ground.guard }], guard := some (18, true) }) (v := ?cv22) rfl (by kernel_rfl) (by kernel_rfl) (by kernel_rfl) (fun _ _ _ h => h) (Or.inl ⟨by rfl, ?cy22⟩) hHeld ?cr22
        case cy22 => (intro w hSw; (try dsimp only at hSw); go_simp; first | done | with_reducible rfl)
        try simp only [Act.put, List.setIfInBounds_toArray, List.set_cons_zero, List.set_cons_succ]
        refine wpAnyH_ready (rs := [20]) (by kernel_rfl) (by simp) ?_
        refine AllReadyH.cons (o := { dst := some 107, op := Op.call { callee := Callee.value (Operand.func 26), args := #[Operand.tmp 106], argTypes := #[43] }, type := 3, pos := "law.go:53", after := #[{ on := 19, ground := Ground.data }, { on := 18, ground := Ground.chain }, { on := 18, ground := Ground.guard }], guard := some (18, true) }) rfl (fun K hK => ?_) AllReadyH.nil
        go_simp
        go_at_call 26; (with_reducible refine (wsize_any (HLg.out _ hb17).2.1).mono ?_); rintro e w18 ⟨rfl, rfl⟩
        go_wp2_with fail
        refine hK.out _ _ (HK.out _ hb17).2 (fun hHeld2 => ?_)
        clear hHeld hK K; have hHeld := hHeld2; clear hHeld2
        try simp only [Act.put, List.setIfInBounds_toArray, List.set_cons_zero, List.set_cons_succ]
        refine wpAnyH_take (i := 23) (oi := { dst := some 110, op := Op.binOp BinOp.eql 3 (Operand.tmp 107) (Operand.tmp 109) 3, type := 4, pos := "law.go:53", after := #[{ on := 20, ground := Ground.data }, { on := 22, ground := Ground.data }, { on := 18, ground := Ground.guard }], guard := some (18, true) }) (v := ?cv23) rfl (by kernel_rfl) (by kernel_rfl) (by kernel_rfl) (fun _ _ _ h => h) (Or.inl ⟨by rfl, ?cy23⟩) hHeld ?cr23
        case cy23 => (intro w hSw; (try dsimp only at hSw); go_simp; first | done | with_reducible rfl)
        try simp only [Act.put, List.setIfInBounds_toArray, List.set_cons_zero, List.set_cons_succ]
        refine wpAnyH_take (i := 24) (oi := { dst := some 111, op := Op.pick (Operand.tmp 105) (Operand.tmp 110) (Operand.const (Value.bool false)), type := 4, pos := "law.go:53", after := #[{ on := 18, ground := Ground.data }, { on := 23, ground := Ground.data }, { on := 8, ground := Ground.guard }], guard := some (8, false) }) (v := ?cv24) rfl (by kernel_rfl) (by kernel_rfl) (by kernel_rfl) (fun _ _ _ h => h) (Or.inl ⟨by rfl, ?cy24⟩) hHeld ?cr24
        case cy24 => (intro w hSw; (try dsimp only at hSw); go_simp; first | done | with_reducible rfl)
        try simp only [Act.put, List.setIfInBounds_toArray, List.set_cons_zero, List.set_cons_succ]
        refine wpAnyH_take (i := 25) (oi := { dst := some 112, op := Op.move (Operand.tmp 111), type := 4, pos := "law.go:53", after := #[{ on := 24, ground := Ground.data }, { on := 20, ground := Ground.chain }, { on := 8, ground := Ground.guard }], guard := some (8, false) }) (v := ?cv25) rfl (by kernel_rfl) (by kernel_rfl) (by kernel_rfl) (fun _ _ _ h => h) (Or.inl ⟨by rfl, ?cy25⟩) hHeld ?cr25
        case cy25 => (intro w hSw; (try dsimp only at hSw); go_simp; first | done | with_reducible rfl)
        try simp only [Act.put, List.setIfInBounds_toArray, List.set_cons_zero, List.set_cons_succ]
        refine wpAnyH_take (i := 26) (oi := { dst := some 113, op := Op.move (Operand.tmp 10), type := 43, pos := "law.go:53", after := #[{ on := 25, ground := Ground.guard }], guard := some (25, true) }) (v := ?cv26) rfl (by kernel_rfl) (by kernel_rfl) (by kernel_rfl) (fun _ _ _ h => h) (Or.inl ⟨by rfl, ?cy26⟩) hHeld ?cr26
        case cy26 => (intro w hSw; (try dsimp only at hSw); go_simp; first | done | with_reducible rfl)
        try simp only [Act.put, List.setIfInBounds_toArray, List.set_cons_zero, List.set_cons_succ]
        refine wpAnyH_ready (rs := [27]) (by kernel_rfl) (by simp) ?_
        refine AllReadyH.cons (o := { dst := some 114, op := Op.call { callee := Callee.value (Operand.func 45), args := #[Operand.tmp 113], argTypes := #[43] }, type := 3, pos := "law.go:53", after := #[{ on := 26, ground := Ground.data }, { on := 25, ground := Ground.chain }, { on := 25, ground := Ground.guard }], guard := some (25, true) }) rfl (fun K hK => ?_) AllReadyH.nil
        go_simp
        go_at_call 45; (with_reducible refine (waiting_any (HLg.out _ hb17).2.2).mono ?_); rintro e w18 ⟨rfl, rfl⟩
        go_wp2_with fail
        refine hK.out _ _ (HK.out _ hb17).2 (fun hHeld2 => ?_)
        clear hHeld hK K; have hHeld := hHeld2; clear hHeld2
        try simp only [Act.put, List.setIfInBounds_toArray, List.set_cons_zero, List.set_cons_succ]
        refine wpAnyH_take (i := 28) (oi := { dst := some 115, op := Op.binOp BinOp.eql 3 (Operand.tmp 114) (Operand.const (Value.int IntKind.i64 0)) 3, type := 4, pos := "law.go:53", after := #[{ on := 27, ground := Ground.data }, { on := 25, ground := Ground.guard }], guard := some (25, true) }) (v := ?cv28) rfl (by kernel_rfl) (by kernel_rfl) (by kernel_rfl) (fun _ _ _ h => h) (Or.inl ⟨by rfl, ?cy28⟩) hHeld ?cr28
        case cy28 => (intro w hSw; (try dsimp only at hSw); go_simp; first | done | with_reducible rfl)
        try simp only [Act.put, List.setIfInBounds_toArray, List.set_cons_zero, List.set_cons_succ]
        refine wpAnyH_take (i := 29) (oi := { dst := some 116, op := Op.pick (Operand.tmp 112) (Operand.tmp 115) (Operand.const (Value.bool false)), type := 4, pos := "law.go:53", after := #[{ on := 25, ground := Ground.data }, { on := 28, ground := Ground.data }, { on := 8, ground := Ground.guard }], guard := some (8, false) }) (v := ?cv29) rfl (by kernel_rfl) (by kernel_rfl) (by kernel_rfl) (fun _ _ _ h => h) (Or.inl ⟨by rfl, ?cy29⟩) hHeld ?cr29
        case cy29 => (intro w hSw; (try dsimp only at hSw); go_simp; first | done | with_reducible rfl)
        try simp only [Act.put, List.setIfInBounds_toArray, List.set_cons_zero, List.set_cons_succ]
        refine wpAnyH_take (i := 30) (oi := { dst := some 117, op := Op.pick (Operand.tmp 95) (Operand.const (Value.bool true)) (Operand.tmp 116), type := 4, pos := "law.go:53", after := #[{ on := 8, ground := Ground.data }, { on := 29, ground := Ground.data }, { on := 1, ground := Ground.guard }], guard := some (1, true) }) (v := ?cv30) rfl (by kernel_rfl) (by kernel_rfl) (by kernel_rfl) (fun _ _ _ h => h) (Or.inl ⟨by rfl, ?cy30⟩) hHeld ?cr30
        case cy30 => (intro w hSw; (try dsimp only at hSw); go_simp; first | done | with_reducible rfl)
        try simp only [Act.put, List.setIfInBounds_toArray, List.set_cons_zero, List.set_cons_succ]
        refine wpAnyH_take (i := 31) (oi := { dst := some 118, op := Op.pick (Operand.tmp 88) (Operand.tmp 117) (Operand.const (Value.bool false)), type := 4, pos := "law.go:53", after := #[{ on := 1, ground := Ground.data }, { on := 30, ground := Ground.data }], guard := none }) (v := ?cv31) rfl (by kernel_rfl) (by kernel_rfl) (by kernel_rfl) (fun _ _ _ h => h) (Or.inl ⟨by rfl, ?cy31⟩) hHeld ?cr31
        case cy31 => (intro w hSw; (try dsimp only at hSw); go_simp; first | done | with_reducible rfl)
        try simp only [Act.put, List.setIfInBounds_toArray, List.set_cons_zero, List.set_cons_succ]
        refine wpAnyH_take (i := 32) (oi := { dst := some 6, op := Op.assign (Operand.tmp 118), type := 4, pos := "law.go:53", after := #[{ on := 31, ground := Ground.data }, { on := 27, ground := Ground.chain }, { on := 0, ground := Ground.phase }, { on := 1, ground := Ground.phase }, { on := 2, ground := Ground.phase }, { on := 3, ground := Ground.phase }, { on := 4, ground := Ground.phase }, { on := 5, ground := Ground.phase }, { on := 6, ground := Ground.phase }, { on := 7, ground := Ground.phase }, { on := 8, ground := Ground.phase }, { on := 9, ground := Ground.phase }, { on := 10, ground := Ground.phase }, { on := 11, ground := Ground.phase }, { on := 12, ground := Ground.phase }, { on := 13, ground := Ground.phase }, { on := 14, ground := Ground.phase }, { on := 15, ground := Ground.phase }, { on := 16, ground := Ground.phase }, { on := 17, ground := Ground.phase }, { on := 18, ground := Ground.phase }, { on := 19, ground := Ground.phase }, { on := 20, ground := Ground.phase }, { on := 21, ground := Ground.phase }, { on := 22, ground := Ground.phase }, { on := 23, ground := Ground.phase }, { on := 24, ground := Ground.phase }, { on := 25, ground := Ground.phase }, { on := 26, ground := Ground.phase }, { on := 27, ground := Ground.phase }, { on := 28, ground := Ground.phase }, { on := 29, ground := Ground.phase }, { on := 30, ground := Ground.phase }, { on := 31, ground := Ground.phase }], guard := none }) (v := ?cv32) rfl (by kernel_rfl) (by kernel_rfl) (by kernel_rfl) (fun _ _ _ h => h) (Or.inl ⟨by rfl, ?cy32⟩) hHeld ?cr32
        case cy32 => (intro w hSw; (try dsimp only at hSw); go_simp; first | done | with_reducible rfl)
        try simp only [Act.put, List.setIfInBounds_toArray, List.set_cons_zero, List.set_cons_succ]
        refine wpAnyH_done (by kernel_rfl) ?_ _
        refine NoPanic.normal ?_
        have Hend := Lib.hid (Hb10.out.trans (hb17.mono Hb10.out.size))
        clear hb17
        go_wp2
        go_ret
        exact ⟨rfl, Hend.out⟩
end Go.Proofs.YtjoolocdejnohaaGreat

