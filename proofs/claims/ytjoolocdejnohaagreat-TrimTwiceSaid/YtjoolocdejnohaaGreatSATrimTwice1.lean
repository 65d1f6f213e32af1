import Derived.Test.YtjoolocdejnohaaGreatSA38
import Derived.Deep.RegionHeld3
import Derived.Test.YtjoolocdejnohaaGreatSA28
import Derived.Test.YtjoolocdejnohaaGreatSA7
/- The statement TrimTwice answers true. -/
namespace Go.Proofs.YtjoolocdejnohaaGreat
open Go.RowKit Go.Maps Go.Shelf

attribute [local go_sem ↓] Go.wp_at_zero Go.wp_at_succ

set_option maxRecDepth 100000 in
set_option maxHeartbeats 12800000 in
theorem trimTwice_any (a : Option Addr) (n cap : Nat) (ls : List (List Nat)) (a' : Option Addr) (n' cap' : Nat) (ms : List (List Nat)) (w : World) (hl : Parts w a n cap ls) (hm : Parts w a' n' cap' ms) :
    Calls Tryz.prog 12 #[.agg #[.slice a n cap, .slice a' n' cap']] w fun e w' => e = .returned (.bool true) ∧ Below w.heap.size w w' := by
  obtain ⟨w1, hw1⟩ : ∃ w1, w1 = w.alloc (.cells #[.slice a n cap, .slice a' n' cap'] 71) := ⟨_, rfl⟩
  have hb1 : Below w.heap.size w w1 := by rw [hw1]; exact (Below.refl _ _).alloc (Nat.le_refl _) _
  have hB1 : w1.heap[w.heap.size]? = some (.cells #[.slice a n cap, .slice a' n' cap'] 71 (0, 0)) := by rw [hw1]; exact heap_alloc_new _ _
  have k0 : w1.cell? ⟨w.heap.size, 0, none⟩ = some (.slice a n cap) := by rw [cell_of_row _ _ _ _ _ (0, 0) hB1]; rfl
  have k1 : w1.cell? ⟨w.heap.size, 1, none⟩ = some (.slice a' n' cap') := by rw [cell_of_row _ _ _ _ _ (0, 0) hB1]; rfl
  have HP := Lib.hid (fun W (hW : Below w1.heap.size w1 W) => (show Parts W a n cap ls ∧ Parts W a' n' cap' ms ∧ W.cell? ⟨w.heap.size, 0, none⟩ = some (.slice a n cap) ∧ W.cell? ⟨w.heap.size, 1, none⟩ = some (.slice a' n' cap') from ⟨hl.grow (hb1.trans (hW.mono hb1.size)), hm.grow (hb1.trans (hW.mono hb1.size)), cell_keep hW k0, cell_keep hW k1⟩))
  have HFew := Lib.hid (fun W (hW : Below w1.heap.size w1 W) => fewF_any a n cap ls W (HP.out W hW).1)
  have HFew2 := Lib.hid (fun W (hW : Below w1.heap.size w1 W) => fewF_any a' n' cap' ms W (HP.out W hW).2.1)
  have Hb1 := Lib.hid hb1
  have Hw1 := Lib.hid hw1
  have Hln := Lib.hid hl.len
  have Hlm := Lib.hid hm.len
  clear hl hm hb1 hw1 hB1
  go_enter Tryz.func12, Tryz.ntmps12
  go_wp2_with fail
  rw [← Hw1.out]
  clear Hw1
  refine (HFew.out _ (Below.refl _ _)).mono ?_
  rintro e w2 ⟨⟨b1, rfl, hf1⟩, rfl⟩
  cases b1 with
  | false =>
    clear hf1
    go_wp2_with fail
    refine (talive_any _).mono ?_
    rintro e w3 ⟨rfl, hb3⟩
    have Hb3 := Lib.hid (Hb1.out.trans (hb3.mono Hb1.out.size))
    clear hb3
    go_wp2
    go_ret
    exact ⟨rfl, Hb3.out⟩
  | true =>
    obtain ⟨hs1, hc1⟩ := few_size (hf1 rfl)
    clear hf1
    go_wp2_with fail
    refine (HFew2.out _ (Below.refl _ _)).mono ?_
    rintro e w2 ⟨⟨b2, rfl, hf2⟩, rfl⟩
    cases b2 with
    | false =>
      clear hf2 hs1 hc1
      go_wp2_with fail
      refine (talive_any _).mono ?_
      rintro e w3 ⟨rfl, hb3⟩
      have Hb3 := Lib.hid (Hb1.out.trans (hb3.mono Hb1.out.size))
      clear hb3
      go_wp2
      go_ret
      exact ⟨rfl, Hb3.out⟩
    | true =>
      obtain ⟨hs2, hc2⟩ := few_size (hf2 rfl)
      have HSt := Lib.hid (start10_any 100000 1000 (by omega) (by omega) (by omega) (by omega) none 0 0 [] w1 (parts_none w1) (by omega) (by decide))
      have HS := Lib.hid (And.intro (And.intro hs1 hc1) (And.intro hs2 hc2))
      clear hf2 hs1 hc1 hs2 hc2 k0 k1 HFew HFew2
      go_wp2_with fail
      refine HSt.out.mono ?_
      rintro e w3 ⟨d, g, a3, n3, c3, R3, Y3, X3, rfl, hL, hR, hf, hXY⟩
      obtain ⟨W0, hW0⟩ : ∃ W0, W0 = runP (startW 100000 1000) [] := ⟨_, rfl⟩
      rw [← hW0] at hL hf ⊢
      have htd : Tidy W0 1 0 1 0 0 100000 1000 := by rw [hW0]; exact tidy_start 100000 1000
      have hup : Up W0.D := by rw [hW0]; exact ⟨(start_inv 100000 1000).1.down, (start_inv 100000 1000).1.plan⟩
      have hn1 : W0.n = 1 := by rw [hW0]; rfl
      have hfl := htd.neat.small.files
      have hbo := StartEnd.both (T := fun _ => False) hL hR hf (fun b hb => ⟨(hXY b hb).1, (hXY b hb).2, fun h => h⟩) (by omega) (fun _ h => h.elim) (fun h => h)
      unfold logO at hbo
      unfold logV
      obtain ⟨w4, hw4⟩ : ∃ w4, w4 = w3.alloc (.cells #[.int .i64 (W0.D.room : Int), .slice a3 n3 c3, .int .i64 (W0.D.plan : Int), .bool W0.D.down, .int .i64 W0.most, .int .i64 (W0.n : Int), .int .i64 (W0.size : Int), .int .i64 (W0.wait : Int)] 47) := ⟨_, rfl⟩
      rw [← hw4] at hbo
      obtain ⟨hP4, hQ4, _, _⟩ := HP.out w4 hbo.base
      have k0 := fun o => (HP.out (w3.alloc o) (hL.own.base.alloc hL.own.base.size o)).2.2.1
      have k1 := fun o => (HP.out (w3.alloc o) (hL.own.base.alloc hL.own.base.size o)).2.2.2
      have HCo := Lib.hid (hbo.comp (Below.refl _ _) (htd.neat.mono (N' := 900) (U' := 0) (by omega) (Nat.le_refl _)) (by omega) htd.named htd.n1 (by have := htd.n2; omega) 1000 a n cap ls hP4 (by have := Hln.out; have := HS.out.1.2; omega) (by have := HS.out.1.1; omega))
      have Hw4 := Lib.hid hw4
      have Htd := Lib.hid htd
      have Hup := Lib.hid hup
      have Hn1 := Lib.hid hn1
      clear hL hR hf hXY hW0 htd hup hn1 hfl hbo hw4 hP4 hQ4 HSt
      go_wp2_with fail
      rw [← Hw4.out]
      clear Hw4
      refine HCo.out.mono ?_
      rintro e w5 ⟨r1, hC1, hcase⟩
      clear k0 k1 HCo
      have hnt0 := Htd.out.neat
      obtain ⟨q1, q2, q3, q4⟩ := compOf_neat hnt0 Htd.out.named hC1
      rcases hcase with ⟨hz, rfl, hbo⟩ | ⟨hz, g2, rfl, hbo⟩
      · have hW : (compR W0 1000 ls r1).D = r1.1 := compR_D _ _ _ _
        obtain ⟨hP5, hQ5, k0, k1⟩ := HP.out w5 hbo.base
        obtain ⟨a5, n5, c5, hcells, hcall⟩ := hbo.rcomp (hnt0.mono (N' := 900) (U' := 0) (by omega) (Nat.le_refl _)) (by omega) Htd.out.named Htd.out.n1 (by have := Htd.out.n2; omega) 1000 a n cap ls hP5 (by have := Hln.out; have := HS.out.1.2; omega) (by have := HS.out.1.1; omega) (by have := hnt0.small.files; omega)
        unfold logO at hcells
        unfold logV at hcall
        obtain ⟨g0, g1, g2, g3, g4, g5, g6, g7, gf⟩ := box8 hcells
        have HRC := Lib.hid hcall
        have Hz := Lib.hid hz
        have HC1 := Lib.hid hC1
        clear hcells hcall hP5 hQ5 hbo q1 q2 q3 q4 hC1 hz hW hnt0
        go_wp2_with fail
        refine HRC.out.mono ?_
        rintro e w6 ⟨r, a6, n6, c6, W', hC, rfl, rfl, hbo⟩
        obtain rfl := compOf_uniq HC1.out hC
        have hz1 : (r1.2 != 0) = true := by simp [Hz.out]
        have HN1 := Lib.hid (fun W => compact_nil 1000 none 0 0 (.pointer none) (.pointer (some ⟨g, 0, none⟩)) W (.inl ⟨rfl, _, rfl⟩))
        have HN2 := Lib.hid (fun W => compact_nil 1000 none 0 0 (.pointer (some ⟨d, 0, none⟩)) (.pointer none) W (.inr ⟨⟨_, rfl⟩, rfl⟩))
        have Hbase := Lib.hid hbo.base
        unfold logO at Hbase
        clear hC hbo g0 g1 g2 g3 g4 g5 g6 g7 gf k0 k1 HRC
        go_wp2_with fail
        refine (HN1.out _).mono ?_
        rintro e w7 ⟨rfl, rfl⟩
        go_wp2_with fail
        refine (HN2.out _).mono ?_
        rintro e w7 ⟨rfl, rfl⟩
        go_wp2_with fail
        refine (talive_any _).mono ?_
        rintro e w8 ⟨rfl, hb8⟩
        have Hend := Lib.hid (Hb1.out.trans ((Hbase.out.trans (hb8.mono Hbase.out.size)).mono Hb1.out.size))
        clear hb8
        go_wp2
        go_ret
        exact ⟨rfl, Hend.out⟩
      · have hfl0 := hnt0.small.files
        have hn2 := Htd.out.n2
        obtain ⟨hP5, hQ5, k0, k1⟩ := HP.out w5 hbo.base
        obtain ⟨a5, n5, c5, hcells, hcall⟩ := hbo.rcomp (hnt0.mono (N' := 900) (U' := 0) (by omega) (Nat.le_refl _)) (by omega) Htd.out.named Htd.out.n1 (by omega) 1000 a n cap ls hP5 (by have := Hln.out; have := HS.out.1.2; omega) (by have := HS.out.1.1; omega) (by omega)
        unfold logO at hcells
        unfold logV at hcall
        obtain ⟨g0, g1, g2', g3, g4, g5, g6, g7, gf⟩ := box8 hcells
        have HRC := Lib.hid hcall
        have Hz := Lib.hid hz
        have HC1 := Lib.hid hC1
        have Hq1 := Lib.hid (show Neat r1.1 20 2000 from q1.mono (by omega) (by have := HS.out.1.1; omega))
        have Hq2 := Lib.hid q2
        have Hq3 := Lib.hid (q3 Hup.out)
        clear hcells hcall hP5 hQ5 hbo q1 q2 q3 q4 hC1 hz hnt0 hfl0 hn2
        go_wp2_with fail
        refine HRC.out.mono ?_
        rintro e w6 ⟨r, a6, n6, c6, W', hC, hW', rfl, hbo⟩
        obtain rfl := compOf_uniq HC1.out hC
        rw [compR_yes Hz.out] at hW'
        rw [← hW'] at hbo
        have hz1 : (r1.2 != 0) = false := by simp [Hz.out]
        have HN1 := Lib.hid (fun W => compact_nil 1000 none 0 0 (.pointer none) (.pointer (some ⟨g, 0, none⟩)) W (.inl ⟨rfl, _, rfl⟩))
        have HN2 := Lib.hid (fun W => compact_nil 1000 none 0 0 (.pointer (some ⟨d, 0, none⟩)) (.pointer none) W (.inr ⟨⟨_, rfl⟩, rfl⟩))
        have hD : W'.D = r1.1 := by rw [hW']; rfl
        have hn : W'.n = 2 := by rw [hW']; show W0.n + 1 = 2; rw [Hn1.out]
        unfold logO at hbo
        obtain ⟨w7, hw7⟩ : ∃ w7, w7 = w6.alloc (.cells #[.int .i64 (W'.D.room : Int), .slice a6 n6 c6, .int .i64 (W'.D.plan : Int), .bool W'.D.down, .int .i64 W'.most, .int .i64 (W'.n : Int), .int .i64 (W'.size : Int), .int .i64 (W'.wait : Int)] 47) := ⟨_, rfl⟩
        have hb67 : Below w6.heap.size w6 w7 := by rw [hw7]; exact (Below.refl _ _).alloc (Nat.le_refl _) _
        rw [← hw7] at hbo
        obtain ⟨hP7, hQ7, k0, k1⟩ := HP.out w7 hbo.base
        have HCo := Lib.hid (hbo.comp (Below.refl _ _) (U := 2000) (by rw [hD]; exact Hq1.out.mono (by omega) (Nat.le_refl _)) (by omega) (by rw [hD]; exact Hq2.out) (by omega) (by omega) 1000 a' n' cap' ms hQ7 (by have := Hlm.out; have := HS.out.2.2; omega) (by have := HS.out.2.1; omega))
        have HbB := Lib.hid hbo.base
        have Hw7 := Lib.hid hw7
        have HD := Lib.hid hD
        have Hn := Lib.hid hn
        clear hC hbo g0 g1 g2' g3 g4 g5 g6 g7 gf k0 HRC hD hn hW' hb67 hw7 hP7 hQ7
        rw [Hw7.out] at k1
        go_wp2_with fail
        refine (HN1.out _).mono ?_
        rintro e w8 ⟨rfl, rfl⟩
        go_wp2_with fail
        refine (HN2.out _).mono ?_
        rintro e w8 ⟨rfl, rfl⟩
        go_wp2_with fail
        rw [← Hw7.out]
        refine HCo.out.mono ?_
        rintro e w8 ⟨r2, hC2, hcase⟩
        have hC2' := hC2
        have hq := compOf_neat (W := W') (recs := ms) (by rw [HD.out]; exact Hq1.out) (by rw [HD.out]; exact Hq2.out) hC2
        have hq3 : Up r2.1 := hq.2.2.1 (by rw [HD.out]; exact Hq3.out)
        have hsm2 : r2.1.fs.length ≤ 900 ∧ usedF r2.1.fs ≤ 5000 := by
          have h1 := hq.1.small.files
          have h2 := hq.1.small.used
          have h3 := Hq1.out.small.files
          rw [← HD.out] at h3
          have := HS.out.2.1
          exact ⟨by omega, by omega⟩
        obtain ⟨vm, gx, WX, rfl, hbo, hWX, hvm⟩ : ∃ vm gx WX, e = .returned (.tuple #[vm, .int .i64 r2.2]) ∧ Both w1 (fun _ => False) w4 gx d w6.heap.size WX W' w8 ∧ WX.D = r2.1 ∧ ((r2.2 ≠ 0 ∧ vm = .pointer none) ∨ (r2.2 = 0 ∧ vm = .pointer (some ⟨gx, 0, none⟩) ∧ WX.n = 3)) := by
          rcases hcase with ⟨hz, rfl, hbo⟩ | ⟨hz, g2, rfl, hbo⟩
          · exact ⟨_, _, _, rfl, hbo, rfl, .inl ⟨hz, rfl⟩⟩
          · exact ⟨_, _, _, by rw [hz], hbo, rfl, .inr ⟨hz, rfl, by show W'.n + 1 = 3; rw [Hn.out]⟩⟩
        obtain ⟨hP8, hQ8, k0, k1⟩ := HP.out w8 hbo.base
        obtain ⟨a8, n8, c8, hcells, hcall⟩ := hbo.rcomp (U := 2000) (by rw [HD.out]; exact Hq1.out.mono (by omega) (Nat.le_refl _)) (by omega) (by rw [HD.out]; exact Hq2.out) (by rw [Hn.out]; omega) (by rw [Hn.out]; omega) 1000 a' n' cap' ms hQ8 (by have := Hlm.out; have := HS.out.2.2; omega) (by have := HS.out.2.1; omega) (by rw [HD.out]; have := Hq1.out.small.files; omega)
        unfold logO at hcells
        unfold logV at hcall
        obtain ⟨g0, g1, g2', g3, g4, g5, g6, g7, gf⟩ := box8 hcells
        have HRC2 := Lib.hid hcall
        have HC2 := Lib.hid hC2
        have Hq3b := Lib.hid hq3
        have Hsm2 := Lib.hid hsm2
        have Hq2n := Lib.hid hq.2.1
        have HWX := Lib.hid hWX
        have Hvm := Lib.hid hvm
        clear hcells hcall hP8 hQ8 hbo hC2 hC2' hq hq3 hsm2 hWX hvm hcase HCo HN1 HN2 k0
        go_wp2_with fail
        refine HRC2.out.mono ?_
        rintro e w9 ⟨r, a9, n9, c9, W2, hC, hW2, rfl, hbo⟩
        obtain rfl := compOf_uniq HC2.out hC
        have hD2 : W2.D = r2.1 := by rw [hW2]; exact compR_D _ _ _ _
        unfold logO at hbo
        obtain ⟨w10, hw10⟩ : ∃ w10, w10 = w9.alloc (.cells #[.int .i64 (W2.D.room : Int), .slice a9 n9 c9, .int .i64 (W2.D.plan : Int), .bool W2.D.down, .int .i64 W2.most, .int .i64 (W2.n : Int), .int .i64 (W2.size : Int), .int .i64 (W2.wait : Int)] 47) := ⟨_, rfl⟩
        rw [← hw10] at hbo
        obtain ⟨out2, hout2⟩ := segs_ex r2.1
        obtain ⟨ps2, _, hA2⟩ := allOf_ex hout2
        obtain ⟨Y10, hO10, _, _⟩ := hbo.stepDisk (Below.refl _ _)
        rw [HWX.out] at hO10
        have HLk := Lib.hid (tlook_any hO10 Hq3b.out.1 (by have := Hsm2.out.1; omega) (by have := Hsm2.out.2; omega) Hq2n.out ps2 hA2)
        have HFd := Lib.hid (fun W (hW : Below w10.heap.size w10 W) => by
          obtain ⟨X, aa, nn, cc, hcells, _, hrf, hX, _⟩ := (hbo.grow hW).newBox
          have h := rfound_any (M := W2.D) hrf hX (by rw [hD2]; exact Hq3b.out.1) (by rw [hD2]; have := Hsm2.out.1; omega) (by rw [hD2]; have := Hsm2.out.2; omega) (by rw [hD2]; exact Hq2n.out) ps2 (by rw [hD2]; exact hA2)
          exact (show ∃ aa nn cc, W.heap[w9.heap.size]? = some (logO (W2.D.room : Int) aa nn cc (W2.D.plan : Int) W2.D.down W2.most (W2.n : Int) (W2.size : Int) (W2.wait : Int)) ∧ Calls Tryz.prog 16 #[refV (W2.D.room : Int) aa nn cc (W2.D.plan : Int) W2.D.down] W fun e w' => ∃ y va vc, ∃ aa an ac first last size, IsLog ps2 y ∧ e = .returned (logRV aa an ac first last va y.recs.length vc size (y.torn : Int) y.z) ∧ Parts w' va y.recs.length vc y.recs ∧ Below W.heap.size W w' from
            ⟨aa, nn, cc, hcells, h.mono (by
              rintro e w' ⟨y, aa, an, ac, first, last, va, vc, size, h1, h2, h3, _, h5⟩
              exact ⟨y, va, vc, aa, an, ac, first, last, size, h1, h2, h3, h5⟩)⟩))
        have hcg : w10.cell? ⟨gx, 0, none⟩ = some (.int .i64 (WX.n : Int)) := by
          obtain ⟨Y, hL, _⟩ := hbo.log
          exact hL.cell.1
        have Hcg := Lib.hid hcg
        have Hb10 := Lib.hid (Hb1.out.trans (hbo.base.mono Hb1.out.size))
        have Hw10 := Lib.hid hw10
        clear hC hW2 hD2 hbo hw10 hout2 hA2 hO10 hcg g0 g1 g2' g3 g4 g5 g6 g7 gf k1 HRC2
        go_wp2_with fail
        rw [← Hw10.out]
        refine HLk.out.mono ?_
        rintro e w11 ⟨y, ay, cy, hy, rfl, hPy, hb11⟩
        have Hy := Lib.hid hy
        have HPy := Lib.hid hPy
        have Hb11 := Lib.hid hb11
        have hqz : (r2.2 == r2.2) = true := by simp
        clear hy hPy hb11 HLk Hw10
        go_wp2_with fail
        refine (talive_any _).mono ?_
        rintro e w12 ⟨rfl, hb12⟩
        have hb102 := Hb11.out.trans (hb12.mono Hb11.out.size)
        obtain ⟨aa, nn, cc, hcells, hcall⟩ := HFd.out w12 hb102
        unfold logO at hcells
        unfold refV at hcall
        obtain ⟨g0, g1, g2', g3, _, _, _, _, _⟩ := box8 hcells
        have HFc := Lib.hid hcall
        have HPy2 := Lib.hid (HPy.out.grow hb12)
        have Hb12 := Lib.hid hb102
        clear hb12 hb102 hcells hcall HFd HPy
        go_wp2_with fail
        refine HFc.out.mono ?_
        rintro e w13 ⟨y2, va, vc, a13, n13, c13, first, last, size, hy2, rfl, hPv, hb13⟩
        obtain rfl := isLog_uniq Hy.out hy2
        have HSm := Lib.hid (same_yes _ _ _ _ _ _ _ (HPy2.out.grow hb13) hPv)
        have Hb13 := Lib.hid (Hb12.out.trans (hb13.mono Hb12.out.size))
        clear hy2 hPv hb13 g0 g1 g2' g3 HFc
        unfold logRV
        have hfr := field_recs a13 n13 c13 first last va y.recs.length vc size (y.torn : Int) y.z
        go_wp2_with fail
        clear hfr
        refine HSm.out.mono ?_
        rintro e w14 ⟨rfl, q, hw14⟩
        have hb14 : Below w10.heap.size w10 w14 := by rw [hw14]; exact below_drewN Hb13.out q
        have Hend := Lib.hid (Hb10.out.trans (hb14.mono Hb10.out.size))
        have hc14 := cell_keep hb14 Hcg.out
        clear hw14 HSm
        rcases Hvm.out with ⟨hz, rfl⟩ | ⟨hz, rfl, hn3⟩
        · have hz2 : (r2.2 != 0) = true := by simp [hz]
          clear hz hc14 hb14
          go_wp2
          go_ret
          exact ⟨rfl, Hend.out⟩
        · have hz2 : (r2.2 != 0) = false := by simp [hz]
          rw [hn3] at hc14
          have HSg := Lib.hid (segment_any hc14)
          clear hz hc14 hb14 hn3
          go_wp2_with fail
          refine HSg.out.mono ?_
          rintro e w15 ⟨rfl, rfl⟩
          go_wp2
          go_ret
          exact ⟨rfl, Hend.out⟩
end Go.Proofs.YtjoolocdejnohaaGreat

/- For all arguments, in whatever memory, the statement TrimTwice answers true, and leaves its arguments as they were: proved for every input that can be read. No condition. -/
namespace Go.Proofs.YtjoolocdejnohaaGreat.TrimTwiceP
open Go.ChangeShapes Go.WideShapes Go.ChangeAt Go.RowKit Go.Deep

theorem own : ownKnob Tryz.prog.godebug = none := by kernel_rfl
theorem laidOut : laidOutB Tryz.prog = true := by kernel_rfl

set_option maxRecDepth 100000 in
theorem lifted (os : Os) (started : os.Started) (H : Type) (enc : TypeId × Value → H) :
    ReturnsInHanded {} Tryz.checked os 12 .any (Rows.trimTwiceSpec.pre6 enc Tryz.prog Tryz.f12 Rows.trimTwiceRow.domain false) (Rows.trimTwiceSpec.post enc Tryz.prog Tryz.f12 false true false false) := by
  refine returnsInHanded_of_change (C := Tryz.checked) own started (by kernel_rfl) Tryz.func12
    (ChangeSpec.witness6 (enc := enc) (C := Tryz.checked) false ⟨#[], #[.agg #[.slice none 0 0, .slice none 0 0]], []⟩ 8 (by kernel_rfl) (by kernel_rfl) (by kernel_rfl) (by kernel_rfl)) ?_
  intro W base args ds gs before hval0 hW _ _
  have hval : ∀ (j : Nat) t v, Tryz.f12.params[j]? = some t → args[j]? = some v → Value.okWide Tryz.prog W .any base t v := hval0
  have hW' := hW
  obtain ⟨p, q, hA0, hV, rfl, _, _⟩ := hW
  have hA : DataW.TrodAll enc Tryz.prog W 0 (fun _ => true) true Tryz.f12.params.toList args.toList ds p := hA0
  rw [Tryz.params12] at hA hval
  obtain ⟨v0, d0, rfl, rfl, h0⟩ := trodAll_one hA
  obtain ⟨rfl, rfl⟩ := trodVars_none hV
  obtain ⟨a0, n0, cap0, l0, b0, m0, dap0, k0, rfl, hP0, hQ0⟩ := open_pair (hval 0 71 v0 rfl rfl) h0
  refine (trimTwice_any a0 n0 cap0 l0 b0 m0 dap0 k0 W hP0 hQ0).mono fun e W' ⟨he, hb⟩ => ?_
  subst he
  exact ⟨_, rfl, law_post laidOut (by kernel_rfl) rfl (by kernel_rfl) Tryz.underlying4 hW' rfl hb⟩

theorem proved : Rows.TrimTwiceSaid :=
  OpenClaim.holds_of_wide 12 Tryz.f12 rfl rfl rfl rfl rfl rfl rfl ⟨rfl, rfl, rfl, rfl, rfl⟩ rfl rfl rfl rfl rfl (by kernel_rfl) Tryz.func12 (by kernel_rfl)
    (of_decide_eq_true (by kernel_rfl)) (by unfold Func.isWrapper; first | (rw [if_pos (by decide +kernel)]; kernel_rfl) | (rw [if_neg (by decide +kernel)]; exact ⟨rfl, rfl⟩))
    (fun os started H enc _ => lifted os started H enc)
#print axioms proved
end Go.Proofs.YtjoolocdejnohaaGreat.TrimTwiceP

