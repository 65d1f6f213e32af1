import Derived.Test.YtnbddiiedagllaaGreatSSL46
import Derived.Test.YtnbddiiedagllaaGreatSSL48
import Derived.Test.YtnbddiiedagllaaGreatSSL44
import Derived.Test.YtnbddiiedagllaaGreatSSL25
import Derived.Test.YtnbddiiedagllaaGreatSSL28
import Derived.Deep.RegionHeld3
import Derived.Test.YtnbddiiedagllaaGreatSSL34
import Derived.Test.YtnbddiiedagllaaGreatSSL7
/- The statement TrimKeeps answers true. -/
namespace Go.Proofs.YtnbddiiedagllaaGreat
open Go.RowKit Go.Maps Go.Shelf

attribute [local go_sem ↓] Go.wp_at_zero Go.wp_at_succ

set_option maxRecDepth 100000 in
set_option maxHeartbeats 12800000 in
theorem trimKeeps_any (y : Nat) (hy : y < 256) (a : Option Addr) (n cap : Nat) (ls : List (List Nat)) (a' : Option Addr) (n' cap' : Nat) (ms : List (List Nat)) (p : Option Addr) (m c : Nat) (l : List Nat) (w : World) (hl : Parts w a n cap ls) (hm : Parts w a' n' cap' ms) (hB : Bytes w p m c l) :
  Calls Tryz.prog 9 #[.int .u8 (y : Int), .agg #[.slice a n cap, .slice a' n' cap'], .slice p m c] w fun e w' => e = .returned (.bool true) ∧ Below w.heap.size w w' := by
 obtain ⟨w1, hw1⟩ : ∃ w1, w1 = w.alloc (.cells #[.slice a n cap, .slice a' n' cap'] 71) := ⟨_, rfl⟩
 have hb1 : Below w.heap.size w w1 := by rw [hw1]; exact (Below.refl _ _).alloc (Nat.le_refl _) _
 have hB1 : w1.heap[w.heap.size]? = some (.cells #[.slice a n cap, .slice a' n' cap'] 71 (0, 0)) := by rw [hw1]; exact heap_alloc_new _ _
 have k0 : w1.cell? ⟨w.heap.size, 0, none⟩ = some (.slice a n cap) := by rw [cell_of_row _ _ _ _ _ (0, 0) hB1]; rfl
 have k1 : w1.cell? ⟨w.heap.size, 1, none⟩ = some (.slice a' n' cap') := by rw [cell_of_row _ _ _ _ _ (0, 0) hB1]; rfl
 have HP := Lib.hid (fun W (hW : Below w1.heap.size w1 W) => (show Parts W a n cap ls ∧ Parts W a' n' cap' ms ∧ W.cell? ⟨w.heap.size, 0, none⟩ = some (.slice a n cap) ∧ W.cell? ⟨w.heap.size, 1, none⟩ = some (.slice a' n' cap') from ⟨hl.grow (hb1.trans (hW.mono hb1.size)), hm.grow (hb1.trans (hW.mono hb1.size)), cell_keep hW k0, cell_keep hW k1⟩))
 have HBy := Lib.hid (fun W (hW : Below w1.heap.size w1 W) => hB.grow (hb1.trans (hW.mono hb1.size)))
 have HFew := Lib.hid (fun W (hW : Below w1.heap.size w1 W) => fewF_any a n cap ls W (HP.out W hW).1)
 have HFew2 := Lib.hid (fun W (hW : Below w1.heap.size w1 W) => fewF_any a' n' cap' ms W (HP.out W hW).2.1)
 have Hb1 := Lib.hid hb1
 have Hw1 := Lib.hid hw1
 have Hln := Lib.hid hl.len
 have Hlm := Lib.hid hm.len
 have Hll := Lib.hid hB.len
 clear hl hm hB hb1 hw1 hB1
 go_enter Tryz.func9, Tryz.ntmps9
 go_wp2_with fail
 rw [← Hw1.out]
 clear Hw1
 refine (HFew.out _ (Below.refl _ _)).mono ?_
 rintro e w2 ⟨⟨b1, rfl, hf1⟩, rfl⟩
 cases b1 with
 | false =>
  clear hf1
  go_wp2_with fail
  refine (talive_any _).mono ?_
  rintro e w3 ⟨rfl, hb3⟩
  have Hb3 := Lib.hid (Hb1.out.trans (hb3.mono Hb1.out.size))
  clear hb3
  go_wp2
  go_ret
  exact ⟨rfl, Hb3.out⟩
 | true =>
  obtain ⟨hs1, hc1⟩ := few_size (hf1 rfl)
  clear hf1
  go_wp2_with fail
  refine (HFew2.out _ (Below.refl _ _)).mono ?_
  rintro e w2 ⟨⟨b2, rfl, hf2⟩, rfl⟩
  cases b2 with
  | false =>
   clear hf2 hs1 hc1
   go_wp2_with fail
   refine (talive_any _).mono ?_
   rintro e w3 ⟨rfl, hb3⟩
   have Hb3 := Lib.hid (Hb1.out.trans (hb3.mono Hb1.out.size))
   clear hb3
   go_wp2
   go_ret
   exact ⟨rfl, Hb3.out⟩
  | true =>
   obtain ⟨hs2, hc2⟩ := few_size (hf2 rfl)
   by_cases hm500 : (500 : Int) < (m : Int)
   ·clear hf2 hs1 hc1 hs2 hc2
    go_wp2_with fail
    refine (talive_any _).mono ?_
    rintro e w3 ⟨rfl, hb3⟩
    have Hb3 := Lib.hid (Hb1.out.trans (hb3.mono Hb1.out.size))
    clear hb3
    go_wp2
    go_ret
    exact ⟨rfl, Hb3.out⟩
   have hLn := Hln.out
   have HSt := Lib.hid (start10_any 100000 (y : Int) (by omega) (by omega) (by omega) (by omega) a n cap ls w1 (HP.out w1 (Below.refl _ _)).1 (by omega) (by omega))
   have HS := Lib.hid (And.intro (And.intro hs1 hc1) (And.intro hs2 hc2))
   have Hm5 := Lib.hid (show m ≤ 500 by omega)
   clear hf2 hs1 hc1 hs2 hc2 k1 HFew HFew2 hLn
   go_wp2_with fail
   refine HSt.out.mono ?_
   rintro e w3 ⟨d, g, a3, n3, c3, R3, Y3, X3, rfl, hL, hR, hf, hXY⟩
   have hrun := run_ok 100000 (y : Int) ls (by have := HS.out.1; show _ ≤ 100000; omega) (by have := HS.out.1; omega) ls.length
   have htk : ls.take ls.length = ls := List.take_length
   obtain ⟨B0, c0, hI0, _⟩ := hrun.inv
   rw [htk] at hI0
   have htd0 := tidy_run (tidy_start 100000 (y : Int)) ls
   obtain ⟨W0, hW0⟩ : ∃ W0, W0 = runP (startW 100000 (y : Int)) ls := ⟨_, rfl⟩
   rw [← hW0] at hL hf htd0 hI0 ⊢
   have htd : Tidy W0 200 2000 70 2000 70 100000 (y : Int) := by have := HS.out.1; exact htd0.mono (by omega) (by omega) (by omega) (by omega) (by omega)
   have hfl := htd.neat.small.files
   have hbo := StartEnd.both (T := fun _ => False) hL hR hf (fun b hb => ⟨(hXY b hb).1, (hXY b hb).2, fun h => h⟩) (by omega) (fun _ h => h.elim) (fun h => h)
   unfold logO at hbo
   unfold logV
   obtain ⟨w4, hw4⟩ : ∃ w4, w4 = w3.alloc (.cells #[.int .i64 (W0.D.room : Int), .slice a3 n3 c3, .int .i64 (W0.D.plan : Int), .bool W0.D.down, .int .i64 W0.most, .int .i64 (W0.n : Int), .int .i64 (W0.size : Int), .int .i64 (W0.wait : Int)] 47) := ⟨_, rfl⟩
   rw [← hw4] at hbo
   obtain ⟨hP4, hQ4, j0, j1⟩ := HP.out w4 hbo.base
   rw [hw4] at j1
   have HCo := Lib.hid (hbo.comp (Below.refl _ _) (htd.neat.mono (N' := 900) (U' := 2000) (by omega) (Nat.le_refl _)) (by omega) htd.named htd.n1 (by have := htd.n2; omega) (y : Int) a' n' cap' ms hQ4 (by have := Hlm.out; have := HS.out.2.2; omega) (by have := HS.out.2.1; omega))
   have Hw4 := Lib.hid hw4
   have Htd := Lib.hid htd
   have HI0 := Lib.hid hI0
   clear hL hR hf hXY hW0 htd htd0 hfl hbo hw4 hP4 hQ4 j0 HSt k0 hrun htk hI0
   go_wp2_with fail
   rw [← Hw4.out]
   clear Hw4
   refine HCo.out.mono ?_
   rintro e w5 ⟨r, hC, hcase⟩
   clear j1 HCo
   obtain ⟨q1, q2, q3, q4⟩ := compOf_neat Htd.out.neat Htd.out.named hC
   have hn0 := Htd.out.neat
   have hfl0 := hn0.small.files
   have hn2 := Htd.out.n2
   rcases hcase with ⟨hz, rfl, hbo⟩ | ⟨hz, g2, rfl, hbo⟩
   ·obtain ⟨hP5, hQ5, j0, j1⟩ := HP.out w5 hbo.base
    obtain ⟨a5, n5, c5, hcells, hcall⟩ := hbo.rcomp (hn0.mono (N' := 900) (U' := 2000) (by omega) (Nat.le_refl _)) (by omega) Htd.out.named Htd.out.n1 (by omega) (y : Int) a' n' cap' ms hQ5 (by have := Hlm.out; have := HS.out.2.2; omega) (by have := HS.out.2.1; omega) (by omega)
    unfold logO at hcells
    unfold logV at hcall
    obtain ⟨g0, g1, g2, g3, g4, g5, g6, g7, gf⟩ := box8 hcells
    have HRC := Lib.hid hcall
    have Hz := Lib.hid hz
    have HC := Lib.hid hC
    clear hcells hcall hP5 hQ5 hbo q1 q2 q3 q4 hC hz hn0 hfl0 hn2 j0
    go_wp2_with fail
    refine HRC.out.mono ?_
    rintro e w6 ⟨r', a6, n6, c6, W', hC, rfl, rfl, hbo⟩
    obtain rfl := compOf_uniq HC.out hC
    have hz1 : (r.2 != 0) = true := by simp [Hz.out]
    have hne : (r.2 != r.2) = false := by simp
    have Hbase := Lib.hid hbo.base
    unfold logO at Hbase
    clear hC hbo g0 g1 g2 g3 g4 g5 g6 g7 gf j1 HRC
    go_wp2_with fail
    refine (talive_any _).mono ?_
    rintro e w8 ⟨rfl, hb8⟩
    have Hend := Lib.hid (Hb1.out.trans ((Hbase.out.trans (hb8.mono Hbase.out.size)).mono Hb1.out.size))
    clear hb8
    go_wp2
    go_ret
    exact ⟨rfl, Hend.out⟩
   ·obtain ⟨hP5, hQ5, j0, j1⟩ := HP.out w5 hbo.base
    obtain ⟨a5, n5, c5, hcells, hcall⟩ := hbo.rcomp (hn0.mono (N' := 900) (U' := 2000) (by omega) (Nat.le_refl _)) (by omega) Htd.out.named Htd.out.n1 (by omega) (y : Int) a' n' cap' ms hQ5 (by have := Hlm.out; have := HS.out.2.2; omega) (by have := HS.out.2.1; omega) (by omega)
    unfold logO at hcells
    unfold logV at hcall
    obtain ⟨g0, g1, g2', g3, g4, g5, g6, g7, gf⟩ := box8 hcells
    have hke := comp_keeps HI0.out (ms := ms) (by rw [Htd.out.rm]; have h1 := hn0.small.used; have := HS.out.2.1; show _ ≤ 100000; omega) hC hz
    have hq1 : Neat r.1 420 5000 := q1.mono (by omega) (by have := HS.out.2.1; omega)
    have HRC := Lib.hid hcall
    have Hz := Lib.hid hz
    have HC := Lib.hid hC
    have Hke := Lib.hid hke
    have Hq1 := Lib.hid hq1
    have Hq2 := Lib.hid q2
    have Hq4 := Lib.hid (q4.trans Htd.out.rm)
    clear hcells hcall hP5 hQ5 hbo q1 q2 q3 q4 hC hz hn0 hfl0 hn2 j0 hke hq1
    go_wp2_with fail
    refine HRC.out.mono ?_
    rintro e w6 ⟨r', a6, n6, c6, W', hC, hW', rfl, hbo⟩
    obtain rfl := compOf_uniq HC.out hC
    rw [compR_yes Hz.out] at hW'
    rw [← hW'] at hbo
    have hz1 : (r.2 != 0) = false := by simp [Hz.out]
    have hne : ((0 : Int) != r.2) = false := by simp [Hz.out]
    obtain ⟨hke1, hke2, hke3⟩ := Hke.out
    have hD : W'.D = r.1 := by rw [hW']; rfl
    have hWn : W'.n = W0.n + 1 := by rw [hW']; rfl
    have htdW : Tidy W' 420 5000 71 2000 0 100000 (y : Int) := by
     refine ⟨by rw [hD]; exact Hq1.out, by rw [hD]; exact Hq2.out, by omega, by have := Htd.out.n2; omega, ?_, by rw [hW']; exact Nat.le_refl _, by rw [hD]; exact Hq4.out, by rw [hW']; rfl⟩
     rw [hW']
     show sizeL ms + 8 ≤ 2000
     have := HS.out.2.1
     omega
    have hfin : Final W'.n W'.size ms W'.D.fs [⟨W'.n, [] :: ms, []⟩] := by
     have h := keep_final (N := W0.n + 1) (by omega) (by omega) hke3 (fun r hr => by have := sizeL_memC hr; have := HS.out.2.1; omega)
     rw [hD, hke1, hWn, hW']
     exact h
    have hup : W'.D.down = false ∧ W'.D.plan = 0 := by rw [hD, hke1]; exact ⟨rfl, rfl⟩
    have hcr : crashM [] W'.D = W'.D := by rw [hD, hke1]; exact keep_crash _ _ _
    unfold logO at hbo
    obtain ⟨w7, hw7⟩ : ∃ w7, w7 = w6.alloc (.cells #[.int .i64 (W'.D.room : Int), .slice a6 n6 c6, .int .i64 (W'.D.plan : Int), .bool W'.D.down, .int .i64 W'.most, .int .i64 (W'.n : Int), .int .i64 (W'.size : Int), .int .i64 (W'.wait : Int)] 47) := ⟨_, rfl⟩
    rw [← hw7] at hbo
    obtain ⟨Y7, hO7, _, hn7⟩ := hbo.stepDisk (Below.refl _ _)
    have hcrash := own_crash hO7 (by have := htdW.neat.small.files; omega) none 0 0 [] (nums_nil _) (fun h => absurd h (Nat.lt_irrefl _))
    rw [hcr] at hcrash
    have HCr := Lib.hid hcrash
    have Hn7 := Lib.hid (hn7 W'.D)
    have Hw7 := Lib.hid hw7
    have Htw := Lib.hid htdW
    have Hfin := Lib.hid hfin
    have Hup := Lib.hid hup
    have Hwn := Lib.hid (show W'.n < 99999999 by have := htdW.n2; omega)
    clear hC hbo g0 g1 g2' g3 g4 g5 g6 g7 gf j1 HRC hD hWn hW' hw7 hke1 hke2 hke3 htdW hfin hup hcr hO7 hn7 hcrash
    go_wp2_with fail
    rw [← Hw7.out]
    refine HCr.out.mono ?_
    rintro e w8 ⟨⟨v8, rfl⟩, hE8⟩
    have HB0 := Lib.hid (Hn7.out w8 hE8).ne.2.1
    have hbo8 : Both w1 (fun _ => False) w4 g2 d w6.heap.size W' W' w8 := Hn7.out w8 hE8
    have hA8 : AllOf W'.D [⟨W'.n, [] :: ms, []⟩] := (allOf_segs Hup.out.1).2 Hfin.out.segs
    obtain ⟨Y8, hO8, _, _⟩ := hbo8.stepDisk (Below.refl _ _)
    have HLk := Lib.hid (tlook_any hO8 Hup.out.1 (by have := Htw.out.neat.small.files; omega) (by have := Htw.out.neat.small.used; omega) Htw.out.named _ hA8)
    have Hbo8 := Lib.hid hbo8
    have HA8 := Lib.hid hA8
    clear hE8 hbo8 hA8 hO8 HCr Hw7 Hn7
    go_wp2_with fail
    refine HLk.out.mono ?_
    rintro e w9 ⟨y9, ay, cy, hy9, rfl, hPy, hb9⟩
    obtain ⟨hyz, hyr⟩ := gl_log Hup.out.1 ⟨Hfin.out.sync, _, Hfin.out.segs, .inr ⟨0, Hfin.out.log⟩⟩ HA8.out hy9
    rw [hyr] at hPy ⊢
    rw [hyz]
    have hbo9 := Hbo8.out.grow hb9
    obtain ⟨hP9, hQ9, j0, j1⟩ := HP.out w9 hbo9.base
    have hnm : ms.length = n' := Hlm.out
    subst hnm
    have HSm := Lib.hid (same_yes ay a' ms.length cy cap' ms w9 hPy hQ9)
    have Hbo9 := Lib.hid hbo9
    clear hy9 hyz hyr hPy hb9 hbo9 hP9 hQ9 j0 HLk Hbo8 HA8
    go_wp2_with fail
    refine HSm.out.mono ?_
    rintro e w10 ⟨rfl, q, hw10⟩
    have hb10 : Below w9.heap.size w9 w10 := by rw [hw10]; exact below_drewN (Below.refl _ _) q
    have hbo10 := Hbo9.out.grow hb10
    obtain ⟨hP10, hQ10, j0, j1⟩ := HP.out w10 hbo10.base
    obtain ⟨Y10, hL10, _, hn10, _⟩ := hbo10.stepLog (Below.refl _ _)
    have hmo := Htw.out.most
    have HPt := Lib.hid (put_any hL10 p m c l (HBy.out w10 hbo10.base) Htw.out.n1 (by have := Htw.out.n2; omega) (by have := Htw.out.size; omega) (by have := Htw.out.wait; omega) (by omega) (by omega) (by have := Htw.out.neat.small.files; omega) (by rw [Htw.out.rm]; decide))
    have Hn10 := Lib.hid (hn10 (putW W' l).1)
    have hpf := put_final Hfin.out Hup.out.1 Hup.out.2 Htw.out.neat.sorted Hwn.out l (by rw [Htw.out.rm]; have := Htw.out.neat.small.used; have := Hll.out; have := Hm5.out; omega)
    have htd2 := tidy_put Htw.out l
    obtain ⟨W2, hW2⟩ : ∃ W2, W2 = (putW W' l).1 := ⟨_, rfl⟩
    rw [← hW2] at HPt Hn10 hpf htd2
    obtain ⟨z2, hz2⟩ : ∃ z2, z2 = (putW W' l).2 := ⟨_, rfl⟩
    rw [← hz2] at HPt hpf
    have Hpf := Lib.hid hpf
    have Htd2 := Lib.hid htd2
    have HW2 := Lib.hid hW2
    clear hw10 hb10 hbo10 hP10 hQ10 j0 hL10 hn10 hmo hpf htd2 hW2 hz2 HSm Hbo9
    by_cases hzz : z2 = 0
    ·have hzb : (z2 == 0) = true := by simp [hzz]
     have hlg : W2.D.down = false ∧ ∃ ps', SegsC W2.D.fs ps' ∧ LogK ps' 0 (ms ++ [l]) := by
      rcases Hpf.out with ⟨h, _⟩ | ⟨_, h⟩
      ·exact absurd hzz h
      ·exact h
     have Hlg := Lib.hid hlg
     clear hlg hzz Hpf
     go_wp2_with fail
     refine HPt.out.mono ?_
     rintro e w11 ⟨rfl, hE11⟩
     have hbo11 := Hn10.out w11 hE11
     obtain ⟨hP11, hQ11, j0, j1⟩ := HP.out w11 hbo11.base
     have HCl := Lib.hid (cloneRows_any (w1 := w1) a' ms.length cap' ms w11 (HP.out w1 (Below.refl _ _)).2.1 hbo11.base (by have := HS.out.2.2; omega))
     have Hbo11 := Lib.hid hbo11
     clear hE11 hbo11 hP11 hQ11 j0 j1 HPt Hn10
     go_wp2_with fail
     refine HCl.out.mono ?_
     rintro e w12 ⟨v12, rfl, hv12, hb12⟩
     have hb13 : Below w12.heap.size w12 (w12.alloc (.cells #[.slice p m c] 58)) := (Below.refl _ _).alloc (Nat.le_refl _) _
     obtain ⟨vs, hlen, hown, hel⟩ := hv12.grow hb13
     have hb113 := hb12.trans (hb13.mono hb12.size)
     obtain ⟨i0, hi, hz0, hz1', hz2⟩ := info_parts info_rows
     have HOwn := Lib.hid hown
     have Hel := Lib.hid hel
     have Hlen := Lib.hid hlen
     have Hb113 := Lib.hid hb113
     have HmsL := HS.out.2.2
     have HmsH := Lib.hid HmsL
     have Hsz12 := Lib.hid hb12.size
     clear hv12 hb12 hb13 hb113 hown hel hlen HCl HmsL
     go_wp2_with (
      at_builtin
      refine wpList_append_own_at _ rfl _ _ 29 rfl w11.heap.size 58 i0 (.slice none 0 0) 1 24 Tryz.underlying29 hi hz0 hz1' hz2 rfl (by decide) _ _ _ rfl HOwn.out ⟨w12.heap.size, 0, none⟩ 1 1 [.slice p m c] rfl rfl (cell_one_new _ _ _) (by simp [Value.oneCell']) (by rw [maxLen_nat]; have := HmsH.out; omega) (by have := HmsH.out; omega) (by rw [World.size_alloc]; have := Hsz12.out; omega) ?_
      intro v' w13 hown' hgrow _ hblk
      have hbB := Hb113.out.grown hgrow Hb113.out.size (fun k hk => (HOwn.out.lt k hk).1)
      have hparts : PartsZ (fun b => b < w1.heap.size) w13 w11.heap.size v' (ms ++ [l]) := PartsZ.snoc Hlen.out Hel.out ((HBy.out w11 Hbo11.out.base).grow Hb113.out) (fun h0 x hx => by
       obtain ⟨b, o, e2, hc⟩ := (HBy.out w1 (Below.refl _ _)).cell h0
       have h2 := World.block_lt_of_cell? _ _ (hc 0 h0)
       have h3 := Hbo11.out.base.size
       rw [hx] at e2
       cases e2
       simp only at h2
       refine ⟨fun e => ?_, h2⟩
       have h1 := (HOwn.out.lt _ e.symm).1
       simp only at h1
       omega) hown' hgrow hblk
      have hbo14 := Hbo11.out.grow hbB
      obtain ⟨q13, k13, rfl, _⟩ := hparts.own.parts
      have hkb := hparts.lt
      have hB11 := Hbo11.out.lt.1
      have HQ := Lib.hid (fun W (hW : ∀ b, b ≠ w6.heap.size → b < w13.heap.size → W.heap[b]? = w13.heap[b]?) => (show Parts W q13 (ms ++ [l]).length k13 (ms ++ [l]) from by
       have h := hparts.moved (W' := W) (fun b h1 h2 => hW b (by have := HB0.out; omega) h2) (fun k hk => hW k (by have := hkb k hk; omega) (hkb k hk).2)
       obtain ⟨q', k', e', h'⟩ := h.own.parts
       injection e' with e1 e2 e3
       rw [e1, e3]
       exact h'))
      obtain ⟨L13, hL13⟩ : ∃ L13, L13 = (ms ++ [l]).length := ⟨_, rfl⟩
      rw [← hL13] at HQ
      rw [← hL13]
      have HL13 := Lib.hid hL13
      clear hL13 hown' hgrow hblk hbB hparts hkb hB11 HOwn Hel Hlen Hb113 HmsH Hsz12 Hbo11 hi hz0 hz1' hz2
      obtain ⟨X14, a14, n14, c14, hcells, hrl, _, hX14, hnx14⟩ := hbo14.stepBox
      have hrp := rwput_any hrl hX14 (by rw [Hup.out.2]; decide) Htw.out.neat.sorted (by have := Htw.out.neat.small.used; omega) Htw.out.n1 (by have := Htw.out.n2; omega) (by have := Htw.out.size; omega) (by have := Htw.out.wait; omega) (by have := Htw.out.neat.small.files; omega) p m c l (HBy.out _ hbo14.base)
      unfold RLogEnd at hrp
      rw [← HW2.out] at hrp
      have HRP := Lib.hid hrp
      unfold logO at hcells
      unfold logV at HRP
      obtain ⟨g0, g1, g2', g3, g4, g5, g6, g7, gf⟩ := box8 hcells
      have HB14 := Lib.hid hcells
      have Hnx := Lib.hid (hnx14 W2)
      have Hbo14b := Lib.hid hbo14
      clear hcells hrl hX14 hnx14 hrp hbo14)
     refine HRP.out.mono ?_
     rintro e w15 ⟨a6, n6, c6, R6, rfl, hR6, hf6, hb6⟩
     have hfl2 := Htd2.out.neat.small.files
     have hbo16 := Hnx.out w15 a6 n6 c6 R6 hb6 hR6 hf6 (by omega)
     unfold set8 at hbo16
     obtain ⟨w16, hw16⟩ : ∃ w16, w16 = ((((((((w15.setCell ⟨w6.heap.size, 0, none⟩ (.int .i64 (W2.D.room : Int))).setCell ⟨w6.heap.size, 1, none⟩ (.slice a6 n6 c6)).setCell ⟨w6.heap.size, 2, none⟩ (.int .i64 (W2.D.plan : Int))).setCell ⟨w6.heap.size, 3, none⟩ (.bool W2.D.down)).setCell ⟨w6.heap.size, 4, none⟩ (.int .i64 W2.most)).setCell ⟨w6.heap.size, 5, none⟩ (.int .i64 (W2.n : Int))).setCell ⟨w6.heap.size, 6, none⟩ (.int .i64 (W2.size : Int))).setCell ⟨w6.heap.size, 7, none⟩ (.int .i64 (W2.wait : Int))) := ⟨_, rfl⟩
     rw [← hw16] at hbo16
     obtain ⟨f0, f1, f2, f3, f4, f5, f6, f7, ff⟩ := box8 ((hb6.block _ (Array.getElem?_eq_some_iff.1 HB14.out).1).trans HB14.out)
     obtain ⟨hdn, ps2, hs2, hl2⟩ := Hlg.out
     have hA2 : AllOf W2.D ps2 := (allOf_segs hdn).2 hs2
     obtain ⟨Y16, hO16, _, _⟩ := hbo16.stepDisk (Below.refl _ _)
     have HLk2 := Lib.hid (tlook_any hO16 hdn (by omega) (by have := Htd2.out.neat.small.used; have := Hll.out; have := Hm5.out; omega) Htd2.out.named ps2 hA2)
     have hQ16 := HQ.out w16 (fun b hb1 hb2 => by
      rw [hw16]
      have hC := (set8_chg w15 w6.heap.size (.int .i64 (W2.D.room : Int)) (.slice a6 n6 c6) (.int .i64 (W2.D.plan : Int)) (.bool W2.D.down) (.int .i64 W2.most) (.int .i64 (W2.n : Int)) (.int .i64 (W2.size : Int)) (.int .i64 (W2.wait : Int))).block b (by have := hb6.size; omega) hb1
      unfold set8 at hC
      exact hC.trans (hb6.block b hb2))
     have hbase16 := hbo16.base
     have hcg : w16.cell? ⟨g2, 1, none⟩ = some (.int .i64 (W2.size : Int)) := by
      obtain ⟨Y, hL, _⟩ := hbo16.log
      exact hL.cell.2.1
     have hcb : w16.cell? ⟨w6.heap.size, 6, none⟩ = some (.int .i64 (W2.size : Int)) := by
      obtain ⟨_, _, _, _, hcc, _⟩ := hbo16.stepBox
      exact (box8 hcc).2.2.2.2.2.2.1
     have HQ16 := Lib.hid hQ16
     have Hcg := Lib.hid hcg
     have Hcb := Lib.hid hcb
     have Hbase := Lib.hid (Hb1.out.trans (hbase16.mono Hb1.out.size))
     have Hw16 := Lib.hid hw16
     have Hl2 := Lib.hid hl2
     clear hbo16 hdn hs2 hl2 hA2 hO16 hQ16 hcg hcb hbase16 hw16 hR6 hf6 hb6 hfl2 g0 g1 g2' g3 g4 g5 g6 g7 gf HRP HB14 Hnx HQ
     go_wp2_with fail
     rw [← Hw16.out]
     clear Hw16 f0 f1 f2 f3 f4 f5 f6 f7 ff
     refine HLk2.out.mono ?_
     rintro e w17 ⟨y17, a17, c17, hy17, rfl, hP17, hb17⟩
     have hyr : y17.recs = ms ++ [l] := by
      have h0 : 0 < ps2.length := Hl2.out.1.1
      rw [isLog_uniq hy17 (.inr ⟨0, h0, Hl2.out.1, .inr ⟨Hl2.out.2.1, rfl⟩⟩)]
      exact Hl2.out.2.2.symm
     rw [hyr, ← HL13.out] at hP17
     rw [hyr, ← HL13.out]
     have HP17 := Lib.hid hP17
     have Hb17 := Lib.hid hb17
     have HSm2 := Lib.hid (fun W (hW : Below w16.heap.size w16 W) (hW2 : Below w17.heap.size w17 W) => same_yes a17 q13 L13 c17 k13 (ms ++ [l]) W (HP17.out.grow hW2) (HQ16.out.grow hW))
     have HcB := Lib.hid (fun W (hW : Below w16.heap.size w16 W) => cell_keep hW Hcb.out)
     have HcG := Lib.hid (fun W (hW : Below w16.heap.size w16 W) => wsize_any (cell_keep hW Hcg.out))
     have hqq : ((W2.size : Int) == (W2.size : Int)) = true := by simp
     clear hy17 hyr hP17 hb17 HLk2
     go_wp2_with fail
     go_region_held3 (fun w' => w'.cell? ⟨w6.heap.size, 6, none⟩ = some (.int .i64 (W2.size : Int)))
      (first | exact HcB.out _ hb19 | exact HcB.out _ hb18 | exact HcB.out _ (Hb17.out.drew))
      (first
       | (go_at_call 36; (with_reducible refine (talive_any _).mono ?_); rintro e w18 ⟨rfl, hb0⟩; have hb18 : Below w16.heap.size w16 w18 := (Hb17.out.drew).trans (hb0.mono Hb17.out.drew.size); have hb18b : Below w17.heap.size w17 w18 := ((Below.refl _ _).drew).trans hb0; clear hb0)
       | (go_at_call 17; (with_reducible refine (HSm2.out _ hb18 hb18b).mono ?_); rintro e w19 ⟨rfl, q19, hw19⟩; have hb19 : Below w16.heap.size w16 w19 := (by rw [hw19]; exact below_drewN hb18 q19); clear hw19)
       | (go_at_call 26; (with_reducible refine (HcG.out _ hb19).mono ?_); rintro e w20 ⟨rfl, rfl⟩))
     have Hend := Lib.hid (Hbase.out.trans (hb19.mono Hbase.out.size))
     clear hb18 hb18b hb19
     go_wp2_with fail
     go_ret
     exact ⟨rfl, Hend.out⟩
    ·have hzb : (z2 == 0) = false := by simp [hzz]
     have hlg : W2 = W' ∧ W2.D.down = false ∧ ∃ ps', SegsC W2.D.fs ps' ∧ LogK ps' 0 ms := by
      rcases Hpf.out with ⟨_, h⟩ | ⟨h, _⟩
      ·rw [h]
       exact ⟨rfl, Hup.out.1, _, Hfin.out.segs, Hfin.out.log⟩
      ·exact absurd h hzz
     have Hlg := Lib.hid hlg.2
     clear hlg hzz Hpf
     go_wp2_with fail
     refine HPt.out.mono ?_
     rintro e w11 ⟨rfl, hE11⟩
     have hbo14 := Hn10.out w11 hE11
     obtain ⟨hP11, hQ11, j0, j1⟩ := HP.out w11 hbo14.base
     have HQ := Lib.hid (fun W (hW : Below w1.heap.size w1 W) => (HP.out W hW).2.1)
     clear hE11 hP11 hQ11 j0 j1 HPt Hn10
     obtain ⟨X14, a14, n14, c14, hcells, hrl, _, hX14, hnx14⟩ := hbo14.stepBox
     have hrp := rwput_any hrl hX14 (by rw [Hup.out.2]; decide) Htw.out.neat.sorted (by have := Htw.out.neat.small.used; omega) Htw.out.n1 (by have := Htw.out.n2; omega) (by have := Htw.out.size; omega) (by have := Htw.out.wait; omega) (by have := Htw.out.neat.small.files; omega) p m c l (HBy.out _ hbo14.base)
     unfold RLogEnd at hrp
     rw [← HW2.out] at hrp
     have HRP := Lib.hid hrp
     unfold logO at hcells
     unfold logV at HRP
     obtain ⟨g0, g1, g2', g3, g4, g5, g6, g7, gf⟩ := box8 hcells
     have HB14 := Lib.hid hcells
     have Hnx := Lib.hid (hnx14 W2)
     clear hcells hrl hX14 hnx14 hrp hbo14
     go_wp2_with fail
     refine HRP.out.mono ?_
     rintro e w15 ⟨a6, n6, c6, R6, rfl, hR6, hf6, hb6⟩
     have hfl2 := Htd2.out.neat.small.files
     have hbo16 := Hnx.out w15 a6 n6 c6 R6 hb6 hR6 hf6 (by omega)
     unfold set8 at hbo16
     obtain ⟨w16, hw16⟩ : ∃ w16, w16 = ((((((((w15.setCell ⟨w6.heap.size, 0, none⟩ (.int .i64 (W2.D.room : Int))).setCell ⟨w6.heap.size, 1, none⟩ (.slice a6 n6 c6)).setCell ⟨w6.heap.size, 2, none⟩ (.int .i64 (W2.D.plan : Int))).setCell ⟨w6.heap.size, 3, none⟩ (.bool W2.D.down)).setCell ⟨w6.heap.size, 4, none⟩ (.int .i64 W2.most)).setCell ⟨w6.heap.size, 5, none⟩ (.int .i64 (W2.n : Int))).setCell ⟨w6.heap.size, 6, none⟩ (.int .i64 (W2.size : Int))).setCell ⟨w6.heap.size, 7, none⟩ (.int .i64 (W2.wait : Int))) := ⟨_, rfl⟩
     rw [← hw16] at hbo16
     obtain ⟨f0, f1, f2, f3, f4, f5, f6, f7, ff⟩ := box8 ((hb6.block _ (Array.getElem?_eq_some_iff.1 HB14.out).1).trans HB14.out)
     obtain ⟨hdn, ps2, hs2, hl2⟩ := Hlg.out
     have hA2 : AllOf W2.D ps2 := (allOf_segs hdn).2 hs2
     obtain ⟨Y16, hO16, _, _⟩ := hbo16.stepDisk (Below.refl _ _)
     have HLk2 := Lib.hid (tlook_any hO16 hdn (by omega) (by have := Htd2.out.neat.small.used; have := Hll.out; have := Hm5.out; omega) Htd2.out.named ps2 hA2)
     have hQ16 := (HQ.out w16 (hbo16.base))
     have hbase16 := hbo16.base
     have hcg : w16.cell? ⟨g2, 1, none⟩ = some (.int .i64 (W2.size : Int)) := by
      obtain ⟨Y, hL, _⟩ := hbo16.log
      exact hL.cell.2.1
     have hcb : w16.cell? ⟨w6.heap.size, 6, none⟩ = some (.int .i64 (W2.size : Int)) := by
      obtain ⟨_, _, _, _, hcc, _⟩ := hbo16.stepBox
      exact (box8 hcc).2.2.2.2.2.2.1
     have HQ16 := Lib.hid hQ16
     have Hcg := Lib.hid hcg
     have Hcb := Lib.hid hcb
     have Hbase := Lib.hid (Hb1.out.trans (hbase16.mono Hb1.out.size))
     have Hw16 := Lib.hid hw16
     have Hl2 := Lib.hid hl2
     clear hbo16 hdn hs2 hl2 hA2 hO16 hQ16 hcg hcb hbase16 hw16 hR6 hf6 hb6 hfl2 g0 g1 g2' g3 g4 g5 g6 g7 gf HRP HB14 Hnx HQ
     go_wp2_with fail
     rw [← Hw16.out]
     clear Hw16 f0 f1 f2 f3 f4 f5 f6 f7 ff
     refine HLk2.out.mono ?_
     rintro e w17 ⟨y17, a17, c17, hy17, rfl, hP17, hb17⟩
     have hyr : y17.recs = ms := by
      have h0 : 0 < ps2.length := Hl2.out.1.1
      rw [isLog_uniq hy17 (.inr ⟨0, h0, Hl2.out.1, .inr ⟨Hl2.out.2.1, rfl⟩⟩)]
      exact Hl2.out.2.2.symm
     rw [hyr] at hP17 ⊢
     have HP17 := Lib.hid hP17
     have Hb17 := Lib.hid hb17
     have HSm2 := Lib.hid (fun W (hW : Below w16.heap.size w16 W) (hW2 : Below w17.heap.size w17 W) => same_yes a17 a' ms.length c17 cap' ms W (HP17.out.grow hW2) (HQ16.out.grow hW))
     have HcB := Lib.hid (fun W (hW : Below w16.heap.size w16 W) => cell_keep hW Hcb.out)
     have HcG := Lib.hid (fun W (hW : Below w16.heap.size w16 W) => wsize_any (cell_keep hW Hcg.out))
     have hqq : ((W2.size : Int) == (W2.size : Int)) = true := by simp
     clear hy17 hyr hP17 hb17 HLk2
     go_wp2_with fail
     go_region_held3 (fun w' => w'.cell? ⟨w6.heap.size, 6, none⟩ = some (.int .i64 (W2.size : Int)))
      (first | exact HcB.out _ hb19 | exact HcB.out _ hb18 | exact HcB.out _ (Hb17.out.drew))
      (first
       | (go_at_call 36; (with_reducible refine (talive_any _).mono ?_); rintro e w18 ⟨rfl, hb0⟩; have hb18 : Below w16.heap.size w16 w18 := (Hb17.out.drew).trans (hb0.mono Hb17.out.drew.size); have hb18b : Below w17.heap.size w17 w18 := ((Below.refl _ _).drew).trans hb0; clear hb0)
       | (go_at_call 17; (with_reducible refine (HSm2.out _ hb18 hb18b).mono ?_); rintro e w19 ⟨rfl, q19, hw19⟩; have hb19 : Below w16.heap.size w16 w19 := (by rw [hw19]; exact below_drewN hb18 q19); clear hw19)
       | (go_at_call 26; (with_reducible refine (HcG.out _ hb19).mono ?_); rintro e w20 ⟨rfl, rfl⟩))
     have Hend := Lib.hid (Hbase.out.trans (hb19.mono Hbase.out.size))
     clear hb18 hb18b hb19
     go_wp2_with fail
     go_ret
     exact ⟨rfl, Hend.out⟩
end Go.Proofs.YtnbddiiedagllaaGreat

/- For all arguments, in whatever memory, the statement TrimKeeps answers true, and leaves its arguments as they were: proved for every input that can be read. No condition. -/
namespace Go.Proofs.YtnbddiiedagllaaGreat.TrimKeepsP
open Go.ChangeShapes Go.WideShapes Go.ChangeAt Go.RowKit Go.Deep

theorem own : ownKnob Tryz.prog.godebug = none := by kernel_rfl
theorem laidOut : laidOutB Tryz.prog = true := by kernel_rfl
theorem cells_b : Tryz.prog.cellsOf 5 = 1 := by kernel_rfl

set_option maxRecDepth 100000 in
theorem lifted (os : Os) (started : os.Started) (H : Type) (enc : TypeId × Value → H) :
  ReturnsInHanded {} Tryz.checked os 9 .any (Rows.trimKeepsSpec.pre6 enc Tryz.prog Tryz.f9 Rows.trimKeepsRow.domain false) (Rows.trimKeepsSpec.post enc Tryz.prog Tryz.f9 false true false false) := by
 refine returnsInHanded_of_change (C := Tryz.checked) own started (by kernel_rfl) Tryz.func9
  (ChangeSpec.witness6 (enc := enc) (C := Tryz.checked) false ⟨#[], #[.int .u8 0, .agg #[.slice none 0 0, .slice none 0 0], .slice none 0 0], []⟩ 8 (by kernel_rfl) (by kernel_rfl) (by kernel_rfl) (by kernel_rfl)) ?_
 intro W base args ds gs before hval0 hW _ _
 have hval : ∀ (j : Nat) t v, Tryz.f9.params[j]? = some t → args[j]? = some v → Value.okWide Tryz.prog W .any base t v := hval0
 have hW' := hW
 obtain ⟨p, q, hA0, hV, rfl, _, _⟩ := hW
 have hA : DataW.TrodAll enc Tryz.prog W 0 (fun _ => true) true Tryz.f9.params.toList args.toList ds p := hA0
 rw [Tryz.params9] at hA hval
 obtain ⟨v0, v1, v2, d0, d1, d2, p0, p1, p2, rfl, rfl, rfl, h0, h1, h2⟩ := trodAll_three hA
 obtain ⟨rfl, rfl⟩ := trodVars_none hV
 obtain ⟨z0, rfl, rfl, rfl, wz0⟩ := open_int Tryz.underlying5 (hval 0 5 v0 rfl rfl) h0
 obtain ⟨x0, hx0, rfl⟩ := nat_u8 wz0
 obtain ⟨a1, n1, cap1, l1, b1, m1, dap1, k1, rfl, hP1, hQ1⟩ := open_pair (hval 1 71 v1 rfl rfl) h1
 obtain ⟨a2, n2, cap2, l2, rfl, hP2⟩ := open_bytes Tryz.underlying58 Tryz.underlying5 cells_b (hval 2 58 v2 rfl rfl) h2
 refine (trimKeeps_any x0 hx0 a1 n1 cap1 l1 b1 m1 dap1 k1 a2 n2 cap2 l2 W hP1 hQ1 hP2).mono fun e W' ⟨he, hb⟩ => ?_
 subst he
 exact ⟨_, rfl, law_post laidOut (by kernel_rfl) rfl (by kernel_rfl) Tryz.underlying4 hW' rfl hb⟩

theorem proved : Rows.TrimKeepsSaid :=
 OpenClaim.holds_of_wide 9 Tryz.f9 rfl rfl rfl rfl rfl rfl rfl ⟨rfl, rfl, rfl, rfl, rfl⟩ rfl rfl rfl rfl rfl (by kernel_rfl) Tryz.func9 (by kernel_rfl)
  (of_decide_eq_true (by kernel_rfl)) (by unfold Func.isWrapper; first | (rw [if_pos (by decide +kernel)]; kernel_rfl) | (rw [if_neg (by decide +kernel)]; exact ⟨rfl, rfl⟩))
  (fun os started H enc _ => lifted os started H enc)
#print axioms proved
end Go.Proofs.YtnbddiiedagllaaGreat.TrimKeepsP

