import Derived.Test.YtnbddiiedagllaaGreatSSD47
import Derived.Test.YtnbddiiedagllaaGreatSSD49
import Derived.Test.YtnbddiiedagllaaGreatSSD45
import Derived.Test.YtnbddiiedagllaaGreatSSD29
import Derived.Test.YtnbddiiedagllaaGreatSSD50
import Derived.Deep.RegionHeld3
import Derived.Test.YtnbddiiedagllaaGreatSSD34
import Derived.Test.YtnbddiiedagllaaGreatSSD7
import Derived.Test.YtnbddiiedagllaaGreatSSD1
import Derived.OpenShut
/- The statement TrimCrashes answers true. -/
namespace Go.Proofs.YtnbddiiedagllaaGreat
open Go.RowKit Go.Maps Go.Shelf

attribute [local go_sem ↓] Go.wp_at_zero Go.wp_at_succ

theorem set8_cells {w : World} {B : Nat} {z0 z1 z2 z3 z4 z5 z6 z7 : Value} {t : TypeId} (hB : w.heap[B]? = some (.cells #[z0, z1, z2, z3, z4, z5, z6, z7] t (0, 0))) (v0 v1 v2 v3 v4 v5 v6 v7 : Value) :
  (set8 w B v0 v1 v2 v3 v4 v5 v6 v7).heap[B]? = some (.cells #[v0, v1, v2, v3, v4, v5, v6, v7] t (0, 0)) := by
 unfold set8
 have h1 := set_head (i := 0) hB v0
 have h2 := set_head (i := 1) h1 v1
 have h3 := set_head (i := 2) h2 v2
 have h4 := set_head (i := 3) h3 v3
 have h5 := set_head (i := 4) h4 v4
 have h6 := set_head (i := 5) h5 v5
 have h7 := set_head (i := 6) h6 v6
 have h8 := set_head (i := 7) h7 v7
 simpa using h8

theorem sizeL_memC : ∀ {ls : List (List Nat)} {r : List Nat}, r ∈ ls → r.length ≤ sizeL ls
 | l :: ls, r, h => by
  rw [sizeL_cons]
  rcases List.mem_cons.1 h with rfl | h
  ·omega
  ·have := sizeL_memC h
   omega

theorem neat_crashC {M : DM} {N U : Nat} (h : Neat M N U) (ks : List Int) : Neat (crashM ks M) N U := by
 obtain ⟨h1, h2, h3, h4, h5⟩ := crashM_small ks M
 refine ⟨Nat.zero_le _, ?_, ⟨by rw [h1]; exact h.small.files, Nat.le_trans h3 h.small.used⟩⟩
 have hs := h.sorted
 unfold Sorted at hs ⊢
 have key : ∀ l : List F, l.Pairwise (fun a b => a.n < b.n) ↔ (l.map F.n).Pairwise (· < ·) := fun l => by rw [List.pairwise_map]
 rw [key, h2, ← key]
 exact hs

theorem nums_lt {w : World} {a : Option Addr} {n c : Nat} {l : List Int} (h : Nums w a n c l) (h0 : 0 < n) {x : Addr} (e : a = some x) : x.block < w.heap.size := by
 obtain ⟨b, o, rfl, hc⟩ := h.cell h0
 cases e
 exact World.block_lt_of_cell? _ _ (hc 0 h0)

set_option maxRecDepth 100000 in
set_option maxHeartbeats 12800000 in
theorem trimCrashes_any (a : Option Addr) (n cap : Nat) (ls : List (List Nat)) (a' : Option Addr) (n' cap' : Nat) (ms : List (List Nat)) (z : Nat) (hz : z < 256) (ak : Option Addr) (nk ck : Nat) (ks : List Int) (w : World) (hl : Parts w a n cap ls) (hm : Parts w a' n' cap' ms) (hk : Nums w ak nk ck ks) :
  Calls Tryz.prog 10 #[.agg #[.slice a n cap, .slice a' n' cap'], .int .u8 (z : Int), .slice ak nk ck] w fun e w' => e = .returned (.bool true) ∧ Below w.heap.size w w' := by
 obtain ⟨w1, hw1⟩ : ∃ w1, w1 = w.alloc (.cells #[.slice a n cap, .slice a' n' cap'] 71) := ⟨_, rfl⟩
 have hb1 : Below w.heap.size w w1 := by rw [hw1]; exact (Below.refl _ _).alloc (Nat.le_refl _) _
 have hB1 : w1.heap[w.heap.size]? = some (.cells #[.slice a n cap, .slice a' n' cap'] 71 (0, 0)) := by rw [hw1]; exact heap_alloc_new _ _
 have k0 : w1.cell? ⟨w.heap.size, 0, none⟩ = some (.slice a n cap) := by rw [cell_of_row _ _ _ _ _ (0, 0) hB1]; rfl
 have k1 : w1.cell? ⟨w.heap.size, 1, none⟩ = some (.slice a' n' cap') := by rw [cell_of_row _ _ _ _ _ (0, 0) hB1]; rfl
 have HP := Lib.hid (fun W (hW : Below w1.heap.size w1 W) => (show Parts W a n cap ls ∧ Parts W a' n' cap' ms ∧ W.cell? ⟨w.heap.size, 0, none⟩ = some (.slice a n cap) ∧ W.cell? ⟨w.heap.size, 1, none⟩ = some (.slice a' n' cap') from ⟨hl.grow (hb1.trans (hW.mono hb1.size)), hm.grow (hb1.trans (hW.mono hb1.size)), cell_keep hW k0, cell_keep hW k1⟩))
 have HNu := Lib.hid (fun W (hW : Below w1.heap.size w1 W) => hk.grow (hb1.trans (hW.mono hb1.size)))
 have HFew := Lib.hid (fun W (hW : Below w1.heap.size w1 W) => fewF_any a n cap ls W (HP.out W hW).1)
 have HFew2 := Lib.hid (fun W (hW : Below w1.heap.size w1 W) => fewF_any a' n' cap' ms W (HP.out W hW).2.1)
 have Hkb := Lib.hid (show ∀ x, 0 < nk → ak = some x → x.block < w1.heap.size from fun x h0 e => Nat.lt_of_lt_of_le (nums_lt hk h0 e) hb1.size)
 have Hb1 := Lib.hid hb1
 have Hw1 := Lib.hid hw1
 have Hln := Lib.hid hl.len
 have Hlm := Lib.hid hm.len
 clear hl hm hk hb1 hw1 hB1
 go_enter Tryz.func10, Tryz.ntmps10
 go_wp2_with fail
 rw [← Hw1.out]
 clear Hw1
 refine (HFew.out _ (Below.refl _ _)).mono ?_
 rintro e w2 ⟨⟨b1, rfl, hf1⟩, rfl⟩
 cases b1 with
 | false =>
  clear hf1
  go_wp2_with fail
  refine (talive_any _).mono ?_
  rintro e w3 ⟨rfl, hb3⟩
  have Hb3 := Lib.hid (Hb1.out.trans (hb3.mono Hb1.out.size))
  clear hb3
  go_wp2
  go_ret
  exact ⟨rfl, Hb3.out⟩
 | true =>
  obtain ⟨hs1, hc1⟩ := few_size (hf1 rfl)
  clear hf1
  go_wp2_with fail
  refine (HFew2.out _ (Below.refl _ _)).mono ?_
  rintro e w2 ⟨⟨b2, rfl, hf2⟩, rfl⟩
  cases b2 with
  | false =>
   clear hf2 hs1 hc1
   go_wp2_with fail
   refine (talive_any _).mono ?_
   rintro e w3 ⟨rfl, hb3⟩
   have Hb3 := Lib.hid (Hb1.out.trans (hb3.mono Hb1.out.size))
   clear hb3
   go_wp2
   go_ret
   exact ⟨rfl, Hb3.out⟩
  | true =>
   obtain ⟨hs2, hc2⟩ := few_size (hf2 rfl)
   by_cases hk30 : (30 : Int) < (nk : Int)
   ·clear hf2 hs1 hc1 hs2 hc2
    go_wp2_with fail
    refine (talive_any _).mono ?_
    rintro e w3 ⟨rfl, hb3⟩
    have Hb3 := Lib.hid (Hb1.out.trans (hb3.mono Hb1.out.size))
    clear hb3
    go_wp2
    go_ret
    exact ⟨rfl, Hb3.out⟩
   have hLn := Hln.out
   have hLm := Hlm.out
   have HSt := Lib.hid (start10_any 100000 30 (by omega) (by omega) (by omega) (by omega) a n cap ls w1 (HP.out w1 (Below.refl _ _)).1 (by omega) (by omega))
   have HS := Lib.hid (And.intro (And.intro hs1 hc1) (And.intro hs2 hc2))
   clear hf2 hs1 hc1 hs2 hc2 k1 HFew HFew2 hLn hLm
   go_wp2_with fail
   refine HSt.out.mono ?_
   rintro e w3 ⟨d, g, a3, n3, c3, R3, Y3, X3, rfl, hL, hR, hf, hXY⟩
   have hrun := run_ok 100000 30 ls (by have := HS.out.1; show _ ≤ 100000; omega) (by have := HS.out.1; omega) ls.length
   have htk : ls.take ls.length = ls := List.take_length
   obtain ⟨B0, c0, hI0, _⟩ := hrun.inv
   rw [htk] at hI0
   have htd0 := tidy_run (tidy_start 100000 30) ls
   obtain ⟨W0, hW0⟩ : ∃ W0, W0 = runP (startW 100000 30) ls := ⟨_, rfl⟩
   rw [← hW0] at hL hf htd0 hI0 ⊢
   have htd : Tidy W0 200 2000 70 2000 70 100000 30 := by have := HS.out.1; exact htd0.mono (by omega) (by omega) (by omega) (by omega) (by omega)
   have hfl := htd.neat.small.files
   have hbo := StartEnd.both (T := fun _ => False) hL hR hf (fun b hb => ⟨(hXY b hb).1, (hXY b hb).2, fun h => h⟩) (by omega) (fun _ h => h.elim) (fun h => h)
   unfold logO at hbo
   unfold logV
   obtain ⟨w4, hw4⟩ : ∃ w4, w4 = w3.alloc (.cells #[.int .i64 (W0.D.room : Int), .slice a3 n3 c3, .int .i64 (W0.D.plan : Int), .bool W0.D.down, .int .i64 W0.most, .int .i64 (W0.n : Int), .int .i64 (W0.size : Int), .int .i64 (W0.wait : Int)] 47) := ⟨_, rfl⟩
   rw [← hw4] at hbo
   obtain ⟨Y4, hL4, _, hn4, _⟩ := hbo.stepLog (Below.refl _ _)
   have HSy := Lib.hid (wsync_any hL4 htd.n1 (by have := htd.n2; omega))
   obtain ⟨hsy1, hI1, hsy3, hsy4, hsy5⟩ := hI0.sync
   rw [hsy1] at HSy
   have Hn4 := Lib.hid hn4
   have Hw4 := Lib.hid hw4
   have Htd := Lib.hid htd
   have HI1 := Lib.hid hI1
   have Hsy3 := Lib.hid hsy3
   have Hn0 := Lib.hid hI0.n
   have Hsrt := Lib.hid hI0.sorted
   have Hrm := Lib.hid (hsy5.trans htd.rm)
   have Hsz := Lib.hid (show sizeL (B0.flatten ++ c0) ≤ 2000 from by rw [← hI0.small.2.1]; have := htd.neat.small.used; omega)
   clear hL hR hf hXY hW0 htd htd0 hfl hbo hw4 hL4 hn4 HSt k0 hrun htk hI0 hsy1 hI1 hsy3 hsy4 hsy5
   go_wp2_with fail
   rw [← Hw4.out]
   clear Hw4
   refine HSy.out.mono ?_
   rintro e w5 ⟨rfl, hE5⟩
   have hbo5 := Hn4.out _ w5 hE5
   obtain ⟨X5, a5, n5, c5, hcells, hrl, _, hX5, hnx5⟩ := hbo5.stepBox
   have HSy2 := Lib.hid (rwsync_any hrl hX5 Htd.out.neat.plan Hsrt.out (by have := Htd.out.neat.small.used; omega) Htd.out.n1 (by have := Htd.out.n2; omega))
   unfold logO at hcells
   unfold logV at HSy2
   obtain ⟨g0, g1, g2, g3, g4, g5, g6, g7, gf⟩ := box8 hcells
   have Hnx5 := Lib.hid hnx5
   have Hbx5 := Lib.hid (box8 hcells)
   have HB5 := Lib.hid hcells
   clear hE5 hbo5 hcells hrl hX5 hnx5 HSy Hn4
   go_wp2_with fail
   refine HSy2.out.mono ?_
   rintro e w6 ⟨a6, n6, c6, R6, rfl, hR6, hf6, hb6⟩
   obtain ⟨W1, hW1⟩ : ∃ W1, W1 = (syncW W0).1 := ⟨_, rfl⟩
   have hI1 := HI1.out
   have hw1 := Hsy3.out
   have hnx5 := Hnx5.out
   rw [← hW1] at hf6 hI1 hw1 hnx5 ⊢
   have hlen1 : W1.D.fs.length ≤ 200 := by
    have h1 := hI1.small.1
    have h2 := hI1.n
    have h3 := Hn0.out
    have h4 := Htd.out.n2
    omega
   have hbo7 := hnx5 W1 w6 a6 n6 c6 R6 hb6 hR6 hf6 (by omega)
   have hc7 := set8_cells ((hb6.block _ (Array.getElem?_eq_some_iff.1 HB5.out).1).trans HB5.out) (.int .i64 (W1.D.room : Int)) (.slice a6 n6 c6) (.int .i64 (W1.D.plan : Int)) (.bool W1.D.down) (.int .i64 W1.most) (.int .i64 (W1.n : Int)) (.int .i64 (W1.size : Int)) (.int .i64 (W1.wait : Int))
   unfold set8 at hbo7 hc7
   obtain ⟨w7, hw7⟩ : ∃ w7, w7 = ((((((((w6.setCell ⟨w3.heap.size, 0, none⟩ (.int .i64 (W1.D.room : Int))).setCell ⟨w3.heap.size, 1, none⟩ (.slice a6 n6 c6)).setCell ⟨w3.heap.size, 2, none⟩ (.int .i64 (W1.D.plan : Int))).setCell ⟨w3.heap.size, 3, none⟩ (.bool W1.D.down)).setCell ⟨w3.heap.size, 4, none⟩ (.int .i64 W1.most)).setCell ⟨w3.heap.size, 5, none⟩ (.int .i64 (W1.n : Int))).setCell ⟨w3.heap.size, 6, none⟩ (.int .i64 (W1.size : Int))).setCell ⟨w3.heap.size, 7, none⟩ (.int .i64 (W1.wait : Int))) := ⟨_, rfl⟩
   rw [← hw7] at hbo7 hc7
   obtain ⟨f0, f1, f2, f3, f4, f5, f6, f7, ff⟩ := box8 ((hb6.block _ (Array.getElem?_eq_some_iff.1 HB5.out).1).trans HB5.out)
   have hus1 : usedF W1.D.fs ≤ 2000 := by
    have h1 := hI1.small.2.1
    have h2 := Hsz.out
    omega
   have hnm1 : Named W1.D := hI1.small.2.2
   obtain ⟨out1, hout1⟩ := segs_ex W1.D
   obtain ⟨ps1, _, hA1⟩ := allOf_ex hout1
   obtain ⟨aa, nn, cc, hcf, hfind⟩ := hbo7.find hI1.down (by omega) (by omega) hnm1 ps1 hA1
   have hee := hc7.symm.trans hcf
   unfold logO at hee
   obtain ⟨rfl, rfl, rfl⟩ : a6 = aa ∧ n6 = nn ∧ c6 = cc := by simpa using hee
   unfold refV at hfind
   have HFd := Lib.hid hfind
   have hgot1 := fun y (hy : IsLog ps1 y) => gl_log hI1.down (hI1.gl hw1) hA1 hy
   have Hgot1 := Lib.hid hgot1
   have Hw7 := Lib.hid hw7
   have HI1b := Lib.hid hI1
   have Hwt1 := Lib.hid hw1
   have Hus1 := Lib.hid hus1
   have Hrm1 := Lib.hid (show W1.D.room = 100000 from by rw [hW1]; exact Hrm.out)
   have Hlen1 := Lib.hid hlen1
   unfold logV
   clear hbo7 hc7 hcf hee hfind hout1 hA1 hgot1 hus1 hnm1 hnx5 hw7 hI1 hw1 hlen1 hR6 hf6 hb6 g0 g1 g2 g3 g4 g5 g6 g7 gf Hnx5 Hbx5 HSy2 HI1 Hsy3 hW1
   go_wp2_with fail
   rw [← Hw7.out]
   clear Hw7 f0 f1 f2 f3 f4 f5 f6 f7 ff
   refine HFd.out.mono ?_
   rintro e w8 ⟨y, aa8, an8, ac8, first8, last8, va8, vc8, size8, hy, rfl, T8, hbo8, hkeep8⟩
   have hyr := (Hgot1.out y hy).2
   have hA9 := neat_arm Htd.out.neat (z : Int) (by omega)
   obtain ⟨Y8, hO8, _, hn8⟩ := hbo8.stepDisk (Below.refl _ _)
   have HArm := Lib.hid (own_arm hO8 (z : Int) (by omega) (by omega))
   have Hn8 := Lib.hid hn8
   have Hkeep8 := Lib.hid hkeep8
   have Hyr := Lib.hid hyr
   unfold logRV
   have hfr := field_recs aa8 an8 ac8 first8 last8 va8 y.recs.length vc8 size8 (y.torn : Int) y.z
   rw [Hyr.out] at hfr ⊢
   have Hkeep8b := Lib.hid (show ∀ W', (∀ b, T8 b → W'.heap[b]? = w8.heap[b]?) → Parts W' va8 (B0.flatten ++ c0).length vc8 (B0.flatten ++ c0) from by rw [← Hyr.out]; exact hkeep8)
   clear hbo8 hkeep8 hy hyr hO8 hn8 HFd Hgot1 hA9 Hkeep8 Hyr
   generalize (B0.flatten ++ c0).length = L0 at *
   go_wp2_with fail
   clear hfr
   refine HArm.out.mono ?_
   rintro e w9 ⟨⟨v9, rfl⟩, hE9⟩
   have hbo9 := Hn8.out _ w9 hE9
   obtain ⟨X9, a9, n9, c9, hcells, _⟩ := hbo9.stepBox
   have hbo10 := hbo9.stepPlan (z : Int) (by omega)
   have hI1 := HI1b.out
   have hnt1 : Neat W1.D 200 2000 := by
    have h1 := hI1.small
    have h2 := Hsz.out
    have h3 := Hlen1.out
    exact ⟨by rw [hI1.plan]; omega, hI1.sorted, ⟨h3, by rw [h1.2.1]; exact h2⟩⟩
   have hnA := neat_arm hnt1 (z : Int) (by omega)
   have hmA : Named (armM (z : Int) W1.D) := hI1.small.2.2
   have hA1 : 1 ≤ W1.n ∧ W1.n ≤ 200 := by
    have h1 := hI1.small.1
    have h2 := hI1.n
    have h3 := Hlen1.out
    omega
   obtain ⟨WA, hWA⟩ : ∃ WA : WM, WA = { W1 with D := armM (z : Int) W1.D } := ⟨_, rfl⟩
   have e1 : WA.D = armM (z : Int) W1.D := by rw [hWA]
   have e2 : WA.n = W1.n := by rw [hWA]
   rw [← hWA] at hbo10
   rw [← e1] at hnA hmA
   rw [← e2] at hA1
   obtain ⟨w10, hw10⟩ : ∃ w10, w10 = w9.setCell ⟨w3.heap.size, 2, none⟩ (.int .i64 (z : Int)) := ⟨_, rfl⟩
   rw [← hw10] at hbo10
   obtain ⟨hP10, hQ10, j1, k1⟩ := HP.out w10 hbo10.base
   rw [hw10] at j1 k1
   unfold logO at hcells
   obtain ⟨g0, g1, g2, g3, g4, g5, g6, g7, gf⟩ := box8 hcells
   have HCo := Lib.hid (hbo10.comp (Below.refl _ _) (hnA.mono (N' := 900) (U' := 2000) (by omega) (Nat.le_refl _)) (by omega) hmA hA1.1 (by omega) 30 a' n' cap' ms hQ10 (by have := Hlm.out; have := HS.out.2.2; omega) (by have := HS.out.2.1; omega))
   have Hw10 := Lib.hid hw10
   have HnA := Lib.hid hnA
   have HmA := Lib.hid hmA
   have HA := Lib.hid hA1
   have HWA := Lib.hid hWA
   clear hE9 hbo9 hcells hbo10 hnA hmA hA1 hWA e1 e2 hw10 hP10 hQ10 hI1 hnt1 HArm Hn8
   go_wp2_with fail
   rw [← Hw10.out]
   clear Hw10
   refine HCo.out.mono ?_
   rintro e w11 ⟨r, hC, hcase⟩
   have hq := compOf_neat (W := WA) (recs := ms) HnA.out HmA.out hC
   have hsm : r.1.fs.length ≤ 420 ∧ usedF r.1.fs ≤ 5000 := by
    have h1 := hq.1.small.files
    have h2 := hq.1.small.used
    have h3 := HnA.out.small.files
    have := HS.out.2.1
    exact ⟨by omega, by omega⟩
   obtain ⟨vm, gx, WX, rfl, hbo, hWX⟩ : ∃ vm gx WX, e = .returned (.tuple #[vm, .int .i64 r.2]) ∧ BothV w1 T8 (fun _ => False) w8 gx d w3.heap.size WX WA w11 ∧ WX.D = r.1 := by
    rcases hcase with ⟨hz, rfl, hbo⟩ | ⟨hz, g2, rfl, hbo⟩
    ·exact ⟨_, _, _, rfl, hbo, rfl⟩
    ·exact ⟨_, _, _, by rw [hz], hbo, rfl⟩
   obtain ⟨hP11, hQ11, j1, k1⟩ := HP.out w11 hbo.base
   obtain ⟨a8, n8, c8, hcells, hcall⟩ := hbo.rcomp (HnA.out.mono (N' := 900) (U' := 2000) (by omega) (Nat.le_refl _)) (by omega) HmA.out HA.out.1 (by have := HA.out.2; omega) 30 a' n' cap' ms hQ11 (by have := Hlm.out; have := HS.out.2.2; omega) (by have := HS.out.2.1; omega) (by have := HnA.out.small.files; omega)
   unfold logO at hcells
   unfold logV at hcall
   obtain ⟨g0, g1, g2, g3, g4, g5, g6, g7, gf⟩ := box8 hcells
   have HRC := Lib.hid hcall
   have HC := Lib.hid hC
   have Hsm := Lib.hid hsm
   have Hq := Lib.hid hq
   have HWX := Lib.hid hWX
   clear hcells hcall hP11 hQ11 hbo hC hq hsm hWX hcase HCo
   go_wp2_with fail
   refine HRC.out.mono ?_
   rintro e w12 ⟨r', a12, n12, c12, W2, hC, hW2, rfl, hbo⟩
   obtain rfl := compOf_uniq HC.out hC
   have hD2 : W2.D = r.1 := by rw [hW2]; exact compR_D _ _ _ _
   unfold logO at hbo
   obtain ⟨w13, hw13⟩ : ∃ w13, w13 = w12.alloc (.cells #[.int .i64 (W2.D.room : Int), .slice a12 n12 c12, .int .i64 (W2.D.plan : Int), .bool W2.D.down, .int .i64 W2.most, .int .i64 (W2.n : Int), .int .i64 (W2.size : Int), .int .i64 (W2.wait : Int)] 47) := ⟨_, rfl⟩
   rw [← hw13] at hbo
   obtain ⟨Y13, hL13, hYB, hTY, X13, hRB, hXY⟩ := hbo.log
   have hkp := hbo.keep
   have hO13 : Own w1 Y13 w13 d r.1 := by have h := hL13.own; rw [HWX.out] at h; exact h
   have HCr := Lib.hid (own_crash hO13 (by have := Hsm.out.1; omega) ak nk ck ks (HNu.out w13 hO13.base) (fun h0 a ha => .inr (Hkb.out a h0 ha)))
   have HTY := Lib.hid hTY
   have HYB := Lib.hid hYB
   have HXY := Lib.hid (fun b hb => (hXY b hb).1)
   have Hkp := Lib.hid hkp
   have HRB := Lib.hid hRB
   have Hw13 := Lib.hid hw13
   have HD2 := Lib.hid hD2
   clear hC hW2 hbo hw13 hL13 hYB hTY hRB hXY hkp hO13 g0 g1 g2 g3 g4 g5 g6 g7 gf j1 k1 HRC hD2
   go_wp2_with fail
   rw [← Hw13.out]
   clear Hw13
   refine HCr.out.mono ?_
   rintro e w14 ⟨⟨v14, rfl⟩, hO14, hx14, _, hs14⟩
   obtain ⟨recs, hG, hor, hz0, hup, hroom2⟩ := crash_got HI1b.out Hwt1.out (z : Int) (ms := ms) (fun r hr => by have := sizeL_memC hr; have := HS.out.2.1; omega) (by have h1 := Hus1.out; have h2 := Hrm1.out; have := HS.out.2.1; omega) HWA.out HC.out ks
   have hnt2 := (neat_crashC Hq.out.1 ks).mono (N' := 900) (U' := 5000) (by have := HnA.out.small.files; omega) (by have := HS.out.2.1; omega)
   have hnm2 := named_crash Hq.out.2.1 ks
   have hfs2 : (crashM ks r.1).fs.length ≤ 420 := by rw [(crashM_small ks r.1).1]; exact Hsm.out.1
   have hus2 : usedF (crashM ks r.1).fs ≤ 5000 := Nat.le_trans (crashM_small ks r.1).2.2.1 Hsm.out.2
   obtain ⟨out2, hout2⟩ := segs_ex (crashM ks r.1)
   obtain ⟨ps2, _, hA2⟩ := allOf_ex hout2
   have HOp := Lib.hid (sopen_any hO14 hup.1 (by omega) hnt2 (by omega) hnm2 ps2 hA2 30)
   have Hx14 := Lib.hid hx14
   have Hs14 := Lib.hid hs14
   have HG := Lib.hid hG
   have Hor := Lib.hid hor
   have Hz0 := Lib.hid hz0
   have Hup := Lib.hid hup
   have Hroom2 := Lib.hid (hroom2.trans Hrm1.out)
   have Hso2 := Lib.hid hnt2.sorted
   have Hnm2 := Lib.hid hnm2
   have Hfs2 := Lib.hid hfs2
   have Hus2 := Lib.hid hus2
   have HA2 := Lib.hid hA2
   clear hO14 hx14 hs14 hG hor hz0 hup hroom2 hnt2 hnm2 hfs2 hus2 hout2 hA2 HCr
   go_wp2_with fail
   refine HOp.out.mono ?_
   rintro e w15 ⟨r2, hr2, hE15⟩
   obtain ⟨hz2, hrc2, _, _⟩ := open_up Hup.out HA2.out HG.out Hso2.out (by rw [Hroom2.out]; have := Hus2.out; omega) hr2
   rcases hE15 with ⟨h, _⟩ | ⟨_, g2, ra, rc, Z2, rfl, hZ2, hg2, hnZ2, hL15, hx15, hK15⟩
   ·exact absurd hz2 h
   rw [hrc2] at hK15 ⊢
   have hgot := hK15 w15 (fun _ _ => rfl)
   have hkk : ∀ b, Y13 b → w15.heap[b]? = w13.heap[b]? := fun b hb => (hx15 b hb).trans (Hx14.out b hb)
   have hbef := Hkeep8b.out w15 (fun b hb => (hkk b (HTY.out b hb)).trans (Hkp.out b hb))
   have hsz : w13.heap.size ≤ w15.heap.size := by have := hL15.lt; have := Hs14.out; omega
   have hRB15 := HRB.out.shift (fun b hb => hkk b (hb.elim (fun h => HXY.out b h) (fun h => h ▸ HYB.out))) hsz
   obtain ⟨ax, nx, cx, hcx, _, hrf, hX15⟩ := logO_ref hRB15
   rw [HD2.out] at hcx hrf
   have hbs15 := hL15.own.base
   have HCs := Lib.hid (rcrash_any hrf hX15 ak nk ck ks (HNu.out w15 hbs15))
   have Hgot := Lib.hid hgot
   have Hbef := Lib.hid hbef
   have Hbs15 := Lib.hid hbs15
   unfold logO at hcx
   unfold refV at HCs
   obtain ⟨g0, g1, g2', g3, g4, g5, g6, g7, gf⟩ := box8 hcx
   clear hZ2 hg2 hnZ2 hL15 hx15 hK15 hgot hkk hbef hsz hRB15 hcx hrf hX15 hbs15 hr2 hz2 hrc2 HOp
   go_wp2_with fail
   refine HCs.out.mono ?_
   rintro e w16 ⟨ay, ny, cy, Ry, rfl, hRy, hfy, hb16⟩
   have HFd2 := Lib.hid (rfound_any (M := crashM ks r.1) ⟨ay, ny, cy, Ry, rfl, hRy, hfy, by rw [← hRy.len, ← List.length_map (f := FR.f), hfy]; have := Hfs2.out; omega⟩ (fun b hb => hb.2) Hup.out.1 (by have := Hfs2.out; omega) (by have := Hus2.out; omega) Hnm2.out ps2 HA2.out)
   unfold refV at HFd2
   have Hb16 := Lib.hid hb16
   clear hRy hfy hb16 g0 g1 g2' g3 g4 g5 g6 g7 gf HCs
   unfold refV
   go_wp2_with fail
   refine HFd2.out.mono ?_
   rintro e w17 ⟨y2, aa17, an17, ac17, first17, last17, va17, vc17, size17, hy2, rfl, hPv, _, hb17⟩
   have hyr2 := (gl_log Hup.out.1 HG.out HA2.out hy2).2
   rw [hyr2] at hPv ⊢
   have hb157 := Hb16.out.trans (hb17.mono Hb16.out.size)
   have Hgot2 := Lib.hid (Hgot.out.grow hb157)
   have Hbef2 := Lib.hid (Hbef.out.grow hb157)
   have Hb17 := Lib.hid (Hbs15.out.trans (hb157.mono Hbs15.out.size))
   have HPv := Lib.hid hPv
   clear hy2 hyr2 hPv hb17 hb157 HFd2
   unfold logRV
   go_wp2_with fail
   obtain ⟨w18, hw18⟩ : ∃ w18, w18 = w17.alloc (.cells #[.slice aa17 an17 ac17, .int .i64 first17, .int .i64 last17, .slice va17 recs.length vc17, .int .i64 size17, .int .i64 (y2.torn : Int), .int .i64 y2.z] 35) := ⟨_, rfl⟩
   rw [← hw18]
   have hb18 : Below w17.heap.size w17 w18 := by rw [hw18]; exact (Below.refl _ _).alloc (Nat.le_refl _) _
   refine (same_yes ra va17 recs.length rc vc17 recs w18 (Hgot2.out.grow hb18) (HPv.out.grow hb18)).mono ?_
   rintro e w19 ⟨rfl, q, hw19⟩
   have hb19 : Below w17.heap.size w17 w19 := by rw [hw19]; exact below_drewN hb18 q
   have HP19 := Lib.hid (fun W (hW : Below w19.heap.size w19 W) => (show Parts W ra recs.length rc recs ∧ Parts W va8 L0 vc8 (B0.flatten ++ c0) ∧ (Parts W a' n' cap' ms ∧ W.cell? ⟨w.heap.size, 1, none⟩ = some (.slice a' n' cap')) ∧ Below w.heap.size w W from by
    have h1 := hb19.trans (hW.mono hb19.size)
    have h2 := Hb17.out.trans (h1.mono Hb17.out.size)
    exact ⟨Hgot2.out.grow h1, Hbef2.out.grow h1, ⟨(HP.out W h2).2.1, (HP.out W h2).2.2.2⟩, Hb1.out.trans (h2.mono Hb1.out.size)⟩))
   have hqz : (r.2 != r.2) = false := by simp
   clear hw18 hb18 hw19 hb19 Hgot2 Hbef2 HPv Hb16 Hb17 Hgot Hbef Hbs15 HNu HP Hkeep8b HRB Hkb HC HWA HnA HmA HA Hq Hsm Hx14 Hs14 HTY HYB HXY Hkp HA2 Hup HG Hso2 Hnm2 Hfs2 Hus2 HD2 Hrm1 Hroom2 HI1b Hwt1 Hus1 HWX
   go_wp2_with fail
   refine (talive_any _).mono ?_
   rintro e w20 ⟨rfl, hb20⟩
   obtain ⟨hg20, hf20, _, _⟩ := HP19.out w20 hb20
   have HS1 := Lib.hid (same_some ra va8 recs.length rc L0 vc8 recs (B0.flatten ++ c0) w20 hg20 hf20)
   have Hb20 := Lib.hid hb20
   clear hb20 hg20 hf20
   go_wp2_with fail
   refine HS1.out.mono ?_
   rintro e w21 ⟨b1, rfl, hbt, hb21⟩
   have hb1921 := Hb20.out.trans (hb21.mono Hb20.out.size)
   obtain ⟨hg21, _, ⟨hm21, j1⟩, hend21⟩ := HP19.out w21 hb1921
   have HS2 := Lib.hid (same_some ra a' recs.length rc n' cap' recs ms w21 hg21 hm21)
   have Hb21 := Lib.hid hb1921
   have Hend21 := Lib.hid hend21
   have Hbt := Lib.hid hbt
   clear hb21 hb1921 hg21 hm21 hend21 hbt HS1 Hb20
   cases b1 with
   | true =>
    clear Hbt
    by_cases hz0 : r.2 = 0
    ·have hz1 : (r.2 != 0) = false := by simp [hz0]
     have Hrm9 := Lib.hid (Hz0.out hz0)
     clear hz0
     go_wp2_with fail
     refine HS2.out.mono ?_
     rintro e w22 ⟨b2, rfl, hbt2, hb22⟩
     have hbt3 := hbt2 Hrm9.out
     subst hbt3
     have Hend := Lib.hid (Hend21.out.trans (hb22.mono Hend21.out.size))
     clear hbt2 hb22
     go_wp2
     go_ret
     exact ⟨rfl, Hend.out⟩
    ·have hz1 : (r.2 != 0) = true := by simp [hz0]
     clear hz0
     go_wp2
     go_ret
     exact ⟨rfl, Hend21.out⟩
   | false =>
    have Hrm9 := Lib.hid (show recs = ms from by
     rcases Hor.out with h | h
     ·have := Hbt.out h
      cases this
     ·exact h)
    clear Hbt
    go_wp2_with fail
    refine HS2.out.mono ?_
    rintro e w22 ⟨b2, rfl, hbt2, hb22⟩
    have hbt3 := hbt2 Hrm9.out
    subst hbt3
    have hb1922 := Hb21.out.trans (hb22.mono Hb21.out.size)
    obtain ⟨hg22, _, ⟨hm22, j1⟩, hend22⟩ := HP19.out w22 hb1922
    have HS3 := Lib.hid (same_some ra a' recs.length rc n' cap' recs ms w22 hg22 hm22)
    have Hend22 := Lib.hid hend22
    clear hbt2 hb22 hb1922 hg22 hm22 hend22 HS2
    by_cases hz0 : r.2 = 0
    ·have hz1 : (r.2 != 0) = false := by simp [hz0]
     clear hz0
     go_wp2_with fail
     refine HS3.out.mono ?_
     rintro e w23 ⟨b3, rfl, hbt4, hb23⟩
     have hbt5 := hbt4 Hrm9.out
     subst hbt5
     have Hend := Lib.hid (Hend22.out.trans (hb23.mono Hend22.out.size))
     clear hbt4 hb23
     go_wp2
     go_ret
     exact ⟨rfl, Hend.out⟩
    ·have hz1 : (r.2 != 0) = true := by simp [hz0]
     clear hz0
     go_wp2
     go_ret
     exact ⟨rfl, Hend22.out⟩
end Go.Proofs.YtnbddiiedagllaaGreat

/- For all arguments, in whatever memory, the statement TrimCrashes answers true, and leaves its arguments as they were: proved for every input that can be read. No condition. -/
namespace Go.Proofs.YtnbddiiedagllaaGreat.TrimCrashesP
open Go.ChangeShapes Go.WideShapes Go.ChangeAt Go.RowKit Go.Deep

theorem own : ownKnob Tryz.prog.godebug = none := by kernel_rfl
theorem laidOut : laidOutB Tryz.prog = true := by kernel_rfl
theorem cells_i : Tryz.prog.cellsOf 3 = 1 := by kernel_rfl

set_option maxRecDepth 100000 in
theorem lifted (os : Os) (started : os.Started) (H : Type) (enc : TypeId × Value → H) :
  ReturnsInHanded {} Tryz.checked os 10 .any (Rows.trimCrashesSpec.pre6 enc Tryz.prog Tryz.f10 Rows.trimCrashesRow.domain false) (Rows.trimCrashesSpec.post enc Tryz.prog Tryz.f10 false true false false) := by
 refine returnsInHanded_of_change (C := Tryz.checked) own started (by kernel_rfl) Tryz.func10
  (ChangeSpec.witness6 (enc := enc) (C := Tryz.checked) false ⟨#[], #[.agg #[.slice none 0 0, .slice none 0 0], .int .u8 0, .slice none 0 0], []⟩ 8 (by kernel_rfl) (by kernel_rfl) (by kernel_rfl) (by kernel_rfl)) ?_
 intro W base args ds gs before hval0 hW _ _
 have hval : ∀ (j : Nat) t v, Tryz.f10.params[j]? = some t → args[j]? = some v → Value.okWide Tryz.prog W .any base t v := hval0
 have hW' := hW
 obtain ⟨p, q, hA0, hV, rfl, _, _⟩ := hW
 have hA : DataW.TrodAll enc Tryz.prog W 0 (fun _ => true) true Tryz.f10.params.toList args.toList ds p := hA0
 rw [Tryz.params10] at hA hval
 obtain ⟨v0, v1, v2, d0, d1, d2, p0, p1, p2, rfl, rfl, rfl, h0, h1, h2⟩ := trodAll_three hA
 obtain ⟨rfl, rfl⟩ := trodVars_none hV
 obtain ⟨a0, n0, cap0, l0, b0, m0, dap0, k0, rfl, hP0, hQ0⟩ := open_pair (hval 0 71 v0 rfl rfl) h0
 obtain ⟨z1, rfl, rfl, rfl, wz1⟩ := open_int Tryz.underlying5 (hval 1 5 v1 rfl rfl) h1
 obtain ⟨x1, hx1, rfl⟩ := nat_u8 wz1
 obtain ⟨a2, n2, cap2, l2, rfl, hN2⟩ := open_nums Tryz.underlying33 Tryz.underlying3 cells_i (hval 2 33 v2 rfl rfl) h2
 refine (trimCrashes_any a0 n0 cap0 l0 b0 m0 dap0 k0 x1 hx1 a2 n2 cap2 l2 W hP0 hQ0 hN2).mono fun e W' ⟨he, hb⟩ => ?_
 subst he
 exact ⟨_, rfl, law_post laidOut (by kernel_rfl) rfl (by kernel_rfl) Tryz.underlying4 hW' rfl hb⟩

theorem proved : Rows.TrimCrashesSaid :=
 OpenClaim.holds_of_wide 10 Tryz.f10 rfl rfl rfl rfl rfl rfl rfl ⟨rfl, rfl, rfl, rfl, rfl⟩ rfl rfl rfl rfl rfl (by kernel_rfl) Tryz.func10 (by kernel_rfl)
  (of_decide_eq_true (by kernel_rfl)) (by unfold Func.isWrapper; first | (rw [if_pos (by decide +kernel)]; kernel_rfl) | (rw [if_neg (by decide +kernel)]; exact ⟨rfl, rfl⟩))
  (fun os started H enc _ => lifted os started H enc)
#print axioms proved
end Go.Proofs.YtnbddiiedagllaaGreat.TrimCrashesP

