import Derived.Test.YtnbddiiedagllaaGreatSSB16
import Derived.Test.YtnbddiiedagllaaGreatSSB15
import Derived.Test.YtnbddiiedagllaaGreatSSB17
import Derived.IntWalk
/- The walk of the reference's Put where the segment has no bytes. -/
namespace Go.Proofs.YtnbddiiedagllaaGreat
open Go.RowKit Go.Maps Go.Shelf

attribute [local go_sem ↓] Go.wp_at_zero Go.wp_at_succ

theorem rlog_same {X : Nat → Prop} {w w' : World} {W : WM} {a : Option Addr} {n c : Nat} {R : List FR} (hR : RowF X w a n c R) (hX : ∀ b, X b → b < w.heap.size) (hfs : R.map FR.f = W.D.fs) (hb : Below w.heap.size w w') (k : Int) :
  RLogEnd X w (W, k) (.returned (.tuple #[logV (W.D.room : Int) a n c (W.D.plan : Int) W.D.down W.most (W.n : Int) (W.size : Int) (W.wait : Int), .int .i64 k])) w' :=
 ⟨a, n, c, R, rfl, (hR.below hX hb).mono (fun _ _ => rfl) (fun b h => ⟨.inl h, Nat.lt_of_lt_of_le (hX b h) hb.size⟩), hfs, hb⟩

set_option maxRecDepth 100000 in
set_option maxHeartbeats 12800000 in
theorem rput_zero {X : Nat → Prop} {w : World} {v : Value} {W : WM} (h : RLogAt X w v W) (hX : ∀ b, X b → b < w.heap.size) (hle : W.D.plan ≤ 9223372036854775807) (hs : Sorted W.D.fs) (hub : usedF W.D.fs ≤ 100000000) (h1 : 1 ≤ W.n) (hN : W.n ≤ 99999999) (hz0 : W.size = 0) (hk : W.wait ≤ 1000000000) (p : Option Addr) (m cp : Nat) (l : List Nat) (hB : Bytes w p m cp l) :
  Calls Tryz.prog 29 #[v, .slice p m cp] w (RLogEnd X w (putW W l)) := by
 obtain ⟨a, n, c, R, rfl, hR, hfs, hn⟩ := h
 obtain ⟨w2, hw2⟩ : ∃ w2, w2 = (w.alloc (logO (W.D.room : Int) a n c (W.D.plan : Int) W.D.down W.most (W.n : Int) (W.size : Int) (W.wait : Int))).alloc (.cells #[.int .i64 0, .slice none 0 0, .int .i64 0, .bool false, .int .i64 0, .int .i64 0, .int .i64 0, .int .i64 0] 47) := ⟨_, rfl⟩
 unfold logO at hw2
 have hb2 : Below w.heap.size w w2 := by rw [hw2]; exact ((Below.refl w.heap.size w).alloc (Nat.le_refl _) _).alloc (by simp) _
 have hz2 : w2.heap.size = w.heap.size + 2 := by rw [hw2]; simp
 have hB1 : w2.heap[w.heap.size]? = some (logO (W.D.room : Int) a n c (W.D.plan : Int) W.D.down W.most (W.n : Int) (W.size : Int) (W.wait : Int)) := by
  rw [hw2]; exact (Below.heap_alloc _ _ _ (by simp)).trans (heap_alloc_new _ _)
 have hB2 : w2.heap[w.heap.size + 1]? = some (.cells #[.int .i64 0, .slice none 0 0, .int .i64 0, .bool false, .int .i64 0, .int .i64 0, .int .i64 0, .int .i64 0] 47 (0, 0)) := by
  have := heap_alloc_new (w.alloc (logO (W.D.room : Int) a n c (W.D.plan : Int) W.D.down W.most (W.n : Int) (W.size : Int) (W.wait : Int))) (.cells #[.int .i64 0, .slice none 0 0, .int .i64 0, .bool false, .int .i64 0, .int .i64 0, .int .i64 0, .int .i64 0] 47)
  rw [hw2]
  rw [World.size_alloc] at this
  exact this
 unfold logO at hB1
 have hlen := hB.len
 have hmax := hB.max
 have HSame := Lib.hid (fun w' (hb : Below w.heap.size w w') k => rlog_same (W := W) hR hX hfs hb k)
 have HB2w := Lib.hid (hB.grow hb2)
 have HW2 := Lib.hid hw2
 have Hb2 := Lib.hid hb2
 have HB1 := Lib.hid hB1
 have HB2 := Lib.hid hB2
 have HX := Lib.hid hX
 have HR := Lib.hid hR
 have HFs := Lib.hid hfs
 have hsz : w.heap.size + 2 ≤ w2.heap.size := by omega
 obtain ⟨c0, c1, c2, c3, c4, c5, c6, c7, _⟩ := box8 hB1
 obtain ⟨z0, z1, z2, z3, z4, z5, z6, z7, zf⟩ := box8 hB2
 unfold logV
 by_cases hbig : 1048576 < m
 ·have e : putW W l = (W, 4) := by
   unfold putW
   rw [if_neg (by rintro rfl; simp at hlen; omega), if_pos (.inl (by omega))]
  rw [e]
  have HM := Lib.hid (rmake_no p m cp w2 hbig)
  have hm0 : ((m : Int) == 0) = false := by rw [beq_eq_false_iff_ne]; omega
  clear hR hX hfs hn hB1 hB2 hz2 hb2 hle hs hub h1 hN hB hlen e hk hz0
  go_enter Tryz.func29, Tryz.ntmps29
  go_wp2_with fail
  rw [← hw2]
  refine HM.out.mono ?_
  rintro e w' ⟨rfl, rfl⟩
  clear hw2
  go_wp2
  refine bodyPost_ret (v := .tuple #[logV (W.D.room : Int) a n c (W.D.plan : Int) W.D.down W.most (W.n : Int) (W.size : Int) (W.wait : Int), .int .i64 4]) ?_ rfl (HSame.out _ ?_ 4)
  ·rw [results_cell_tmp rfl]
   go_simp
   rfl
  ·exact ((((((((Hb2.out.setCell (by simp) _).setCell (by simp) _).setCell (by simp) _).setCell (by simp) _).setCell (by simp) _).setCell (by simp) _).setCell (by simp) _).setCell (by simp) _)
 ·have HM := Lib.hid (rmake_yes p m cp l w2 HB2w.out (by omega))
  have HBy := Lib.hid hB.byte
  have Hlen := Lib.hid hlen
  have Hz0 := Lib.hid hz0
  have HCtx := Lib.hid (And.intro hle (And.intro hs (And.intro hub (And.intro h1 hN))))
  have Hn := Lib.hid hn
  have Hk := Lib.hid hk
  have HZ2 := Lib.hid hz2
  clear hR hX hfs hn hB1 hB2 hz2 hb2 hle hs hub h1 hN hB hlen hk c0 c1 c2 c3 c4 c5 c6 c7 z0 z1 z2 z3 z4 z5 z6 z7 zf
  have hsz0 : ¬ (0 : Int) < (W.size : Int) := by omega
  clear hz0
  go_enter Tryz.func29, Tryz.ntmps29
  go_wp2_with fail
  rw [← hw2]
  refine HM.out.mono ?_
  rintro e w3 ⟨v, rfl, hown, hb⟩
  clear hw2
  have hll : l.length ≤ 1048576 := by rw [Hlen.out]; omega
  obtain ⟨q, cb, rfl, hq⟩ := own_slice hown (frameL_byte HBy.out (by omega))
  rw [frameL_len] at hq
  rw [frameL_len]
  have hbw : Below w.heap.size w w3 := Hb2.out.trans (hb.mono (by have := HZ2.out; omega))
  have Hbw := Lib.hid hbw
  have Hb := Lib.hid hb
  have HQ := Lib.hid hq
  obtain ⟨c0, c1, c2, c3, c4, c5, c6, c7, _⟩ := box8 ((hb.block w.heap.size (by omega)).trans HB1.out)
  obtain ⟨z0, z1, z2, z3, z4, z5, z6, z7, zf⟩ := box8 ((hb.block (w.heap.size + 1) (by omega)).trans HB2.out)
  have hsz3 : w.heap.size + 2 ≤ w3.heap.size := by have := hb.size; omega
  clear hown hb hbw hq
  by_cases hm0 : m = 0
  ·have He := Lib.hid (show putW W l = (W, 2) from by
    have : l = [] := List.length_eq_zero_iff.1 (by rw [Hlen.out]; exact hm0)
    unfold putW
    rw [if_pos this])
   subst hm0
   go_wp2
   refine bodyPost_ret (v := .tuple #[logV (W.D.room : Int) a n c (W.D.plan : Int) W.D.down W.most (W.n : Int) (W.size : Int) (W.wait : Int), .int .i64 2]) ?_ rfl ?_
   ·rw [results_cell_tmp rfl]
    go_simp
    rfl
   ·rw [He.out]
    exact HSame.out _ ((((((((Hbw.out.setCell (by simp) _).setCell (by simp) _).setCell (by simp) _).setCell (by simp) _).setCell (by simp) _).setCell (by simp) _).setCell (by simp) _).setCell (by simp) _) 2
  ·have hz : ((m : Int) == 0) = false := by rw [beq_eq_false_iff_ne]; omega
   have hne : l ≠ [] := by rintro rfl; exact hm0 (by have := Hlen.out; simpa using this.symm)
   by_cases hmo : W.most < ((l.length + 8 : Nat) : Int)
   ·have He := Lib.hid (show putW W l = (W, 4) from by
     unfold putW
     rw [if_neg hne, if_pos (.inr hmo)])
    have hmo2 : W.most < (l.length : Int) + 8 := by omega
    clear hmo hne
    go_wp2
    refine bodyPost_ret (v := .tuple #[logV (W.D.room : Int) a n c (W.D.plan : Int) W.D.down W.most (W.n : Int) (W.size : Int) (W.wait : Int), .int .i64 4]) ?_ rfl ?_
    ·rw [results_cell_tmp rfl]
     go_simp
     rfl
    ·rw [He.out]
     exact HSame.out _ ((((((((Hbw.out.setCell (by simp) _).setCell (by simp) _).setCell (by simp) _).setCell (by simp) _).setCell (by simp) _).setCell (by simp) _).setCell (by simp) _).setCell (by simp) _) 4
   ·have hmo2 : ¬ W.most < (l.length : Int) + 8 := by omega
    have hput0 : putW W l = appW W l := by
     unfold putW
     rw [if_neg hne, if_neg (by omega), if_neg (by have := Hz0.out; omega)]
    rw [appW_eq] at hput0
    have Hput := Lib.hid hput0
    clear hput0
    obtain ⟨hle, hs, hub, h1, hN⟩ := HCtx.out
    have hR3 := HR.out.below HX.out Hbw.out
    have hX3 : ∀ b, X b → b < w3.heap.size := fun b h => Nat.lt_of_lt_of_le (HX.out b h) Hbw.out.size
    have HX3 := Lib.hid hX3
    have HNm := Lib.hid (fun W1 => rname_any (W.D.room : Int) a n c (W.D.plan : Int) W.D.down W.most W.n (W.size : Int) (W.wait : Int) W1 h1 hN)
    have HDo := Lib.hid (fun W1 (hb1 : Below w3.heap.size w3 W1) => rdo_all (X := X) (w := W1) (M := W.D) ⟨a, n, c, R, rfl, hR3.below hX3 hb1, HFs.out, Hn.out⟩ (fun b h => Nat.lt_of_lt_of_le (hX3 b h) hb1.size) hle hs 2 (by omega) (nmB W.n) [] (by unfold nmB; rw [List.length_map, nameL_len]; decide) (by decide) q (l.length + 8) cb (frameL l) (fun W2 hW2 => HQ.out.grow (hb1.trans (hW2.mono hb1.size))) hub (by omega))
    have e3 : stepM 2 (nmB W.n) [] (frameL l) W.D = appendM (nmB W.n) (frameL l) W.D := rfl
    rw [e3] at HDo
    unfold opV refV at HDo
    unfold logV at HNm
    have HK := Lib.hid (fun W1 (hb1 : Below w3.heap.size w3 W1) => box8 ((hb1.block w.heap.size (by omega)).trans ((Hb.out.block w.heap.size (by omega)).trans HB1.out)))
    have HK2 := Lib.hid (fun W1 (hb1 : Below w3.heap.size w3 W1) => box8 ((hb1.block (w.heap.size + 1) (by omega)).trans ((Hb.out.block (w.heap.size + 1) (by omega)).trans HB2.out)))
    have HS := Lib.hid (fun W1 (hb1 : Below w3.heap.size w3 W1) => (show W1.cell? ⟨w.heap.size, 0, none⟩ = some (.int .i64 (W.D.room : Int)) ∧ W1.cell? ⟨w.heap.size, 1, none⟩ = some (.slice a n c) ∧ W1.cell? ⟨w.heap.size, 2, none⟩ = some (.int .i64 (W.D.plan : Int)) ∧ W1.cell? ⟨w.heap.size, 3, none⟩ = some (.bool W.D.down) ∧ W1.cell? ⟨w.heap.size, 4, none⟩ = some (.int .i64 W.most) ∧ W1.cell? ⟨w.heap.size, 5, none⟩ = some (.int .i64 (W.n : Int)) ∧ W1.cell? ⟨w.heap.size, 6, none⟩ = some (.int .i64 (W.size : Int)) ∧ W1.cell? ⟨w.heap.size, 7, none⟩ = some (.int .i64 (W.wait : Int)) from by
      obtain ⟨c0, c1, c2, c3, c4, c5, c6, c7, _⟩ := HK.out W1 hb1
      exact ⟨c0, c1, c2, c3, c4, c5, c6, c7⟩))
    have Hll := Lib.hid hll
    have hs1 : (W.size : Int) ≤ 1000000000 := by have := Hz0.out; omega
    have hs2 : (l.length : Int) ≤ 1048576 := by omega
    have hk1 : (W.wait : Int) ≤ 1000000000 := by have := Hk.out; omega
    clear hR3 hX3 hle hs hub h1 hN hmo hne e3 hll
    generalize hr : appendM (nmB W.n) (frameL l) W.D = r at *
    have Hr := Lib.hid hr
    clear hr
    go_upto_region 11 with fail
    clear c0 c1 c2 c3 c4 c5 c6 c7 z0 z1 z2 z3 z4 z5 z6 z7 zf
    go_cut [10, 11] (fun t4 t5 wx => DoCut X w3 r t4 t5 wx)
    case first =>
     go_region_held3 (fun w' => w'.cell? ⟨w.heap.size, 0, none⟩ = some (.int .i64 (W.D.room : Int)) ∧ w'.cell? ⟨w.heap.size, 1, none⟩ = some (.slice a n c) ∧ w'.cell? ⟨w.heap.size, 2, none⟩ = some (.int .i64 (W.D.plan : Int)) ∧ w'.cell? ⟨w.heap.size, 3, none⟩ = some (.bool W.D.down) ∧ w'.cell? ⟨w.heap.size, 4, none⟩ = some (.int .i64 W.most) ∧ w'.cell? ⟨w.heap.size, 5, none⟩ = some (.int .i64 (W.n : Int)) ∧ w'.cell? ⟨w.heap.size, 6, none⟩ = some (.int .i64 (W.size : Int)) ∧ w'.cell? ⟨w.heap.size, 7, none⟩ = some (.int .i64 (W.wait : Int)))
      (first | exact HS.out _ (by (repeat (first | assumption | exact Below.refl _ _ | refine Below.drew ?_ | refine Below.alloc ?_ (by (first | exact Nat.le_refl _ | (simp; done) | (simp; omega) | omega)) _ | refine Below.setCell ?_ (by (first | exact Nat.le_refl _ | (show _ ≤ _; omega) | (simp; done) | (simp; omega))) _))))
      (first
       | (go_at_call 75; (with_reducible refine (HNm.out _).mono ?_); rintro e w5 ⟨rfl, hb5⟩; have hb5w : Below w3.heap.size w3 w5 := Below.trans (by (repeat (first | assumption | exact Below.refl _ _ | refine Below.drew ?_ | refine Below.alloc ?_ (by (first | exact Nat.le_refl _ | (simp; done) | (simp; omega) | omega)) _ | refine Below.setCell ?_ (by (first | exact Nat.le_refl _ | (show _ ≤ _; omega) | (simp; done) | (simp; omega))) _))) (hb5.mono (by (first | exact Nat.le_refl _ | (simp; done) | (simp; omega) | omega))); have hb5z := hb5w.size; (try have hq3 := (hb5.block w3.heap.size (by show w3.heap.size < (w3.alloc _).heap.size; rw [World.size_alloc]; exact Nat.lt_succ_self _)).trans (heap_alloc_new w3 (.cells #[.int .i64 0, .slice none 0 0, .int .i64 0, .bool false] 25))); clear hb5)
       | (go_at_call 74; (with_reducible refine (HDo.out _ (by (repeat (first | assumption | exact Below.refl _ _ | refine Below.drew ?_ | refine Below.alloc ?_ (by (first | exact Nat.le_refl _ | (simp; done) | (simp; omega) | omega)) _ | refine Below.setCell ?_ (by (first | exact Nat.le_refl _ | (show _ ≤ _; omega) | (simp; done) | (simp; omega))) _)))).mono ?_); rintro e w6 ⟨a4, n4, c4, R4, rfl, hR4, hf4, hb6⟩; unfold refV; have hb6w : Below w3.heap.size w3 w6 := Below.trans (by (repeat (first | assumption | exact Below.refl _ _ | refine Below.drew ?_ | refine Below.alloc ?_ (by (first | exact Nat.le_refl _ | (simp; done) | (simp; omega) | omega)) _ | refine Below.setCell ?_ (by (first | exact Nat.le_refl _ | (show _ ≤ _; omega) | (simp; done) | (simp; omega))) _))) (hb6.mono (by (first | exact Nat.le_refl _ | (simp; done) | (simp; omega) | omega))); have hb6z := hb6w.size; (try have hq4 := (hb6.block w3.heap.size (Array.getElem?_eq_some_iff.1 hq3).1).trans hq3); (try have hq4 := (hb6.block w5.heap.size (by simp)).trans (heap_alloc_new w5 (.cells #[.int .i64 0, .slice none 0 0, .int .i64 0, .bool false] 25))); (first | (have hq5 := box4c hq4; obtain ⟨q0, q1, q2, q3, qf⟩ := hq5) | skip)))
     all_goals go_wp2_with fail
     all_goals go_meet
     ·exact doCut_new hb6w hb5z hR4 hf4
     ·exact doCut_set hb6w (Nat.le_succ_of_le hb5z) HX3.out (by rw [World.size_alloc] at hR4; exact hR4) hf4 hb5z (Nat.lt_succ_self _) hq4
     ·exact doCut_set hb6w hb5z HX3.out hR4 hf4 (Nat.le_refl _) (Array.getElem?_eq_some_iff.1 hq3).1 hq4
    case rest =>
     obtain ⟨B, a4, n4, c4, R4, rfl, rfl, hB, hBle, hR4, hf4, hb4⟩ := hcut
     obtain ⟨x0, x1, x2, x3, xf⟩ := box4c hB
     obtain ⟨c0, c1, c2, c3, c4', c5, c6, c7, cf⟩ := HK.out wc hb4
     obtain ⟨z0, z1, z2, z3, z4, z5, z6, z7, zf⟩ := HK2.out wc hb4
     have HR4 := Lib.hid hR4
     have HF4 := Lib.hid hf4
     have Hb6 := Lib.hid (Hbw.out.trans (hb4.mono Hbw.out.size))
     have hne1 : B ≠ w.heap.size := by omega
     have hne2 : B ≠ w.heap.size + 1 := by omega
     have hltc := hb4.size
     clear hB hR4 hf4 hb4
     have HP := Lib.hid (fun w' (hk : ∀ b, b ≠ w.heap.size → b ≠ w.heap.size + 1 → w'.heap[b]? = wc.heap[b]?) (hsz' : wc.heap.size ≤ w'.heap.size) => (show RowF (fun b => (X b ∨ w.heap.size ≤ b) ∧ b < w'.heap.size) w' a4 n4 c4 R4 from HR4.out.mono (fun b h => hk b (by rcases h.1 with h1 | h1; exact Nat.ne_of_lt (HX.out b h1); omega) (by rcases h.1 with h1 | h1; (have := HX.out b h1; omega); omega)) (fun b h => ⟨h.1.imp id (fun h1 => by omega), Nat.lt_of_lt_of_le h.2.2 hsz'⟩)))
     by_cases hc : r.2 = 0
     ·rw [if_pos hc, hc] at Hput
      rw [hc]
      clear hc
      go_wp2
      refine bodyPost_ret (v := .tuple #[logV (r.1.room : Int) a4 n4 c4 (r.1.plan : Int) r.1.down W.most (W.n : Int) ((W.size + (l.length + 8) : Nat) : Int) ((W.wait + 1 : Nat) : Int), .int .i64 0]) ?_ rfl ?_
      ·rw [results_cell_tmp rfl]
       go_simp
       rfl
      ·rw [Hput.out]
       refine ⟨a4, n4, c4, R4, rfl, HP.out _ (fun b h1 h2 => ?_) (by simp), HF4.out, ?_⟩
       ·rw [set_other h2, set_other h2, set_other h2, set_other h2, set_other h2, set_other h2, set_other h2, set_other h2, set_other h1, set_other h1, set_other h1, set_other h1, set_other h1, set_other h1]
       ·exact ((((((((((((((Hb6.out.setCell (by simp) _).setCell (by simp) _).setCell (by simp) _).setCell (by simp) _).setCell (by simp) _).setCell (by simp) _).setCell (by simp) _).setCell (by simp) _).setCell (by simp) _).setCell (by simp) _).setCell (by simp) _).setCell (by simp) _).setCell (by simp) _).setCell (by simp) _)
     ·rw [if_neg hc] at Hput
      have hc1 : (r.2 == 0) = false := by simpa using hc
      clear hc
      go_wp2
      refine bodyPost_ret (v := .tuple #[logV (r.1.room : Int) a4 n4 c4 (r.1.plan : Int) r.1.down W.most (W.n : Int) (W.size : Int) (W.wait : Int), .int .i64 r.2]) ?_ rfl ?_
      ·rw [results_cell_tmp rfl]
       go_simp
       rfl
      ·rw [Hput.out]
       refine ⟨a4, n4, c4, R4, rfl, HP.out _ (fun b h1 h2 => ?_) (by simp), HF4.out, ?_⟩
       ·rw [set_other h2, set_other h2, set_other h2, set_other h2, set_other h2, set_other h2, set_other h2, set_other h2, set_other h1, set_other h1, set_other h1, set_other h1]
       ·exact ((((((((((((Hb6.out.setCell (by simp) _).setCell (by simp) _).setCell (by simp) _).setCell (by simp) _).setCell (by simp) _).setCell (by simp) _).setCell (by simp) _).setCell (by simp) _).setCell (by simp) _).setCell (by simp) _).setCell (by simp) _).setCell (by simp) _)
end Go.Proofs.YtnbddiiedagllaaGreat

