import Derived.Test.YtnbddiiedagllaaGreatSSB16
import Derived.Test.YtnbddiiedagllaaGreatSSB20
import Derived.Test.YtnbddiiedagllaaGreatSSB18
import Derived.Test.YtnbddiiedagllaaGreatSSB15
import Derived.Test.YtnbddiiedagllaaGreatSSB17
import Derived.IntWalk
import Derived.Test.YtnbddiiedagllaaGreatSSB19
/- The walk of the reference's New. -/
namespace Go.Proofs.YtnbddiiedagllaaGreat
open Go.RowKit Go.Maps Go.Shelf

theorem nmB_one' : nmB 1 = [108, 111, 103, 45, 48, 48, 48, 48, 48, 48, 48, 49] := by decide +kernel

theorem row_alloc' {w : World} {b : Nat} {cs : Array Value} {t : TypeId} {m : Nat × Nat} (h : w.heap[b]? = some (.cells cs t m)) (o : Obj) (i : Nat) : (w.alloc o).cell? ⟨b, i, none⟩ = cs[i]? := by
 rw [World.cell?_of_block (Below.heap_alloc _ _ _ (Array.getElem?_eq_some_iff.1 h).1)]
 exact cell_of_row _ _ _ _ _ _ h

theorem frozen_alloc' {w : World} {b : Nat} {cs : Array Value} {t : TypeId} (h : w.heap[b]? = some (.cells cs t (0, 0))) (o : Obj) (i : Nat) : (w.alloc o).frozen? ⟨b, i, none⟩ = false := by
 have h1 : (w.alloc o).heap[b]? = some (.cells cs t (0, 0)) := (Below.heap_alloc _ _ _ (Array.getElem?_eq_some_iff.1 h).1).trans h
 simp [World.frozen?, h1]

theorem resultsN_one {fn : Func} {p : Tmp} {ty : TypeId} (h : fn.results = #[.cell p ty]) (tmps : Array Value) (P : Program) (w : World) :
  (results fn tmps).run P w = ((asAddr (tmps.getD p undef)).run P w).andThen fun a w₁ => (loadVar ty a).run P w₁ := by
 simp only [results, h]
 simp [Result.andThen]

end Go.Proofs.YtnbddiiedagllaaGreat

/- The walk of the reference's Put where the frame goes into the next segment. -/
namespace Go.Proofs.YtnbddiiedagllaaGreat
open Go.RowKit Go.Maps Go.Shelf

attribute [local go_sem ↓] Go.wp_at_zero Go.wp_at_succ

set_option maxRecDepth 100000 in
set_option maxHeartbeats 12800000 in
theorem rput_rot {X : Nat → Prop} {w : World} {v : Value} {W : WM} (h : RLogAt X w v W) (hX : ∀ b, X b → b < w.heap.size) (hle : W.D.plan ≤ 9223372036854775807) (hs : Sorted W.D.fs) (hub : usedF W.D.fs ≤ 100000000) (h1 : 1 ≤ W.n) (hN : W.n ≤ 99999999) (hz0 : 0 < W.size) (hzm : W.size ≤ 1000000000) (hk : W.wait ≤ 1000000000) (hfl : W.D.fs.length ≤ 900000) (p : Option Addr) (m cp : Nat) (l : List Nat) (hB : Bytes w p m cp l) (hfit : W.most < ((W.size + (l.length + 8) : Nat) : Int)) :
  Calls Tryz.prog 29 #[v, .slice p m cp] w (RLogEnd X w (putW W l)) := by
 obtain ⟨a, n, c, R, rfl, hR, hfs, hn⟩ := h
 obtain ⟨w2, hw2⟩ : ∃ w2, w2 = (w.alloc (logO (W.D.room : Int) a n c (W.D.plan : Int) W.D.down W.most (W.n : Int) (W.size : Int) (W.wait : Int))).alloc (.cells #[.int .i64 0, .slice none 0 0, .int .i64 0, .bool false, .int .i64 0, .int .i64 0, .int .i64 0, .int .i64 0] 47) := ⟨_, rfl⟩
 unfold logO at hw2
 have hb2 : Below w.heap.size w w2 := by rw [hw2]; exact ((Below.refl w.heap.size w).alloc (Nat.le_refl _) _).alloc (by simp) _
 have hz2 : w2.heap.size = w.heap.size + 2 := by rw [hw2]; simp
 have hB1 : w2.heap[w.heap.size]? = some (logO (W.D.room : Int) a n c (W.D.plan : Int) W.D.down W.most (W.n : Int) (W.size : Int) (W.wait : Int)) := by
  rw [hw2]; exact (Below.heap_alloc _ _ _ (by simp)).trans (heap_alloc_new _ _)
 have hB2 : w2.heap[w.heap.size + 1]? = some (.cells #[.int .i64 0, .slice none 0 0, .int .i64 0, .bool false, .int .i64 0, .int .i64 0, .int .i64 0, .int .i64 0] 47 (0, 0)) := by
  have := heap_alloc_new (w.alloc (logO (W.D.room : Int) a n c (W.D.plan : Int) W.D.down W.most (W.n : Int) (W.size : Int) (W.wait : Int))) (.cells #[.int .i64 0, .slice none 0 0, .int .i64 0, .bool false, .int .i64 0, .int .i64 0, .int .i64 0, .int .i64 0] 47)
  rw [hw2]
  rw [World.size_alloc] at this
  exact this
 unfold logO at hB1
 have hlen := hB.len
 have hmax := hB.max
 have HSame := Lib.hid (fun w' (hb : Below w.heap.size w w') k => rlog_same (W := W) hR hX hfs hb k)
 have HB2w := Lib.hid (hB.grow hb2)
 have HW2 := Lib.hid hw2
 have Hb2 := Lib.hid hb2
 have HB1 := Lib.hid hB1
 have HB2 := Lib.hid hB2
 have HX := Lib.hid hX
 have HR := Lib.hid hR
 have HFs := Lib.hid hfs
 have hsz : w.heap.size + 2 ≤ w2.heap.size := by omega
 obtain ⟨c0, c1, c2, c3, c4, c5, c6, c7, _⟩ := box8 hB1
 obtain ⟨z0, z1, z2, z3, z4, z5, z6, z7, zf⟩ := box8 hB2
 unfold logV
 by_cases hbig : 1048576 < m
 ·have e : putW W l = (W, 4) := by
   unfold putW
   rw [if_neg (by rintro rfl; simp at hlen; omega), if_pos (.inl (by omega))]
  rw [e]
  have HM := Lib.hid (rmake_no p m cp w2 hbig)
  have hm0 : ((m : Int) == 0) = false := by rw [beq_eq_false_iff_ne]; omega
  clear hR hX hfs hn hB1 hB2 hz2 hb2 hle hs hub h1 hN hB hlen e hk hz0
  go_enter Tryz.func29, Tryz.ntmps29
  go_wp2_with fail
  rw [← hw2]
  refine HM.out.mono ?_
  rintro e w' ⟨rfl, rfl⟩
  clear hw2
  go_wp2
  refine bodyPost_ret (v := .tuple #[logV (W.D.room : Int) a n c (W.D.plan : Int) W.D.down W.most (W.n : Int) (W.size : Int) (W.wait : Int), .int .i64 4]) ?_ rfl (HSame.out _ ?_ 4)
  ·rw [results_cell_tmp rfl]
   go_simp
   rfl
  ·exact ((((((((Hb2.out.setCell (by simp) _).setCell (by simp) _).setCell (by simp) _).setCell (by simp) _).setCell (by simp) _).setCell (by simp) _).setCell (by simp) _).setCell (by simp) _)
 ·have HM := Lib.hid (rmake_yes p m cp l w2 HB2w.out (by omega))
  have HBy := Lib.hid hB.byte
  have Hlen := Lib.hid hlen
  have Hz0 := Lib.hid hz0
  have HCtx := Lib.hid (And.intro hle (And.intro hs (And.intro hub (And.intro h1 hN))))
  have Hn := Lib.hid hn
  have Hk := Lib.hid hk
  have HZ2 := Lib.hid hz2
  clear hR hX hfs hn hB1 hB2 hz2 hb2 hle hs hub h1 hN hB hlen hk c0 c1 c2 c3 c4 c5 c6 c7 z0 z1 z2 z3 z4 z5 z6 z7 zf
  have hsz0 : (0 : Int) < (W.size : Int) := by omega
  have hfit2 : W.most < (W.size : Int) + ((l.length : Int) + 8) := by omega
  have Hfit := Lib.hid hfit
  have Hfl := Lib.hid hfl
  clear hz0 hfit hfl
  go_enter Tryz.func29, Tryz.ntmps29
  go_wp2_with fail
  rw [← hw2]
  refine HM.out.mono ?_
  rintro e w3 ⟨v, rfl, hown, hb⟩
  clear hw2
  have hll : l.length ≤ 1048576 := by rw [Hlen.out]; omega
  obtain ⟨q, cb, rfl, hq⟩ := own_slice hown (frameL_byte HBy.out (by omega))
  have Hqb := Lib.hid (fun x (hx : q = some x) => (hown.lt x.block (by rw [hx]; rfl)).1)
  rw [frameL_len] at hq
  rw [frameL_len]
  have hbw : Below w.heap.size w w3 := Hb2.out.trans (hb.mono (by have := HZ2.out; omega))
  have Hbw := Lib.hid hbw
  have Hb := Lib.hid hb
  have HQ := Lib.hid hq
  obtain ⟨c0, c1, c2, c3, c4, c5, c6, c7, _⟩ := box8 ((hb.block w.heap.size (by omega)).trans HB1.out)
  obtain ⟨z0, z1, z2, z3, z4, z5, z6, z7, zf⟩ := box8 ((hb.block (w.heap.size + 1) (by omega)).trans HB2.out)
  have hsz3 : w.heap.size + 2 ≤ w3.heap.size := by have := hb.size; omega
  clear hown hb hbw hq
  by_cases hm0 : m = 0
  ·have He := Lib.hid (show putW W l = (W, 2) from by
    have : l = [] := List.length_eq_zero_iff.1 (by rw [Hlen.out]; exact hm0)
    unfold putW
    rw [if_pos this])
   subst hm0
   go_wp2
   refine bodyPost_ret (v := .tuple #[logV (W.D.room : Int) a n c (W.D.plan : Int) W.D.down W.most (W.n : Int) (W.size : Int) (W.wait : Int), .int .i64 2]) ?_ rfl ?_
   ·rw [results_cell_tmp rfl]
    go_simp
    rfl
   ·rw [He.out]
    exact HSame.out _ ((((((((Hbw.out.setCell (by simp) _).setCell (by simp) _).setCell (by simp) _).setCell (by simp) _).setCell (by simp) _).setCell (by simp) _).setCell (by simp) _).setCell (by simp) _) 2
  ·have hz : ((m : Int) == 0) = false := by rw [beq_eq_false_iff_ne]; omega
   have hne : l ≠ [] := by rintro rfl; exact hm0 (by have := Hlen.out; simpa using this.symm)
   by_cases hmo : W.most < ((l.length + 8 : Nat) : Int)
   ·have He := Lib.hid (show putW W l = (W, 4) from by
     unfold putW
     rw [if_neg hne, if_pos (.inr hmo)])
    have hmo2 : W.most < (l.length : Int) + 8 := by omega
    clear hmo hne
    go_wp2
    refine bodyPost_ret (v := .tuple #[logV (W.D.room : Int) a n c (W.D.plan : Int) W.D.down W.most (W.n : Int) (W.size : Int) (W.wait : Int), .int .i64 4]) ?_ rfl ?_
    ·rw [results_cell_tmp rfl]
     go_simp
     rfl
    ·rw [He.out]
     exact HSame.out _ ((((((((Hbw.out.setCell (by simp) _).setCell (by simp) _).setCell (by simp) _).setCell (by simp) _).setCell (by simp) _).setCell (by simp) _).setCell (by simp) _).setCell (by simp) _) 4
   ·have hmo2 : ¬ W.most < (l.length : Int) + 8 := by omega
    have hput0 : putW W l = if (rotW W).2 ≠ 0 then rotW W else appW (rotW W).1 l := by
     unfold putW
     rw [if_neg hne, if_neg (by omega), if_pos (by have := Hfit.out; have := Hz0.out; omega)]
    have Hput := Lib.hid hput0
    clear hput0
    obtain ⟨hle, hs, hub, h1, hN⟩ := HCtx.out
    obtain ⟨hle', hs', hub', _, _⟩ := HCtx.out
    have hR3 := HR.out.below HX.out Hbw.out
    have hX3 : ∀ b, X b → b < w3.heap.size := fun b h => Nat.lt_of_lt_of_le (HX.out b h) Hbw.out.size
    have HX3 := Lib.hid hX3
    have HRot := Lib.hid (rrot_any (X := X) (w := w3) (W := W) ⟨a, n, c, R, rfl, hR3, HFs.out, Hn.out⟩ hX3 hle hs hub h1 hN Hfl.out)
    unfold logV at HRot
    have hsum : (W.size : Int) ≤ 1000000000 := by omega
    have hs2 : (l.length : Int) ≤ 1048576 := by omega
    clear hR3 hX3 hle hs hub h1 hN hmo hne
    have HFa := Lib.hid (rotW_facts W)
    have HSo := Lib.hid (rotW_sorted W hle' hs' hub')
    clear hle' hs' hub'
    generalize hr : rotW W = r at *
    have Hr := Lib.hid hr
    clear hr
    go_wp2_with fail
    refine HRot.out.mono ?_
    rintro e w4 ⟨a4, n4, k4, R4, rfl, hR4, hf4, hb4⟩
    unfold logV
    have HR4 := Lib.hid hR4
    have HF4 := Lib.hid hf4
    have Hb4 := Lib.hid hb4
    have Hb4w := Lib.hid (Hbw.out.trans (hb4.mono Hbw.out.size))
    have hbx := (hb4.block w.heap.size (by omega)).trans ((Hb.out.block w.heap.size (by omega)).trans HB1.out)
    have hbx2 := (hb4.block (w.heap.size + 1) (by omega)).trans ((Hb.out.block (w.heap.size + 1) (by omega)).trans HB2.out)
    have HBx := Lib.hid hbx
    have HBx2 := Lib.hid hbx2
    have e0 := fun o => row_alloc' hbx o 0
    have e1 := fun o => row_alloc' hbx o 1
    have e2 := fun o => row_alloc' hbx o 2
    have e3 := fun o => row_alloc' hbx o 3
    have e4 := fun o => row_alloc' hbx o 4
    have e5 := fun o => row_alloc' hbx o 5
    have e6 := fun o => row_alloc' hbx o 6
    have e7 := fun o => row_alloc' hbx o 7
    have ef := fun o i => frozen_alloc' hbx o i
    have g0 := fun o => row_alloc' hbx2 o 0
    have g1 := fun o => row_alloc' hbx2 o 1
    have g2 := fun o => row_alloc' hbx2 o 2
    have g3 := fun o => row_alloc' hbx2 o 3
    have g4 := fun o => row_alloc' hbx2 o 4
    have g5 := fun o => row_alloc' hbx2 o 5
    have g6 := fun o => row_alloc' hbx2 o 6
    have g7 := fun o => row_alloc' hbx2 o 7
    have gf := fun o i => frozen_alloc' hbx2 o i
    simp only [List.getElem?_toArray, List.getElem?_cons_zero, List.getElem?_cons_succ] at e0 e1 e2 e3 e4 e5 e6 e7 g0 g1 g2 g3 g4 g5 g6 g7
    clear hbx hbx2 c0 c1 c2 c3 c4 c5 c6 c7 z0 z1 z2 z3 z4 z5 z6 z7 zf
    have hsz4 := hb4.size
    clear hR4 hf4 hb4
    by_cases hc : r.2 = 0
    ·rw [hc]
     go_upto_region 11 with fail
     obtain ⟨w9, hw9⟩ : ∃ w9, w9 = (((((((((w4.alloc (.cells #[.int .i64 (r.1.D.room : Int), .slice a4 n4 k4, .int .i64 (r.1.D.plan : Int), .bool r.1.D.down, .int .i64 r.1.most, .int .i64 (r.1.n : Int), .int .i64 (r.1.size : Int), .int .i64 (r.1.wait : Int)] 47)).setCell ⟨w.heap.size, 0, none⟩ (.int .i64 (r.1.D.room : Int))).setCell ⟨w.heap.size, 1, none⟩ (.slice a4 n4 k4)).setCell ⟨w.heap.size, 2, none⟩ (.int .i64 (r.1.D.plan : Int))).setCell ⟨w.heap.size, 3, none⟩ (.bool r.1.D.down)).setCell ⟨w.heap.size, 4, none⟩ (.int .i64 r.1.most)).setCell ⟨w.heap.size, 5, none⟩ (.int .i64 (r.1.n : Int))).setCell ⟨w.heap.size, 6, none⟩ (.int .i64 (r.1.size : Int))).setCell ⟨w.heap.size, 7, none⟩ (.int .i64 (r.1.wait : Int))) := ⟨_, rfl⟩
     rw [← hw9]
     obtain ⟨fm, fr, ffl, fz, fnz⟩ := HFa.out
     obtain ⟨fn, fN, fs0, fw0⟩ := fz hc
     have hz9 : w9.heap.size = w4.heap.size + 1 := by rw [hw9]; simp
     have hk9 : ∀ b, b ≠ w.heap.size → b < w4.heap.size → w9.heap[b]? = w4.heap[b]? := fun b h1 h2 => by
      rw [hw9, set_other h1, set_other h1, set_other h1, set_other h1, set_other h1, set_other h1, set_other h1, set_other h1, Below.heap_alloc _ _ _ h2]
     have h19 : w9.heap[w.heap.size]? = some (.cells #[.int .i64 (r.1.D.room : Int), .slice a4 n4 k4, .int .i64 (r.1.D.plan : Int), .bool r.1.D.down, .int .i64 r.1.most, .int .i64 (r.1.n : Int), .int .i64 (r.1.size : Int), .int .i64 (r.1.wait : Int)] 47 (0, 0)) := by
      have h0 : (w4.alloc (.cells #[.int .i64 (r.1.D.room : Int), .slice a4 n4 k4, .int .i64 (r.1.D.plan : Int), .bool r.1.D.down, .int .i64 r.1.most, .int .i64 (r.1.n : Int), .int .i64 (r.1.size : Int), .int .i64 (r.1.wait : Int)] 47)).heap[w.heap.size]? = _ := (Below.heap_alloc _ _ _ (by omega)).trans HBx.out
      have h1 := set_head (i := 0) h0 (.int .i64 (r.1.D.room : Int))
      have h2 := set_head (i := 1) h1 (.slice a4 n4 k4)
      have h3 := set_head (i := 2) h2 (.int .i64 (r.1.D.plan : Int))
      have h4 := set_head (i := 3) h3 (.bool r.1.D.down)
      have h5 := set_head (i := 4) h4 (.int .i64 r.1.most)
      have h6 := set_head (i := 5) h5 (.int .i64 (r.1.n : Int))
      have h7 := set_head (i := 6) h6 (.int .i64 (r.1.size : Int))
      have h8 := set_head (i := 7) h7 (.int .i64 (r.1.wait : Int))
      rw [hw9]
      simpa using h8
     have h29 := (hk9 (w.heap.size + 1) (by omega) (by omega)).trans HBx2.out
     have hb49 : Below w.heap.size w w9 := by rw [hw9]; exact ((((((((Hb4w.out.alloc (by omega) _).setCell (by simp) _).setCell (by simp) _).setCell (by simp) _).setCell (by simp) _).setCell (by simp) _).setCell (by simp) _).setCell (by simp) _).setCell (by simp) _
     have hR9 : RowF (fun b => (X b ∨ w3.heap.size ≤ b) ∧ b < w4.heap.size) w9 a4 n4 k4 R4 := HR4.out.mono (fun b h => hk9 b (by rcases h.1 with h1 | h1; exact Nat.ne_of_lt (HX.out b h1); omega) h.2) (fun b h => h)
     have hX9 : ∀ b, (X b ∨ w3.heap.size ≤ b) ∧ b < w4.heap.size → b < w9.heap.size := fun b h => by have := h.2; omega
     have HX9 := Lib.hid hX9
     have HN9 := Lib.hid (fun W1 => rname_any (r.1.D.room : Int) a4 n4 k4 (r.1.D.plan : Int) r.1.D.down r.1.most r.1.n (r.1.size : Int) (r.1.wait : Int) W1 (by omega) (by omega))
     have hn4 : n4 ≤ 1000000 := by
      have h1 := HR4.out.len
      have h2 := congrArg List.length HF4.out
      rw [List.length_map] at h2
      have := HFa.out.2.2.1
      have := Hfl.out
      omega
     obtain ⟨so1, so2, so3⟩ := HSo.out
     have hQ9 : ∀ W1, Below w9.heap.size w9 W1 → Bytes W1 q (l.length + 8) cb (frameL l) := fun W1 hb1 => ((HQ.out.grow Hb4.out).off (fun _ x hx hlt => hk9 x.block (by have := Hqb.out x hx; omega) hlt)).grow hb1
     have HD9 := Lib.hid (fun W1 (hb1 : Below w9.heap.size w9 W1) => rdo_all (X := fun b => (X b ∨ w3.heap.size ≤ b) ∧ b < w4.heap.size) (w := W1) (M := r.1.D) ⟨a4, n4, k4, R4, rfl, hR9.below hX9 hb1, HF4.out, hn4⟩ (fun b h => Nat.lt_of_lt_of_le (hX9 b h) hb1.size) so1 so2 2 (by omega) (nmB r.1.n) [] (by unfold nmB; rw [List.length_map, nameL_len]; decide) (by decide) q (l.length + 8) cb (frameL l) (fun W2 hW2 => (hQ9 W1 hb1).grow hW2) so3 (by omega))
     have e9 : stepM 2 (nmB r.1.n) [] (frameL l) r.1.D = appendM (nmB r.1.n) (frameL l) r.1.D := rfl
     rw [e9] at HD9
     unfold opV refV at HD9
     unfold logV at HN9
     have HK := Lib.hid (fun W1 (hb1 : Below w9.heap.size w9 W1) => box8 ((hb1.block w.heap.size (by omega)).trans h19))
     have HK2 := Lib.hid (fun W1 (hb1 : Below w9.heap.size w9 W1) => box8 ((hb1.block (w.heap.size + 1) (by omega)).trans h29))
     have HS9 := Lib.hid (fun W1 (hb1 : Below w9.heap.size w9 W1) => (show W1.cell? ⟨w.heap.size, 0, none⟩ = some (.int .i64 (r.1.D.room : Int)) ∧ W1.cell? ⟨w.heap.size, 1, none⟩ = some (.slice a4 n4 k4) ∧ W1.cell? ⟨w.heap.size, 2, none⟩ = some (.int .i64 (r.1.D.plan : Int)) ∧ W1.cell? ⟨w.heap.size, 3, none⟩ = some (.bool r.1.D.down) ∧ W1.cell? ⟨w.heap.size, 4, none⟩ = some (.int .i64 r.1.most) ∧ W1.cell? ⟨w.heap.size, 5, none⟩ = some (.int .i64 (r.1.n : Int)) ∧ W1.cell? ⟨w.heap.size, 6, none⟩ = some (.int .i64 (r.1.size : Int)) ∧ W1.cell? ⟨w.heap.size, 7, none⟩ = some (.int .i64 (r.1.wait : Int)) from by
      obtain ⟨c0, c1, c2, c3, c4, c5, c6, c7, _⟩ := HK.out W1 hb1
      exact ⟨c0, c1, c2, c3, c4, c5, c6, c7⟩))
     have Hb9w := Lib.hid hb49
     have Hc := Lib.hid hc
     have Hll := Lib.hid hll
     have happ := appW_eq r.1 l
     have hfs0 : (r.1.size : Int) ≤ 1000000000 := by omega
     have hfw0 : (r.1.wait : Int) ≤ 1000000000 := by omega
     have HW9 := Lib.hid hw9
     have hz9' : w4.heap.size + 1 ≤ w9.heap.size := by omega
     clear hz9 hw9 hk9 h19 h29 hb49 hR9 hX9 hn4 so1 so2 so3 e9 hQ9 hc hll e0 e1 e2 e3 e4 e5 e6 e7 ef g0 g1 g2 g3 g4 g5 g6 g7 gf fm fr ffl fz fnz fn fN fs0 fw0
     generalize hs9 : appendM (nmB r.1.n) (frameL l) r.1.D = s at *
     have Happ := Lib.hid happ
     have Hs9 := Lib.hid hs9
     clear hs9 happ
     go_cut [10, 11] (fun t4 t5 wx => DoCut (fun b => (X b ∨ w3.heap.size ≤ b) ∧ b < w4.heap.size) w9 s t4 t5 wx)
     case first =>
      go_region_held3 (fun w' => w'.cell? ⟨w.heap.size, 0, none⟩ = some (.int .i64 (r.1.D.room : Int)) ∧ w'.cell? ⟨w.heap.size, 1, none⟩ = some (.slice a4 n4 k4) ∧ w'.cell? ⟨w.heap.size, 2, none⟩ = some (.int .i64 (r.1.D.plan : Int)) ∧ w'.cell? ⟨w.heap.size, 3, none⟩ = some (.bool r.1.D.down) ∧ w'.cell? ⟨w.heap.size, 4, none⟩ = some (.int .i64 r.1.most) ∧ w'.cell? ⟨w.heap.size, 5, none⟩ = some (.int .i64 (r.1.n : Int)) ∧ w'.cell? ⟨w.heap.size, 6, none⟩ = some (.int .i64 (r.1.size : Int)) ∧ w'.cell? ⟨w.heap.size, 7, none⟩ = some (.int .i64 (r.1.wait : Int)))
       (first | exact HS9.out _ (by (repeat (first | assumption | exact Below.refl _ _ | refine Below.drew ?_ | refine Below.alloc ?_ (by (first | exact Nat.le_refl _ | (simp; done) | (simp; omega) | omega)) _ | refine Below.setCell ?_ (by (first | exact Nat.le_refl _ | (show _ ≤ _; omega) | (simp; done) | (simp; omega))) _))))
       (first
        | (go_at_call 75; (with_reducible refine (HN9.out _).mono ?_); rintro e w5 ⟨rfl, hb5⟩; have hb5w : Below w9.heap.size w9 w5 := Below.trans (by (repeat (first | assumption | exact Below.refl _ _ | refine Below.drew ?_ | refine Below.alloc ?_ (by (first | exact Nat.le_refl _ | (simp; done) | (simp; omega) | omega)) _ | refine Below.setCell ?_ (by (first | exact Nat.le_refl _ | (show _ ≤ _; omega) | (simp; done) | (simp; omega))) _))) (hb5.mono (by (first | exact Nat.le_refl _ | (simp; done) | (simp; omega) | omega))); have hb5z := hb5w.size; (try have hq3 := (hb5.block w9.heap.size (by show w9.heap.size < (w9.alloc _).heap.size; rw [World.size_alloc]; exact Nat.lt_succ_self _)).trans (heap_alloc_new w9 (.cells #[.int .i64 0, .slice none 0 0, .int .i64 0, .bool false] 25))); clear hb5)
        | (go_at_call 74; (with_reducible refine (HD9.out _ (by (repeat (first | assumption | exact Below.refl _ _ | refine Below.drew ?_ | refine Below.alloc ?_ (by (first | exact Nat.le_refl _ | (simp; done) | (simp; omega) | omega)) _ | refine Below.setCell ?_ (by (first | exact Nat.le_refl _ | (show _ ≤ _; omega) | (simp; done) | (simp; omega))) _)))).mono ?_); rintro e w6 ⟨a5, n5, c5, R5, rfl, hR5, hf5, hb6⟩; unfold refV; have hb6w : Below w9.heap.size w9 w6 := Below.trans (by (repeat (first | assumption | exact Below.refl _ _ | refine Below.drew ?_ | refine Below.alloc ?_ (by (first | exact Nat.le_refl _ | (simp; done) | (simp; omega) | omega)) _ | refine Below.setCell ?_ (by (first | exact Nat.le_refl _ | (show _ ≤ _; omega) | (simp; done) | (simp; omega))) _))) (hb6.mono (by (first | exact Nat.le_refl _ | (simp; done) | (simp; omega) | omega))); have hb6z := hb6w.size; (try have hq4 := (hb6.block w9.heap.size (Array.getElem?_eq_some_iff.1 hq3).1).trans hq3); (try have hq4 := (hb6.block w5.heap.size (by simp)).trans (heap_alloc_new w5 (.cells #[.int .i64 0, .slice none 0 0, .int .i64 0, .bool false] 25))); (first | (have hq5 := box4c hq4; obtain ⟨q0, q1, q2, q3, qf⟩ := hq5) | skip)))
      all_goals go_wp2_with fail
      all_goals go_meet
      ·exact doCut_new hb6w hb5z hR5 hf5
      ·exact doCut_set hb6w (Nat.le_succ_of_le hb5z) HX9.out (by rw [World.size_alloc] at hR5; exact hR5) hf5 hb5z (Nat.lt_succ_self _) hq4
      ·exact doCut_set hb6w hb5z HX9.out hR5 hf5 (Nat.le_refl _) (Array.getElem?_eq_some_iff.1 hq3).1 hq4
     case rest =>
      obtain ⟨B, a5, n5, c5, R5, rfl, rfl, hB, hBle, hR5, hf5, hb5⟩ := hcut
      obtain ⟨x0, x1, x2, x3, xf⟩ := box4c hB
      obtain ⟨c0, c1, c2, c3, c4', c5', c6, c7, cf⟩ := HK.out wc hb5
      obtain ⟨z0, z1, z2, z3, z4, z5, z6, z7, zf⟩ := HK2.out wc hb5
      have HR5 := Lib.hid hR5
      have HF5 := Lib.hid hf5
      have Hb6 := Lib.hid (Hb9w.out.trans (hb5.mono (by omega)))
      have hne1 : B ≠ w.heap.size := by omega
      have hne2 : B ≠ w.heap.size + 1 := by omega
      have hltc := hb5.size
      clear hB hR5 hf5 hb5
      have HP := Lib.hid (fun w' (hk : ∀ b, b ≠ w.heap.size → b ≠ w.heap.size + 1 → w'.heap[b]? = wc.heap[b]?) (hsz' : wc.heap.size ≤ w'.heap.size) => (show RowF (fun b => (X b ∨ w.heap.size ≤ b) ∧ b < w'.heap.size) w' a5 n5 c5 R5 from HR5.out.mono (fun b h => hk b (by rcases h.1 with h1 | h1; (rcases h1.1 with h2 | h2; exact Nat.ne_of_lt (HX.out b h2); omega); omega) (by rcases h.1 with h1 | h1; (rcases h1.1 with h2 | h2; (have := HX.out b h2; omega); omega); omega)) (fun b h => ⟨by rcases h.1 with h1 | h1; exact h1.1.imp id (fun h2 => by omega); exact .inr (by omega), Nat.lt_of_lt_of_le h.2.2 hsz'⟩)))
      by_cases hc : s.2 = 0
      ·rw [if_pos hc, hc] at Happ
       rw [hc]
       clear hc
       go_wp2
       refine bodyPost_ret (v := .tuple #[logV (s.1.room : Int) a5 n5 c5 (s.1.plan : Int) s.1.down r.1.most (r.1.n : Int) ((r.1.size + (l.length + 8) : Nat) : Int) ((r.1.wait + 1 : Nat) : Int), .int .i64 0]) ?_ rfl ?_
       ·rw [results_cell_tmp rfl]
        go_simp
        rfl
       ·rw [Hput.out, if_neg (by rw [Hc.out]; simp), Happ.out]
        refine ⟨a5, n5, c5, R5, rfl, HP.out _ (fun b h1 h2 => ?_) (by simp), HF5.out, ?_⟩
        ·rw [set_other h2, set_other h2, set_other h2, set_other h2, set_other h2, set_other h2, set_other h2, set_other h2, set_other h1, set_other h1, set_other h1, set_other h1, set_other h1, set_other h1]
        ·exact ((((((((((((((Hb6.out.setCell (by simp) _).setCell (by simp) _).setCell (by simp) _).setCell (by simp) _).setCell (by simp) _).setCell (by simp) _).setCell (by simp) _).setCell (by simp) _).setCell (by simp) _).setCell (by simp) _).setCell (by simp) _).setCell (by simp) _).setCell (by simp) _).setCell (by simp) _)
      ·rw [if_neg hc] at Happ
       have hc1 : (s.2 == 0) = false := by simpa using hc
       clear hc
       go_wp2
       refine bodyPost_ret (v := .tuple #[logV (s.1.room : Int) a5 n5 c5 (s.1.plan : Int) s.1.down r.1.most (r.1.n : Int) (r.1.size : Int) (r.1.wait : Int), .int .i64 s.2]) ?_ rfl ?_
       ·rw [results_cell_tmp rfl]
        go_simp
        rfl
       ·rw [Hput.out, if_neg (by rw [Hc.out]; simp), Happ.out]
        refine ⟨a5, n5, c5, R5, rfl, HP.out _ (fun b h1 h2 => ?_) (by simp), HF5.out, ?_⟩
        ·rw [set_other h2, set_other h2, set_other h2, set_other h2, set_other h2, set_other h2, set_other h2, set_other h2, set_other h1, set_other h1, set_other h1, set_other h1]
        ·exact ((((((((((((Hb6.out.setCell (by simp) _).setCell (by simp) _).setCell (by simp) _).setCell (by simp) _).setCell (by simp) _).setCell (by simp) _).setCell (by simp) _).setCell (by simp) _).setCell (by simp) _).setCell (by simp) _).setCell (by simp) _).setCell (by simp) _)
    ·have hc1 : (r.2 == 0) = false := by simpa using hc
     have hc2 : (r.2 != 0) = true := by simpa using hc
     have Hc := Lib.hid hc
     clear hc
     go_wp2
     refine bodyPost_ret (v := .tuple #[logV (r.1.D.room : Int) a4 n4 k4 (r.1.D.plan : Int) r.1.D.down r.1.most (r.1.n : Int) (r.1.size : Int) (r.1.wait : Int), .int .i64 r.2]) ?_ rfl ?_
     ·rw [results_cell_tmp rfl]
      go_simp
      rfl
     ·rw [Hput.out, if_pos Hc.out]
      refine ⟨a4, n4, k4, R4, rfl, HR4.out.mono (fun b h => ?_) (fun b h => ?_), HF4.out, ?_⟩
      ·have h2 : b ≠ w.heap.size + 1 := by
        rcases h.1 with h1 | h1
        ·have := HX.out b h1; omega
        ·omega
       rw [set_other h2, set_other h2, set_other h2, set_other h2, set_other h2, set_other h2, set_other h2, set_other h2]
       exact Below.heap_alloc _ _ _ h.2
      ·refine ⟨h.1.imp id (fun h1 => by omega), ?_⟩
       simp only [World.size_setCell, World.size_alloc]
       omega
      ·exact (((((((((Hb4w.out.alloc (by omega) _).setCell (by simp) _).setCell (by simp) _).setCell (by simp) _).setCell (by simp) _).setCell (by simp) _).setCell (by simp) _).setCell (by simp) _).setCell (by simp) _)
end Go.Proofs.YtnbddiiedagllaaGreat

/- The reference's Put, whatever the log and the record are. -/
namespace Go.Proofs.YtnbddiiedagllaaGreat
open Go.RowKit Go.Maps Go.Shelf

theorem rwput_any {X : Nat → Prop} {w : World} {v : Value} {W : WM} (h : RLogAt X w v W) (hX : ∀ b, X b → b < w.heap.size) (hle : W.D.plan ≤ 9223372036854775807) (hs : Sorted W.D.fs) (hub : usedF W.D.fs ≤ 100000000) (h1 : 1 ≤ W.n) (hN : W.n ≤ 99999999) (hz : W.size ≤ 1000000000) (hk : W.wait ≤ 1000000000) (hfl : W.D.fs.length ≤ 900000)
  (p : Option Addr) (m cp : Nat) (l : List Nat) (hB : Bytes w p m cp l) :
  Calls Tryz.prog 29 #[v, .slice p m cp] w (RLogEnd X w (putW W l)) := by
 by_cases h0 : W.size = 0
 ·exact rput_zero h hX hle hs hub h1 hN h0 hk p m cp l hB
 ·by_cases hf : ((W.size + (l.length + 8) : Nat) : Int) ≤ W.most
  ·exact rput_fit h hX hle hs hub h1 hN (by omega) hz hk p m cp l hB hf
  ·exact rput_rot h hX hle hs hub h1 hN (by omega) hz hk hfl p m cp l hB (by omega)
end Go.Proofs.YtnbddiiedagllaaGreat

/- Many records that are put into a log, as plain data. -/
namespace Go.Proofs.YtnbddiiedagllaaGreat
open Go.RowKit Go.Maps

def takeP (most : Int) (ls : List (List Nat)) : List (List Nat) := ls.filter (okR most)

theorem takeP_next {most : Int} {ls : List (List Nat)} {j : Nat} (hj : j < ls.length) : takeP most (ls.take (j + 1)) = takeP most (ls.take j) ++ (if okR most ls[j] = true then [ls[j]] else []) := by
 unfold takeP
 rw [List.take_succ_eq_append_getElem hj, List.filter_append]
 congr 1
 by_cases h : okR most ls[j] = true
 ·simp [h]
 ·simp [h]

theorem sizeL_filter (p : List Nat → Bool) : ∀ ls : List (List Nat), sizeL (ls.filter p) ≤ sizeL ls
 | [] => Nat.le_refl _
 | l :: r => by
  have ih := sizeL_filter p r
  rw [List.filter_cons]
  split
  ·rw [sizeL_cons, sizeL_cons]; omega
  ·rw [sizeL_cons]; omega

theorem sizeL_snoc (ls : List (List Nat)) (l : List Nat) : sizeL (ls ++ [l]) = sizeL ls + (l.length + 8) := by
 rw [sizeL_append, sizeL_cons, sizeL_nil]

end Go.Proofs.YtnbddiiedagllaaGreat

/- The walk of the reference's Number of segments. -/
namespace Go.Proofs.YtnbddiiedagllaaGreat
open Go.RowKit

theorem sg_get {l : List Nat} (hl : ∀ x ∈ l, x < 256) : ∀ (k : Nat) (h : k < (str l).size), ((((str l)[k]'h).toNat : Nat) : Int) = ((l.getD k 0 : Nat) : Int) := by
 intro k h
 have hk : k < l.length := by rw [str_size] at h; exact h
 have h5 : k < (l.map UInt8.ofNat).length := by rw [List.length_map]; exact hk
 have e : (str l)[k]'h = UInt8.ofNat (l.getD k 0) := by
  rw [List.getD_eq_getElem?_getD, List.getElem?_eq_getElem hk]
  show ((l.map UInt8.ofNat).toArray)[k]'(by simpa using h5) = _
  rw [List.getElem_toArray]
  exact List.getElem_map _
 rw [e]
 have h4 : l.getD k 0 < 256 := by
  rw [List.getD_eq_getElem?_getD, List.getElem?_eq_getElem hk]
  exact hl _ (List.getElem_mem _)
 simp [UInt8.toNat_ofNat']
 simp at h4
 omega

def NumEnd (l : List Nat) (e : Ending) : Prop := e = .returned (.tuple #[.int .i64 ((segNum l : Nat) : Int), .bool (decide (0 < segNum l))])

theorem numEnd_no {l : List Nat} (h : segNum l = 0) : NumEnd l (.returned (.tuple #[.int .i64 0, .bool false])) := by
 unfold NumEnd
 rw [h]; rfl
theorem numEnd_yes {l : List Nat} {n : Nat} (h : segNum l = n) (hn : 0 < n) : NumEnd l (.returned (.tuple #[.int .i64 (n : Int), .bool true])) := by
 unfold NumEnd
 rw [h, decide_eq_true hn]

def midL (l : List Nat) (k : Nat) : List Nat := (l.take k).drop 4

theorem mid_next {l : List Nat} {k : Nat} (h4 : 4 ≤ k) (hk : k < l.length) : midL l (k + 1) = midL l k ++ [l.getD k 0] := by
 unfold midL
 rw [List.take_succ_eq_append_getElem hk, List.drop_append_of_le_length (by rw [List.length_take]; omega), List.getD_eq_getElem?_getD, List.getElem?_eq_getElem hk]
 rfl

theorem mid_len {l : List Nat} {k : Nat} (h4 : 4 ≤ k) (hk : k ≤ l.length) : (midL l k).length = k - 4 := by
 unfold midL
 rw [List.length_drop, List.length_take]; omega

theorem mid_val {l : List Nat} {k : Nat} (h4 : 4 ≤ k) (hk : k ≤ 12) (hl : l.length = 12) (hd : Digits (midL l k)) : valD (midL l k) 0 < 100000000 := by
 have h1 := (dig_valD (k - 4) (midL l k) (mid_len h4 (by omega)) hd).2
 have h2 : 10 ^ (k - 4) ≤ 10 ^ 8 := Nat.pow_le_pow_right (by omega) (by omega)
 omega

theorem digits_snoc {l : List Nat} {c : Nat} (h : Digits l) (h1 : 48 ≤ c) (h2 : c ≤ 57) : Digits (l ++ [c]) := by
 intro x hx
 rcases List.mem_append.1 hx with h3 | h3
 ·exact h x h3
 ·have : x = c := by simpa using h3
  omega

theorem no_digit {l : List Nat} {k : Nat} (h4 : 4 ≤ k) (hk : k < l.length) (hc : l.getD k 0 < 48 ∨ 57 < l.getD k 0) : segNum l = 0 := by
 unfold segNum
 rw [if_neg]
 rintro ⟨_, _, h3⟩
 have hm : l.getD k 0 ∈ l.drop 4 := by
  rw [List.getD_eq_getElem?_getD, List.getElem?_eq_getElem hk]
  refine List.mem_iff_getElem.2 ⟨k - 4, by rw [List.length_drop]; omega, ?_⟩
  rw [List.getElem_drop]
  congr 1
  omega
 have := h3 _ hm
 omega

def RnRel (l : List Nat) (n i : Value) : Prop := ∃ k : Nat, 4 ≤ k ∧ k ≤ 12 ∧ i = .int .i64 (k : Int) ∧ n = .int .i64 ((valD (midL l k) 0 : Nat) : Int) ∧ Digits (midL l k)

set_option maxRecDepth 100000 in
set_option maxHeartbeats 1600000 in
theorem rsegnum_12 (l : List Nat) (w : World) (hl : ∀ x ∈ l, x < 256) (hn : l.length = 12) :
  Calls Tryz.prog 99 #[.string (str l)] w fun e w' => NumEnd l e ∧ w = w' := by
 have hsz : (str l).size = 12 := by rw [str_size]; exact hn
 have hg := sg_get hl
 have HL := Lib.hid hl
 have HN := Lib.hid hn
 clear hl hn
 have Hst := Lib.hid (show RnRel l (.int .i64 0) (.int .i64 4) from ⟨4, by omega, by omega, rfl, by unfold midL; simp [valD], by unfold midL; intro c hc; simp at hc⟩)
 generalize hS : str l = S at *
 have HS := Lib.hid hS
 clear hS
 go_enter Tryz.func99, Tryz.ntmps99
 go_wp2
 go_loop [4, 5] (fun n i => RnRel l n i) (fun _ i => 12 - (intOf i).toNat)
 case atStart => exact Hst.out
 case round =>
  obtain ⟨k, h4, hk, rfl, rfl, hdg⟩ := hrel
  have hv := mid_val h4 hk HN.out hdg
  have Hdg := Lib.hid hdg
  clear hdg
  by_cases hlt : k < 12
  ·have hgk := hg k (by rw [hsz]; exact hlt)
   have hji : (k : Int) < (S.size : Int) := by omega
   have Hnx := Lib.hid (mid_next (l := l) h4 (by rw [HN.out]; exact hlt))
   have Hno := Lib.hid (no_digit (l := l) h4 (by rw [HN.out]; exact hlt))
   have hc8 : l.getD k 0 < 256 := by
    rw [List.getD_eq_getElem?_getD, List.getElem?_eq_getElem (by rw [HN.out]; exact hlt)]
    exact HL.out _ (List.getElem_mem _)
   have Hlt := Lib.hid hlt
   have H4 := Lib.hid h4
   generalize l.getD k 0 = c at *
   generalize hV : valD (midL l k) 0 = v at *
   have HV := Lib.hid hV
   clear hV hg
   by_cases c1 : c < 48
   ·go_wp2
    go_ret2
    exact ⟨numEnd_no (Hno.out (.inl c1)), rfl⟩
   ·by_cases c2 : 57 < c
    ·go_wp2
     go_ret2
     exact ⟨numEnd_no (Hno.out (.inr c2)), rfl⟩
    ·have Hv := Lib.hid (show (((10 * v + (c - 48) : Nat)) : Int) = 10 * (v : Int) + ((c : Int) - 48) by omega)
     have Hc1 := Lib.hid c1
     have Hc2 := Lib.hid c2
     go_wp2
     go_round
     case rel =>
      refine ⟨k + 1, by omega, Hlt.out, by go_num, ?_, ?_⟩
      ·rw [Hnx.out, valD_snoc, HV.out, Hv.out]
      ·rw [Hnx.out]; exact digits_snoc Hdg.out (by have := Hc1.out; omega) (by have := Hc2.out; omega)
     case measure => simp [intOf]; have := Hlt.out; omega
  ·obtain rfl : k = 12 := by omega
   have HM := Lib.hid (show midL l 12 = l.drop 4 by unfold midL; rw [List.take_of_length_le (by have := HN.out; omega)])
   have HC := Lib.hid (rsegname_any ((valD (midL l 12) 0 : Nat) : Int) w)
   have Hx : ∀ n, valD (midL l 12) 0 = n → nameL n ≠ l → segNum l = 0 := by
    intro n hn hne
    unfold segNum
    rw [if_neg]
    intro hi
    have := name_segNum hi
    rw [← HM.out, hn] at this
    exact hne this
   have HX := Lib.hid Hx
   clear Hx hg
   generalize hV : valD (midL l 12) 0 = v at *
   have HV := Lib.hid hV
   clear hV
   go_wp2_with fail
   refine HC.out.mono ?_
   rintro e w' ⟨he, rfl⟩
   rcases he with ⟨g1, g2, rfl⟩ | ⟨g, rfl⟩
   ·rw [show ((v : Int)).toNat = v from by omega]
    by_cases heq : nameL v = l
    ·have Hf := Lib.hid (numEnd_yes (l := l) (n := v) (by rw [← heq]; exact segNum_name (by omega)) (by omega))
     have hq : ((str (nameL v)).toList == S.toList) = true := by rw [heq, HS.out]; exact beq_self_eq_true _
     generalize str (nameL v) = S2 at *
     clear heq
     go_wp2
     go_ret2
     exact ⟨Hf.out, rfl⟩
    ·have Hf := Lib.hid (numEnd_no (HX.out v rfl heq))
     have hq : ((str (nameL v)).toList == S.toList) = false := by rw [← HS.out]; exact str_ne (nameL_byte v) HL.out heq
     generalize str (nameL v) = S2 at *
     clear heq
     go_wp2
     go_ret2
     exact ⟨Hf.out, rfl⟩
   ·have hv0 : v = 0 := by omega
    have Hf := Lib.hid (numEnd_no (l := l) (by
     unfold segNum
     split
     ·rw [← HM.out, HV.out, hv0]
     ·rfl))
    clear g
    go_wp2
    go_ret2
    exact ⟨Hf.out, rfl⟩

theorem rsegnum_any (l : List Nat) (w : World) (hl : ∀ x ∈ l, x < 256) :
  Calls Tryz.prog 99 #[.string (str l)] w fun e w' => NumEnd l e ∧ w = w' := by
 by_cases hn : l.length = 12
 ·exact rsegnum_12 l w hl hn
 ·have Hf := Lib.hid (numEnd_no (l := l) (by
   unfold segNum
   rw [if_neg]
   rintro ⟨h1, h2, _⟩
   rw [List.length_drop] at h2
   omega))
  have hsz : (str l).size = l.length := str_size l
  have hne : (((str l).size : Int) != 12) = true := by rw [bne_iff_ne]; omega
  clear hl
  generalize str l = S at *
  go_enter Tryz.func99, Tryz.ntmps99
  go_wp2
  go_ret2
  exact ⟨Hf.out, rfl⟩
end Go.Proofs.YtnbddiiedagllaaGreat

