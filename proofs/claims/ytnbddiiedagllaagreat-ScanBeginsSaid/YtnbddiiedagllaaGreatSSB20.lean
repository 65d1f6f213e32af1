import Derived.Test.YtnbddiiedagllaaGreatSSB16
import Derived.Test.YtnbddiiedagllaaGreatSSB15
import Derived.Test.YtnbddiiedagllaaGreatSSB18
import Derived.IntWalk
import Derived.Test.YtnbddiiedagllaaGreatSSB1
import Derived.RangeFuncBox
/- The walk of the reference's rotate. -/
namespace Go.Proofs.YtnbddiiedagllaaGreat
open Go.RowKit Go.Maps Go.Shelf

attribute [local go_sem ↓] Go.wp_at_zero Go.wp_at_succ

theorem uniq_sorted : ∀ (l : List F), Sorted l → ∀ x ∈ l, ∀ y ∈ l, x.n = y.n → x = y
 | [], _ => fun x hx => by cases hx
 | z :: r, h => by
  obtain ⟨h1, h2⟩ := List.pairwise_cons.1 h
  intro x hx y hy e
  rcases List.mem_cons.1 hx with hx1 | hx1
  ·rcases List.mem_cons.1 hy with hy1 | hy1
   ·rw [hx1, hy1]
   ·rw [hx1] at e
    exact absurd e (lt_ne (h1 y hy1))
  ·rcases List.mem_cons.1 hy with hy1 | hy1
   ·rw [hy1] at e
    exact absurd e.symm (lt_ne (h1 x hx1))
   ·exact uniq_sorted r h2 x hx1 y hy1 e

theorem set_sorted {l : List F} {f : F} {n : List UInt8} {k : Nat} (hs : Sorted l) (hf : findN F.n n l = some f) : Sorted (setN F.n ⟨n, f.b, k⟩ l) ∧ usedF (setN F.n ⟨n, f.b, k⟩ l) = usedF l := by
 obtain ⟨hfl, hfn⟩ := findN_some hf
 have hn : ∀ y : F, (if F.n y == n then (⟨n, f.b, k⟩ : F) else y).n = y.n := fun y => by
  by_cases e : y.n = n
  ·simp [e]
  ·simp [e]
 refine ⟨?_, ?_⟩
 ·unfold Sorted setN
  rw [List.pairwise_map]
  refine hs.imp ?_
  intro x y hxy
  show (if F.n x == n then (⟨n, f.b, k⟩ : F) else x).n < (if F.n y == n then (⟨n, f.b, k⟩ : F) else y).n
  rw [hn x, hn y]
  exact hxy
 ·unfold usedF setN
  rw [List.map_map]
  congr 1
  refine List.map_congr_left fun y hy => ?_
  show (if F.n y == n then (⟨n, f.b, k⟩ : F) else y).b.length = y.b.length
  by_cases e : y.n = n
  ·have : y = f := uniq_sorted l hs y hy f hfl (e.trans hfn.symm)
   subst this
   simp [e]
  ·simp [e]

theorem syncM_sorted (n : List UInt8) {M : DM} (hle : M.plan ≤ 9223372036854775807) (hs : Sorted M.fs) (hub : usedF M.fs ≤ 100000000) : (syncM n M).1.plan ≤ 9223372036854775807 ∧ Sorted (syncM n M).1.fs ∧ usedF (syncM n M).1.fs ≤ 100000000 := by
 have hf : (failM M).fs = M.fs := (failM_rm M).2
 have hp : (failM M).plan ≤ 9223372036854775807 := by
  unfold failM
  split
  ·exact hle
  ·split
   ·exact Nat.zero_le _
   ·exact Nat.le_trans (Nat.sub_le _ _) hle
 unfold syncM chgM onM
 split
 ·exact ⟨hp, by rw [hf]; exact hs, by rw [hf]; exact hub⟩
 ·split
  ·split
   ·exact ⟨hp, by rw [hf]; exact hs, by rw [hf]; exact hub⟩
   ·rename_i f hfd
    have h2 := set_sorted (k := f.b.length) (show Sorted (failM M).fs by rw [hf]; exact hs) hfd
    exact ⟨hp, h2.1, by show usedF (setN F.n _ (failM M).fs) ≤ _; rw [h2.2, hf]; exact hub⟩
  ·exact ⟨hp, by rw [hf]; exact hs, by rw [hf]; exact hub⟩

def DoCut9 (X : Nat → Prop) (w9 : World) (B : Nat) (s : DM × Int) (t5 : Value) (wx : World) : Prop :=
 ∃ a n c R, t5 = .int .i64 s.2 ∧ wx.heap[B]? = some (.cells #[.int .i64 (s.1.room : Int), .slice a n c, .int .i64 (s.1.plan : Int), .bool s.1.down] 25 (0, 0)) ∧
  RowF (fun b => (X b ∨ w9.heap.size ≤ b) ∧ b ≠ B ∧ b < wx.heap.size) wx a n c R ∧ R.map FR.f = s.1.fs ∧ (∀ b, b < w9.heap.size → b ≠ B → wx.heap[b]? = w9.heap[b]?) ∧ w9.heap.size ≤ wx.heap.size ∧ (∀ w0 : World, ∀ k, k ≤ B → Below k w0 w9 → Below k w0 wx)

set_option maxRecDepth 100000 in
set_option maxHeartbeats 12800000 in
theorem rrot_any {X : Nat → Prop} {w : World} {v : Value} {W : WM} (h : RLogAt X w v W) (hX : ∀ b, X b → b < w.heap.size) (hle : W.D.plan ≤ 9223372036854775807) (hs : Sorted W.D.fs) (hub : usedF W.D.fs ≤ 100000000) (h1 : 1 ≤ W.n) (hN : W.n ≤ 99999999) (hfl : W.D.fs.length ≤ 900000) :
  Calls Tryz.prog 73 #[v] w (RLogEnd X w (rotW W)) := by
 obtain ⟨a, n, c, R, rfl, hR, hfs, hn⟩ := h
 obtain ⟨w2, hw2⟩ : ∃ w2, w2 = (w.alloc (logO (W.D.room : Int) a n c (W.D.plan : Int) W.D.down W.most (W.n : Int) (W.size : Int) (W.wait : Int))).alloc (.cells #[.int .i64 0, .slice none 0 0, .int .i64 0, .bool false, .int .i64 0, .int .i64 0, .int .i64 0, .int .i64 0] 47) := ⟨_, rfl⟩
 unfold logO at hw2
 have hb2 : Below w.heap.size w w2 := by rw [hw2]; exact ((Below.refl w.heap.size w).alloc (Nat.le_refl _) _).alloc (by simp) _
 have hz2 : w2.heap.size = w.heap.size + 2 := by rw [hw2]; simp
 have hB1 : w2.heap[w.heap.size]? = some (logO (W.D.room : Int) a n c (W.D.plan : Int) W.D.down W.most (W.n : Int) (W.size : Int) (W.wait : Int)) := by
  rw [hw2]; exact (Below.heap_alloc _ _ _ (by simp)).trans (heap_alloc_new _ _)
 have hB2 : w2.heap[w.heap.size + 1]? = some (.cells #[.int .i64 0, .slice none 0 0, .int .i64 0, .bool false, .int .i64 0, .int .i64 0, .int .i64 0, .int .i64 0] 47 (0, 0)) := by
  have := heap_alloc_new (w.alloc (logO (W.D.room : Int) a n c (W.D.plan : Int) W.D.down W.most (W.n : Int) (W.size : Int) (W.wait : Int))) (.cells #[.int .i64 0, .slice none 0 0, .int .i64 0, .bool false, .int .i64 0, .int .i64 0, .int .i64 0, .int .i64 0] 47)
  rw [hw2]
  rw [World.size_alloc] at this
  exact this
 unfold logO at hB1
 have hR2 := hR.below hX hb2
 have hX2 : ∀ b, X b → b < w2.heap.size := fun b h => Nat.lt_of_lt_of_le (hX b h) hb2.size
 have HNm := Lib.hid (fun W1 => rname_any (W.D.room : Int) a n c (W.D.plan : Int) W.D.down W.most W.n (W.size : Int) (W.wait : Int) W1 h1 hN)
 have HDo := Lib.hid (fun W1 (hb : Below w2.heap.size w2 W1) => rdo_all (X := X) (w := W1) (M := W.D) ⟨a, n, c, R, rfl, hR2.below hX2 hb, hfs, hn⟩ (fun b h => Nat.lt_of_lt_of_le (hX2 b h) hb.size) hle hs 3 (by omega) (nmB W.n) [] (by unfold nmB; rw [List.length_map, nameL_len]; decide) (by decide) none 0 0 [] (fun W2 _ => bytes_nil W2) hub (by omega))
 have e3 : stepM 3 (nmB W.n) [] [] W.D = syncM (nmB W.n) W.D := rfl
 rw [e3] at HDo
 unfold opV refV at HDo
 unfold logV at HNm
 have HK := Lib.hid (fun W1 (hb : Below w2.heap.size w2 W1) => box8 ((hb.block _ (by omega)).trans hB1))
 have HS := Lib.hid (fun W1 (hb : Below w2.heap.size w2 W1) => (show W1.cell? ⟨w.heap.size, 0, none⟩ = some (.int .i64 (W.D.room : Int)) ∧ W1.cell? ⟨w.heap.size, 1, none⟩ = some (.slice a n c) ∧ W1.cell? ⟨w.heap.size, 2, none⟩ = some (.int .i64 (W.D.plan : Int)) ∧ W1.cell? ⟨w.heap.size, 3, none⟩ = some (.bool W.D.down) ∧ W1.cell? ⟨w.heap.size, 4, none⟩ = some (.int .i64 W.most) ∧ W1.cell? ⟨w.heap.size, 5, none⟩ = some (.int .i64 (W.n : Int)) ∧ W1.cell? ⟨w.heap.size, 6, none⟩ = some (.int .i64 (W.size : Int)) ∧ W1.cell? ⟨w.heap.size, 7, none⟩ = some (.int .i64 (W.wait : Int)) from by
  obtain ⟨c0, c1, c2, c3, c4, c5, c6, c7, _⟩ := box8 ((hb.block _ (by omega)).trans hB1)
  exact ⟨c0, c1, c2, c3, c4, c5, c6, c7⟩))
 have HSame := Lib.hid (fun w' (hb : Below w.heap.size w w') k => rlog_same (W := W) hR hX hfs hb k)
 have Hn4 := Lib.hid hn
 unfold logV
 have HW2 := Lib.hid hw2
 have Hb2 := Lib.hid hb2
 have Hz2 := Lib.hid hz2
 have HB1 := Lib.hid hB1
 have HB2 := Lib.hid hB2
 have HX := Lib.hid hX
 have HX2 := Lib.hid hX2
 have hsz : w.heap.size + 2 ≤ w2.heap.size := by omega
 clear hR hR2 hX2 hfs hn hX hB1 hB2 hz2 hb2 e3
 by_cases hlt : W.n < 99999999
 ·have Hrot := Lib.hid (rotW_eq W hlt)
  have hnlt : ¬ (99999999 : Int) ≤ (W.n : Int) := by omega
  have Hle2 := Lib.hid (syncM_sorted (nmB W.n) hle hs hub)
  have Hcnt := Lib.hid (syncM_count (nmB W.n) W.D)
  have Hlt := Lib.hid hlt
  have Hfl := Lib.hid hfl
  generalize hr : syncM (nmB W.n) W.D = r at *
  have Hr := Lib.hid hr
  clear hr hle hs hub hN h1 hfl hlt
  go_enter Tryz.func73, Tryz.ntmps73
  go_upto_region 3 with fail
  rw [← hw2]
  clear hw2
  go_cut [4, 5] (fun t4 t5 wx => DoCut X w2 r t4 t5 wx)
  case first =>
   go_region_held3 (fun w' => w'.cell? ⟨w.heap.size, 0, none⟩ = some (.int .i64 (W.D.room : Int)) ∧ w'.cell? ⟨w.heap.size, 1, none⟩ = some (.slice a n c) ∧ w'.cell? ⟨w.heap.size, 2, none⟩ = some (.int .i64 (W.D.plan : Int)) ∧ w'.cell? ⟨w.heap.size, 3, none⟩ = some (.bool W.D.down) ∧ w'.cell? ⟨w.heap.size, 4, none⟩ = some (.int .i64 W.most) ∧ w'.cell? ⟨w.heap.size, 5, none⟩ = some (.int .i64 (W.n : Int)) ∧ w'.cell? ⟨w.heap.size, 6, none⟩ = some (.int .i64 (W.size : Int)) ∧ w'.cell? ⟨w.heap.size, 7, none⟩ = some (.int .i64 (W.wait : Int)))
    (first | exact HS.out _ (by (repeat (first | assumption | exact Below.refl _ _ | refine Below.drew ?_ | refine Below.alloc ?_ (by (first | exact Nat.le_refl _ | (simp; done) | (simp; omega) | omega)) _ | refine Below.setCell ?_ (by (first | exact Nat.le_refl _ | (show _ ≤ _; omega) | (simp; done) | (simp; omega))) _))))
    (first
     | (go_at_call 75; (with_reducible refine (HNm.out _).mono ?_); rintro e w3 ⟨rfl, hb3⟩; have hb3w : Below w2.heap.size w2 w3 := Below.trans (by (repeat (first | assumption | exact Below.refl _ _ | refine Below.drew ?_ | refine Below.alloc ?_ (by (first | exact Nat.le_refl _ | (simp; done) | (simp; omega) | omega)) _ | refine Below.setCell ?_ (by (first | exact Nat.le_refl _ | (show _ ≤ _; omega) | (simp; done) | (simp; omega))) _))) (hb3.mono (by (first | exact Nat.le_refl _ | (simp; done) | (simp; omega) | omega))); have hb3z := hb3w.size; (try have hq3 := (hb3.block w2.heap.size (by show w2.heap.size < (w2.alloc _).heap.size; rw [World.size_alloc]; exact Nat.lt_succ_self _)).trans (heap_alloc_new w2 (.cells #[.int .i64 0, .slice none 0 0, .int .i64 0, .bool false] 25))); clear hb3)
     | (go_at_call 74; (with_reducible refine (HDo.out _ (by (repeat (first | assumption | exact Below.refl _ _ | refine Below.drew ?_ | refine Below.alloc ?_ (by (first | exact Nat.le_refl _ | (simp; done) | (simp; omega) | omega)) _ | refine Below.setCell ?_ (by (first | exact Nat.le_refl _ | (show _ ≤ _; omega) | (simp; done) | (simp; omega))) _)))).mono ?_); rintro e w4 ⟨a4, n4, c4, R4, rfl, hR4, hf4, hb4⟩; unfold refV; have hb4w : Below w2.heap.size w2 w4 := Below.trans (by (repeat (first | assumption | exact Below.refl _ _ | refine Below.drew ?_ | refine Below.alloc ?_ (by (first | exact Nat.le_refl _ | (simp; done) | (simp; omega) | omega)) _ | refine Below.setCell ?_ (by (first | exact Nat.le_refl _ | (show _ ≤ _; omega) | (simp; done) | (simp; omega))) _))) (hb4.mono (by (first | exact Nat.le_refl _ | (simp; done) | (simp; omega) | omega))); have hb4z := hb4w.size; (try have hq4 := (hb4.block w2.heap.size (Array.getElem?_eq_some_iff.1 hq3).1).trans hq3); (try have hq4 := (hb4.block w3.heap.size (by simp)).trans (heap_alloc_new w3 (.cells #[.int .i64 0, .slice none 0 0, .int .i64 0, .bool false] 25))); (first | (have hq5 := box4c hq4; obtain ⟨q0, q1, q2, q3, qf⟩ := hq5) | skip)))
   all_goals go_wp2_with fail
   all_goals go_meet
   ·exact doCut_new hb4w hb3z hR4 hf4
   ·exact doCut_set hb4w (Nat.le_succ_of_le hb3z) HX2.out (by rw [World.size_alloc] at hR4; exact hR4) hf4 hb3z (Nat.lt_succ_self _) hq4
   ·exact doCut_set hb4w hb3z HX2.out hR4 hf4 (Nat.le_refl _) (Array.getElem?_eq_some_iff.1 hq3).1 hq4
  case rest =>
   obtain ⟨wq, rfl⟩ : ∃ wq, wq = wc := ⟨_, rfl⟩
   obtain ⟨B, a4, n4, c4, R4, rfl, rfl, hB, hBle, hR4, hf4, hb4⟩ := hcut
   obtain ⟨x0, x1, x2, x3, xf⟩ := box4c hB
   obtain ⟨c0, c1, c2, c3, c4', c5, c6, c7, cf⟩ := HK.out wq hb4
   obtain ⟨z0, z1, z2, z3, z4, z5, z6, z7, zf⟩ := box8 ((hb4.block _ (by omega)).trans HB2.out)
   have HBc := Lib.hid hB
   have HBlt := Lib.hid (Array.getElem?_eq_some_iff.1 hB).1
   have HC1 := Lib.hid ((hb4.block w.heap.size (by omega)).trans HB1.out)
   have HC2 := Lib.hid ((hb4.block (w.heap.size + 1) (by omega)).trans HB2.out)
   have HR4 := Lib.hid hR4
   have HF4 := Lib.hid hf4
   have Hb4' := Lib.hid hb4
   have Hb4 := Lib.hid (Hb2.out.trans (hb4.mono Hb2.out.size))
   have hne1 : B ≠ w.heap.size := by omega
   have hne2 : B ≠ w.heap.size + 1 := by omega
   have hltc := hb4.size
   clear hB hR4 hf4 hb4
   have HP := Lib.hid (fun w' (hk : ∀ b, b ≠ w.heap.size → b ≠ w.heap.size + 1 → w'.heap[b]? = wq.heap[b]?) (hsz' : wq.heap.size ≤ w'.heap.size) => (show RowF (fun b => (X b ∨ w.heap.size ≤ b) ∧ b < w'.heap.size) w' a4 n4 c4 R4 from HR4.out.mono (fun b h => hk b (by rcases h.1 with h1 | h1; exact Nat.ne_of_lt (HX.out b h1); omega) (by rcases h.1 with h1 | h1; (have := HX.out b h1; omega); omega)) (fun b h => ⟨h.1.imp id (fun h1 => by omega), Nat.lt_of_lt_of_le h.2.2 hsz'⟩)))
   by_cases hc : r.2 = 0
   ·rw [if_pos hc, if_pos hc] at Hrot
    rw [hc]
    clear hc
    go_upto_region 9 with fail
    obtain ⟨w9, hw9⟩ : ∃ w9, w9 = ((((wq.setCell ⟨w.heap.size, 0, none⟩ (.int .i64 (r.1.room : Int))).setCell ⟨w.heap.size, 1, none⟩ (.slice a4 n4 c4)).setCell ⟨w.heap.size, 2, none⟩ (.int .i64 (r.1.plan : Int))).setCell ⟨w.heap.size, 3, none⟩ (.bool r.1.down)).alloc
     (.cells #[.int .i64 (r.1.room : Int), .slice a4 n4 c4, .int .i64 (r.1.plan : Int), .bool r.1.down, .int .i64 W.most, .int .i64 ((W.n : Int) + 1), .int .i64 (W.size : Int), .int .i64 (W.wait : Int)] 47) := ⟨_, rfl⟩
    rw [← hw9]
    have hb9c : Below w.heap.size wq w9 := by rw [hw9]; exact ((((((Below.refl w.heap.size wq).setCell (Nat.le_refl _) _).setCell (Nat.le_refl _) _).setCell (Nat.le_refl _) _).setCell (Nat.le_refl _) _).alloc (by simp; omega) _)
    have hz9 : w9.heap.size = wq.heap.size + 1 := by rw [hw9]; simp
    have hk9 : ∀ b, b ≠ w.heap.size → b < wq.heap.size → w9.heap[b]? = wq.heap[b]? := fun b h1 h2 => by
     rw [hw9, Below.heap_alloc _ _ _ (by simp; exact h2), set_other h1, set_other h1, set_other h1, set_other h1]
    have hn9 : w9.heap[wq.heap.size]? = some (.cells #[.int .i64 (r.1.room : Int), .slice a4 n4 c4, .int .i64 (r.1.plan : Int), .bool r.1.down, .int .i64 W.most, .int .i64 ((W.n : Int) + 1), .int .i64 (W.size : Int), .int .i64 (W.wait : Int)] 47 (0, 0)) := by
     rw [hw9]
     have := heap_alloc_new ((((wq.setCell ⟨w.heap.size, 0, none⟩ (.int .i64 (r.1.room : Int))).setCell ⟨w.heap.size, 1, none⟩ (.slice a4 n4 c4)).setCell ⟨w.heap.size, 2, none⟩ (.int .i64 (r.1.plan : Int))).setCell ⟨w.heap.size, 3, none⟩ (.bool r.1.down)) (.cells #[.int .i64 (r.1.room : Int), .slice a4 n4 c4, .int .i64 (r.1.plan : Int), .bool r.1.down, .int .i64 W.most, .int .i64 ((W.n : Int) + 1), .int .i64 (W.size : Int), .int .i64 (W.wait : Int)] 47)
     simp only [World.size_setCell] at this
     exact this
    have h19 : w9.heap[w.heap.size]? = some (.cells #[.int .i64 (r.1.room : Int), .slice a4 n4 c4, .int .i64 (r.1.plan : Int), .bool r.1.down, .int .i64 W.most, .int .i64 (W.n : Int), .int .i64 (W.size : Int), .int .i64 (W.wait : Int)] 47 (0, 0)) := by
     have h1 := set_head (i := 0) HC1.out (.int .i64 (r.1.room : Int))
     have h2 := set_head (i := 1) h1 (.slice a4 n4 c4)
     have h3 := set_head (i := 2) h2 (.int .i64 (r.1.plan : Int))
     have h4 := set_head (i := 3) h3 (.bool r.1.down)
     rw [hw9]
     refine (Below.heap_alloc _ _ _ (by simp; omega)).trans ?_
     simpa using h4
    have h29 := (hk9 (w.heap.size + 1) (by omega) (by omega)).trans HC2.out
    have hB9 := (hk9 B hne1 HBlt.out).trans HBc.out
    have hR9 : RowF (fun b => (X b ∨ w2.heap.size ≤ b) ∧ b ≠ B ∧ b < wq.heap.size) w9 a4 n4 c4 R4 := HR4.out.mono (fun b h => hk9 b (by rcases h.1 with h1 | h1; exact Nat.ne_of_lt (HX.out b h1); omega) h.2.2) (fun b h => h)
    have hX9 : ∀ b, (X b ∨ w2.heap.size ≤ b) ∧ b ≠ B ∧ b < wq.heap.size → b < w9.heap.size := fun b h => by have := h.2.2; omega
    have HN9 := Lib.hid (fun W1 => rname_any (r.1.room : Int) a4 n4 c4 (r.1.plan : Int) r.1.down W.most (W.n + 1) (W.size : Int) (W.wait : Int) W1 (by omega) (by have := Hlt.out; omega))
    have hn4 : n4 ≤ 1000000 := by
     have h1 := HR4.out.len
     have h2 := congrArg List.length HF4.out
     rw [Hcnt.out, List.length_map] at h2
     have := Hfl.out
     omega
    have HD9 := Lib.hid (fun W1 (hb1 : Below w9.heap.size w9 W1) => rdo_all (X := fun b => (X b ∨ w2.heap.size ≤ b) ∧ b ≠ B ∧ b < wq.heap.size) (w := W1) (M := r.1) ⟨a4, n4, c4, R4, rfl, hR9.below hX9 hb1, HF4.out, hn4⟩ (fun b h => Nat.lt_of_lt_of_le (hX9 b h) hb1.size) Hle2.out.1 Hle2.out.2.1 1 (by omega) (nmB (W.n + 1)) [] (by unfold nmB; rw [List.length_map, nameL_len]; decide) (by decide) none 0 0 [] (fun W2 _ => bytes_nil W2) Hle2.out.2.2 (by omega))
    have e9 : stepM 1 (nmB (W.n + 1)) [] [] r.1 = createM (nmB (W.n + 1)) r.1 := rfl
    rw [e9] at HD9
    unfold opV refV at HD9
    unfold logV at HN9
    have hcast : ((W.n + 1 : Nat) : Int) = (W.n : Int) + 1 := by omega
    rw [hcast] at HN9
    have HS9 := Lib.hid (fun W1 (hb : Below w9.heap.size w9 W1) => (show (W1.cell? ⟨w.heap.size, 0, none⟩ = some (.int .i64 (r.1.room : Int)) ∧ W1.cell? ⟨w.heap.size, 1, none⟩ = some (.slice a4 n4 c4) ∧ W1.cell? ⟨w.heap.size, 2, none⟩ = some (.int .i64 (r.1.plan : Int)) ∧ W1.cell? ⟨w.heap.size, 3, none⟩ = some (.bool r.1.down)) ∧ W1.cell? ⟨wq.heap.size, 0, none⟩ = some (.int .i64 (r.1.room : Int)) ∧ W1.cell? ⟨wq.heap.size, 1, none⟩ = some (.slice a4 n4 c4) ∧ W1.cell? ⟨wq.heap.size, 2, none⟩ = some (.int .i64 (r.1.plan : Int)) ∧ W1.cell? ⟨wq.heap.size, 3, none⟩ = some (.bool r.1.down) ∧ W1.cell? ⟨wq.heap.size, 4, none⟩ = some (.int .i64 W.most) ∧ W1.cell? ⟨wq.heap.size, 5, none⟩ = some (.int .i64 ((W.n : Int) + 1)) ∧ W1.cell? ⟨wq.heap.size, 6, none⟩ = some (.int .i64 (W.size : Int)) ∧ W1.cell? ⟨wq.heap.size, 7, none⟩ = some (.int .i64 (W.wait : Int)) from by
     obtain ⟨c0, c1, c2, c3, _⟩ := box8 ((hb.block w.heap.size (by omega)).trans h19)
     obtain ⟨d0, d1, d2, d3, d4, d5, d6, d7, _⟩ := box8 ((hb.block wq.heap.size (by omega)).trans hn9)
     exact ⟨⟨c0, c1, c2, c3⟩, d0, d1, d2, d3, d4, d5, d6, d7⟩))
    have HS9' := Lib.hid (fun W6 (hb : Below w9.heap.size w9 W6) (v0 v1 v2 v3 : Value) => (show (((((W6.setCell ⟨B, 0, none⟩ v0).setCell ⟨B, 1, none⟩ v1).setCell ⟨B, 2, none⟩ v2).setCell ⟨B, 3, none⟩ v3).cell? ⟨w.heap.size, 0, none⟩ = some (.int .i64 (r.1.room : Int)) ∧ ((((W6.setCell ⟨B, 0, none⟩ v0).setCell ⟨B, 1, none⟩ v1).setCell ⟨B, 2, none⟩ v2).setCell ⟨B, 3, none⟩ v3).cell? ⟨w.heap.size, 1, none⟩ = some (.slice a4 n4 c4) ∧ ((((W6.setCell ⟨B, 0, none⟩ v0).setCell ⟨B, 1, none⟩ v1).setCell ⟨B, 2, none⟩ v2).setCell ⟨B, 3, none⟩ v3).cell? ⟨w.heap.size, 2, none⟩ = some (.int .i64 (r.1.plan : Int)) ∧ ((((W6.setCell ⟨B, 0, none⟩ v0).setCell ⟨B, 1, none⟩ v1).setCell ⟨B, 2, none⟩ v2).setCell ⟨B, 3, none⟩ v3).cell? ⟨w.heap.size, 3, none⟩ = some (.bool r.1.down)) ∧ ((((W6.setCell ⟨B, 0, none⟩ v0).setCell ⟨B, 1, none⟩ v1).setCell ⟨B, 2, none⟩ v2).setCell ⟨B, 3, none⟩ v3).cell? ⟨wq.heap.size, 0, none⟩ = some (.int .i64 (r.1.room : Int)) ∧ ((((W6.setCell ⟨B, 0, none⟩ v0).setCell ⟨B, 1, none⟩ v1).setCell ⟨B, 2, none⟩ v2).setCell ⟨B, 3, none⟩ v3).cell? ⟨wq.heap.size, 1, none⟩ = some (.slice a4 n4 c4) ∧ ((((W6.setCell ⟨B, 0, none⟩ v0).setCell ⟨B, 1, none⟩ v1).setCell ⟨B, 2, none⟩ v2).setCell ⟨B, 3, none⟩ v3).cell? ⟨wq.heap.size, 2, none⟩ = some (.int .i64 (r.1.plan : Int)) ∧ ((((W6.setCell ⟨B, 0, none⟩ v0).setCell ⟨B, 1, none⟩ v1).setCell ⟨B, 2, none⟩ v2).setCell ⟨B, 3, none⟩ v3).cell? ⟨wq.heap.size, 3, none⟩ = some (.bool r.1.down) ∧ ((((W6.setCell ⟨B, 0, none⟩ v0).setCell ⟨B, 1, none⟩ v1).setCell ⟨B, 2, none⟩ v2).setCell ⟨B, 3, none⟩ v3).cell? ⟨wq.heap.size, 4, none⟩ = some (.int .i64 W.most) ∧ ((((W6.setCell ⟨B, 0, none⟩ v0).setCell ⟨B, 1, none⟩ v1).setCell ⟨B, 2, none⟩ v2).setCell ⟨B, 3, none⟩ v3).cell? ⟨wq.heap.size, 5, none⟩ = some (.int .i64 ((W.n : Int) + 1)) ∧ ((((W6.setCell ⟨B, 0, none⟩ v0).setCell ⟨B, 1, none⟩ v1).setCell ⟨B, 2, none⟩ v2).setCell ⟨B, 3, none⟩ v3).cell? ⟨wq.heap.size, 6, none⟩ = some (.int .i64 (W.size : Int)) ∧ ((((W6.setCell ⟨B, 0, none⟩ v0).setCell ⟨B, 1, none⟩ v1).setCell ⟨B, 2, none⟩ v2).setCell ⟨B, 3, none⟩ v3).cell? ⟨wq.heap.size, 7, none⟩ = some (.int .i64 (W.wait : Int)) from by
     have hne3 : wq.heap.size ≠ B := by have := HBlt.out; omega
     obtain ⟨c0, c1, c2, c3, _⟩ := box8 (w := (((W6.setCell ⟨B, 0, none⟩ v0).setCell ⟨B, 1, none⟩ v1).setCell ⟨B, 2, none⟩ v2).setCell ⟨B, 3, none⟩ v3) (by rw [set_other hne1.symm, set_other hne1.symm, set_other hne1.symm, set_other hne1.symm]; exact (hb.block w.heap.size (by omega)).trans h19)
     obtain ⟨d0, d1, d2, d3, d4, d5, d6, d7, _⟩ := box8 (w := (((W6.setCell ⟨B, 0, none⟩ v0).setCell ⟨B, 1, none⟩ v1).setCell ⟨B, 2, none⟩ v2).setCell ⟨B, 3, none⟩ v3) (by rw [set_other hne3, set_other hne3, set_other hne3, set_other hne3]; exact (hb.block wq.heap.size (by omega)).trans hn9)
     exact ⟨⟨c0, c1, c2, c3⟩, d0, d1, d2, d3, d4, d5, d6, d7⟩))
    have HB9 := Lib.hid (fun W1 (hb : Below w9.heap.size w9 W1) => box4c ((hb.block B (by have := HBlt.out; omega)).trans hB9))
    have HBh9 := Lib.hid (fun W1 (hb : Below w9.heap.size w9 W1) => (hb.block B (by have := HBlt.out; omega)).trans hB9)
    have H19 := Lib.hid h19
    have H29 := Lib.hid h29
    have HN89 := Lib.hid hn9
    have Hb9c := Lib.hid hb9c
    have HZ9 := Lib.hid hz9
    have hBc9 : B < w9.heap.size := by have := HBlt.out; omega
    have hBne : B ≠ wq.heap.size := by have := HBlt.out; omega
    clear hk9 hn9 h19 h29 hB9 hR9 hX9 hn4 e9 hcast hb9c x0 x1 x2 x3 xf c0 c1 c2 c3 c4' c5 c6 c7 cf z0 z1 z2 z3 z4 z5 z6 z7 zf
    have HW9 := Lib.hid hw9
    clear hw9
    generalize hs : createM (nmB (W.n + 1)) r.1 = s at *
    have Hs9 := Lib.hid hs
    clear hs
    go_cut [5] (fun t5 wx => DoCut9 (fun b => (X b ∨ w2.heap.size ≤ b) ∧ b < wq.heap.size) w9 B s t5 wx)
    case first =>
     go_region_held3 (fun w' => (w'.cell? ⟨w.heap.size, 0, none⟩ = some (.int .i64 (r.1.room : Int)) ∧ w'.cell? ⟨w.heap.size, 1, none⟩ = some (.slice a4 n4 c4) ∧ w'.cell? ⟨w.heap.size, 2, none⟩ = some (.int .i64 (r.1.plan : Int)) ∧ w'.cell? ⟨w.heap.size, 3, none⟩ = some (.bool r.1.down)) ∧ w'.cell? ⟨wq.heap.size, 0, none⟩ = some (.int .i64 (r.1.room : Int)) ∧ w'.cell? ⟨wq.heap.size, 1, none⟩ = some (.slice a4 n4 c4) ∧ w'.cell? ⟨wq.heap.size, 2, none⟩ = some (.int .i64 (r.1.plan : Int)) ∧ w'.cell? ⟨wq.heap.size, 3, none⟩ = some (.bool r.1.down) ∧ w'.cell? ⟨wq.heap.size, 4, none⟩ = some (.int .i64 W.most) ∧ w'.cell? ⟨wq.heap.size, 5, none⟩ = some (.int .i64 ((W.n : Int) + 1)) ∧ w'.cell? ⟨wq.heap.size, 6, none⟩ = some (.int .i64 (W.size : Int)) ∧ w'.cell? ⟨wq.heap.size, 7, none⟩ = some (.int .i64 (W.wait : Int)))
      (first | (refine HS9.out _ ?_; (repeat (first | assumption | exact Below.refl _ _ | refine Below.drew ?_ | refine Below.alloc ?_ (by (first | exact Nat.le_refl _ | (simp; done) | (simp; omega) | omega)) _ | refine Below.setCell ?_ (by (first | exact Nat.le_refl _ | (show _ ≤ _; omega) | (simp; done) | (simp; omega))) _)); done) | exact HS9'.out _ hb6w _ _ _ _)
      (first
       | (go_at_call 75; (with_reducible refine (HN9.out _).mono ?_); rintro e w5 ⟨rfl, hb5⟩; have hb5w : Below w9.heap.size w9 w5 := Below.trans (by (repeat (first | assumption | exact Below.refl _ _ | refine Below.drew ?_ | refine Below.alloc ?_ (by (first | exact Nat.le_refl _ | (simp; done) | (simp; omega) | omega)) _ | refine Below.setCell ?_ (by (first | exact Nat.le_refl _ | (show _ ≤ _; omega) | (simp; done) | (simp; omega))) _))) (hb5.mono (by (first | exact Nat.le_refl _ | (simp; done) | (simp; omega) | omega))); have hb5z := hb5w.size; clear hb5)
       | (go_at_call 74; (with_reducible refine (HD9.out _ (by (repeat (first | assumption | exact Below.refl _ _ | refine Below.drew ?_ | refine Below.alloc ?_ (by (first | exact Nat.le_refl _ | (simp; done) | (simp; omega) | omega)) _ | refine Below.setCell ?_ (by (first | exact Nat.le_refl _ | (show _ ≤ _; omega) | (simp; done) | (simp; omega))) _)))).mono ?_); rintro e w6 ⟨a5, n5, c5, R5, rfl, hR5, hf5, hb6⟩; unfold refV; have hb6w : Below w9.heap.size w9 w6 := Below.trans (by (repeat (first | assumption | exact Below.refl _ _ | refine Below.drew ?_ | refine Below.alloc ?_ (by (first | exact Nat.le_refl _ | (simp; done) | (simp; omega) | omega)) _ | refine Below.setCell ?_ (by (first | exact Nat.le_refl _ | (show _ ≤ _; omega) | (simp; done) | (simp; omega))) _))) (hb6.mono (by (first | exact Nat.le_refl _ | (simp; done) | (simp; omega) | omega))); have hb6z := hb6w.size; have hq6 := HB9.out _ hb6w; obtain ⟨q0, q1, q2, q3, qf⟩ := hq6))
     all_goals go_wp2_with fail
     all_goals go_meet
     all_goals
      have hBh := HBh9.out _ hb6w
      have s1 := set_head (i := 0) hBh (.int .i64 (s.1.room : Int))
      have s2 := set_head (i := 1) s1 (.slice a5 n5 c5)
      have s3 := set_head (i := 2) s2 (.int .i64 (s.1.plan : Int))
      have s4 := set_head (i := 3) s3 (.bool s.1.down)
      refine ⟨a5, n5, c5, R5, rfl, by simpa using s4, hR5.mono (fun b h => ?_) (fun b h => ⟨?_, ?_, by simp; exact h.2⟩), hf5, fun b h1 h2 => ?_, by simp; exact hb6z, fun w0 k hk h0 => ?_⟩
      ·have hne : b ≠ B := by
        rcases h.1 with h1 | h1
        ·exact h1.2.1
        ·omega
       rw [set_other hne, set_other hne, set_other hne, set_other hne]
      ·rcases h.1 with h1 | h1
       ·exact .inl ⟨h1.1, h1.2.2⟩
       ·exact .inr (by omega)
      ·rcases h.1 with h1 | h1
       ·exact h1.2.1
       ·omega
      ·rw [set_other h2, set_other h2, set_other h2, set_other h2]
       exact hb6w.block b h1
      ·exact ((((h0.trans (hb6w.mono (by omega))).setCell hk _).setCell hk _).setCell hk _).setCell hk _
    case rest =>
     obtain ⟨a5, n5, c5, R5, rfl, hB5, hR5, hf5, hk5, hz5, hbl⟩ := hcut
     obtain ⟨y0, y1, y2, y3, yf⟩ := box4c hB5
     obtain ⟨c0, c1, c2, c3, c4', c5', c6, c7, cf⟩ := box8 ((hk5 w.heap.size (by omega) (by omega)).trans H19.out)
     obtain ⟨z0, z1, z2, z3, z4, z5, z6, z7, zf⟩ := box8 ((hk5 (w.heap.size + 1) (by omega) (by omega)).trans H29.out)
     obtain ⟨n0, n1, n2, n3, n4', n5', n6, n7, nf⟩ := box8 ((hk5 wq.heap.size (by omega) (by omega)).trans HN89.out)
     have HR5 := Lib.hid hR5
     have HF5 := Lib.hid hf5
     have Hb5 := Lib.hid (hbl w w.heap.size (by omega) (Hb4.out.trans Hb9c.out))
     have hz9' := HZ9.out
     have hneq1 : wq.heap.size ≠ w.heap.size := by omega
     have hneq2 : wq.heap.size ≠ w.heap.size + 1 := by omega
     have hltq : wq.heap.size < wc.heap.size := by omega
     clear hB5 hR5 hf5 hk5 hz5 hbl
     have HP5 := Lib.hid (fun w' (hk : ∀ b, b ≠ w.heap.size → b ≠ w.heap.size + 1 → b ≠ wq.heap.size → w'.heap[b]? = wc.heap[b]?) (hsz' : wc.heap.size ≤ w'.heap.size) => (show RowF (fun b => (X b ∨ w.heap.size ≤ b) ∧ b < w'.heap.size) w' a5 n5 c5 R5 from HR5.out.mono (fun b h => hk b
       (by rcases h.1 with h1 | h1; (rcases h1.1 with h2 | h2; exact Nat.ne_of_lt (HX.out b h2); omega); omega)
       (by rcases h.1 with h1 | h1; (rcases h1.1 with h2 | h2; (have := HX.out b h2; omega); omega); omega)
       (by rcases h.1 with h1 | h1; (have := h1.2; omega); omega))
      (fun b h => ⟨by rcases h.1 with h1 | h1; exact h1.1.imp id (fun h2 => by omega); exact .inr (by omega), Nat.lt_of_lt_of_le h.2.2 hsz'⟩)))
     by_cases hc : s.2 = 0
     ·rw [if_pos hc, hc] at Hrot
      rw [hc]
      clear hc
      go_wp2
      refine bodyPost_ret (v := .tuple #[logV (s.1.room : Int) a5 n5 c5 (s.1.plan : Int) s.1.down W.most ((W.n + 1 : Nat) : Int) 0 0, .int .i64 0]) ?_ rfl ?_
      ·rw [results_cell_tmp rfl]
       go_simp
       rfl
      ·rw [Hrot.out]
       refine ⟨a5, n5, c5, R5, rfl, HP5.out _ (fun b h1 h2 h3 => ?_) (by simp), HF5.out, ?_⟩
       ·rw [set_other h2, set_other h2, set_other h2, set_other h2, set_other h2, set_other h2, set_other h2, set_other h2, set_other h3, set_other h3, set_other h3, set_other h3, set_other h3, set_other h3, set_other h1, set_other h1, set_other h1, set_other h1]
       ·exact ((((((((((((((((((Hb5.out.setCell (by first | (simp; done) | (simp; omega)) _).setCell (by first | (simp; done) | (simp; omega)) _).setCell (by first | (simp; done) | (simp; omega)) _).setCell (by first | (simp; done) | (simp; omega)) _).setCell (by first | (simp; done) | (simp; omega)) _).setCell (by first | (simp; done) | (simp; omega)) _).setCell (by first | (simp; done) | (simp; omega)) _).setCell (by first | (simp; done) | (simp; omega)) _).setCell (by first | (simp; done) | (simp; omega)) _).setCell (by first | (simp; done) | (simp; omega)) _).setCell (by first | (simp; done) | (simp; omega)) _).setCell (by first | (simp; done) | (simp; omega)) _).setCell (by first | (simp; done) | (simp; omega)) _).setCell (by first | (simp; done) | (simp; omega)) _).setCell (by first | (simp; done) | (simp; omega)) _).setCell (by first | (simp; done) | (simp; omega)) _).setCell (by first | (simp; done) | (simp; omega)) _).setCell (by first | (simp; done) | (simp; omega)) _)
     ·rw [if_neg hc] at Hrot
      have hc1 : (s.2 == 0) = false := by simpa using hc
      have hc2 : (s.2 != 0) = true := by simpa using hc
      clear hc
      go_wp2
      refine bodyPost_ret (v := .tuple #[logV (s.1.room : Int) a5 n5 c5 (s.1.plan : Int) s.1.down W.most (W.n : Int) (W.size : Int) (W.wait : Int), .int .i64 s.2]) ?_ rfl ?_
      ·rw [results_cell_tmp rfl]
       go_simp
       rfl
      ·rw [Hrot.out]
       refine ⟨a5, n5, c5, R5, rfl, HP5.out _ (fun b h1 h2 h3 => ?_) (by simp), HF5.out, ?_⟩
       ·rw [set_other h2, set_other h2, set_other h2, set_other h2, set_other h2, set_other h2, set_other h2, set_other h2, set_other h1, set_other h1, set_other h1, set_other h1]
       ·exact ((((((((((((Hb5.out.setCell (by first | (simp; done) | (simp; omega)) _).setCell (by first | (simp; done) | (simp; omega)) _).setCell (by first | (simp; done) | (simp; omega)) _).setCell (by first | (simp; done) | (simp; omega)) _).setCell (by first | (simp; done) | (simp; omega)) _).setCell (by first | (simp; done) | (simp; omega)) _).setCell (by first | (simp; done) | (simp; omega)) _).setCell (by first | (simp; done) | (simp; omega)) _).setCell (by first | (simp; done) | (simp; omega)) _).setCell (by first | (simp; done) | (simp; omega)) _).setCell (by first | (simp; done) | (simp; omega)) _).setCell (by first | (simp; done) | (simp; omega)) _)
   ·rw [if_neg hc, if_neg hc] at Hrot
    have hc1 : (r.2 == 0) = false := by simpa using hc
    have hc2 : (r.2 != 0) = true := by simpa using hc
    clear hc
    go_wp2
    refine bodyPost_ret (v := .tuple #[logV (r.1.room : Int) a4 n4 c4 (r.1.plan : Int) r.1.down W.most (W.n : Int) (W.size : Int) (W.wait : Int), .int .i64 r.2]) ?_ rfl ?_
    ·rw [results_cell_tmp rfl]
     go_simp
     rfl
    ·rw [Hrot.out]
     refine ⟨a4, n4, c4, R4, rfl, HP.out _ (fun b h1 h2 => ?_) (by simp), HF4.out, ?_⟩
     ·rw [set_other h2, set_other h2, set_other h2, set_other h2, set_other h2, set_other h2, set_other h2, set_other h2, set_other h1, set_other h1, set_other h1, set_other h1]
     ·exact ((((((((((((Hb4.out.setCell (by simp) _).setCell (by simp) _).setCell (by simp) _).setCell (by simp) _).setCell (by simp) _).setCell (by simp) _).setCell (by simp) _).setCell (by simp) _).setCell (by simp) _).setCell (by simp) _).setCell (by simp) _).setCell (by simp) _)
 ·have e : rotW W = (W, 2) := by unfold rotW; rw [if_pos (by omega)]
  rw [e]
  have hge : (99999999 : Int) ≤ (W.n : Int) := by omega
  obtain ⟨c0, c1, c2, c3, c4, c5, c6, c7, _⟩ := HK.out w2 (Below.refl _ _)
  obtain ⟨z0, z1, z2, z3, z4, z5, z6, z7, zf⟩ := box8 HB2.out
  clear hle hs hub h1 hN hfl hlt e
  go_enter Tryz.func73, Tryz.ntmps73
  go_upto_region 1 with fail
  rw [← hw2]
  clear hw2
  go_wp2
  refine bodyPost_ret (v := .tuple #[logV (W.D.room : Int) a n c (W.D.plan : Int) W.D.down W.most (W.n : Int) (W.size : Int) (W.wait : Int), .int .i64 2]) ?_ rfl (HSame.out _ ?_ 2)
  ·rw [results_cell_tmp rfl]
   go_simp
   rfl
  ·exact ((((((((Hb2.out.setCell (by simp) _).setCell (by simp) _).setCell (by simp) _).setCell (by simp) _).setCell (by simp) _).setCell (by simp) _).setCell (by simp) _).setCell (by simp) _)
end Go.Proofs.YtnbddiiedagllaaGreat

/- Disks as plain data: creating a file and appending to one keep the files in order. -/
namespace Go.Proofs.YtnbddiiedagllaaGreat
open Go.RowKit Go.Maps

theorem before_tri : ∀ a b : List UInt8, bytesBefore a b = true ∨ a = b ∨ bytesBefore b a = true
 | [], [] => .inr (.inl rfl)
 | [], _ :: _ => .inl rfl
 | _ :: _, [] => .inr (.inr rfl)
 | c :: r, c' :: r' => by
  have ih := before_tri r r'
  unfold bytesBefore
  rcases Nat.lt_trichotomy c.toNat c'.toNat with h | h | h
  ·left
   have : c < c' := UInt8.lt_iff_toNat_lt.2 h
   simp [this]
  ·have e : c = c' := UInt8.toNat_inj.1 h
   subst e
   rcases ih with h1 | h1 | h1
   ·left; simp [h1]
   ·right; left; rw [h1]
   ·right; right; simp [h1]
  ·right; right
   have : c' < c := UInt8.lt_iff_toNat_lt.2 h
   simp [this]

theorem insN_sorted (x : F) : ∀ l : List F, Sorted l → (∀ y ∈ l, y.n ≠ x.n) → Sorted (insN F.n x l)
 | [], _, _ => List.pairwise_singleton _ _
 | y :: r, hs, hne => by
  obtain ⟨h1, h2⟩ := List.pairwise_cons.1 hs
  unfold insN
  by_cases hb : bytesBefore x.n y.n = true
  ·rw [if_pos hb]
   have hxy := (before_lt x.n y.n).1 hb
   refine List.pairwise_cons.2 ⟨fun z hz => ?_, hs⟩
   rcases List.mem_cons.1 hz with hz1 | hz1
   ·rw [hz1]; exact hxy
   ·exact List.lt_trans hxy (h1 z hz1)
  ·rw [if_neg hb]
   have hyx : y.n < x.n := by
    rcases before_tri x.n y.n with h | h | h
    ·exact absurd h hb
    ·exact absurd h.symm (hne y (by simp))
    ·exact (before_lt y.n x.n).1 h
   refine List.pairwise_cons.2 ⟨fun z hz => ?_, insN_sorted x r h2 (fun z hz => hne z (by simp [hz]))⟩
   rcases (mem_insN F.n x r z).1 hz with hz1 | hz1
   ·rw [hz1]; exact hyx
   ·exact h1 z hz1

theorem insN_used (x : F) : ∀ l : List F, usedF (insN F.n x l) = x.b.length + usedF l
 | [] => by simp [insN, usedF]
 | y :: r => by
  have ih := insN_used x r
  unfold insN
  split
  ·simp [usedF]
  ·unfold usedF at ih ⊢
   rw [List.map_cons, List.sum_cons, ih, List.map_cons, List.sum_cons]
   omega

theorem failM_pl (M : DM) : (failM M).plan ≤ M.plan := by
 unfold failM
 split
 ·exact Nat.le_refl _
 ·split
  ·exact Nat.zero_le _
  ·exact Nat.sub_le _ _

theorem createM_sorted (n : List UInt8) {M : DM} (hle : M.plan ≤ 9223372036854775807) (hs : Sorted M.fs) (hub : usedF M.fs ≤ 100000000) : (createM n M).1.plan ≤ 9223372036854775807 ∧ Sorted (createM n M).1.fs ∧ usedF (createM n M).1.fs ≤ 100000000 := by
 have hf : (failM M).fs = M.fs := (failM_rm M).2
 have hp : (failM M).plan ≤ 9223372036854775807 := Nat.le_trans (failM_pl M) hle
 unfold createM chgM
 split
 ·exact ⟨hp, by rw [hf]; exact hs, by rw [hf]; exact hub⟩
 ·split
  ·dsimp only
   split
   ·exact ⟨hp, by rw [hf]; exact hs, by rw [hf]; exact hub⟩
   ·rename_i hnone
    have hd : delN F.n n (failM M).fs = (failM M).fs := delN_none hnone
    have hne := findN_none hnone
    refine ⟨hp, ?_, ?_⟩
    ·show Sorted (insN F.n ⟨n, [], 0⟩ (delN F.n n (failM M).fs))
     rw [hd]
     exact insN_sorted _ _ (by rw [hf]; exact hs) hne
    ·show usedF (insN F.n ⟨n, [], 0⟩ (delN F.n n (failM M).fs)) ≤ _
     rw [hd, insN_used, hf]
     show 0 + usedF M.fs ≤ _
     omega
  ·exact ⟨hp, by rw [hf]; exact hs, by rw [hf]; exact hub⟩

theorem rotW_sorted (W : WM) (hle : W.D.plan ≤ 9223372036854775807) (hs : Sorted W.D.fs) (hub : usedF W.D.fs ≤ 100000000) : (rotW W).1.D.plan ≤ 9223372036854775807 ∧ Sorted (rotW W).1.D.fs ∧ usedF (rotW W).1.D.fs ≤ 100000000 := by
 by_cases hN : W.n < 99999999
 ·rw [rotW_eq W hN]
  obtain ⟨a1, a2, a3⟩ := syncM_sorted (nmB W.n) hle hs hub
  obtain ⟨b1, b2, b3⟩ := createM_sorted (nmB (W.n + 1)) a1 a2 a3
  split
  ·split
   ·exact ⟨b1, b2, b3⟩
   ·exact ⟨b1, b2, b3⟩
  ·exact ⟨a1, a2, a3⟩
 ·have e : rotW W = (W, 2) := by unfold rotW; rw [if_pos (by omega)]
  rw [e]
  exact ⟨hle, hs, hub⟩
end Go.Proofs.YtnbddiiedagllaaGreat

/- Slices of byte slices that a call has made itself. -/
namespace Go.Proofs.YtnbddiiedagllaaGreat
open Go.RowKit

def OwnParts (w : World) (base : Nat) (v : Value) (ls : List (List Nat)) : Prop :=
 ∃ vs : List Value, vs.length = ls.length ∧ w.ownsRow base 58 1 v ls.length vs ∧
  ∀ i, i < ls.length → ∃ a n c, vs[i]? = some (.slice a n c) ∧ Bytes w a n c (ls.getD i []) ∧ (0 < n → ∀ x, a = some x → some x.block ≠ v.ownBlock)

theorem OwnParts.nil (w : World) (base : Nat) : OwnParts w base (.slice none 0 0) [] :=
 ⟨[], rfl, World.ownsRow_nil _ _ _ _, fun _ h => absurd h (Nat.not_lt_zero _)⟩

theorem Bytes.off {w w' : World} {a : Option Addr} {n c : Nat} {l : List Nat} (h : Bytes w a n c l) (hw : 0 < n → ∀ x, a = some x → x.block < w.heap.size → w'.heap[x.block]? = w.heap[x.block]?) : Bytes w' a n c l := by
 refine ⟨h.len, h.le, h.capmax, h.byte, h.nil, fun hn => ?_⟩
 obtain ⟨b, o, rfl, hc⟩ := h.cell hn
 refine ⟨b, o, rfl, fun i hi => ?_⟩
 have hlt := World.block_lt_of_cell? _ _ (hc i hi)
 rw [← hc i hi]
 exact World.cell?_of_block (hw hn ⟨b, o, none⟩ rfl hlt)

theorem OwnParts.grow {w w' : World} {base : Nat} {v : Value} {ls : List (List Nat)} (h : OwnParts w base v ls) (hb : Below w.heap.size w w') : OwnParts w' base v ls := by
 obtain ⟨vs, h1, h2, h3⟩ := h
 refine ⟨vs, h1, own_below h2 hb, fun i hi => ?_⟩
 obtain ⟨a, n, c, h4, h5, h6⟩ := h3 i hi
 exact ⟨a, n, c, h4, h5.grow hb, h6⟩

theorem OwnParts.parts {w : World} {base : Nat} {v : Value} {ls : List (List Nat)} (h : OwnParts w base v ls) : ∃ a cap, v = .slice a ls.length cap ∧ Parts w a ls.length cap ls := by
 obtain ⟨vs, h1, h2, h3⟩ := h
 rcases h2.2 with ⟨rfl, h0⟩ | ⟨g, cap, cur, rfl, hbg, hg, hle, hcm, hsz, htake⟩
 ·have e : ls = [] := List.length_eq_zero_iff.1 h0
  subst e
  exact ⟨none, 0, rfl, rfl, Nat.le_refl _, by omega, fun h => absurd h (Nat.lt_irrefl _)⟩
 ·rw [maxLen_nat] at hcm
  refine ⟨_, cap, rfl, rfl, hle, hcm, fun _ => ⟨g, 0, rfl, (Array.getElem?_eq_some_iff.1 hg).1, fun i hi => ?_⟩⟩
  obtain ⟨a, n, c, h4, h5, _⟩ := h3 i hi
  refine ⟨a, n, c, ?_, h5⟩
  rw [Nat.zero_add, cell_of_row w g i cur _ (0, 0) hg, ← h4, ← htake, List.getElem?_take, if_pos (by omega), Array.getElem?_toList]

theorem Bytes.not_box {w : World} {a : Option Addr} {n c B : Nat} {l : List Nat} {t : TypeId} {p : Option Addr} {m k : Nat} (h : Bytes w a n c l) (hn : 0 < n) (hB : Boxed w B t (.slice p m k)) : ∀ x, a = some x → x.block ≠ B := by
 rintro x rfl e
 obtain ⟨b, o, e2, hc⟩ := h.cell hn
 cases e2
 have h0 := hc 0 hn
 have e3 : b = B := e
 subst e3
 rw [cell_of_row w b (o + 0) #[.slice p m k] t (0, 0) hB] at h0
 cases o with
 | zero => cases h0
 | succ o => simp at h0

theorem info_rows : (Tryz.prog.info? 58).map (fun i => (i.zero, i.size, i.bytes)) = some (some (.slice none 0 0), 1, 24) := by kernel_rfl
end Go.Proofs.YtnbddiiedagllaaGreat

/- What the segments of a disk have, as plain data: the records of a log, and what a crash leaves of them. -/
namespace Go.Proofs.YtnbddiiedagllaaGreat
open Go.RowKit Go.Maps

def nmL (n : List UInt8) : List Nat := n.map UInt8.toNat

theorem nmL_nmB (i : Nat) : nmL (nmB i) = nameL i := by
 unfold nmL nmB
 rw [List.map_map]
 conv => rhs; rw [← List.map_id (nameL i)]
 refine List.map_congr_left (fun x hx => ?_)
 have := nameL_byte i x hx
 simp only [Function.comp, id, UInt8.toNat_ofNat']
 omega

def SegsOf (M : DM) (out : List Int) : Prop := Asc out ∧ ∀ x, x ∈ out ↔ NumsOf (M.fs.map fun f => nmL f.n) x

theorem segsOf_uniq {M : DM} {a b : List Int} (ha : SegsOf M a) (hb : SegsOf M b) : a = b :=
 asc_eq ha.1 hb.1 (fun x => by rw [ha.2 x, hb.2 x])

def upTo (n : Nat) : List Int := (List.range n).map fun i => ((i + 1 : Nat) : Int)

section
variable {W : WM} {B : List (List (List Nat))} {c : List (List Nat)}

theorem LInv.short (h : LInv W B c) : (∀ b ∈ B, ∀ r ∈ b, r.length ≤ 1048576) ∧ ∀ r ∈ c, r.length ≤ 1048576 :=
 ⟨fun b hb r hr => (h.recs r (List.mem_append.2 (.inl (List.mem_flatten.2 ⟨b, hb, hr⟩)))).2, fun r hr => (h.recs r (List.mem_append.2 (.inr hr))).2⟩

theorem cutF_full (i : Nat) (b : List (List Nat)) (k : Int) : cutF (fullF i b) k = fullF i b := by
 unfold cutF fullF
 simp

theorem sizeL_mono (c : List (List Nat)) {i j : Nat} (h : i ≤ j) : sizeL (c.take i) ≤ sizeL (c.take j) := by
 have e : c.take j = c.take i ++ (c.take j).drop i := by
  conv => lhs; rw [← List.take_append_drop i (c.take j), List.take_take, Nat.min_eq_left h]
 rw [e, sizeL_append]
 omega

theorem cut_at (c : List (List Nat)) (k : Nat) : ∀ j, j ≤ c.length → sizeL (c.take j) ≤ k → ∃ i, j ≤ i ∧ i ≤ c.length ∧ sizeL (c.take i) ≤ k ∧ (i < c.length → k < sizeL (c.take (i + 1)))
 | j, hj, hk => by
  by_cases h : j < c.length ∧ sizeL (c.take (j + 1)) ≤ k
  ·obtain ⟨i, h1, h2⟩ := cut_at c k (j + 1) h.1 h.2
   exact ⟨i, by omega, h2⟩
  ·exact ⟨j, Nat.le_refl _, hj, hk, fun hlt => by
    have : ¬ sizeL (c.take (j + 1)) ≤ k := fun q => h ⟨hlt, q⟩
    omega⟩
 termination_by j => c.length - j

end

def startW (room most : Int) : WM := ⟨(createM (nmB 1) (newM room)).1, most, 1, 0, 0⟩

theorem start_inv (room most : Int) : LInv (startW room most) [] [] ∧ (startW room most).D.room = room.toNat := by
 have e : createM (nmB 1) (newM room) = ({ newM room with fs := [⟨nmB 1, [], 0⟩] }, 0) := by
  unfold createM chgM
  rw [show failM (newM room) = newM room from rfl, nmB_named]
  rfl
 unfold startW
 rw [e]
 exact ⟨⟨rfl, by show (1 : Nat) ≤ _; omega, rfl, rfl, rfl, rfl, Nat.le_refl _, fun r hr => (by cases hr), fun b hb hbn => by
  have : b = [] := by simpa using hb
  exact absurd this hbn⟩, rfl⟩
end Go.Proofs.YtnbddiiedagllaaGreat

