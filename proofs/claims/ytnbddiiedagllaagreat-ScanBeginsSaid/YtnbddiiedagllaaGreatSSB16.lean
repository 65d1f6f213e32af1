import Derived.Test.YtnbddiiedagllaaGreatSSB12
import Derived.Test.YtnbddiiedagllaaGreatSSB15
import Derived.Deep.RegionHeld
import Derived.Deep.RegionHeld3
import Derived.Deep.DrawnRows
import Derived.StillTailTactics
import Derived.Deep.DeepCutAuto
import Derived.Deep.CutBlock
/- The walks of the reference's logs: name, Sync, rotate, Put, New. -/
namespace Go.Proofs.YtnbddiiedagllaaGreat
open Go.RowKit Go.Maps Go.Shelf

attribute [local go_sem ↓] Go.wp_at_zero Go.wp_at_succ

def logV (ro : Int) (a : Option Addr) (n c : Nat) (pl : Int) (dn : Bool) (mo N S K : Int) : Value := .agg #[.int .i64 ro, .slice a n c, .int .i64 pl, .bool dn, .int .i64 mo, .int .i64 N, .int .i64 S, .int .i64 K]

def logO (ro : Int) (a : Option Addr) (n c : Nat) (pl : Int) (dn : Bool) (mo N S K : Int) : Obj := .cells #[.int .i64 ro, .slice a n c, .int .i64 pl, .bool dn, .int .i64 mo, .int .i64 N, .int .i64 S, .int .i64 K] 47

def RLogAt (X : Nat → Prop) (w : World) (v : Value) (W : WM) : Prop :=
 ∃ a n c R, v = logV (W.D.room : Int) a n c (W.D.plan : Int) W.D.down W.most (W.n : Int) (W.size : Int) (W.wait : Int) ∧ RowF X w a n c R ∧ R.map FR.f = W.D.fs ∧ n ≤ 1000000

def RLogEnd (X : Nat → Prop) (w : World) (r : WM × Int) (e : Ending) (w' : World) : Prop :=
 ∃ a n c R, e = .returned (.tuple #[logV (r.1.D.room : Int) a n c (r.1.D.plan : Int) r.1.D.down r.1.most (r.1.n : Int) (r.1.size : Int) (r.1.wait : Int), .int .i64 r.2]) ∧ RowF (fun b => (X b ∨ w.heap.size ≤ b) ∧ b < w'.heap.size) w' a n c R ∧ R.map FR.f = r.1.D.fs ∧ Below w.heap.size w w'

theorem rname_any (ro : Int) (a : Option Addr) (n c : Nat) (pl : Int) (dn : Bool) (mo : Int) (N : Nat) (S K : Int) (w : World) (h1 : 1 ≤ N) (hN : N ≤ 99999999) :
  Calls Tryz.prog 75 #[logV ro a n c pl dn mo (N : Int) S K] w fun e w' => e = .returned (encStr (nmB N)) ∧ Below w.heap.size w w' := by
 have HI := Lib.hid (fun w1 => rsegname_yes N w1 h1 hN)
 have Hb := Lib.hid ((Below.refl w.heap.size w).alloc (Nat.le_refl _) (logO ro a n c pl dn mo (N : Int) S K))
 unfold logO at Hb
 clear h1 hN
 unfold logV
 go_enter Tryz.func75, Tryz.ntmps75
 go_wp2_with fail
 refine (HI.out _).mono ?_
 rintro e w' ⟨rfl, rfl⟩
 go_wp2
 go_ret
 exact ⟨rfl, Hb.out⟩

theorem box8 {w : World} {B : Nat} {v0 v1 v2 v3 v4 v5 v6 v7 : Value} {t : TypeId} (h : w.heap[B]? = some (.cells #[v0, v1, v2, v3, v4, v5, v6, v7] t (0, 0))) :
  w.cell? ⟨B, 0, none⟩ = some v0 ∧ w.cell? ⟨B, 1, none⟩ = some v1 ∧ w.cell? ⟨B, 2, none⟩ = some v2 ∧ w.cell? ⟨B, 3, none⟩ = some v3 ∧ w.cell? ⟨B, 4, none⟩ = some v4 ∧ w.cell? ⟨B, 5, none⟩ = some v5 ∧ w.cell? ⟨B, 6, none⟩ = some v6 ∧ w.cell? ⟨B, 7, none⟩ = some v7 ∧ ∀ i, w.frozen? ⟨B, i, none⟩ = false := by
 refine ⟨?_, ?_, ?_, ?_, ?_, ?_, ?_, ?_, fun i => by simp [World.frozen?, h]⟩ <;> (rw [cell_of_row _ _ _ _ _ (0, 0) h]; rfl)

theorem box4c {w : World} {B : Nat} {v0 v1 v2 v3 : Value} {t : TypeId} (h : w.heap[B]? = some (.cells #[v0, v1, v2, v3] t (0, 0))) :
  w.cell? ⟨B, 0, none⟩ = some v0 ∧ w.cell? ⟨B, 1, none⟩ = some v1 ∧ w.cell? ⟨B, 2, none⟩ = some v2 ∧ w.cell? ⟨B, 3, none⟩ = some v3 ∧ ∀ i, w.frozen? ⟨B, i, none⟩ = false := by
 refine ⟨?_, ?_, ?_, ?_, fun i => by simp [World.frozen?, h]⟩ <;> (rw [cell_of_row _ _ _ _ _ (0, 0) h]; rfl)

def DoCut (X : Nat → Prop) (w2 : World) (r : DM × Int) (t4 t5 : Value) (wx : World) : Prop :=
 ∃ B a n c R, t4 = .pointer (some ⟨B, 0, none⟩) ∧ t5 = .int .i64 r.2 ∧ wx.heap[B]? = some (.cells #[.int .i64 (r.1.room : Int), .slice a n c, .int .i64 (r.1.plan : Int), .bool r.1.down] 25 (0, 0)) ∧ w2.heap.size ≤ B ∧
  RowF (fun b => (X b ∨ w2.heap.size ≤ b) ∧ b ≠ B ∧ b < wx.heap.size) wx a n c R ∧ R.map FR.f = r.1.fs ∧ Below w2.heap.size w2 wx

theorem set_other {w : World} {B i b : Nat} {v : Value} (h : b ≠ B) : (w.setCell ⟨B, i, none⟩ v).heap[b]? = w.heap[b]? := Below.heap_setCell w ⟨B, i, none⟩ v b h

theorem doCut_new {X : Nat → Prop} {w2 w4 : World} {N : Nat} {r : DM × Int} {a : Option Addr} {n c : Nat} {R : List FR} (hb : Below w2.heap.size w2 w4) (hN : w2.heap.size ≤ N) (hR : RowF (fun b => (X b ∨ N ≤ b) ∧ b < w4.heap.size) w4 a n c R) (hf : R.map FR.f = r.1.fs) :
  DoCut X w2 r (.pointer (some ⟨w4.heap.size, 0, none⟩)) (.int .i64 r.2) (w4.alloc (.cells #[.int .i64 (r.1.room : Int), .slice a n c, .int .i64 (r.1.plan : Int), .bool r.1.down] 25)) := by
 refine ⟨w4.heap.size, a, n, c, R, rfl, rfl, heap_alloc_new _ _, hb.size, hR.mono (fun b h => Below.heap_alloc _ _ _ h.2) (fun b h => ⟨h.1.imp id (fun h1 => Nat.le_trans hN h1), by omega, by rw [World.size_alloc]; omega⟩), hf, hb.alloc hb.size _⟩

theorem doCut_set {X : Nat → Prop} {w2 w4 : World} {N B : Nat} {v0 v1 v2 v3 : Value} {r : DM × Int} {a : Option Addr} {n c : Nat} {R : List FR} (hb : Below w2.heap.size w2 w4) (hN : w2.heap.size ≤ N) (hX : ∀ b, X b → b < w2.heap.size) (hR : RowF (fun b => (X b ∨ N ≤ b) ∧ b < w4.heap.size) w4 a n c R) (hf : R.map FR.f = r.1.fs)
  (hB : w2.heap.size ≤ B) (hBN : B < N) (hq : w4.heap[B]? = some (.cells #[v0, v1, v2, v3] 25 (0, 0))) :
  DoCut X w2 r (.pointer (some ⟨B, 0, none⟩)) (.int .i64 r.2) ((((w4.setCell ⟨B, 0, none⟩ (.int .i64 (r.1.room : Int))).setCell ⟨B, 1, none⟩ (.slice a n c)).setCell ⟨B, 2, none⟩ (.int .i64 (r.1.plan : Int))).setCell ⟨B, 3, none⟩ (.bool r.1.down)) := by
 refine ⟨B, a, n, c, R, rfl, rfl, ?_, hB, hR.mono (fun b h => ?_) (fun b h => ⟨h.1.imp id (fun h1 => Nat.le_trans hN h1), ?_, by simp; exact h.2⟩), hf, (((hb.setCell hB _).setCell hB _).setCell hB _).setCell hB _⟩
 ·have h1 := set_head (i := 0) hq (.int .i64 (r.1.room : Int))
  have h2 := set_head (i := 1) h1 (.slice a n c)
  have h3 := set_head (i := 2) h2 (.int .i64 (r.1.plan : Int))
  have h4 := set_head (i := 3) h3 (.bool r.1.down)
  simpa using h4
 ·have hne : b ≠ B := by
   rcases h.1 with h1 | h1
   ·have := hX b h1; omega
   ·omega
  repeat rw [Below.heap_setCell _ _ _ _ hne]
 ·rcases h.1 with h1 | h1
  ·have := hX b h1; omega
  ·omega

set_option maxRecDepth 100000 in
set_option maxHeartbeats 6400000 in
theorem rwsync_any {X : Nat → Prop} {w : World} {v : Value} {W : WM} (h : RLogAt X w v W) (hX : ∀ b, X b → b < w.heap.size) (hle : W.D.plan ≤ 9223372036854775807) (hs : Sorted W.D.fs) (hub : usedF W.D.fs ≤ 100000000) (h1 : 1 ≤ W.n) (hN : W.n ≤ 99999999) :
  Calls Tryz.prog 31 #[v] w (RLogEnd X w (syncW W)) := by
 obtain ⟨a, n, c, R, rfl, hR, hfs, hn⟩ := h
 obtain ⟨w2, hw2⟩ : ∃ w2, w2 = (w.alloc (logO (W.D.room : Int) a n c (W.D.plan : Int) W.D.down W.most (W.n : Int) (W.size : Int) (W.wait : Int))).alloc (.cells #[.int .i64 0, .slice none 0 0, .int .i64 0, .bool false, .int .i64 0, .int .i64 0, .int .i64 0, .int .i64 0] 47) := ⟨_, rfl⟩
 unfold logO at hw2
 have hb2 : Below w.heap.size w w2 := by rw [hw2]; exact ((Below.refl w.heap.size w).alloc (Nat.le_refl _) _).alloc (by simp) _
 have hz2 : w2.heap.size = w.heap.size + 2 := by rw [hw2]; simp
 have hB1 : w2.heap[w.heap.size]? = some (logO (W.D.room : Int) a n c (W.D.plan : Int) W.D.down W.most (W.n : Int) (W.size : Int) (W.wait : Int)) := by
  rw [hw2]; exact (Below.heap_alloc _ _ _ (by simp)).trans (heap_alloc_new _ _)
 have hB2 : w2.heap[w.heap.size + 1]? = some (.cells #[.int .i64 0, .slice none 0 0, .int .i64 0, .bool false, .int .i64 0, .int .i64 0, .int .i64 0, .int .i64 0] 47 (0, 0)) := by
  have := heap_alloc_new (w.alloc (logO (W.D.room : Int) a n c (W.D.plan : Int) W.D.down W.most (W.n : Int) (W.size : Int) (W.wait : Int))) (.cells #[.int .i64 0, .slice none 0 0, .int .i64 0, .bool false, .int .i64 0, .int .i64 0, .int .i64 0, .int .i64 0] 47)
  rw [hw2]
  rw [World.size_alloc] at this
  exact this
 unfold logO at hB1
 have hR2 := hR.below hX hb2
 have hX2 : ∀ b, X b → b < w2.heap.size := fun b h => Nat.lt_of_lt_of_le (hX b h) hb2.size
 have HNm := Lib.hid (fun W1 => rname_any (W.D.room : Int) a n c (W.D.plan : Int) W.D.down W.most W.n (W.size : Int) (W.wait : Int) W1 h1 hN)
 have HDo := Lib.hid (fun W1 (hb : Below w2.heap.size w2 W1) => rdo_all (X := X) (w := W1) (M := W.D) ⟨a, n, c, R, rfl, hR2.below hX2 hb, hfs, hn⟩ (fun b h => Nat.lt_of_lt_of_le (hX2 b h) hb.size) hle hs 3 (by omega) (nmB W.n) [] (by unfold nmB; rw [List.length_map, nameL_len]; decide) (by decide) none 0 0 [] (fun W2 _ => bytes_nil W2) hub (by omega))
 have e3 : stepM 3 (nmB W.n) [] [] W.D = syncM (nmB W.n) W.D := rfl
 rw [e3] at HDo
 unfold opV refV at HDo
 unfold logV at HNm
 have HK := Lib.hid (fun W1 (hb : Below w2.heap.size w2 W1) => box8 ((hb.block _ (by omega)).trans hB1))
 have HS := Lib.hid (fun W1 (hb : Below w2.heap.size w2 W1) => (show W1.cell? ⟨w.heap.size, 0, none⟩ = some (.int .i64 (W.D.room : Int)) ∧ W1.cell? ⟨w.heap.size, 1, none⟩ = some (.slice a n c) ∧ W1.cell? ⟨w.heap.size, 2, none⟩ = some (.int .i64 (W.D.plan : Int)) ∧ W1.cell? ⟨w.heap.size, 3, none⟩ = some (.bool W.D.down) ∧ W1.cell? ⟨w.heap.size, 4, none⟩ = some (.int .i64 W.most) ∧ W1.cell? ⟨w.heap.size, 5, none⟩ = some (.int .i64 (W.n : Int)) ∧ W1.cell? ⟨w.heap.size, 6, none⟩ = some (.int .i64 (W.size : Int)) ∧ W1.cell? ⟨w.heap.size, 7, none⟩ = some (.int .i64 (W.wait : Int)) from by
  obtain ⟨c0, c1, c2, c3, c4, c5, c6, c7, _⟩ := box8 ((hb.block _ (by omega)).trans hB1)
  exact ⟨c0, c1, c2, c3, c4, c5, c6, c7⟩))
 unfold logV
 have HW2 := Lib.hid hw2
 have Hb2 := Lib.hid hb2
 have Hz2 := Lib.hid hz2
 have HB1 := Lib.hid hB1
 have HB2 := Lib.hid hB2
 have HX := Lib.hid hX
 have HX2 := Lib.hid hX2
 have Hsy := Lib.hid (syncW_eq W)
 have hsz : w.heap.size + 2 ≤ w2.heap.size := by omega
 clear hR hR2 hX2 hfs hn hX hle hs hub h1 hN hB1 hB2 hz2 hb2 e3
 generalize hr : syncM (nmB W.n) W.D = r at *
 have Hr := Lib.hid hr
 clear hr
 go_enter Tryz.func31, Tryz.ntmps31
 go_upto_region 1 with fail
 rw [← hw2]
 clear hw2
 go_cut [4, 5] (fun t4 t5 wx => DoCut X w2 r t4 t5 wx)
 case first =>
  go_region_held3 (fun w' => w'.cell? ⟨w.heap.size, 0, none⟩ = some (.int .i64 (W.D.room : Int)) ∧ w'.cell? ⟨w.heap.size, 1, none⟩ = some (.slice a n c) ∧ w'.cell? ⟨w.heap.size, 2, none⟩ = some (.int .i64 (W.D.plan : Int)) ∧ w'.cell? ⟨w.heap.size, 3, none⟩ = some (.bool W.D.down) ∧ w'.cell? ⟨w.heap.size, 4, none⟩ = some (.int .i64 W.most) ∧ w'.cell? ⟨w.heap.size, 5, none⟩ = some (.int .i64 (W.n : Int)) ∧ w'.cell? ⟨w.heap.size, 6, none⟩ = some (.int .i64 (W.size : Int)) ∧ w'.cell? ⟨w.heap.size, 7, none⟩ = some (.int .i64 (W.wait : Int)))
   (first | exact HS.out _ (by (repeat (first | assumption | exact Below.refl _ _ | refine Below.drew ?_ | refine Below.alloc ?_ (by (first | exact Nat.le_refl _ | (simp; done) | (simp; omega) | omega)) _ | refine Below.setCell ?_ (by (first | exact Nat.le_refl _ | (show _ ≤ _; omega) | (simp; done) | (simp; omega))) _))))
   (first
    | (go_at_call 75; (with_reducible refine (HNm.out _).mono ?_); rintro e w3 ⟨rfl, hb3⟩; have hb3w : Below w2.heap.size w2 w3 := Below.trans (by (repeat (first | assumption | exact Below.refl _ _ | refine Below.drew ?_ | refine Below.alloc ?_ (by (first | exact Nat.le_refl _ | (simp; done) | (simp; omega) | omega)) _ | refine Below.setCell ?_ (by (first | exact Nat.le_refl _ | (show _ ≤ _; omega) | (simp; done) | (simp; omega))) _))) (hb3.mono (by (first | exact Nat.le_refl _ | (simp; done) | (simp; omega) | omega))); have hb3z := hb3w.size; (try have hq3 := (hb3.block w2.heap.size (by show w2.heap.size < (w2.alloc _).heap.size; rw [World.size_alloc]; exact Nat.lt_succ_self _)).trans (heap_alloc_new w2 (.cells #[.int .i64 0, .slice none 0 0, .int .i64 0, .bool false] 25))); clear hb3)
    | (go_at_call 74; (with_reducible refine (HDo.out _ (by (repeat (first | assumption | exact Below.refl _ _ | refine Below.drew ?_ | refine Below.alloc ?_ (by (first | exact Nat.le_refl _ | (simp; done) | (simp; omega) | omega)) _ | refine Below.setCell ?_ (by (first | exact Nat.le_refl _ | (show _ ≤ _; omega) | (simp; done) | (simp; omega))) _)))).mono ?_); rintro e w4 ⟨a4, n4, c4, R4, rfl, hR4, hf4, hb4⟩; unfold refV; have hb4w : Below w2.heap.size w2 w4 := Below.trans (by (repeat (first | assumption | exact Below.refl _ _ | refine Below.drew ?_ | refine Below.alloc ?_ (by (first | exact Nat.le_refl _ | (simp; done) | (simp; omega) | omega)) _ | refine Below.setCell ?_ (by (first | exact Nat.le_refl _ | (show _ ≤ _; omega) | (simp; done) | (simp; omega))) _))) (hb4.mono (by (first | exact Nat.le_refl _ | (simp; done) | (simp; omega) | omega))); have hb4z := hb4w.size; (try have hq4 := (hb4.block w2.heap.size (Array.getElem?_eq_some_iff.1 hq3).1).trans hq3); (try have hq4 := (hb4.block w3.heap.size (by simp)).trans (heap_alloc_new w3 (.cells #[.int .i64 0, .slice none 0 0, .int .i64 0, .bool false] 25))); (first | (have hq5 := box4c hq4; obtain ⟨q0, q1, q2, q3, qf⟩ := hq5) | skip)))
  all_goals go_wp2_with fail
  all_goals go_meet
  ·exact doCut_new hb4w hb3z hR4 hf4
  ·exact doCut_set hb4w (Nat.le_succ_of_le hb3z) HX2.out (by rw [World.size_alloc] at hR4; exact hR4) hf4 hb3z (Nat.lt_succ_self _) hq4
  ·exact doCut_set hb4w hb3z HX2.out hR4 hf4 (Nat.le_refl _) (Array.getElem?_eq_some_iff.1 hq3).1 hq4
 case rest =>
  obtain ⟨B, a4, n4, c4, R4, rfl, rfl, hB, hBle, hR4, hf4, hb4⟩ := hcut
  obtain ⟨x0, x1, x2, x3, xf⟩ := box4c hB
  obtain ⟨c0, c1, c2, c3, c4', c5, c6, c7, cf⟩ := HK.out wc hb4
  obtain ⟨z0, z1, z2, z3, z4, z5, z6, z7, zf⟩ := box8 ((hb4.block _ (by omega)).trans HB2.out)
  have HR4 := Lib.hid hR4
  have HF4 := Lib.hid hf4
  have Hb4 := Lib.hid (Hb2.out.trans (hb4.mono Hb2.out.size))
  have hne1 : B ≠ w.heap.size := by omega
  have hne2 : B ≠ w.heap.size + 1 := by omega
  have hltc := hb4.size
  clear hB hR4 hf4 hb4
  have HP := Lib.hid (fun w' (hk : ∀ b, b ≠ w.heap.size → b ≠ w.heap.size + 1 → w'.heap[b]? = wc.heap[b]?) (hsz' : wc.heap.size ≤ w'.heap.size) => (show RowF (fun b => (X b ∨ w.heap.size ≤ b) ∧ b < w'.heap.size) w' a4 n4 c4 R4 from HR4.out.mono (fun b h => hk b (by rcases h.1 with h1 | h1; exact Nat.ne_of_lt (HX.out b h1); omega) (by rcases h.1 with h1 | h1; (have := HX.out b h1; omega); omega)) (fun b h => ⟨h.1.imp id (fun h1 => by omega), Nat.lt_of_lt_of_le h.2.2 hsz'⟩)))
  by_cases hc : r.2 = 0
  ·rw [if_pos hc, hc] at Hsy
   rw [hc]
   clear hc
   go_wp2
   refine bodyPost_ret (v := .tuple #[logV (r.1.room : Int) a4 n4 c4 (r.1.plan : Int) r.1.down W.most (W.n : Int) (W.size : Int) 0, .int .i64 0]) ?_ rfl ?_
   ·rw [results_cell_tmp rfl]
    go_simp
    rfl
   ·rw [Hsy.out]
    refine ⟨a4, n4, c4, R4, rfl, HP.out _ (fun b h1 h2 => ?_) (by simp), HF4.out, ?_⟩
    ·rw [set_other h2, set_other h2, set_other h2, set_other h2, set_other h2, set_other h2, set_other h2, set_other h2, set_other h1, set_other h1, set_other h1, set_other h1, set_other h1]
    ·exact (((((((((((((Hb4.out.setCell (by simp) _).setCell (by simp) _).setCell (by simp) _).setCell (by simp) _).setCell (by simp) _).setCell (by simp) _).setCell (by simp) _).setCell (by simp) _).setCell (by simp) _).setCell (by simp) _).setCell (by simp) _).setCell (by simp) _).setCell (by simp) _)
  ·rw [if_neg hc] at Hsy
   have hc1 : (r.2 == 0) = false := by simpa using hc
   clear hc
   go_wp2
   refine bodyPost_ret (v := .tuple #[logV (r.1.room : Int) a4 n4 c4 (r.1.plan : Int) r.1.down W.most (W.n : Int) (W.size : Int) (W.wait : Int), .int .i64 r.2]) ?_ rfl ?_
   ·rw [results_cell_tmp rfl]
    go_simp
    rfl
   ·rw [Hsy.out]
    refine ⟨a4, n4, c4, R4, rfl, HP.out _ (fun b h1 h2 => ?_) (by simp), HF4.out, ?_⟩
    ·rw [set_other h2, set_other h2, set_other h2, set_other h2, set_other h2, set_other h2, set_other h2, set_other h2, set_other h1, set_other h1, set_other h1, set_other h1]
    ·exact ((((((((((((Hb4.out.setCell (by simp) _).setCell (by simp) _).setCell (by simp) _).setCell (by simp) _).setCell (by simp) _).setCell (by simp) _).setCell (by simp) _).setCell (by simp) _).setCell (by simp) _).setCell (by simp) _).setCell (by simp) _).setCell (by simp) _)
end Go.Proofs.YtnbddiiedagllaaGreat

