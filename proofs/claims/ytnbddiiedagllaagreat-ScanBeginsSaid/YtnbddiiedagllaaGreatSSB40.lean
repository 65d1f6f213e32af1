import Derived.Test.YtnbddiiedagllaaGreatSSB39
import Derived.Test.YtnbddiiedagllaaGreatSSB38
import Derived.Test.YtnbddiiedagllaaGreatSSB36
import Derived.Test.YtnbddiiedagllaaGreatSSB34
import Derived.Deep.AppendLies
import Derived.Deep.RegionHeld3
import Derived.Deep.DeepCutAuto
import Derived.Deep.CutBlock
/- The walk of the reference's Open. -/
namespace Go.Proofs.YtnbddiiedagllaaGreat
open Go.RowKit Go.Maps Go.Shelf

attribute [local go_sem ↓] Go.wp_at_zero Go.wp_at_succ

def ROEnd (X : Nat → Prop) (w : World) (most : Int) (r : OR) (e : Ending) (w' : World) : Prop :=
 ∃ a n c R, RowF (fun b => (X b ∨ w.heap.size ≤ b) ∧ b < w'.heap.size) w' a n c R ∧ R.map FR.f = r.M.fs ∧ Below w.heap.size w w' ∧
  ((r.z ≠ 0 ∧ ∃ mo N S, e = .returned (.tuple #[logV (r.M.room : Int) a n c (r.M.plan : Int) r.M.down mo N S 0, .slice none 0 0, .int .i64 r.z])) ∨
  (r.z = 0 ∧ ∃ va vc, e = .returned (.tuple #[logV (r.M.room : Int) a n c (r.M.plan : Int) r.M.down most (r.N : Int) (r.size : Int) 0, .slice va r.recs.length vc, .int .i64 0]) ∧ ∀ W : World, (∀ b, (X b ∨ w.heap.size ≤ b) ∧ b < w'.heap.size → W.heap[b]? = w'.heap[b]?) → Parts W va r.recs.length vc r.recs))

theorem results_ctt {fn : Func} {p u t : Tmp} {ty : TypeId} (h : fn.results = #[.cell p ty, .tmp u, .tmp t]) (tmps : Array Value) (P : Program) (w : World) :
  (results fn tmps).run P w = ((asAddr (tmps.getD p undef)).run P w).andThen fun a w₁ => ((loadVar ty a).run P w₁).andThen fun v w₂ => .ok (.tuple #[v, tmps.getD u undef, tmps.getD t undef]) w₂ := by
 simp only [results, h]
 simp [Sem.run_bind, Result.andThen]

theorem fill8 {n : Nat} {w0 w : World} {B : Nat} (h : Below n w0 w) (hn : n ≤ B) (v0 v1 v2 v3 v4 v5 v6 v7 : Value) : Below n w0 ((((((((w.setCell ⟨B, 0, none⟩ v0).setCell ⟨B, 1, none⟩ v1).setCell ⟨B, 2, none⟩ v2).setCell ⟨B, 3, none⟩ v3).setCell ⟨B, 4, none⟩ v4).setCell ⟨B, 5, none⟩ v5).setCell ⟨B, 6, none⟩ v6).setCell ⟨B, 7, none⟩ v7) :=
 (((((((h.setCell hn _).setCell hn _).setCell hn _).setCell hn _).setCell hn _).setCell hn _).setCell hn _).setCell hn _

theorem row_fill {Z Z' : Nat → Prop} {w : World} {B : Nat} {a : Option Addr} {n c : Nat} {R : List FR} (h : RowF Z w a n c R) (hne : ∀ b, Z b → b ≠ B) (hz : ∀ b, Z b → Z' b) (v0 v1 v2 v3 v4 v5 v6 v7 : Value) :
  RowF Z' ((((((((w.setCell ⟨B, 0, none⟩ v0).setCell ⟨B, 1, none⟩ v1).setCell ⟨B, 2, none⟩ v2).setCell ⟨B, 3, none⟩ v3).setCell ⟨B, 4, none⟩ v4).setCell ⟨B, 5, none⟩ v5).setCell ⟨B, 6, none⟩ v6).setCell ⟨B, 7, none⟩ v7) a n c R :=
 h.mono (fun b hb => by
  have := hne b hb
  repeat rw [Below.heap_setCell _ _ _ _ this]) hz

theorem rowF_end {X : Nat → Prop} {w W : World} {a : Option Addr} {n c : Nat} {R : List FR} (h : RowF X W a n c R) (hX : ∀ b, X b → b < w.heap.size) (hb : Below w.heap.size w W) : RowF (fun b => (X b ∨ w.heap.size ≤ b) ∧ b < W.heap.size) W a n c R :=
 h.mono (fun _ _ => rfl) (fun b hx => ⟨.inl hx, Nat.lt_of_lt_of_le (hX b hx) hb.size⟩)

def startO (w : World) (ro : Int) (a : Option Addr) (n c : Nat) (pl : Int) (dn : Bool) : World :=
 (w.alloc (.cells #[.int .i64 ro, .slice a n c, .int .i64 pl, .bool dn] 25)).alloc (.cells #[.int .i64 0, .slice none 0 0, .int .i64 0, .bool false, .int .i64 0, .int .i64 0, .int .i64 0, .int .i64 0] 47)

theorem startO_facts (w : World) (ro : Int) (a : Option Addr) (n c : Nat) (pl : Int) (dn : Bool) :
  Below w.heap.size w (startO w ro a n c pl dn) ∧ (startO w ro a n c pl dn).heap.size = w.heap.size + 2 ∧
  (startO w ro a n c pl dn).heap[w.heap.size]? = some (.cells #[.int .i64 ro, .slice a n c, .int .i64 pl, .bool dn] 25 (0, 0)) ∧
  (startO w ro a n c pl dn).heap[w.heap.size + 1]? = some (.cells #[.int .i64 0, .slice none 0 0, .int .i64 0, .bool false, .int .i64 0, .int .i64 0, .int .i64 0, .int .i64 0] 47 (0, 0)) := by
 unfold startO
 refine ⟨((Below.refl _ _).alloc (Nat.le_refl _) _).alloc (by simp) _, by simp, (Below.heap_alloc _ _ _ (by simp)).trans (heap_alloc_new _ _), ?_⟩
 have h := heap_alloc_new (w.alloc (.cells #[.int .i64 ro, .slice a n c, .int .i64 pl, .bool dn] 25)) (.cells #[.int .i64 0, .slice none 0 0, .int .i64 0, .bool false, .int .i64 0, .int .i64 0, .int .i64 0, .int .i64 0] 47)
 rw [World.size_alloc] at h
 exact h

set_option maxRecDepth 100000 in
set_option maxHeartbeats 6400000 in
theorem ropen_broken {X : Nat → Prop} {w : World} {M : DM} {a : Option Addr} {n c : Nat} {R : List FR} (hR : RowF X w a n c R) (hX : ∀ b, X b → b < w.heap.size) (hfs : R.map FR.f = M.fs) (most : Int)
  (hF : ∀ W, Below w.heap.size w W → Calls Tryz.prog 16 #[refV (M.room : Int) a n c (M.plan : Int) M.down] W fun e w' => e = .returned (logRV none 0 0 0 0 none 0 0 0 0 11) ∧ Below W.heap.size W w') :
  Calls Tryz.prog 22 #[refV (M.room : Int) a n c (M.plan : Int) M.down, .int .i64 most] w (ROEnd X w most ⟨11, M, 0, 0, []⟩) := by
 obtain ⟨hb1, hz1, hB0, hB1⟩ := startO_facts w (M.room : Int) a n c (M.plan : Int) M.down
 unfold startO at hb1 hz1 hB0 hB1
 unfold refV at *
 obtain ⟨w1, hw1⟩ : ∃ w1, w1 = (w.alloc (.cells #[.int .i64 (M.room : Int), .slice a n c, .int .i64 (M.plan : Int), .bool M.down] 25)).alloc (.cells #[.int .i64 0, .slice none 0 0, .int .i64 0, .bool false, .int .i64 0, .int .i64 0, .int .i64 0, .int .i64 0] 47) := ⟨_, rfl⟩
 rw [← hw1] at hb1 hz1 hB0 hB1
 have HF := Lib.hid (hF w1 hb1)
 have HR := Lib.hid (fun W (h : Below w.heap.size w W) => hR.below hX h)
 have HX := Lib.hid hX
 have Hfs := Lib.hid hfs
 have Hb1 := Lib.hid hb1
 have HB0 := Lib.hid hB0
 have HB1 := Lib.hid hB1
 clear hF hR hX hfs hb1 hB0 hB1
 go_enter Tryz.func22, Tryz.ntmps22
 go_wp2_with fail
 rw [← hw1]
 refine HF.out.mono ?_
 rintro e w2 ⟨rfl, hb2⟩
 have hB0 := (hb2.block _ (Array.getElem?_eq_some_iff.1 HB0.out).1).trans HB0.out
 have hB1 := (hb2.block _ (Array.getElem?_eq_some_iff.1 HB1.out).1).trans HB1.out
 have hb3 := (Below.refl w2.heap.size w2).alloc (Nat.le_refl _) (.cells #[.slice none 0 0, .int .i64 0, .int .i64 0, .slice none 0 0, .int .i64 0, .int .i64 0, .int .i64 11] 35)
 have hB0 := (hb3.block _ (Array.getElem?_eq_some_iff.1 hB0).1).trans hB0
 have hB1 := (hb3.block _ (Array.getElem?_eq_some_iff.1 hB1).1).trans hB1
 obtain ⟨c0, c1, c2, c3, cf⟩ := box4c hB0
 obtain ⟨q0, q1, q2, q3, q4, q5, q6, q7, qf⟩ := box8 hB1
 unfold logRV
 have k6 : (w2.alloc (.cells #[.slice none 0 0, .int .i64 0, .int .i64 0, .slice none 0 0, .int .i64 0, .int .i64 0, .int .i64 11] 35)).cell? ⟨w2.heap.size, 6, none⟩ = some (.int .i64 11) := by
  rw [cell_of_row _ _ _ _ _ (0, 0) (heap_alloc_new _ _)]; rfl
 have hne1 : ¬ w2.heap.size = w.heap.size + 1 := by have := hb2.size; omega
 have hne2 : ¬ w.heap.size + 1 = w2.heap.size := by have := hb2.size; omega
 go_wp2_with fail
 go_region
 go_wp2
 have hbF := fill8 (B := w.heap.size + 1) (Hb1.out.trans ((hb2.trans (hb3.mono hb2.size)).mono Hb1.out.size)) (Nat.le_succ _) (.int .i64 (M.room : Int)) (.slice a n c) (.int .i64 (M.plan : Int)) (.bool M.down) (.int .i64 0) (.int .i64 0) (.int .i64 0) (.int .i64 0)
 refine bodyPost_ret (v := .tuple #[logV (M.room : Int) a n c (M.plan : Int) M.down 0 0 0 0, .slice none 0 0, .int .i64 11]) ?_ rfl ⟨a, n, c, R, rowF_end (HR.out _ hbF.drew) HX.out hbF.drew, Hfs.out, hbF.drew, .inl ⟨(by show (11 : Int) ≠ 0; decide), 0, 0, 0, rfl⟩⟩
 rw [results_ctt rfl]
 go_simp
 rfl

theorem box_p0 {w5 w6 w7 : World} {o : Obj} {cs : Array Value} (hs6 : ((w5.alloc (.cells cs 25)).alloc o).drew.heap.size ≤ w6.heap.size) (hbx : ∀ k, w5.heap.size ≤ k → k < ((w5.alloc (.cells cs 25)).alloc o).drew.heap.size → w6.heap[k]? = ((w5.alloc (.cells cs 25)).alloc o).drew.heap[k]?) (hb7 : Below w6.heap.size w6 w7) :
  w7.heap[w5.heap.size]? = some (.cells cs 25 (0, 0)) := by
 have h1 : ((w5.alloc (.cells cs 25)).alloc o).heap.size ≤ w6.heap.size := hs6
 have h2 : ((w5.alloc (.cells cs 25)).alloc o).drew.heap.size = w5.heap.size + 2 := by show ((w5.alloc (.cells cs 25)).alloc o).heap.size = _; simp
 simp only [World.size_alloc] at h1
 refine (hb7.block _ (by omega)).trans ((hbx _ (Nat.le_refl _) (by omega)).trans ?_)
 exact (Below.heap_alloc (w5.alloc (.cells cs 25)) o w5.heap.size (by rw [World.size_alloc]; omega)).trans (heap_alloc_new w5 _)

theorem box_p1 {w5 w6 w7 : World} {o : Obj} {cs : Array Value} (hs6 : ((w5.alloc o).alloc (.cells cs 25)).drew.heap.size ≤ w6.heap.size) (hbx : ∀ k, w5.heap.size ≤ k → k < ((w5.alloc o).alloc (.cells cs 25)).drew.heap.size → w6.heap[k]? = ((w5.alloc o).alloc (.cells cs 25)).drew.heap[k]?) (hb7 : Below w6.heap.size w6 w7) :
  w7.heap[w5.heap.size + 1]? = some (.cells cs 25 (0, 0)) := by
 have h1 : ((w5.alloc o).alloc (.cells cs 25)).heap.size ≤ w6.heap.size := hs6
 have h2 : ((w5.alloc o).alloc (.cells cs 25)).drew.heap.size = w5.heap.size + 2 := by show ((w5.alloc o).alloc (.cells cs 25)).heap.size = _; simp
 simp only [World.size_alloc] at h1
 refine (hb7.block _ (by omega)).trans ((hbx _ (by omega) (by omega)).trans ?_)
 have h := heap_alloc_new (w5.alloc o) (.cells cs 25)
 rw [World.size_alloc] at h
 exact h

theorem p1_size {w5 w6 : World} {o o' : Obj} (hs6 : ((w5.alloc o).alloc o').drew.heap.size ≤ w6.heap.size) : w5.heap.size + 2 ≤ w6.heap.size := by
 have h1 : ((w5.alloc o).alloc o').heap.size ≤ w6.heap.size := hs6
 simp only [World.size_alloc] at h1
 omega

theorem names_two (w : World) : Nms (w.alloc (.cells #[.string ⟨#[99, 117, 116]⟩, .string ⟨#[110, 101, 119]⟩] 9)) (some ⟨w.heap.size, 0, none⟩) 2 2 [cutB, newB] := by
 refine ⟨rfl, by decide, by decide, fun _ => ⟨w.heap.size, 0, rfl, fun i hi => ?_⟩⟩
 rw [cell_of_row _ _ _ _ _ (0, 0) (heap_alloc_new _ _)]
 match i, hi with
 | 0, _ => rfl
 | 1, _ => rfl

set_option maxRecDepth 100000 in
set_option maxHeartbeats 6400000 in
theorem ropen_none {X : Nat → Prop} {w : World} {M : DM} {a : Option Addr} {n c : Nat} {R : List FR} (hR : RowF X w a n c R) (hX : ∀ b, X b → b < w.heap.size) (hfs : R.map FR.f = M.fs) (hn : n ≤ 1000000) {U : Nat} (hnt : Neat M 900 U) (hU : U ≤ 9000) (most : Int)
  (hF : ∀ W, Below w.heap.size w W → Calls Tryz.prog 16 #[refV (M.room : Int) a n c (M.plan : Int) M.down] W fun e w' => e = .returned (logRV none 0 0 0 0 none 0 0 0 0 0) ∧ Below W.heap.size W w') :
  Calls Tryz.prog 22 #[refV (M.room : Int) a n c (M.plan : Int) M.down, .int .i64 most] w (ROEnd X w most ⟨(stepsM (repNone M) M).2, (stepsM (repNone M) M).1, 1, 0, []⟩) := by
 obtain ⟨hb1, hz1, hB0, hB1⟩ := startO_facts w (M.room : Int) a n c (M.plan : Int) M.down
 unfold startO at hb1 hz1 hB0 hB1
 have HCl := Lib.hid (fun W (h : Below w.heap.size w W) p m k nms hN => rclean_any (hR.below hX h) (fun b hb => Nat.lt_of_lt_of_le (hX b hb) h.size) hfs p m k nms hN)
 have HSt := Lib.hid (fun W (h : Below w.heap.size w W) p n' c' l hl hN' hT hub => rsteps_any (X := X) (w := W) (v := refV (M.room : Int) a n c (M.plan : Int) M.down) (M := M) ⟨a, n, c, R, rfl, hR.below hX h, hfs, hn⟩ (fun b hb => Nat.lt_of_lt_of_le (hX b hb) h.size) p n' c' l hl hnt (T := 9000) hN' hT hub)
 obtain ⟨i0, hi, hz0, hz1', hz2⟩ := info_parts info_op
 unfold refV at *
 obtain ⟨w1, hw1⟩ : ∃ w1, w1 = (w.alloc (.cells #[.int .i64 (M.room : Int), .slice a n c, .int .i64 (M.plan : Int), .bool M.down] 25)).alloc (.cells #[.int .i64 0, .slice none 0 0, .int .i64 0, .bool false, .int .i64 0, .int .i64 0, .int .i64 0, .int .i64 0] 47) := ⟨_, rfl⟩
 rw [← hw1] at hb1 hz1 hB0 hB1
 have HF := Lib.hid (hF w1 hb1)
 have HX := Lib.hid hX
 have Hb1 := Lib.hid hb1
 have HB0 := Lib.hid hB0
 have HB1 := Lib.hid hB1
 clear hF hR hX hfs hb1 hB0 hB1 hn hnt
 go_enter Tryz.func22, Tryz.ntmps22
 go_wp2_with fail
 rw [← hw1]
 refine HF.out.mono ?_
 rintro e w2 ⟨rfl, hb2⟩
 unfold logRV
 have hb23 := (Below.refl w2.heap.size w2).alloc (Nat.le_refl _) (.cells #[.slice none 0 0, .int .i64 0, .int .i64 0, .slice none 0 0, .int .i64 0, .int .i64 0, .int .i64 0] 35)
 have hBL := heap_alloc_new w2 (.cells #[.slice none 0 0, .int .i64 0, .int .i64 0, .slice none 0 0, .int .i64 0, .int .i64 0, .int .i64 0] 35)
 have hb13 := hb2.trans (hb23.mono hb2.size)
 have hB0 := (hb13.block _ (Array.getElem?_eq_some_iff.1 HB0.out).1).trans HB0.out
 obtain ⟨g0, g1, g2, g3, g4, g5, g6, gf⟩ := box7 hBL
 obtain ⟨c0, c1, c2, c3, cf⟩ := box4c hB0
 go_wp2_with fail
 have hb4 := (hb13.mono (Nat.le_refl _)).alloc hb13.size (.cells #[.string ⟨#[99, 117, 116]⟩, .string ⟨#[110, 101, 119]⟩] 9)
 have hN2 := names_two (w2.alloc (.cells #[.slice none 0 0, .int .i64 0, .int .i64 0, .slice none 0 0, .int .i64 0, .int .i64 0, .int .i64 0] 35))
 rw [World.size_alloc] at hN2
 refine (HCl.out _ (Hb1.out.trans (hb4.mono Hb1.out.size)) _ 2 2 _ hN2).mono ?_
 rintro e w5 ⟨v5, rfl, hops, hb5⟩
 have hb15 := hb4.trans (hb5.mono hb4.size)
 have hB0 := (hb15.block _ (Array.getElem?_eq_some_iff.1 HB0.out).1).trans HB0.out
 have hB1 := (hb15.block _ (Array.getElem?_eq_some_iff.1 HB1.out).1).trans HB1.out
 have hqL := (Below.refl (w2.alloc (.cells #[.slice none 0 0, .int .i64 0, .int .i64 0, .slice none 0 0, .int .i64 0, .int .i64 0, .int .i64 0] 35)).heap.size (w2.alloc (.cells #[.slice none 0 0, .int .i64 0, .int .i64 0, .slice none 0 0, .int .i64 0, .int .i64 0, .int .i64 0] 35))).alloc (Nat.le_refl _) (.cells #[.string ⟨#[99, 117, 116]⟩, .string ⟨#[110, 101, 119]⟩] 9)
 have hBL5 := ((hqL.trans (hb5.mono hqL.size)).block w2.heap.size (by rw [World.size_alloc]; omega)).trans hBL
 obtain ⟨w4, hw4⟩ : ∃ w4, w4 = (w2.alloc (.cells #[.slice none 0 0, .int .i64 0, .int .i64 0, .slice none 0 0, .int .i64 0, .int .i64 0, .int .i64 0] 35)).alloc (.cells #[.string ⟨#[99, 117, 116]⟩, .string ⟨#[110, 101, 119]⟩] 9) := ⟨_, rfl⟩
 have hz4 : w4.heap.size = w2.heap.size + 2 := by rw [hw4]; simp
 rw [← hw4] at hops hb5 hb4
 have hs12 := hb2.size
 have HB05 := Lib.hid hB0
 have HB15 := Lib.hid hB1
 have Hb4 := Lib.hid hb4
 have Hb5 := Lib.hid hb5
 have hs5 := hb5.size
 obtain ⟨qs, hq1, hq2, hq3⟩ := hops
 have Hown := Lib.hid hq2
 have hcl := cleanM_len [cutB, newB] M
 simp only [List.length_cons, List.length_nil] at hcl
 have hs04 : w.heap.size ≤ w4.heap.size := by have := Hb1.out.size; omega
 have Hrl := Lib.hid (show (cleanM [cutB, newB] M).length + 1 = (repNone M).length from by unfold repNone; rw [List.length_append]; rfl)
 have Hrb := Lib.hid (show ∀ x ∈ repNone M, x.bs.length ≤ 9000 from fun x hx => by
  unfold repNone at hx
  rcases List.mem_append.1 hx with h | h
  ·rw [cleanM_bs _ M x h]; exact Nat.zero_le _
  ·rw [List.mem_singleton.1 h]; exact Nat.zero_le _)
 have HX4 := Lib.hid (fun b (hb : X b) => Nat.lt_of_lt_of_le (HX.out b hb) hs04)
 have HB14 := Lib.hid ((Hb4.out.block _ (Array.getElem?_eq_some_iff.1 HB1.out).1).trans HB1.out)
 have HA := Lib.hid (fun W (hW : Below w4.heap.size w5 W) (hcell : W.ownsRow w4.heap.size 101 4 v5 (cleanM [cutB, newB] M).length (flatO qs)) w' v' (ho : w'.ownsRow w4.heap.size 101 4 v' ((cleanM [cutB, newB] M).length + 1) (flatO qs ++ cellsO (⟨1, nmB 1, [], []⟩, (none, 0)))) (hg : W.grownBy w' v5.ownBlock) => (show ROps w4.heap.size w' v' (repNone M) ∧ Below w4.heap.size w5 w' from by
  have hbg : Below w4.heap.size W w' := (Below.refl _ _).grown hg (Nat.le_trans hs5 hW.size) (fun k e => own_ge5 hcell k e)
  refine ⟨ROps.app (w := w5) (rs := [(⟨1, nmB 1, [], []⟩, (none, 0))]) hq1 hq3 rfl (fun x hx => by rw [List.mem_singleton.1 hx]; exact sook_nil (by decide) (by rw [nmB_length]; decide) (by decide)) ?_ (hW.trans hbg), hW.trans hbg⟩
  have e : flatO [((⟨1, nmB 1, [], []⟩, (none, 0)) : OQ)] = cellsO (⟨1, nmB 1, [], []⟩, (none, 0)) := by unfold flatO; simp
  rw [e]
  exact ho))
 have hcs1 : (#[.int .i64 1, .string ⟨#[108, 111, 103, 45, 48, 48, 48, 48, 48, 48, 48, 49]⟩, .string ⟨#[]⟩, .slice none 0 0] : Array Value).toList = cellsO (⟨1, nmB 1, [], []⟩, (none, 0)) := by
  unfold cellsO
  simp only [nmB_one']
  rfl
 have HnA := Lib.hid (fun j u (h : (cellsO (⟨1, nmB 1, [], []⟩, (none, 0)))[j]? = some u) => cells_new w5 #[.int .i64 1, .string ⟨#[108, 111, 103, 45, 48, 48, 48, 48, 48, 48, 48, 49]⟩, .string ⟨#[]⟩, .slice none 0 0] 101 j u (by rw [hcs1]; exact h))
 have hnB := fun j u (h : (cellsO (⟨1, nmB 1, [], []⟩, (none, 0)))[j]? = some u) => cells_new (w5.alloc (.cells #[.int .i64 0, .slice none 0 0, .int .i64 0, .bool false] 25)) #[.int .i64 1, .string ⟨#[108, 111, 103, 45, 48, 48, 48, 48, 48, 48, 48, 49]⟩, .string ⟨#[]⟩, .slice none 0 0] 101 j u (by rw [hcs1]; exact h)
 rw [World.size_alloc] at hnB
 have HnB := Lib.hid hnB
 clear hcs1
 have HKd := Lib.hid (fun (W : World) (hW : Below w4.heap.size w5 W) => (show W.cell? ⟨w.heap.size, 0, none⟩ = some (.int .i64 (M.room : Int)) ∧ W.cell? ⟨w.heap.size, 1, none⟩ = some (.slice a n c) ∧ W.cell? ⟨w.heap.size, 2, none⟩ = some (.int .i64 (M.plan : Int)) ∧ W.cell? ⟨w.heap.size, 3, none⟩ = some (.bool M.down) from by
  obtain ⟨c0, c1, c2, c3, _⟩ := box4c ((hW.block w.heap.size (by omega)).trans hB0)
  exact ⟨c0, c1, c2, c3⟩))
 obtain ⟨g0, g1, g2, g3, g4, g5, g6, gf⟩ := box7 hBL5
 obtain ⟨c0, c1, c2, c3, cf⟩ := box4c hB0
 clear hb4 hb5 hq1 hq2 hq3 hw4 hnB
 go_upto_region 6 with fail
 generalize hrr : stepsM (repNone M) M = rr at *
 go_cut [9, 10] (fun t4 t5 wx => DoCut X w4 rr t4 t5 wx)
 case first =>
  go_region_held3 (fun w' => w'.cell? ⟨w.heap.size, 0, none⟩ = some (.int .i64 (M.room : Int)) ∧ w'.cell? ⟨w.heap.size, 1, none⟩ = some (.slice a n c) ∧ w'.cell? ⟨w.heap.size, 2, none⟩ = some (.int .i64 (M.plan : Int)) ∧ w'.cell? ⟨w.heap.size, 3, none⟩ = some (.bool M.down))
   (first | exact HKd.out _ (by (repeat (first | assumption | exact Below.refl _ _ | refine Below.drew ?_ | refine Below.alloc ?_ (by (first | exact Nat.le_refl _ | (simp; done) | (simp; omega) | omega)) _ | refine Below.setCell ?_ (by (first | exact Nat.le_refl _ | (show _ ≤ _; omega) | (simp; done) | (simp; omega))) _))))
   (first
    | (refine step_append_lies _ rfl (.tmp 33) (.tmp 35) 102 rfl w4.heap.size 101 i0 _ 4 64 Tryz.underlying102 hi hz0 hz1' hz2 rfl (by decide) v5 (cleanM [cutB, newB] M).length (flatO qs) (by first | rfl | (simp [Act.eval]; done)) (own_belowF Hown.out (by (repeat (first | assumption | exact Below.refl _ _ | refine Below.drew ?_ | refine Below.alloc ?_ (by (first | exact Nat.le_refl _ | (simp; done) | (simp; omega) | omega)) _ | refine Below.setCell ?_ (by (first | exact Nat.le_refl _ | (show _ ≤ _; omega) | (simp; done) | (simp; omega))) _)))) ⟨_, 0, none⟩ 1 1 (cellsO (⟨1, nmB 1, [], []⟩, (none, 0))) (by first | rfl | (simp [Act.eval]; done)) rfl (by first | exact HnA.out | exact HnB.out | exact fun j u h => cell_keep ((Below.refl _ _).alloc (Nat.le_refl _) _) (HnA.out j u h)) (cellsO_one _) (by decide) (by rw [maxLen_nat]; omega) (by omega) (by first | omega | (simp; omega)) _ rfl ?_; intro g cap w6 hown' hgrow hat hlt8; obtain ⟨hrw6, hb56⟩ := HA.out _ (by (repeat (first | assumption | exact Below.refl _ _ | refine Below.drew ?_ | refine Below.alloc ?_ (by (first | exact Nat.le_refl _ | (simp; done) | (simp; omega) | omega)) _ | refine Below.setCell ?_ (by (first | exact Nat.le_refl _ | (show _ ≤ _; omega) | (simp; done) | (simp; omega))) _))) (own_belowF Hown.out (by (repeat (first | assumption | exact Below.refl _ _ | refine Below.drew ?_ | refine Below.alloc ?_ (by (first | exact Nat.le_refl _ | (simp; done) | (simp; omega) | omega)) _ | refine Below.setCell ?_ (by (first | exact Nat.le_refl _ | (show _ ≤ _; omega) | (simp; done) | (simp; omega))) _)))) w6 _ hown' hgrow; have hbx := (fun k (hk : w5.heap.size ≤ k) hk2 => hgrow.block k hk2 (fun e => by have := own_lt5 Hown.out k e.symm; omega)); have hs6 := hgrow.size; clear hown' hgrow hat; have hb46 := Hb5.out.trans hb56; have hb06 := (Hb1.out.trans (Hb4.out.mono Hb1.out.size)).trans (hb46.mono hs04); have hs46 := hb46.size)
    | (go_at_call 54; (with_reducible refine (HSt.out _ (by (repeat (first | assumption | exact Below.refl _ _ | refine Below.drew ?_ | refine Below.alloc ?_ (by (first | exact Nat.le_refl _ | (simp; done) | (simp; omega) | omega)) _ | refine Below.setCell ?_ (by (first | exact Nat.le_refl _ | (show _ ≤ _; omega) | (simp; done) | (simp; omega))) _))) _ _ _ _ (ROps.sos (hrw6.grow hs46 (by (repeat (first | assumption | exact Below.refl _ _ | refine Below.drew ?_ | refine Below.alloc ?_ (by (first | exact Nat.le_refl _ | (simp; done) | (simp; omega) | omega)) _ | refine Below.setCell ?_ (by (first | exact Nat.le_refl _ | (show _ ≤ _; omega) | (simp; done) | (simp; omega))) _)))) (by omega) Hrl.out) (by omega) Hrb.out (by omega)).mono ?_); rintro e w7 ⟨a7, n7, c7, R7, rfl, hR7, hf7, hb7⟩; unfold refV; have hb47 : Below w4.heap.size w4 w7 := Below.trans (by (repeat (first | assumption | exact Below.refl _ _ | refine Below.drew ?_ | refine Below.alloc ?_ (by (first | exact Nat.le_refl _ | (simp; done) | (simp; omega) | omega)) _ | refine Below.setCell ?_ (by (first | exact Nat.le_refl _ | (show _ ≤ _; omega) | (simp; done) | (simp; omega))) _))) (hb7.mono (by (first | exact Nat.le_refl _ | (simp; done) | (simp; omega) | omega))); have hb57 : Below w4.heap.size w5 w7 := Below.trans (by (repeat (first | assumption | exact Below.refl _ _ | refine Below.drew ?_ | refine Below.alloc ?_ (by (first | exact Nat.le_refl _ | (simp; done) | (simp; omega) | omega)) _ | refine Below.setCell ?_ (by (first | exact Nat.le_refl _ | (show _ ≤ _; omega) | (simp; done) | (simp; omega))) _))) (hb7.mono (by (first | exact Nat.le_refl _ | (simp; done) | (simp; omega) | omega))); have hb7s := hb7.size; (first | (have hq7 := (hb7.block w6.heap.size (by simp)).trans (heap_alloc_new w6 (.cells #[.int .i64 0, .slice none 0 0, .int .i64 0, .bool false] 25))) | (have hq7 := box_p0 hs6 hbx hb7) | (have hq7 := box_p1 hs6 hbx hb7) | skip); (first | (have hq5 := box4c hq7; obtain ⟨q0, q1, q2, q3, qf⟩ := hq5) | skip)))
  all_goals go_wp2_with fail
  all_goals go_meet
  ·exact doCut_new hb47 hs46 hR7 (hrr ▸ hf7)
  ·exact doCut_set hb47 (Nat.le_trans hs46 (by rw [World.size_alloc]; omega)) HX4.out hR7 (hrr ▸ hf7) hs46 (by rw [World.size_alloc]; omega) hq7
  ·exact doCut_set hb47 hs46 HX4.out hR7 (hrr ▸ hf7) (by omega) (by have h1 := p1_size hs6; omega) hq7
  ·exact doCut_set hb47 hs46 HX4.out hR7 (hrr ▸ hf7) hs5 (by have h1 := p1_size hs6; omega) hq7
 case rest =>
  obtain ⟨B, a7, n7, c7, R7, rfl, rfl, hBx, hBle, hR7, hf7, hb7⟩ := hcut
  obtain ⟨x0, x1, x2, x3, xf⟩ := box4c hBx
  obtain ⟨z0, z1, z2, z3, z4, z5, z6, z7, zf⟩ := box8 ((hb7.block _ (by omega)).trans HB14.out)
  have hne1 : ¬ B = w.heap.size + 1 := by omega
  have hne2 : ¬ w.heap.size + 1 = B := by omega
  have HR7 := Lib.hid hR7
  have Hf7 := Lib.hid hf7
  have Hb7 := Lib.hid hb7
  clear hR7 hf7 hb7 hBx
  go_wp2
  have hb0c := (Hb1.out.trans (Hb4.out.mono Hb1.out.size)).trans (Hb7.out.mono hs04)
  have hbF := fill8 (B := w.heap.size + 1) hb0c (Nat.le_succ _) (.int .i64 (rr.1.room : Int)) (.slice a7 n7 c7) (.int .i64 (rr.1.plan : Int)) (.bool rr.1.down) (.int .i64 most) (.int .i64 1) (.int .i64 0) (.int .i64 0)
  have hrF := row_fill (B := w.heap.size + 1) (Z' := fun b => (X b ∨ w.heap.size ≤ b) ∧ b < wc.heap.size) HR7.out (fun b hb => by
   rcases hb.1 with h | h
   ·have := HX.out b h; omega
   ·omega) (fun b hb => ⟨hb.1.imp id (fun h => Nat.le_trans hs04 h), hb.2.2⟩) (.int .i64 (rr.1.room : Int)) (.slice a7 n7 c7) (.int .i64 (rr.1.plan : Int)) (.bool rr.1.down) (.int .i64 most) (.int .i64 1) (.int .i64 0) (.int .i64 0)
  refine bodyPost_ret (v := .tuple #[logV (rr.1.room : Int) a7 n7 c7 (rr.1.plan : Int) rr.1.down most 1 0 0, .slice none 0 0, .int .i64 rr.2]) ?_ rfl ⟨a7, n7, c7, R7, ?_, Hf7.out, hbF, ?_⟩
  ·rw [results_ctt rfl]
   go_simp
   rfl
  ·exact hrF.mono (fun _ _ => rfl) (fun b hb => ⟨hb.1, by simp only [World.size_setCell]; exact hb.2⟩)
  ·by_cases hz : rr.2 = 0
   ·refine .inr ⟨hz, none, 0, by rw [hz]; rfl, fun W _ => ?_⟩
    obtain ⟨a', c', e', hp⟩ := (OwnParts.nil W 0).parts
    cases e'
    exact hp
   ·exact .inl ⟨hz, most, 1, 0, rfl⟩
end Go.Proofs.YtnbddiiedagllaaGreat

