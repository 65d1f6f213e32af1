/- The walk of the statements' play: operations on a log and on the reference's. -/
import Derived.Test.YtehjgkkcpiblcaaGreatHWalMatchesOpenO
import Derived.Test.YtehjgkkcpiblcaaGreatMB40
import Derived.Test.YtehjgkkcpiblcaaGreatMB42
import Derived.Test.YtehjgkkcpiblcaaGreatMB43
import Derived.Deep.RegionHeld3
import Derived.Deep.DeepCutAuto
import Derived.Deep.CutBlock
namespace Go.Proofs.YtehjgkkcpiblcaaGreat
open Go.RowKit Go.Maps Go.Shelf

attribute [local go_sem ↓] Go.wp_at_zero Go.wp_at_succ

theorem RBox.moved {X : Nat → Prop} {w w' : World} {B : Nat} {W : WM} (h : RBox X w B W) (hk : ∀ b, X b ∨ b = B → w'.heap[b]? = w.heap[b]?) (hs : w.heap.size ≤ w'.heap.size) : RBox X w' B W := by
  obtain ⟨a, n, c, R, h1, h2, h3, h4, h5⟩ := h
  exact ⟨a, n, c, R, (hk B (.inr rfl)).trans h1, h2.mono (fun b hb => hk b (.inl hb)) (fun _ h => h), h3, h4, fun b hx => ⟨Nat.lt_of_lt_of_le (h5 b hx).1 hs, (h5 b hx).2⟩⟩

/-- A planned failure, in the box. -/
theorem RBox.arm {X : Nat → Prop} {w : World} {B : Nat} {W : WM} (h : RBox X w B W) (k : Int) : RBox X (w.setCell ⟨B, 2, none⟩ (.int .i64 (max k 0))) B { W with D := armM k W.D } := by
  obtain ⟨a, n, c, R, h1, h2, h3, h4, h5⟩ := h
  refine ⟨a, n, c, R, ?_, h2.mono (fun b hb => Below.heap_setCell w ⟨B, 2, none⟩ _ b (h5 b hb).2) (fun _ h => h), h3, h4, fun b hx => ⟨by simp; exact (h5 b hx).1, (h5 b hx).2⟩⟩
  have h6 := set_head (i := 2) h1 (.int .i64 (max k 0))
  have e : max k 0 = ((k.toNat : Nat) : Int) := by omega
  rw [e] at h6 ⊢
  simpa [logO, armM] using h6

theorem own_sorted {w0 : World} {X : Nat → Prop} {w : World} {d : Nat} {M : DM} (h : Own w0 X w d M) : Sorted M.fs ∧ M.plan ≤ 9223372036854775807 ∧ usedF M.fs ≤ M.room := by
  obtain ⟨S, ⟨mb, p, L, hD⟩, _⟩ := h
  refine ⟨?_, ?_, hD.used⟩
  · have h1 := hD.sorted
    rw [hD.files]
    unfold Sorted
    rw [List.pairwise_map]
    exact h1
  · have := hD.plan
    have := hD.hi
    omega

/-- Between two steps: the log, and the reference's in a box. -/
structure PlayAt (w0 : World) (Y : Nat → Prop) (w : World) (g d B : Nat) (W Wb : WM) (wr : World) : Prop where
  log : ∃ Y' : Nat → Prop, LogAt w0 Y' wr g d W ∧ (∀ b, Y b → Y' b) ∧ Y' B ∧ Y' (B + 1) ∧ ∃ X, RBox X wr B Wb ∧ (∀ b, X b → Y' b ∧ b ≠ g ∧ b ≠ B + 1) ∧ (∀ b, X b → Y b ∨ w.heap.size ≤ b)
  ne : B ≠ g ∧ B + 1 ≠ g ∧ w0.heap.size ≤ B ∧ w.heap.size ≤ B
  yb : ∀ b, Y b → b < w.heap.size
  res : wr.heap[B + 1]? = some (.cells #[.int .i64 0, .slice none 0 0, .int .i64 0, .bool false, .int .i64 0, .int .i64 0, .int .i64 0, .int .i64 0] 34 (0, 0))
  keep : ∀ b, Y b → b ≠ g → wr.heap[b]? = w.heap[b]?
  below : Below w0.heap.size w wr
  size : w.heap.size ≤ wr.heap.size

section
variable {w0 : World} {Y : Nat → Prop} {w : World} {g d B : Nat} {W Wb : WM} {wr : World}

theorem PlayAt.lt (h : PlayAt w0 Y w g d B W Wb wr) : B + 1 < wr.heap.size := (Array.getElem?_eq_some_iff.1 h.res).1

theorem PlayAt.stepLog (h : PlayAt w0 Y w g d B W Wb wr) {wa : World} (hb : Below wr.heap.size wr wa) : ∃ Y' : Nat → Prop, LogAt w0 Y' wa g d W ∧ (∀ b, wr.heap.size ≤ b → b < wa.heap.size → Y' b ∧ b ≠ g) ∧ ∀ W' w3, LogEnd w0 Y' wa g d W' w3 → PlayAt w0 Y w g d B W' Wb w3 := by
  have hlt := h.lt
  obtain ⟨Y', h1, h2, h3, h4, X, h5, h6, h7⟩ := h.log
  have hgl := h1.lt
  refine ⟨_, h1.all hb, fun b hb1 hb2 => ⟨.inr ⟨hb1, hb2⟩, by omega⟩, fun W' w3 hE => ?_⟩
  obtain ⟨n1, n2, n3, n4⟩ := h.ne
  have hbk : ∀ b, Y' b → b ≠ g → w3.heap[b]? = wr.heap[b]? := fun b hy hg => (hE.2.1 b (.inl hy) hg).trans (hb.block b (h1.own.blocks b hy))
  refine ⟨⟨_, hE.1, fun b hy => .inl (h2 b hy), .inl h3, .inl h4, X, h5.moved (fun b hx => ?_) (Nat.le_trans hb.size hE.2.2.2), fun b hx => ⟨.inl (h6 b hx).1, (h6 b hx).2⟩, h7⟩, h.ne, h.yb, (hbk _ h4 n2).trans h.res, fun b hy hg => (hbk b (h2 b hy) hg).trans (h.keep b hy hg), (h.below.trans (hb.mono (by omega))).trans hE.2.2.1, Nat.le_trans h.size (Nat.le_trans hb.size hE.2.2.2)⟩
  rcases hx with hx | rfl
  · exact hbk b (h6 b hx).1 (h6 b hx).2.1
  · exact hbk _ h3 n1

theorem PlayAt.under (h : PlayAt w0 Y w g d B W Wb wr) {w3 : World} (hb : Below wr.heap.size wr w3) : PlayAt w0 Y w g d B W Wb w3 := by
  obtain ⟨Y', h1, _, h2⟩ := h.stepLog hb
  exact h2 W w3 h1.refl

theorem PlayAt.stepArm (h : PlayAt w0 Y w g d B W Wb wr) {wa : World} (hb : Below wr.heap.size wr wa) (k : Int) : ∃ Y' : Nat → Prop, Own w0 Y' wa d W.D ∧ (∀ b, wr.heap.size ≤ b → b < wa.heap.size → Y' b ∧ b ≠ g) ∧ ∀ w3, OwnEnd w0 Y' wa d (armM k W.D) w3 → PlayAt w0 Y w g d B { W with D := armM k W.D } Wb w3 := by
  obtain ⟨Y', h1, h0, h2⟩ := h.stepLog hb
  exact ⟨Y', h1.own, h0, fun w3 hE => h2 _ w3 ⟨⟨hE.1, h1.inY, h1.new, (hE.2.1 g h1.inY).trans h1.cells⟩, fun b hb _ => hE.2.1 b hb, hE.2.2.1, hE.2.2.2⟩⟩

theorem PlayAt.stepBox (h : PlayAt w0 Y w g d B W Wb wr) : ∃ (X : Nat → Prop) (a : Option Addr) (n c : Nat), wr.heap[B]? = some (logO (Wb.D.room : Int) a n c (Wb.D.plan : Int) Wb.D.down Wb.most (Wb.n : Int) (Wb.size : Int) (Wb.wait : Int)) ∧
    RLogAt X wr (logV (Wb.D.room : Int) a n c (Wb.D.plan : Int) Wb.D.down Wb.most (Wb.n : Int) (Wb.size : Int) (Wb.wait : Int)) Wb ∧ (∀ b, X b → b < wr.heap.size) ∧
    (∀ (r : WM) (w4 : World) (a' : Option Addr) (n' c' : Nat) (R' : List FR), Below wr.heap.size wr w4 → RowF (fun b => (X b ∨ wr.heap.size ≤ b) ∧ b < w4.heap.size) w4 a' n' c' R' → R'.map FR.f = r.D.fs → r.D.fs.length ≤ 1000000 →
      PlayAt w0 Y w g d B W r (set8 w4 B (.int .i64 (r.D.room : Int)) (.slice a' n' c') (.int .i64 (r.D.plan : Int)) (.bool r.D.down) (.int .i64 r.most) (.int .i64 (r.n : Int)) (.int .i64 (r.size : Int)) (.int .i64 (r.wait : Int)))) ∧
    (∀ k : Int, PlayAt w0 Y w g d B W { Wb with D := armM k Wb.D } (wr.setCell ⟨B, 2, none⟩ (.int .i64 (max k 0)))) := by
  have hlt := h.lt
  obtain ⟨Y', h1, h2, h3, h4, X, h5, h6, h7⟩ := h.log
  obtain ⟨n1, n2, n3, n4⟩ := h.ne
  have hgl := h1.lt
  obtain ⟨a, n, c, R, hcells, hrl, _, _⟩ := h5.ref
  have hXb : ∀ b, X b → b < wr.heap.size := by
    obtain ⟨_, _, _, _, _, _, _, _, hXb⟩ := h5
    exact fun b hb => (hXb b hb).1
  refine ⟨X, a, n, c, hcells, hrl, hXb, fun r w4 a' n' c' R' hb4 hR' hf hn => ?_, fun k => ?_⟩
  · have hC := set8_chg w4 B (.int .i64 (r.D.room : Int)) (.slice a' n' c') (.int .i64 (r.D.plan : Int)) (.bool r.D.down) (.int .i64 r.most) (.int .i64 (r.n : Int)) (.int .i64 (r.size : Int)) (.int .i64 (r.wait : Int))
    have hbx := rbox_put h5 hR' hf hb4 hn
    have hL4 := (h1.all hb4).turned hC (fun b hb => by rw [hb]; exact ⟨.inl h3, n1, n3⟩)
    refine ⟨⟨_, hL4, fun b hb => .inl (.inl (h2 b hb)), .inl (.inl h3), .inl (.inl h4), _, hbx, fun b hb => ?_, fun b hb => ?_⟩, h.ne, h.yb, (hC.block _ (by have := hb4.size; omega) (fun e => by omega)).trans ((hb4.block _ hlt).trans h.res), fun b hb hg => ?_, (h.below.trans (hb4.mono (by omega))).trans (hC.below (fun b e => by rw [e]; exact n3) (by have := hb4.size; omega)), Nat.le_trans h.size (Nat.le_trans hb4.size hC.size)⟩
    · rcases hb.1 with hx | hx
      · exact ⟨.inl (.inl (h6 b hx).1), (h6 b hx).2⟩
      · exact ⟨.inl (.inr ⟨hx, hb.2⟩), by omega, by omega⟩
    · rcases hb.1 with hx | hx
      · exact h7 b hx
      · exact .inr (Nat.le_trans h.size hx)
    · have hbl := h.yb b hb
      have hsz := h.size
      have hsz4 := hb4.size
      exact (hC.block b (by omega) (fun e => by omega)).trans ((hb4.block b (by omega)).trans (h.keep b hb hg))
  · have hC : Chg (fun b => b = B) wr (wr.setCell ⟨B, 2, none⟩ (.int .i64 (max k 0))) := Chg.set (fun b => b = B) wr rfl _
    have hL4 := h1.turned hC (fun b hb => by rw [hb]; exact ⟨h3, n1, n3⟩)
    refine ⟨⟨_, hL4, fun b hb => .inl (h2 b hb), .inl h3, .inl h4, _, h5.arm k, fun b hb => ⟨.inl (h6 b hb).1, (h6 b hb).2⟩, h7⟩, h.ne, h.yb, (hC.block _ hlt (fun e => by omega)).trans h.res, fun b hb hg => ?_, h.below.trans (hC.below (fun b e => by rw [e]; exact n3) (by omega)), Nat.le_trans h.size hC.size⟩
    have hbl := h.yb b hb
    have hsz := h.size
    exact (hC.block b (by omega) (fun e => by omega)).trans (h.keep b hb hg)
end

/-- What play leaves and answers. -/
def PlayEnd (w0 : World) (Y : Nat → Prop) (w : World) (g d : Nat) (W : WM) (e : Ending) (w' : World) : Prop :=
  ∃ a n c R X, e = .returned (.tuple #[logV (W.D.room : Int) a n c (W.D.plan : Int) W.D.down W.most (W.n : Int) (W.size : Int) (W.wait : Int), .bool true]) ∧
    RowF X w' a n c R ∧ R.map FR.f = W.D.fs ∧ n ≤ 1000000 ∧ (∀ b, X b → w.heap.size ≤ b ∨ Y b) ∧
    (∃ Y' : Nat → Prop, LogAt w0 Y' w' g d W ∧ (∀ b, Y b → Y' b) ∧ ∀ b, X b → Y' b ∧ b ≠ g) ∧ (∀ b, Y b → b ≠ g → w'.heap[b]? = w.heap[b]?) ∧ Below w0.heap.size w w' ∧ w.heap.size ≤ w'.heap.size

set_option maxRecDepth 100000 in
set_option maxHeartbeats 12800000 in
theorem play_any {w0 : World} {Y X : Nat → Prop} {w : World} {g d : Nat} {W : WM} (hL : LogAt w0 Y w g d W) {v : Value} (hv : RLogAt X w v W) (hXY : ∀ b, X b → Y b ∧ b ≠ g) (a : Option Addr) (n c : Nat) (l : List OM) (hO : Ops w0 a n c l)
    (h60 : l.length ≤ 60) (hsz : sizeL (recsO l) ≤ 100000) (hn1 : 1 ≤ W.n ∧ W.n ≤ 1000) (hs0 : W.size ≤ 1000) (hw0 : W.wait ≤ 1000) (hm : 0 ≤ W.most ∧ W.most ≤ 1000000) (hr : W.D.room ≤ 1000000) (hf : W.D.fs.length ≤ 500) :
    Calls Tryz.prog 15 #[.pointer (some ⟨d, 0, none⟩), .pointer (some ⟨g, 0, none⟩), v, .slice a n c] w (PlayEnd w0 Y w g d (runO W l)) := by
  obtain ⟨av, nv, cv, Rv, rfl, hRv, hfv, hnv⟩ := hv
  obtain ⟨w2, hw2⟩ : ∃ w2, w2 = (w.alloc (logO (W.D.room : Int) av nv cv (W.D.plan : Int) W.D.down W.most (W.n : Int) (W.size : Int) (W.wait : Int))).alloc (.cells #[.int .i64 0, .slice none 0 0, .int .i64 0, .bool false, .int .i64 0, .int .i64 0, .int .i64 0, .int .i64 0] 34) := ⟨_, rfl⟩
  have hb2 : Below w.heap.size w w2 := by rw [hw2]; exact ((Below.refl _ _).alloc (Nat.le_refl _) _).alloc (by simp) _
  have hz2 : w2.heap.size = w.heap.size + 2 := by rw [hw2]; simp
  have hB1 : w2.heap[w.heap.size]? = some (logO (W.D.room : Int) av nv cv (W.D.plan : Int) W.D.down W.most (W.n : Int) (W.size : Int) (W.wait : Int)) := by
    rw [hw2]; exact (Below.heap_alloc _ _ _ (by simp)).trans (heap_alloc_new _ _)
  have hB2 : w2.heap[w.heap.size + 1]? = some (.cells #[.int .i64 0, .slice none 0 0, .int .i64 0, .bool false, .int .i64 0, .int .i64 0, .int .i64 0, .int .i64 0] 34 (0, 0)) := by
    have := heap_alloc_new (w.alloc (logO (W.D.room : Int) av nv cv (W.D.plan : Int) W.D.down W.most (W.n : Int) (W.size : Int) (W.wait : Int))) (.cells #[.int .i64 0, .slice none 0 0, .int .i64 0, .bool false, .int .i64 0, .int .i64 0, .int .i64 0, .int .i64 0] 34)
    rw [hw2]
    rw [World.size_alloc] at this
    exact this
  have hXlt : ∀ b, X b → b < w.heap.size := fun b hb => hL.own.blocks b (hXY b hb).1
  have hgl := hL.lt
  have hP0 : PlayAt w0 Y w g d w.heap.size W W w2 := by
    refine ⟨⟨_, hL.all hb2, fun b hb => .inl hb, .inr ⟨by omega, by omega⟩, .inr ⟨by omega, by omega⟩, X, ⟨av, nv, cv, Rv, hB1, hRv.below hXlt hb2, hfv, hnv, fun b hb => ⟨?_, ?_⟩⟩, fun b hb => ⟨.inl (hXY b hb).1, (hXY b hb).2, by have := hXlt b hb; omega⟩, fun b hb => .inl (hXY b hb).1⟩, ⟨by omega, by omega, hL.own.base.size, Nat.le_refl _⟩, fun b hb => hL.own.blocks b hb, hB2, fun b hb _ => hb2.block b (hL.own.blocks b hb), hb2.mono hL.own.base.size, hb2.size⟩
    · have := hXlt b hb; omega
    · have := hXlt b hb; omega
  have HP0 := Lib.hid hP0
  have HO := Lib.hid hO
  have HW2 := Lib.hid hw2
  have hln := hO.len
  have HC := Lib.hid (And.intro hn1 (And.intro hs0 (And.intro hw0 (And.intro hm (And.intro hr hf)))))
  have Hok := Lib.hid (op_ok W l)
  have hbase := Lib.hid hL.own.base
  unfold logO at HW2
  unfold logV
  clear hL hRv hfv hnv hw2 hb2 hz2 hB1 hB2 hXlt hgl hP0 hO hXY hn1 hs0 hw0 hm hr hf
  go_enter Tryz.func15, Tryz.ntmps15
  go_wp2_with fail
  rw [← HW2.out]
  go_loopw [16] (fun i wr => ∃ j : Nat, j ≤ n ∧ i = .int .i64 (j : Int) ∧ PlayAt w0 Y w g d w.heap.size (runO W (l.take j)) (runO W (l.take j)) wr) (fun i _ => n - (intOf i).toNat)
  case atStart => exact ⟨0, Nat.zero_le _, rfl, HP0.out⟩
  case round =>
    obtain ⟨j, hj, rfl, hP⟩ := hrel
    by_cases hlt : j < n
    · have hjl : j < l.length := by omega
      have hw0r : Below w0.heap.size w0 wr := hbase.out.trans (hP.below.mono (Nat.le_refl _))
      obtain ⟨b, o, rfl, hc⟩ := HO.out.cell (by omega)
      obtain ⟨pb, cb, hx0⟩ := hc j hjl
      have hx := hx0.grow hw0r
      have HB0 := Lib.hid hx0.bytes
      obtain ⟨_, hL0, _⟩ := hP.log
      have HSo := Lib.hid (own_sorted hL0.own)
      have k0 := hx.k0
      have k1 := hx.k1
      have k2 := hx.k2
      have x1 := hx.wk
      have x2 := hx.wn
      have hB := hx.bytes
      have hok := Hok.out j (by omega)
      have hok1 := Hok.out (j + 1) (by omega)
      have hnx := runO_next (W := W) (l := l) (j := j) hjl
      have hszj : sizeL (recsO (l.take j)) ≤ 100000 := by rw [recsO_take]; have := sizeL_takes (recsO l) j; omega
      have Hnx := Lib.hid hnx
      have HRm2 := Lib.hid (show (runO W (l.take (j + 1))).D.room ≤ 1000000 from by obtain ⟨_, _, _, _, hr, _⟩ := HC.out; rw [hok1.rm]; exact hr)
      have HBd := Lib.hid (show (1 ≤ (runO W (l.take j)).n ∧ (runO W (l.take j)).n ≤ 1060) ∧ (runO W (l.take j)).size ≤ 200000 ∧ (runO W (l.take j)).wait ≤ 2000 ∧ (runO W (l.take j)).D.fs.length ≤ 1000 ∧ (runO W (l.take (j + 1))).D.fs.length ≤ 1000 ∧ (runO W (l.take j)).D.room ≤ 1000000 ∧ (0 ≤ (runO W (l.take j)).most ∧ (runO W (l.take j)).most ≤ 1000000) from by
        obtain ⟨hn1, hs0, hw0, hm, hr, hf⟩ := HC.out
        exact ⟨⟨Nat.le_trans hn1.1 hok.n1, by have := hok.n2; omega⟩, by have := hok.size; omega, by have := hok.wait; omega, by have := hok.len; omega, by have := hok1.len; omega, by rw [hok.rm]; exact hr, by rw [hok.same]; exact hm⟩)
      have HP := Lib.hid hP
      have hal := (Below.refl wr.heap.size wr).alloc (Nat.le_refl _) (.cells #[.int .i64 l[j].k, .slice pb l[j].r.length cb, .int .i64 l[j].n] 94)
      have HBa := Lib.hid (hB.grow hal)
      have HBx := Lib.hid (heap_alloc_new wr (.cells #[.int .i64 l[j].k, .slice pb l[j].r.length cb, .int .i64 l[j].n] 94))
      have Hal := Lib.hid hal
      obtain ⟨W2, hW2e⟩ : ∃ W2, W2 = runO W (l.take (j + 1)) := ⟨_, rfl⟩
      rw [← hW2e] at Hnx HBd HRm2
      have HW2e := Lib.hid hW2e
      clear hW2e hok1 hnx
      generalize runO W (l.take j) = W1 at *
      generalize l[j] = x at *
      obtain ⟨k, r, z⟩ := x
      simp only at *
      have Hlt := Lib.hid hlt
      have hji : (j : Int) < (n : Int) := by omega
      have x3 := hB.max
      clear hP hw0r hc hx hx0 hB hok hszj hal hlt hL0
      generalize hrl : r.length = rl at *
      have Hrl := Lib.hid hrl
      clear hrl
      go_upto_block 2 with fail
      obtain ⟨wa, hwa⟩ : ∃ wa, wa = wr.alloc (.cells #[.int .i64 k, .slice pb rl cb, .int .i64 z] 94) := ⟨_, rfl⟩
      rw [← hwa]
      rw [← hwa] at Hal HBa HBx
      have hsza : wa.heap.size = wr.heap.size + 1 := by rw [hwa]; simp
      have Hsza := Lib.hid hsza
      have HKo := Lib.hid (fun (W : World) (hW : W.heap[wr.heap.size]? = wa.heap[wr.heap.size]?) => (show W.cell? ⟨wr.heap.size, 1, none⟩ = some (.slice pb rl cb) ∧ W.cell? ⟨wr.heap.size, 2, none⟩ = some (.int .i64 z) from by
        have h1 := hW.trans HBx.out
        exact ⟨by rw [cell_of_row _ _ _ _ _ (0, 0) h1]; rfl, by rw [cell_of_row _ _ _ _ _ (0, 0) h1]; rfl⟩))
      obtain ⟨o1, o2⟩ := HKo.out wa rfl
      clear hwa hsza
      obtain ⟨hW1n, hW1s, hW1w, hW1f, hW2f, hW1r, hW1m⟩ := HBd.out
      go_cut [12, 13] (fun e c wx => ∃ zc, e = .int .i64 zc ∧ c = .int .i64 zc ∧ PlayAt w0 Y w g d w.heap.size W2 W2 wx)
      case first =>
        by_cases e0 : k = 0
        · subst e0
          have hst : stepO W1 ⟨0, r, z⟩ = putW W1 r := by unfold stepO; rw [if_pos rfl]
          obtain ⟨Y', hL', hYn, hstep⟩ := HP.out.stepLog Hal.out
          have HPut := Lib.hid (put_any hL' pb rl cb r HBa.out hW1n.1 (by omega) (by omega) (by omega) (by omega) (by omega) (by omega) (by omega))
          have hY0 := hYn wr.heap.size (Nat.le_refl _) (by have := Hsza.out; omega)
          have HY0 := Lib.hid hY0
          have Hstep := Lib.hid hstep
          have hnx := Hnx.out
          rw [hst] at hnx
          have Hnx2 := Lib.hid hnx
          have hbase' := Lib.hid hL'.own.base
          clear hL' hYn hstep hY0 hnx hst
          go_wp2_with fail
          refine HPut.out.mono ?_
          rintro e w3 ⟨rfl, hE⟩
          have hP3 := Hstep.out _ _ hE
          obtain ⟨o1, o2⟩ := HKo.out w3 (hE.2.1 _ HY0.out.1 HY0.out.2)
          obtain ⟨X3, a3, n3, c3, hcells, hrl3, hXb, hbox, _⟩ := hP3.stepBox
          obtain ⟨hso1, hso2, hso3⟩ := HSo.out
          have HR := Lib.hid (rwput_any hrl3 hXb hso2 hso1 (by omega) hW1n.1 (by omega) (by omega) (by omega) (by omega) pb rl cb r (HB0.out.grow (hbase.out.trans hP3.below)))
          have Hbox := Lib.hid hbox
          have Hcells := Lib.hid hcells
          unfold logO at hcells
          unfold logV at HR
          obtain ⟨c0, c1, c2, c3', c4, c5, c6, c7, cf⟩ := box8 hcells
          have HW2f := Lib.hid (show (putW W1 r).1.D.fs.length ≤ 1000000 from by rw [← Hnx2.out]; omega)
          clear hE hP3 hcells hrl3 hXb hbox hso1 hso2 hso3
          go_wp2_with fail
          refine HR.out.mono ?_
          rintro e w4 ⟨a5, n5, c5', R5, rfl, hR5, hf5, hb5⟩
          have hq := (hb5.block _ (Array.getElem?_eq_some_iff.1 Hcells.out).1).trans Hcells.out
          unfold logO at hq
          obtain ⟨d0, d1, d2, d3, d4, d5, d6, d7, df⟩ := box8 hq
          have hfin := Hbox.out _ w4 a5 n5 c5' R5 hb5 hR5 hf5 HW2f.out
          rw [← Hnx2.out] at hfin
          have Hfin := Lib.hid hfin
          unfold logV
          clear hR5 hf5 hb5 hq hfin
          rw [← Hnx2.out]
          go_wp2_with fail
          go_meet
          exact ⟨_, rfl, rfl, Hfin.out⟩
        · have hz0 : (k == 0) = false := by rw [beq_eq_false_iff_ne]; exact e0
          by_cases e1 : k = 1
          · subst e1
            have hst : stepO W1 ⟨1, r, z⟩ = syncW W1 := by unfold stepO; rw [if_neg (by show ¬ (1 : Int) = 0; decide), if_pos rfl]
            obtain ⟨Y', hL', hYn, hstep⟩ := HP.out.stepLog Hal.out
            have HSy := Lib.hid (wsync_any hL' hW1n.1 (by omega))
            have hY0 := hYn wr.heap.size (Nat.le_refl _) (by have := Hsza.out; omega)
            have HY0 := Lib.hid hY0
            have Hstep := Lib.hid hstep
            have hnx := Hnx.out
            rw [hst] at hnx
            have Hnx2 := Lib.hid hnx
            clear hL' hYn hstep hY0 hnx hst e0
            go_wp2_with fail
            refine HSy.out.mono ?_
            rintro e w3 ⟨rfl, hE⟩
            have hP3 := Hstep.out _ _ hE
            obtain ⟨o1, o2⟩ := HKo.out w3 (hE.2.1 _ HY0.out.1 HY0.out.2)
            obtain ⟨X3, a3, n3, c3, hcells, hrl3, hXb, hbox, _⟩ := hP3.stepBox
            obtain ⟨hso1, hso2, hso3⟩ := HSo.out
            have HR := Lib.hid (rwsync_any hrl3 hXb hso2 hso1 (by omega) hW1n.1 (by omega))
            have Hbox := Lib.hid hbox
            have Hcells := Lib.hid hcells
            unfold logO at hcells
            unfold logV at HR
            obtain ⟨c0, c1, c2, c3', c4, c5, c6, c7, cf⟩ := box8 hcells
            have HW2f := Lib.hid (show (syncW W1).1.D.fs.length ≤ 1000000 from by rw [← Hnx2.out]; omega)
            clear hE hP3 hcells hrl3 hXb hbox hso1 hso2 hso3
            go_wp2_with fail
            refine HR.out.mono ?_
            rintro e w4 ⟨a5, n5, c5', R5, rfl, hR5, hf5, hb5⟩
            have hq := (hb5.block _ (Array.getElem?_eq_some_iff.1 Hcells.out).1).trans Hcells.out
            unfold logO at hq
            obtain ⟨d0, d1, d2, d3, d4, d5, d6, d7, df⟩ := box8 hq
            have hfin := Hbox.out _ w4 a5 n5 c5' R5 hb5 hR5 hf5 HW2f.out
            rw [← Hnx2.out] at hfin
            have Hfin := Lib.hid hfin
            unfold logV
            clear hR5 hf5 hb5 hq hfin
            rw [← Hnx2.out]
            go_wp2_with fail
            go_meet
            exact ⟨_, rfl, rfl, Hfin.out⟩
          · have hz1 : (k == 1) = false := by rw [beq_eq_false_iff_ne]; exact e1
            have hst : stepO W1 ⟨k, r, z⟩ = ({ W1 with D := armM z W1.D }, 0) := by unfold stepO; rw [if_neg e0, if_neg e1]
            obtain ⟨Y', hL', hYn, hstep⟩ := HP.out.stepArm Hal.out z
            have HAr := Lib.hid (own_arm hL' z x2.1 (by omega))
            have hY0 := hYn wr.heap.size (Nat.le_refl _) (by have := Hsza.out; omega)
            have HY0 := Lib.hid hY0
            have Hstep := Lib.hid hstep
            have hnx := Hnx.out
            rw [hst] at hnx
            have Hnx2 := Lib.hid hnx
            clear hL' hYn hstep hY0 hnx hst e0 e1
            go_wp2_with fail
            refine HAr.out.mono ?_
            rintro e w3 ⟨⟨v3, rfl⟩, hE⟩
            have hP3 := Hstep.out _ hE
            obtain ⟨o1, o2⟩ := HKo.out w3 (hE.2.1 _ HY0.out.1)
            obtain ⟨X3, a3, n3, c3, hcells, hrl3, hXb, _, harm⟩ := hP3.stepBox
            have hfin := harm z
            rw [← Hnx2.out] at hfin
            have Hfin := Lib.hid hfin
            unfold logO at hcells
            obtain ⟨c0, c1, c2, c3', c4, c5, c6, c7, cf⟩ := box8 hcells
            clear hE hP3 hcells hrl3 hXb harm hfin
            go_wp2_with fail
            go_meet
            exact ⟨_, rfl, rfl, Hfin.out⟩
      case rest =>
        obtain ⟨zc, rfl, rfl, hPm⟩ := hcut
        obtain ⟨Y', hL', _⟩ := hPm.log
        obtain ⟨X3, a3, n3, c3, hcells, ⟨a3', n3', c3', R3, e3, hR3, hf3, hn3⟩, hXb, _, _⟩ := hPm.stepBox
        have e3' : a3' = a3 ∧ n3' = n3 ∧ c3' = c3 := by unfold logV at e3; simpa using e3.symm
        obtain ⟨rfl, rfl, rfl⟩ := e3'
        unfold logO at hcells
        obtain ⟨c0, c1, c2, c3, c4, c5, c6, c7, cf⟩ := box8 hcells
        have HKK := Lib.hid (fun V (hV : Below wc.heap.size wc V) => (show V.cell? ⟨w.heap.size, 0, none⟩ = some (.int .i64 (W2.D.room : Int)) ∧ V.cell? ⟨w.heap.size, 1, none⟩ = some (.slice a3' n3' c3') ∧ V.cell? ⟨w.heap.size, 2, none⟩ = some (.int .i64 (W2.D.plan : Int)) ∧ V.cell? ⟨w.heap.size, 3, none⟩ = some (.bool W2.D.down) ∧ V.cell? ⟨w.heap.size, 4, none⟩ = some (.int .i64 W2.most) ∧ V.cell? ⟨w.heap.size, 5, none⟩ = some (.int .i64 (W2.n : Int)) ∧ V.cell? ⟨w.heap.size, 6, none⟩ = some (.int .i64 (W2.size : Int)) ∧ V.cell? ⟨w.heap.size, 7, none⟩ = some (.int .i64 (W2.wait : Int)) from
          ⟨cell_keep hV c0, cell_keep hV c1, cell_keep hV c2, cell_keep hV c3, cell_keep hV c4, cell_keep hV c5, cell_keep hV c6, cell_keep hV c7⟩))
        have hgc := fun V (hV : Below wc.heap.size wc V) => (hL'.below hV).cells
        have HSeg := Lib.hid (fun V (hV : Below wc.heap.size wc V) => segment_any (g := g) (z := (W2.n : Int)) (w := V) (by rw [cell_of_row _ _ _ _ _ (0, 0) (hgc V hV)]; rfl))
        have HSiz := Lib.hid (fun V (hV : Below wc.heap.size wc V) => wsize_any (g := g) (z := (W2.size : Int)) (w := V) (by rw [cell_of_row _ _ _ _ _ (0, 0) (hgc V hV)]; rfl))
        have HWai := Lib.hid (fun V (hV : Below wc.heap.size wc V) => waiting_any (g := g) (z := (W2.wait : Int)) (w := V) (by rw [cell_of_row _ _ _ _ _ (0, 0) (hgc V hV)]; rfl))
        have HUs := Lib.hid (fun V (hV : Below wc.heap.size wc V) => own_used (hL'.own.below hV))
        obtain ⟨hso1, hso2, hso3⟩ := own_sorted hL'.own
        have HRu := Lib.hid (fun V (hV : Below wc.heap.size wc V) => rused_any (hR3.below hXb hV) (fun b hb => Nat.lt_of_lt_of_le (hXb b hb) hV.size) (W2.D.room : Int) (W2.D.plan : Int) W2.D.down (by rw [hf3]; have h2 := HRm2.out; omega))
        rw [hf3] at HRu
        have HDn := Lib.hid (fun V (hV : Below wc.heap.size wc V) => own_down (hL'.own.below hV))
        have HLi := Lib.hid (fun V (hV : Below wc.heap.size wc V) => own_list (hL'.own.below hV) (by omega))
        have HNm := Lib.hid (fun V (hV : Below wc.heap.size wc V) => rnames_any (M := W2.D) (w := V) ⟨a3', n3', c3', R3, rfl, hR3.below hXb hV, hf3, hn3⟩ (fun b hb => Nat.lt_of_lt_of_le (hXb b hb) hV.size))
        unfold refV at HRu HNm
        have HPm := Lib.hid hPm
        have q0 : (zc != zc) = false := by simp
        have q1 : ((W2.n : Int) != (W2.n : Int)) = false := by simp
        have q2 : ((W2.size : Int) != (W2.size : Int)) = false := by simp
        have q3 : ((W2.wait : Int) != (W2.wait : Int)) = false := by simp
        have q4 : ((usedF W2.D.fs : Int) != (usedF W2.D.fs : Int)) = false := by simp
        have q5 : (W2.D.down != W2.D.down) = false := by cases W2.D.down <;> rfl
        clear hPm hL' hcells e3 hR3 hf3 hn3 hXb hgc hso1 hso2 hso3
        generalize (W2.D.room : Int) = ro at *
        generalize (W2.D.plan : Int) = pl at *
        generalize W2.D.down = dn at *
        generalize (usedF W2.D.fs : Int) = us at *
        generalize (W2.n : Int) = vn at *
        generalize (W2.size : Int) = vs at *
        generalize (W2.wait : Int) = vw at *
        generalize W2.most = vm at *
        generalize W2.D.fs.map F.n = ss at *
        generalize W2.D.fs.length = nf at *
        go_wp2_with fail
        go_region_held3 (fun w' => w'.cell? ⟨w.heap.size, 0, none⟩ = some (.int .i64 ro) ∧ w'.cell? ⟨w.heap.size, 1, none⟩ = some (.slice a3' n3' c3') ∧ w'.cell? ⟨w.heap.size, 2, none⟩ = some (.int .i64 pl) ∧ w'.cell? ⟨w.heap.size, 3, none⟩ = some (.bool dn) ∧ w'.cell? ⟨w.heap.size, 4, none⟩ = some (.int .i64 vm) ∧ w'.cell? ⟨w.heap.size, 5, none⟩ = some (.int .i64 vn) ∧ w'.cell? ⟨w.heap.size, 6, none⟩ = some (.int .i64 vs) ∧ w'.cell? ⟨w.heap.size, 7, none⟩ = some (.int .i64 vw))
          (first | exact HKK.out _ hb6 | exact HKK.out _ hb5 | exact HKK.out _ hb4 | exact HKK.out _ hb3 | exact HKK.out _ hb2 | exact HKK.out _ hb1 | exact HKK.out _ ((Below.refl _ _).drew))
          (first
            | (go_at_call 31; (with_reducible refine (HSeg.out _ ((Below.refl _ _).drew)).mono ?_); rintro e w2 ⟨rfl, rfl⟩)
            | (go_at_call 44; (with_reducible refine (HSiz.out _ ((Below.refl _ _).drew)).mono ?_); rintro e w2 ⟨rfl, rfl⟩)
            | (go_at_call 29; (with_reducible refine (HWai.out _ ((Below.refl _ _).drew)).mono ?_); rintro e w2 ⟨rfl, rfl⟩)
            | (go_at_call 50; (with_reducible refine (HUs.out _ ((Below.refl _ _).drew)).mono ?_); rintro e w5 ⟨rfl, hb0⟩; have hb1 : Below wc.heap.size wc w5 := ((Below.refl _ _).drew).trans hb0; clear hb0)
            | (go_at_call 51; (with_reducible refine (HRu.out _ hb1).mono ?_); rintro e w6 ⟨rfl, hb0⟩; have hb2 : Below wc.heap.size wc w6 := hb1.trans (hb0.mono hb1.size); clear hb0)
            | (go_at_call 52; (with_reducible refine (HDn.out _ hb2).mono ?_); rintro e w7 ⟨rfl, rfl⟩)
            | (go_at_call 27; (with_reducible refine (HLi.out _ hb2).mono ?_); rintro e w8 ⟨v2, rfl, hown2, hb0⟩; have hb3 : Below wc.heap.size wc w8 := hb2.trans (hb0.mono hb2.size); clear hb0; obtain ⟨p2, k2', rfl, hs2⟩ := strsQ_of_own hown2; have HS2 := Lib.hid hs2; clear hs2 hown2)
            | (go_at_call 54; (with_reducible refine (HNm.out _ hb3).mono ?_); rintro e w9 ⟨v3, rfl, hown3, hb0⟩; have hb4 : Below wc.heap.size wc w9 := hb3.trans (hb0.mono hb3.size); obtain ⟨p3, k3', rfl, hs3⟩ := strsQ_of_own hown3; have HE3 := Lib.hid (sequal_any p2 p3 _ k2' k3' _ w9 (HS2.out.grow hb0) hs3); clear hb0 hown3 hs3)
            | (go_at_call 53; (with_reducible refine HE3.out.mono ?_); rintro e w10 ⟨rfl, hb0⟩; have hb5 : Below wc.heap.size wc w10 := hb4.trans (hb0.mono hb4.size); clear hb0))
        have Hend := Lib.hid (HPm.out.under hb5)
        clear hb1 hb2 hb3 hb4 hb5
        go_wp2
        go_roundw
        case rel => exact ⟨j + 1, Hlt.out, by go_num, by rw [← HW2e.out]; exact Hend.out⟩
        case measure => simp [intOf]; have := Hlt.out; omega
    · obtain rfl : n = j := by omega
      have hall : l.take n = l := List.take_of_length_le (by omega)
      rw [hall] at hP
      have HP := Lib.hid hP
      obtain ⟨Y', h1, h2, h3, h4, X3, ⟨a3, n3, c3, R3, hcells, hR3, hf3, hn3, hXb⟩, h6, h7⟩ := hP.log
      have hres := hP.res
      have hzl := hP.lt
      obtain ⟨W3, hW3⟩ : ∃ W3, W3 = runO W l := ⟨_, rfl⟩
      rw [← hW3] at hcells hf3 h1
      rw [← hW3]
      have hend : PlayEnd w0 Y w g d W3 (.returned (.tuple #[logV (W3.D.room : Int) a3 n3 c3 (W3.D.plan : Int) W3.D.down W3.most (W3.n : Int) (W3.size : Int) (W3.wait : Int), .bool true])) (set8 wr (w.heap.size + 1) (.int .i64 (W3.D.room : Int)) (.slice a3 n3 c3) (.int .i64 (W3.D.plan : Int)) (.bool W3.D.down) (.int .i64 W3.most) (.int .i64 (W3.n : Int)) (.int .i64 (W3.size : Int)) (.int .i64 (W3.wait : Int))) := by
        have hC := set8_chg wr (w.heap.size + 1) (.int .i64 (W3.D.room : Int)) (.slice a3 n3 c3) (.int .i64 (W3.D.plan : Int)) (.bool W3.D.down) (.int .i64 W3.most) (.int .i64 (W3.n : Int)) (.int .i64 (W3.size : Int)) (.int .i64 (W3.wait : Int))
        obtain ⟨n1, n2, n3', n4⟩ := hP.ne
        refine ⟨a3, n3, c3, R3, X3, rfl, hR3.mono (fun b hb => hC.block b (hXb b hb).1 (h6 b hb).2.2) (fun _ h => h), hf3, hn3, fun b hb => (h7 b hb).symm, ⟨_, h1.turned hC (fun b hb => by rw [hb]; exact ⟨h4, n2, by omega⟩), fun b hb => .inl (h2 b hb), fun b hb => ⟨.inl (h6 b hb).1, (h6 b hb).2.1⟩⟩, fun b hb hg => ?_, hP.below.trans (hC.below (fun b e => by rw [e]; omega) (by omega)), Nat.le_trans hP.size hC.size⟩
        have hbl := hP.yb b hb
        have hsz' := hP.size
        exact (hC.block b (by omega) (fun e => by omega)).trans (hP.keep b hb hg)
      have Hend := Lib.hid (show PlayEnd w0 Y w g d (runO W l) (.returned (.tuple #[logV (W3.D.room : Int) a3 n3 c3 (W3.D.plan : Int) W3.D.down W3.most (W3.n : Int) (W3.size : Int) (W3.wait : Int), .bool true])) (set8 wr (w.heap.size + 1) (.int .i64 (W3.D.room : Int)) (.slice a3 n3 c3) (.int .i64 (W3.D.plan : Int)) (.bool W3.D.down) (.int .i64 W3.most) (.int .i64 (W3.n : Int)) (.int .i64 (W3.size : Int)) (.int .i64 (W3.wait : Int))) from by rw [← hW3]; exact hend)
      unfold logO at hcells
      obtain ⟨c0, c1, c2, c3', c4, c5, c6, c7, cf⟩ := box8 hcells
      obtain ⟨z0, z1, z2, z3, z4, z5, z6, z7, zf⟩ := box8 hres
      clear hP h1 h2 h3 h4 hcells hR3 hf3 hn3 hXb h6 h7 hres hend hall hW3 HP
      go_wp2
      refine bodyPost_ret ?_ rfl Hend.out
      rw [results_cell_tmp rfl]
      go_simp
      rfl
end Go.Proofs.YtehjgkkcpiblcaaGreat
