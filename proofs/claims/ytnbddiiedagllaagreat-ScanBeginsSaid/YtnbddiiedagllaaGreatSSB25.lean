import Derived.Test.YtnbddiiedagllaaGreatSSB24
import Derived.Test.YtnbddiiedagllaaGreatSSB21
import Derived.Test.YtnbddiiedagllaaGreatSSB17
import Derived.Test.YtnbddiiedagllaaGreatSSB5
import Derived.RangeFuncBox
import Derived.RangeFuncLeaves
import Derived.Shelf.Abstract
/- A log in memory on a disk of the call's own; what a step leaves of it. -/
namespace Go.Proofs.YtnbddiiedagllaaGreat
open Go.RowKit Go.Maps Go.Shelf

theorem Own.cellset {w0 : World} {X : Nat → Prop} {w : World} {d : Nat} {M : DM} (h : Own w0 X w d M) {B : Nat} (hB : X B) (h0 : w0.heap.size ≤ B) (i : Nat) (v : Value) : Own w0 X (w.setCell ⟨B, i, none⟩ v) d M := by
 obtain ⟨S, hD, hS, hX, hb⟩ := h
 exact ⟨S, hD.aside (Chg.set (fun b => b = B) w rfl v) (fun b hs e => (hS b hs).2 (by rw [e]; exact hB)), hS, fun b hx => by simp; exact hX b hx, hb.setCell h0 v⟩

theorem Own.sub {w0 : World} {X Y : Nat → Prop} {w : World} {d : Nat} {M : DM} (h : Own w0 X w d M) (hY : ∀ b, Y b → X b) : Own w0 Y w d M := h.more (Below.refl _ _) fun b hb => .inl (hY b hb)

structure LogAt (w0 : World) (Y : Nat → Prop) (w : World) (g d : Nat) (W : WM) : Prop where
 own : Own w0 Y w d W.D
 inY : Y g
 new : w0.heap.size ≤ g
 cells : w.heap[g]? = some (.cells (logC W d) 129 (0, 0))

def LogEnd (w0 : World) (Y : Nat → Prop) (w : World) (g d : Nat) (W' : WM) (w' : World) : Prop :=
 LogAt w0 Y w' g d W' ∧ (∀ b, Y b → b ≠ g → w'.heap[b]? = w.heap[b]?) ∧ Below w0.heap.size w w' ∧ w.heap.size ≤ w'.heap.size

section
variable {w0 : World} {Y : Nat → Prop} {w : World} {g d : Nat} {W : WM}

theorem LogAt.lt (h : LogAt w0 Y w g d W) : g < w.heap.size := (Array.getElem?_eq_some_iff.1 h.cells).1

theorem LogAt.all (h : LogAt w0 Y w g d W) {w1 : World} (hb : Below w.heap.size w w1) : LogAt w0 (fun b => Y b ∨ (w.heap.size ≤ b ∧ b < w1.heap.size)) w1 g d W :=
 ⟨h.own.more hb fun _ hb => hb, .inl h.inY, h.new, (hb.block _ h.lt).trans h.cells⟩

theorem LogAt.below (h : LogAt w0 Y w g d W) {w1 : World} (hb : Below w.heap.size w w1) : LogAt w0 Y w1 g d W :=
 ⟨h.own.below hb, h.inY, h.new, (hb.block _ h.lt).trans h.cells⟩

theorem LogAt.refl (h : LogAt w0 Y w g d W) : LogEnd w0 Y w g d W w := ⟨h, fun _ _ _ => rfl, Below.refl _ _, Nat.le_refl _⟩

theorem LogAt.ended (h : LogAt w0 Y w g d W) {w1 : World} (hb : Below w.heap.size w w1) : LogEnd w0 Y w g d W w1 :=
 ⟨h.below hb, fun b hy _ => hb.block b (h.own.blocks b hy), hb.mono h.own.base.size, hb.size⟩

theorem LogEnd.behind (h : LogAt w0 Y w g d W) {Y1 : Nat → Prop} {w1 w2 : World} {W2 : WM} (hb : Below w.heap.size w w1) (hY : ∀ b, Y b → Y1 b) (he : LogEnd w0 Y1 w1 g d W2 w2) : LogEnd w0 Y w g d W2 w2 := by
 obtain ⟨h1, h2, h3, h4⟩ := he
 exact ⟨⟨h1.own.sub hY, h.inY, h1.new, h1.cells⟩, fun b hy hne => (h2 b (hY b hy) hne).trans (hb.block b (h.own.blocks b hy)), (hb.mono h.own.base.size).trans h3, Nat.le_trans hb.size h4⟩

theorem LogEnd.trans {w1 w2 : World} {W1 W2 : WM} (h1 : LogEnd w0 Y w g d W1 w1) (h2 : LogEnd w0 Y w1 g d W2 w2) : LogEnd w0 Y w g d W2 w2 :=
 ⟨h2.1, fun b hy hne => (h2.2.1 b hy hne).trans (h1.2.1 b hy hne), h1.2.2.1.trans h2.2.2.1, Nat.le_trans h1.2.2.2 h2.2.2.2⟩

theorem step_log (h : LogAt w0 Y w g d W) (x : StepD) (r : DM × Int) (W1 : WM) (hD : W1.D = r.1) (hxn : x.n = (W1.n : Int)) (hxs : x.s = (W1.size : Int)) (hxz : x.z = (W1.wait : Int)) (hm : W1.most = W.most)
  (hdo : ∀ (Z : Nat → Prop) w', (∀ b, Y b → Z b) → Own w0 Z w' d W.D → (∀ b, Y b → w'.heap[b]? = w.heap[b]?) → Calls Tryz.prog x.k x.caps w' (OwnAct w0 Z w' d r)) (Q : Ending → World → Prop) (J : World → Prop)
  (hQ : ∀ w', LogEnd w0 Y w g d { W with D := r.1 } w' → r.2 ≠ 0 → Q (.returned (.int .i64 r.2)) w') (hJ : ∀ w', LogEnd w0 Y w g d W1 w' → r.2 = 0 → J w') :
  Calls Tryz.prog x.k x.caps (w.alloc (.cells x.cells 135)) (TakeStep g w.heap.size x Q J) := by
 have hb : Below w.heap.size w (w.alloc (.cells x.cells 135)) := (Below.refl _ _).alloc (Nat.le_refl _) _
 have hA := h.all hb
 have hYs : ∀ b, Y b → b < w.heap.size := h.own.blocks
 refine (hdo _ _ (fun b hy => .inl hy) hA.own (fun b hy => hb.block b (hYs b hy))).mono ?_
 rintro e w2 ⟨rfl, ho, hk, hbb, hsz⟩
 have hkY : ∀ b, Y b → w2.heap[b]? = w.heap[b]? := fun b hy => (hk b (.inl hy)).trans (hb.block b (hYs b hy))
 have hg2 : w2.heap[g]? = some (.cells (logC W d) 129 (0, 0)) := (hkY g h.inY).trans h.cells
 have hbw : Below w0.heap.size w w2 := (hb.mono h.own.base.size).trans hbb
 refine ⟨r.2, rfl, fun hc => ?_, fun hc => ⟨?_, ⟨_, hg2, rfl⟩, ?_⟩⟩
 ·exact hQ _ ⟨⟨ho.sub fun b hy => .inl hy, h.inY, h.new, hg2⟩, fun b hy _ => hkY b hy, hbw, Nat.le_trans hb.size hsz⟩ hc
 ·exact (hk _ (.inr ⟨Nat.le_refl _, by simp⟩)).trans (heap_alloc_new _ _)
 ·have hoY : Own w0 Y w2 d r.1 := ho.sub fun b hy => .inl hy
  have h1 := set_head (i := 0) hg2 (.int .i64 x.n)
  have h2 := set_head (i := 1) h1 (.int .i64 x.s)
  have h3 := set_head (i := 2) h2 (.int .i64 x.z)
  refine hJ _ ⟨⟨?_, h.inY, h.new, ?_⟩, fun b hy hne => ?_, ?_, ?_⟩ hc
  ·rw [hD]
   exact ((hoY.cellset h.inY h.new 0 _).cellset h.inY h.new 1 _).cellset h.inY h.new 2 _
  ·rw [h3, hxn, hxs, hxz]
   unfold logC
   rw [hm]
   rfl
  ·repeat rw [Below.heap_setCell _ _ _ _ hne]
   exact hkY b hy
  ·exact ((hbw.setCell h.new _).setCell h.new _).setCell h.new _
  ·simp only [World.size_setCell]
   exact Nat.le_trans hb.size hsz

theorem step_row {x : StepD} {sb : Nat} {L : List StepD} {w' : World} {t : TypeId} (hrow : w'.heap[sb]? = some (.cells (L.flatMap fun x => x.cells.toList).toArray t (0, 0))) (j : Nat) (hj : L[j]? = some x) :
  w'.cell? ⟨sb, j * 4, none⟩ = some (.func (.func x.k) #[] x.caps) ∧ w'.cell? ⟨sb, j * 4 + 1, none⟩ = some (.int .i64 x.n) ∧ w'.cell? ⟨sb, j * 4 + 2, none⟩ = some (.int .i64 x.s) ∧ w'.cell? ⟨sb, j * 4 + 3, none⟩ = some (.int .i64 x.z) := by
 have key : ∀ (L : List StepD) (j : Nat), L[j]? = some x → ∀ i, i < 4 → (L.flatMap fun x => x.cells.toList)[j * 4 + i]? = x.cells.toList[i]? := by
  intro L
  induction L with
  | nil => intro j h; simp at h
  | cons y L ih =>
   intro j h i hi
   rw [List.flatMap_cons]
   have hl : y.cells.toList.length = 4 := rfl
   cases j with
   | zero =>
    have e : y = x := by simpa using h
    subst e
    rw [Nat.zero_mul, Nat.zero_add, List.getElem?_append_left (by omega)]
   | succ j =>
    rw [List.getElem?_append_right (by omega), hl, show (j + 1) * 4 + i - 4 = j * 4 + i by omega]
    exact ih j (by simpa using h) i hi
 have hc : ∀ i, i < 4 → w'.cell? ⟨sb, j * 4 + i, none⟩ = x.cells.toList[i]? := fun i hi => by
  rw [cell_of_row _ _ _ _ _ (0, 0) hrow, List.getElem?_toArray]
  exact key L j hj i hi
 exact ⟨hc 0 (by omega), hc 1 (by omega), hc 2 (by omega), hc 3 (by omega)⟩

theorem take1_any (h : LogAt w0 Y w g d W) (sb cap : Nat) (x : StepD) (hent : ∀ args w, (callFunc x.k args).run Tryz.prog w = .ok (.enter x.k args) w) (r : DM × Int) (W1 : WM) (hD : W1.D = r.1) (hxn : x.n = (W1.n : Int)) (hxs : x.s = (W1.size : Int)) (hxz : x.z = (W1.wait : Int)) (hm : W1.most = W.most)
  (hrow : w.heap[sb]? = some (.cells ([x].flatMap fun x => x.cells.toList).toArray 135 (0, 0)))
  (hdo : ∀ (Z : Nat → Prop) w', (∀ b, Y b → Z b) → Own w0 Z w' d W.D → (∀ b, Y b → w'.heap[b]? = w.heap[b]?) → Calls Tryz.prog x.k x.caps w' (OwnAct w0 Z w' d r)) :
  Calls Tryz.prog 78 #[.pointer (some ⟨g, 0, none⟩), .slice (some ⟨sb, 0, none⟩) 1 cap] w fun e w' => e = .returned (.int .i64 r.2) ∧ LogEnd w0 Y w g d (if r.2 = 0 then W1 else { W with D := r.1 }) w' := by
 refine take_any g sb 1 cap [x] rfl (by omega) (fun j w' => (j = 0 ∧ w' = w) ∨ (j = 1 ∧ LogEnd w0 Y w g d W1 w' ∧ r.2 = 0)) _ w (fun j hj args w => ?_) (.inl ⟨rfl, rfl⟩) (fun j hj w' hJ => ?_) (fun j hj w' hJ => ?_) (fun w' hJ => ?_)
 ·obtain rfl : j = 0 := by simp at hj; exact hj
  exact hent args w
 ·obtain rfl : j = 0 := by simp at hj; exact hj
  rcases hJ with ⟨_, rfl⟩ | ⟨h1, _⟩
  ·exact step_row hrow 0 rfl
  ·omega
 ·obtain rfl : j = 0 := by simp at hj; exact hj
  rcases hJ with ⟨_, rfl⟩ | ⟨h1, _⟩
  ·refine step_log h x r W1 hD hxn hxs hxz hm hdo _ _ (fun w' hq hr => ⟨rfl, by rw [if_neg hr]; exact hq⟩) (fun w' hq hr => .inr ⟨rfl, hq, hr⟩)
  ·omega
 ·rcases hJ with ⟨h1, _⟩ | ⟨_, hq, hr⟩
  ·omega
  ·exact ⟨by rw [hr], by rw [if_pos hr]; exact hq⟩

theorem take2_any (h : LogAt w0 Y w g d W) (sb cap : Nat) (hsb : Y sb) (hne : sb ≠ g) (x y : StepD) (hent : ∀ args w, (callFunc x.k args).run Tryz.prog w = .ok (.enter x.k args) w) (hent2 : ∀ args w, (callFunc y.k args).run Tryz.prog w = .ok (.enter y.k args) w)
  (r s : DM × Int) (W1 W2 : WM) (hD : W1.D = r.1) (hxn : x.n = (W1.n : Int)) (hxs : x.s = (W1.size : Int)) (hxz : x.z = (W1.wait : Int)) (hm : W1.most = W.most)
  (hD2 : W2.D = s.1) (hyn : y.n = (W2.n : Int)) (hys : y.s = (W2.size : Int)) (hyz : y.z = (W2.wait : Int)) (hm2 : W2.most = W1.most)
  (hrow : w.heap[sb]? = some (.cells ([x, y].flatMap fun x => x.cells.toList).toArray 135 (0, 0)))
  (hdo : ∀ (Z : Nat → Prop) w', (∀ b, Y b → Z b) → Own w0 Z w' d W.D → (∀ b, Y b → w'.heap[b]? = w.heap[b]?) → Calls Tryz.prog x.k x.caps w' (OwnAct w0 Z w' d r))
  (hdo2 : ∀ (Z : Nat → Prop) w1 w', (∀ b, Y b → Z b) → LogEnd w0 Y w g d W1 w1 → Own w0 Z w' d W1.D → (∀ b, Y b → w'.heap[b]? = w1.heap[b]?) → Calls Tryz.prog y.k y.caps w' (OwnAct w0 Z w' d s)) :
  Calls Tryz.prog 78 #[.pointer (some ⟨g, 0, none⟩), .slice (some ⟨sb, 0, none⟩) 2 cap] w fun e w' => e = .returned (.int .i64 (if r.2 = 0 then s.2 else r.2)) ∧ LogEnd w0 Y w g d (if r.2 = 0 then (if s.2 = 0 then W2 else { W1 with D := s.1 }) else { W with D := r.1 }) w' := by
 refine take_any g sb 2 cap [x, y] rfl (by omega) (fun j w' => (j = 0 ∧ w' = w) ∨ (j = 1 ∧ LogEnd w0 Y w g d W1 w' ∧ r.2 = 0) ∨ (j = 2 ∧ LogEnd w0 Y w g d W2 w' ∧ r.2 = 0 ∧ s.2 = 0)) _ w (fun j hj args w => ?_) (.inl ⟨rfl, rfl⟩) (fun j hj w' hJ => ?_) (fun j hj w' hJ => ?_) (fun w' hJ => ?_)
 ·rcases (show j = 0 ∨ j = 1 by simp at hj; omega) with rfl | rfl
  ·exact hent args w
  ·exact hent2 args w
 ·rcases (show j = 0 ∨ j = 1 by simp at hj; omega) with rfl | rfl
  ·rcases hJ with ⟨_, rfl⟩ | ⟨h1, _⟩ | ⟨h1, _⟩
   ·exact step_row hrow 0 rfl
   ·omega
   ·omega
  ·rcases hJ with ⟨h1, _⟩ | ⟨_, hq, _⟩ | ⟨h1, _⟩
   ·omega
   ·exact step_row (L := [x, y]) ((hq.2.1 sb hsb hne).trans hrow) 1 rfl
   ·omega
 ·rcases (show j = 0 ∨ j = 1 by simp at hj; omega) with rfl | rfl
  ·rcases hJ with ⟨_, rfl⟩ | ⟨h1, _⟩ | ⟨h1, _⟩
   ·exact step_log h x r W1 hD hxn hxs hxz hm hdo _ _ (fun w' hq hr => ⟨by rw [if_neg hr], by rw [if_neg hr]; exact hq⟩) (fun w' hq hr => .inr (.inl ⟨rfl, hq, hr⟩))
   ·omega
   ·omega
  ·rcases hJ with ⟨h1, _⟩ | ⟨_, hq, hr⟩ | ⟨h1, _⟩
   ·omega
   ·exact step_log hq.1 y s W2 hD2 hyn hys hyz hm2 (fun Z w'' hZ ho hk => hdo2 Z w' w'' hZ hq ho hk) _ _ (fun w'' hq2 hs => ⟨by rw [if_pos hr], by rw [if_pos hr, if_neg hs]; exact hq.trans hq2⟩)
     (fun w'' hq2 hs => .inr (.inr ⟨rfl, hq.trans hq2, hr, hs⟩))
   ·omega
 ·rcases hJ with ⟨h1, _⟩ | ⟨h1, _⟩ | ⟨_, hq, hr, hs⟩
  ·omega
  ·omega
  ·exact ⟨by rw [if_pos hr, hs], by rw [if_pos hr, if_pos hs]; exact hq⟩
end
end Go.Proofs.YtnbddiiedagllaaGreat

/- Facts that the statements' loops ask for: logs beside blocks that turn, a box that holds a log of the reference, how small the files of a log are. -/
namespace Go.Proofs.YtnbddiiedagllaaGreat
open Go.RowKit Go.Maps Go.Shelf

theorem filesL_names {B : List (List (List Nat))} {c : List (List Nat)} {k : Nat} : (filesL B c k).map F.n = (List.range (B.length + 1)).map fun i => nmB (i + 1) := by
 unfold filesL
 apply List.ext_getElem (by simp)
 intro i h1 h2
 rw [List.getElem_map, List.getElem_map, List.getElem_range]
 by_cases h : i < B.length
 ·rw [List.getElem_append_left (by rw [List.length_mapIdx]; exact h), List.getElem_mapIdx]
  rfl
 ·have e : i = B.length := by simp at h2; omega
  subst e
  rw [List.getElem_append_right (by rw [List.length_mapIdx]; exact Nat.le_refl _)]
  simp [lastF]

section
variable {W : WM} {B : List (List (List Nat))} {c : List (List Nat)}

theorem LInv.sorted (h : LInv W B c) : Sorted W.D.fs := by
 have hn := h.n
 have hm := h.nmax
 have e : (W.D.fs.map F.n) = (List.range (B.length + 1)).map fun i => nmB (i + 1) := by rw [h.fs]; exact filesL_names
 have h2 : ((List.range (B.length + 1)).map fun i => nmB (i + 1)).Pairwise fun x y => x < y := by
  rw [List.pairwise_map, List.pairwise_iff_getElem]
  intro i j hi hj hij
  rw [List.length_range] at hi hj
  rw [List.getElem_range, List.getElem_range]
  refine (before_lt _ _).1 ?_
  rw [nmB_before (by omega) (by omega)]
  exact decide_eq_true (by omega)
 rw [← e, List.pairwise_map] at h2
 exact h2

theorem LInv.small (h : LInv W B c) : W.D.fs.length = W.n ∧ usedF W.D.fs = sizeL (B.flatten ++ c) ∧ ∀ f ∈ W.D.fs, f.n.length ≤ 9223372036854775807 := by
 have e : (W.D.fs.map F.n) = (List.range (B.length + 1)).map fun i => nmB (i + 1) := by rw [h.fs]; exact filesL_names
 refine ⟨?_, by rw [h.fs]; exact filesL_used B c W.wait, fun f hf => ?_⟩
 ·have := congrArg List.length e
  rw [List.length_map, List.length_map, List.length_range] at this
  rw [this, h.n]
 ·have h1 : f.n ∈ W.D.fs.map F.n := List.mem_map.2 ⟨f, hf, rfl⟩
  rw [e] at h1
  obtain ⟨i, _, e2⟩ := List.mem_map.1 h1
  rw [← e2]
  unfold nmB
  rw [List.length_map, nameL_len]
  decide

theorem LInv.bound (h : LInv W B c) : W.size ≤ sizeL (B.flatten ++ c) ∧ W.wait ≤ (B.flatten ++ c).length := by
 have h1 := h.size
 have h2 := h.wait
 rw [sizeL_append, List.length_append]
 omega
end

theorem cutF_small (f : F) (k : Int) : (cutF f k).n = f.n ∧ (cutF f k).b.length ≤ f.b.length := by
 unfold cutF
 refine ⟨rfl, ?_⟩
 show (List.take _ _).length ≤ _
 rw [List.length_take]
 omega

theorem crashM_small (ks : List Int) (M : DM) : (crashM ks M).fs.length = M.fs.length ∧ (crashM ks M).fs.map F.n = M.fs.map F.n ∧ usedF (crashM ks M).fs ≤ usedF M.fs ∧ (crashM ks M).down = false ∧ (crashM ks M).room = M.room := by
 refine ⟨by unfold crashM; simp, ?_, ?_, rfl, rfl⟩
 ·unfold crashM
  simp only
  apply List.ext_getElem (by simp)
  intro i h1 h2
  simp [(cutF_small _ _).1]
 ·unfold crashM
  simp only
  have key : ∀ (l : List F) (g : Nat → Int), usedF (l.mapIdx fun i f => cutF f (g i)) ≤ usedF l := by
   intro l
   induction l with
   | nil => intro g; exact Nat.le_refl _
   | cons x r ih =>
    intro g
    rw [List.mapIdx_cons]
    have h1 := ih (fun i => g (i + 1))
    have h2 := (cutF_small x (g 0)).2
    unfold usedF at h1 ⊢
    rw [List.map_cons, List.map_cons, List.sum_cons, List.sum_cons]
    omega
  exact key M.fs (fun i => ks.getD i 0)

theorem crashM_names {ks : List Int} {M : DM} {k : Nat} (h : ∀ f ∈ M.fs, f.n.length ≤ k) : ∀ f ∈ (crashM ks M).fs, f.n.length ≤ k := by
 intro f hf
 have h1 : f.n ∈ (crashM ks M).fs.map F.n := List.mem_map.2 ⟨f, hf, rfl⟩
 rw [(crashM_small ks M).2.1] at h1
 obtain ⟨f', hf', e⟩ := List.mem_map.1 h1
 rw [← e]
 exact h f' hf'

theorem sizeL_takes (ls : List (List Nat)) (j : Nat) : sizeL (ls.take j) ≤ sizeL ls := by
 conv => rhs; rw [← List.take_append_drop j ls, sizeL_append]
 omega

theorem Own.turned {w0 : World} {X Y T : Nat → Prop} {w w' : World} {d : Nat} {M : DM} (h : Own w0 X w d M) (hc : Chg T w w') (hT : ∀ b, T b → X b) (h0 : ∀ b, T b → w0.heap.size ≤ b) (hY : ∀ b, Y b → X b ∨ (w.heap.size ≤ b ∧ b < w'.heap.size)) : Own w0 Y w' d M := by
 obtain ⟨S, hD, hS, hX, hb⟩ := h
 have hlt : ∀ b, S b → b < w.heap.size := by
  obtain ⟨mb, p, L, hA⟩ := hD
  exact hA.bound
 refine ⟨S, hD.aside hc (fun b hs ht => (hS b hs).2 (hT b ht)), fun b hs => ⟨(hS b hs).1, fun hy => ?_⟩, fun b hy => ?_, hb.trans (hc.below h0 hb.size)⟩
 ·rcases hY b hy with h1 | h1
  ·exact (hS b hs).2 h1
  ·have := hlt b hs; omega
 ·rcases hY b hy with h1 | h1
  ·exact Nat.lt_of_lt_of_le (hX b h1) hc.size
  ·exact h1.2

section
variable {w0 : World} {Y : Nat → Prop} {w : World} {g d : Nat} {W : WM}

theorem LogAt.turned (h : LogAt w0 Y w g d W) {T : Nat → Prop} {w' : World} (hc : Chg T w w') (hT : ∀ b, T b → Y b ∧ b ≠ g ∧ w0.heap.size ≤ b) : LogAt w0 (fun b => Y b ∨ (w.heap.size ≤ b ∧ b < w'.heap.size)) w' g d W :=
 ⟨h.own.turned hc (fun b hb => (hT b hb).1) (fun b hb => (hT b hb).2.2) (fun _ hb => hb), .inl h.inY, h.new, (hc.block g h.lt (fun e => (hT g e).2.1 rfl)).trans h.cells⟩
end

def RBox (X : Nat → Prop) (w : World) (B : Nat) (W : WM) : Prop :=
 ∃ a n c R, w.heap[B]? = some (logO (W.D.room : Int) a n c (W.D.plan : Int) W.D.down W.most (W.n : Int) (W.size : Int) (W.wait : Int)) ∧ RowF X w a n c R ∧ R.map FR.f = W.D.fs ∧ n ≤ 1000000 ∧ ∀ b, X b → b < w.heap.size ∧ b ≠ B

theorem RBox.below {X : Nat → Prop} {w w' : World} {B : Nat} {W : WM} (h : RBox X w B W) (hb : Below w.heap.size w w') : RBox X w' B W := by
 obtain ⟨a, n, c, R, h1, h2, h3, h4, h5⟩ := h
 exact ⟨a, n, c, R, (hb.block B (Array.getElem?_eq_some_iff.1 h1).1).trans h1, h2.below (fun b hx => (h5 b hx).1) hb, h3, h4, fun b hx => ⟨Nat.lt_of_lt_of_le (h5 b hx).1 hb.size, (h5 b hx).2⟩⟩

theorem RBox.ref {X : Nat → Prop} {w : World} {B : Nat} {W : WM} (h : RBox X w B W) : ∃ a n c R, w.heap[B]? = some (logO (W.D.room : Int) a n c (W.D.plan : Int) W.D.down W.most (W.n : Int) (W.size : Int) (W.wait : Int)) ∧
  RLogAt X w (logV (W.D.room : Int) a n c (W.D.plan : Int) W.D.down W.most (W.n : Int) (W.size : Int) (W.wait : Int)) W ∧ RefAt X w (refV (W.D.room : Int) a n c (W.D.plan : Int) W.D.down) W.D ∧ RowF X w a n c R := by
 obtain ⟨a, n, c, R, h1, h2, h3, h4, h5⟩ := h
 exact ⟨a, n, c, R, h1, ⟨a, n, c, R, rfl, h2, h3, h4⟩, ⟨a, n, c, R, rfl, h2, h3, h4⟩, h2⟩

def set8 (w : World) (B : Nat) (v0 v1 v2 v3 v4 v5 v6 v7 : Value) : World :=
 ((((((((w.setCell ⟨B, 0, none⟩ v0).setCell ⟨B, 1, none⟩ v1).setCell ⟨B, 2, none⟩ v2).setCell ⟨B, 3, none⟩ v3).setCell ⟨B, 4, none⟩ v4).setCell ⟨B, 5, none⟩ v5).setCell ⟨B, 6, none⟩ v6).setCell ⟨B, 7, none⟩ v7)

theorem set8_size (w : World) (B : Nat) (v0 v1 v2 v3 v4 v5 v6 v7 : Value) : (set8 w B v0 v1 v2 v3 v4 v5 v6 v7).heap.size = w.heap.size := by
 unfold set8; simp

theorem set8_chg (w : World) (B : Nat) (v0 v1 v2 v3 v4 v5 v6 v7 : Value) : Chg (fun b => b = B) w (set8 w B v0 v1 v2 v3 v4 v5 v6 v7) :=
 ((((((((Chg.set (fun b => b = B) w rfl v0).same (Chg.set (fun b => b = B) _ rfl v1)).same (Chg.set (fun b => b = B) _ rfl v2)).same (Chg.set (fun b => b = B) _ rfl v3)).same (Chg.set (fun b => b = B) _ rfl v4)).same (Chg.set (fun b => b = B) _ rfl v5)).same (Chg.set (fun b => b = B) _ rfl v6)).same (Chg.set (fun b => b = B) _ rfl v7))

theorem rbox_set {Z : Nat → Prop} {w : World} {B : Nat} {z0 z1 z2 z3 z4 z5 z6 z7 : Value} (hB : w.heap[B]? = some (.cells #[z0, z1, z2, z3, z4, z5, z6, z7] 47 (0, 0))) {a : Option Addr} {n c : Nat} {R : List FR} (hR : RowF Z w a n c R) (hZ : ∀ b, Z b → b < w.heap.size ∧ b ≠ B) {W : WM} (hf : R.map FR.f = W.D.fs) (hn : n ≤ 1000000) :
  RBox Z (set8 w B (.int .i64 (W.D.room : Int)) (.slice a n c) (.int .i64 (W.D.plan : Int)) (.bool W.D.down) (.int .i64 W.most) (.int .i64 (W.n : Int)) (.int .i64 (W.size : Int)) (.int .i64 (W.wait : Int))) B W := by
 refine ⟨a, n, c, R, ?_, hR.mono (fun b h => ?_) (fun _ h => h), hf, hn, fun b hb => ⟨by rw [set8_size]; exact (hZ b hb).1, (hZ b hb).2⟩⟩
 ·unfold set8
  have h1 := set_head (i := 0) hB (.int .i64 (W.D.room : Int))
  have h2 := set_head (i := 1) h1 (.slice a n c)
  have h3 := set_head (i := 2) h2 (.int .i64 (W.D.plan : Int))
  have h4 := set_head (i := 3) h3 (.bool W.D.down)
  have h5 := set_head (i := 4) h4 (.int .i64 W.most)
  have h6 := set_head (i := 5) h5 (.int .i64 (W.n : Int))
  have h7 := set_head (i := 6) h6 (.int .i64 (W.size : Int))
  have h8 := set_head (i := 7) h7 (.int .i64 (W.wait : Int))
  simpa [logO] using h8
 ·exact (set8_chg w B _ _ _ _ _ _ _ _).block b (hZ b h).1 (hZ b h).2

theorem rbox_put {X : Nat → Prop} {w w5 : World} {B : Nat} {W r : WM} (h : RBox X w B W) {a : Option Addr} {n c : Nat} {R : List FR} (hR : RowF (fun b => (X b ∨ w.heap.size ≤ b) ∧ b < w5.heap.size) w5 a n c R) (hf : R.map FR.f = r.D.fs) (hb : Below w.heap.size w w5) (hn : r.D.fs.length ≤ 1000000) :
  RBox (fun b => (X b ∨ w.heap.size ≤ b) ∧ b < w5.heap.size) (set8 w5 B (.int .i64 (r.D.room : Int)) (.slice a n c) (.int .i64 (r.D.plan : Int)) (.bool r.D.down) (.int .i64 r.most) (.int .i64 (r.n : Int)) (.int .i64 (r.size : Int)) (.int .i64 (r.wait : Int))) B r := by
 obtain ⟨a0, n0, c0, R0, h1, h2, h3, h4, h5⟩ := h
 have hlt := (Array.getElem?_eq_some_iff.1 h1).1
 refine rbox_set ((hb.block B hlt).trans h1) hR (fun b hb => ⟨hb.2, fun e => ?_⟩) hf ?_
 ·rcases hb.1 with h6 | h6
  ·exact (h5 b h6).2 e
  ·omega
 ·rw [← hR.len, ← List.length_map (f := FR.f), hf]
  exact hn

end Go.Proofs.YtnbddiiedagllaaGreat

/- The walks of Open once more (its bytes lie in memory of its own), and of Next, of the code and of the reference. -/
namespace Go.Proofs.YtnbddiiedagllaaGreat
open Go.RowKit Crc

def OpenOwn (w : World) (l : List Nat) (e : Ending) (w' : World) : Prop :=
 Below w.heap.size w w' ∧ ((∃ b, sealL b = l ∧ ∃ g, e = .returned (.tuple #[.slice (some ⟨g, 0, none⟩) b.length b.length, .bool true]) ∧ w.heap.size ≤ g ∧ U8Row w' g b.length ∧ Bytes w' (some ⟨g, 0, none⟩) b.length b.length b) ∨ ((∀ b, sealL b ≠ l) ∧ e = .returned (.tuple #[.slice none 0 0, .bool false])))

set_option maxRecDepth 100000 in
theorem open_own (a : Addr) (n cap : Nat) (l : List Nat) (w : World) (hl : Bytes w (some a) n cap l) (hn : 4 ≤ n) (hm : n ≤ 100000000000000) :
  Calls Tryz.prog 214 #[.slice (some a) n cap] w (OpenOwn w l) := by
 have hB := Lib.hid hl
 have hle := hl.le
 clear hl
 obtain ⟨m, rfl⟩ : ∃ m, n = m + 4 := ⟨n - 4, by omega⟩
 have hT : Bytes w (some a) m m (l.take m) := hB.out.takeTo (by omega) (Nat.le_refl _) (by omega)
 have hT := Lib.hid hT
 have hsl : (sealL (l.take m)).length = m + 4 := by rw [sealL_len, hT.out.len]
 have hsl := Lib.hid hsl
 rename_i hT0 hsl0; clear hT0 hsl0
 go_enter Tryz.func214, Tryz.ntmps214
 go_wp2_with fail
 refine (seal_any (some a) m m (l.take m) w hT.out (by omega)).mono ?_
 rintro e w1 ⟨v, rfl, hown, hb1⟩
 have hown : w1.ownsRow w.heap.size 5 1 v (sealL (l.take m)).length (u8s (sealL (l.take m))) := hown
 rw [hsl.out] at hown
 obtain ⟨g, cp, rfl, hbg, hcp, hrow⟩ := own_row hown (by omega)
 have HC := Lib.hid (bytes_of_own hown (sealL_byte hT.out.byte))
 have Hrow := Lib.hid hrow
 clear hown hrow
 by_cases heq : sealL (l.take m) = l
 ·have Heq := Lib.hid heq
  clear heq
  go_wp2_with fail
  refine (bytesEqual_yes _ _ _ _ _ _ l w1 (Heq.out ▸ HC.out) (hB.out.grow hb1)).mono ?_
  rintro e w1 ⟨rfl, rfl⟩
  go_wp2
  go_ret2
  obtain ⟨cur, hg, hc⟩ := Hrow.out
  have hT2 := take_seal HC.out hT.out.len (by omega)
  refine ⟨hb1, .inl ⟨l.take m, Heq.out, g, ?_, hbg, ⟨cur, hg, fun i hi => hc i ?_⟩, ?_⟩⟩
  ·rw [hT.out.len]; rfl
  ·rw [hT.out.len] at hi; omega
  ·rw [hT.out.len]; exact hT2
 ·go_wp2_with fail
  refine (bytesEqual_no _ _ _ _ _ _ _ l w1 HC.out (hB.out.grow hb1) heq).mono ?_
  rintro e w1 ⟨rfl, rfl⟩
  have Hne := Lib.hid heq
  clear heq
  go_wp2
  go_ret2
  refine ⟨hb1, .inr ⟨fun b hb => Hne.out ?_, rfl⟩⟩
  have e : l.take m = b := by
   have hlb : b.length = m := by have := sealL_len b; rw [hb, hB.out.len] at this; omega
   rw [← hb, ← hlb]
   exact List.take_left
  rw [e, hb]

def NextEnd (w : World) (l : List Nat) (e : Ending) (w' : World) : Prop :=
 Below w.heap.size w w' ∧ ((∃ r t p cp, l = frameL r ++ t ∧ r.length ≤ 1048576 ∧ e = .returned (.tuple #[.slice p r.length cp, .int .i64 ((r.length + 8 : Nat) : Int)]) ∧ Bytes w' p r.length cp r ∧
   (∀ x, p = some x → w.heap.size ≤ x.block) ∧ (0 < r.length → ∃ g, p = some ⟨g, 4, none⟩ ∧ w.heap.size ≤ g ∧ U8Row w' g (r.length + 4))) ∨
  (NoFrame l ∧ e = .returned (.tuple #[.slice none 0 0, .int .i64 0])))

set_option maxRecDepth 100000 in
theorem next_short (a : Option Addr) (n cap : Nat) (l : List Nat) (w : World) (hl : Bytes w a n cap l) (hn : n < 8) :
  Calls Tryz.prog 209 #[.slice a n cap] w (NextEnd w l) := by
 have HB := Lib.hid hl
 clear hl
 go_enter Tryz.func209, Tryz.ntmps209
 go_wp2
 go_ret2
 exact ⟨Below.refl _ _, .inr ⟨noFrame_short (by rw [HB.out.len]; exact hn), rfl⟩⟩

def byteAt (l : List Nat) (i : Nat) : Nat := l.getD i 0
def fourV (l : List Nat) : List Value := [.int .u8 (byteAt l 0 : Nat), .int .u8 (byteAt l 1 : Nat), .int .u8 (byteAt l 2 : Nat), .int .u8 (byteAt l 3 : Nat)]

theorem u8_info1 : (Tryz.prog.info? 5).map (·.size) = some 1 := by kernel_rfl

theorem byteAt_lt {l : List Nat} (h : ∀ x ∈ l, x < 256) (i : Nat) : byteAt l i < 256 := by
 unfold byteAt
 rw [List.getD_eq_getElem?_getD]
 by_cases hi : i < l.length
 ·rw [List.getElem?_eq_getElem hi]
  exact h _ (List.getElem_mem _)
 ·rw [List.getElem?_eq_none (by omega)]
  decide

theorem copy_head {w : World} {b o n cap g : Nat} {l : List Nat} (ty : TypeId) (hB : Bytes w (some ⟨b, o, none⟩) n cap l) (hn : 8 ≤ n) (hg : g = w.heap.size) :
  (Builtin.copy_ #[58, 58] ty #[.slice (some ⟨g, 0, none⟩) 4 4, .slice (some ⟨b, o, none⟩) n cap]).run Tryz.prog (w.alloc (.cells #[.int .u8 0, .int .u8 0, .int .u8 0, .int .u8 0] 182)) =
   .ok (.int .i64 4) (w.alloc (.cells #[.int .u8 (byteAt l 0 : Nat), .int .u8 (byteAt l 1 : Nat), .int .u8 (byteAt l 2 : Nat), .int .u8 (byteAt l 3 : Nat)] 182)) := by
 subst hg
 have hG := hB.grow ((Below.refl w.heap.size w).alloc (Nat.le_refl _) (.cells #[.int .u8 0, .int .u8 0, .int .u8 0, .int .u8 0] 182))
 have hmin : (fourV l).length = Nat.min n 4 := by
  show 4 = Nat.min n 4
  exact (Nat.min_eq_right (by omega)).symm
 have hr := run_copy_row (P := Tryz.prog) (w.alloc (.cells #[.int .u8 0, .int .u8 0, .int .u8 0, .int .u8 0] 182)) 58 58 ty 5 w.heap.size 0 4 4 ⟨b, o, none⟩ n cap #[.int .u8 0, .int .u8 0, .int .u8 0, .int .u8 0] 182 (fourV l)
  Tryz.underlying58 u8_info1 (heap_alloc_new _ _) hmin ?_ (by show 0 + 4 ≤ 4; decide) ?_
 ·rw [hr, World.setRow_alloc_new]
  rfl
 ·intro j v hv
  have hj : j < 4 := (List.getElem?_eq_some_iff.1 hv).1
  obtain ⟨b', o', e, hc⟩ := hG.cell (by omega)
  cases e
  have := hc j (by omega)
  have hadd : (⟨b, o, none⟩ : Addr).add j = ⟨b, o + j, none⟩ := by unfold Addr.add; split <;> simp_all
  rw [hadd, this, ← hv]
  rcases j with _ | _ | _ | _ | j
  all_goals first | rfl | omega
 ·intro v hv
  simp only [fourV, List.mem_cons, List.not_mem_nil, or_false] at hv
  rcases hv with rfl | rfl | rfl | rfl <;> rfl

theorem slice_rec (g N : Nat) : ∃ p, (∀ w : World, (Instr.slice 58 (.slice (some ⟨g, 0, none⟩) (N + 4) (N + 4)) (some (.int .i64 4)) none none).run Tryz.prog w = .ok (.slice p N N) w) ∧
  (∀ x, p = some x → x.block = g) ∧ (0 < N → p = some ⟨g, 4, none⟩) := by
 obtain ⟨i, hi, _, hsz, _⟩ := info_parts info_u8
 have hT' : Tryz.prog.underlying 58 = some (.slice (Tryz.prog.elem 58)) := by kernel_rfl
 have hE : Tryz.prog.elem 58 = 5 := by kernel_rfl
 have hsize : ∀ w : World, (sizeOf (Tryz.prog.elem 58)).run Tryz.prog w = .ok 1 w := fun w => by rw [hE]; simp [sizeOf, typeInfo, hi, hsz]
 have hadd : ∀ (x y j : Nat), (⟨x, y, none⟩ : Addr).add j = ⟨x, y + j, none⟩ := fun x y j => by unfold Addr.add; split <;> simp_all
 refine ⟨if N + 4 = 4 then some ⟨g, 0, none⟩ else (some ⟨g, 0, none⟩ : Option Addr).map (·.add (4 * 1)), fun w => ?_, fun x hx => ?_, fun h => ?_⟩
 ·rw [show (Value.int .i64 4) = .int .i64 ((4 : Nat) : Int) from rfl, run_slice_l w 58 (some ⟨g, 0, none⟩) (N + 4) (N + 4) hT' .i64 ((4 : Nat) : Int) (by omega) (by omega), hsize]
  rfl
 ·split at hx
  ·cases hx; rfl
  ·simp only [Option.map_some, hadd] at hx
   cases hx; rfl
 ·rw [if_neg (by omega)]
  simp only [Option.map_some, hadd]

set_option maxRecDepth 100000 in
theorem next_long (b o n cap : Nat) (l : List Nat) (w : World) (hl : Bytes w (some ⟨b, o, none⟩) n cap l) (hn : 8 ≤ n) (hm : n ≤ 100000000000000) :
  Calls Tryz.prog 209 #[.slice (some ⟨b, o, none⟩) n cap] w (NextEnd w l) := by
 have HB := Lib.hid hl
 have hle := hl.le
 have hcm := hl.capmax
 have hsl := slice_headF
 have hcp := copy_head 3 hl hn rfl
 have HN := Lib.hid (fun w => number_any (byteAt l) w (byteAt_lt hl.byte))
 have HF := Lib.hid (show part4 (byteAt l) 4 = num4 l from rfl)
 clear hl
 go_enter Tryz.func209, Tryz.ntmps209
 go_wp2_with fail
 refine (HN.out _).mono ?_
 rintro e w1 ⟨rfl, hb1⟩
 have Hb1 := Lib.hid (below_call hb1)
 generalize part4 (byteAt l) 4 = N at *
 clear hb1 hcp HN
 by_cases hN : N ≤ 1048576
 ·have hN1 : (N : Int) ≤ 1048576 := by omega
  by_cases hN2 : N + 8 ≤ n
  ·have hN3 : (N : Int) ≤ (n : Int) - 8 := by omega
   have hT : Bytes w1 (some ⟨b, o, none⟩) (N + 8) cap (l.take (N + 8)) := (HB.out.grow Hb1.out).takeTo hN2 (by omega) (Nat.le_refl _)
   have HO := Lib.hid (open_own ⟨b, o, none⟩ (N + 8) cap (l.take (N + 8)) w1 hT (by omega) (by omega))
   clear hT
   go_wp2_with fail
   refine HO.out.mono ?_
   rintro e w2 ⟨hb2, ⟨x, hx, g, rfl, hbg, hrow, hC⟩ | ⟨hno, rfl⟩⟩
   ·have hxl : x.length = N + 4 := by
     have := congrArg List.length hx
     rw [sealL_len, List.length_take, HB.out.len] at this
     omega
    obtain ⟨p, hp, hpb, hp4⟩ := slice_rec g N
    have HX := Lib.hid (frame_of_seal HF.out (by rw [HB.out.len]; exact hN2) hx HB.out.byte)
    rw [hxl] at hrow hC ⊢
    have Hrow := Lib.hid hrow
    have HC := Lib.hid hC
    have Hx := Lib.hid hxl
    have Hb2 := Lib.hid (Hb1.out.trans (hb2.mono Hb1.out.size))
    have Hp := Lib.hid hpb
    have Hp4 := Lib.hid hp4
    have Hg := Lib.hid (Nat.le_trans Hb1.out.size hbg)
    clear hrow hC hxl hx hb2 hpb hp4 HO hbg
    go_wp2
    go_ret2
    obtain ⟨e1, e2⟩ := HX.out
    refine ⟨Hb2.out, .inl ⟨x.drop 4, l.drop (N + 8), p, N, e1, by omega, by rw [e2]; rfl, ?_, ?_, ?_⟩⟩
    ·rw [e2]
     rcases Nat.eq_zero_or_pos N with h0 | h0
     ·have e3 : x.drop 4 = [] := List.length_eq_zero_iff.1 (by omega)
      rw [e3, h0]
      exact bytes_none (by omega) (fun _ => rfl)
     ·rw [Hp4.out h0]
      have hd := HC.out.dropTo (m := 4) (by omega)
      rw [show N + 4 - 4 = N by omega, Nat.zero_add] at hd
      exact hd
    ·intro y hy
     rw [Hp.out y hy]
     exact Hg.out
    ·intro h0
     rw [e2] at h0
     exact ⟨g, Hp4.out h0, Hg.out, by rw [e2]; exact Hrow.out⟩
   ·have Hno := Lib.hid hno
    have Hb2 := Lib.hid (Hb1.out.trans (hb2.mono Hb1.out.size))
    clear hno hb2 HO
    go_wp2
    go_ret2
    exact ⟨Hb2.out, .inr ⟨noFrame_seal HF.out Hno.out, rfl⟩⟩
  ·have hN3 : (n : Int) - 8 < (N : Int) := by omega
   go_wp2
   go_ret2
   exact ⟨Hb1.out, .inr ⟨noFrame_len (by rw [HB.out.len, ← HF.out]; omega), rfl⟩⟩
 ·have hN1 : 1048576 < (N : Int) := by omega
  go_wp2
  go_ret2
  exact ⟨Hb1.out, .inr ⟨noFrame_most (by rw [← HF.out]; omega), rfl⟩⟩

theorem next_any (a : Option Addr) (n cap : Nat) (l : List Nat) (w : World) (hl : Bytes w a n cap l) (hm : n ≤ 100000000000000) :
  Calls Tryz.prog 209 #[.slice a n cap] w (NextEnd w l) := by
 by_cases hn : n < 8
 ·exact next_short a n cap l w hl hn
 ·obtain ⟨b, o, rfl, _⟩ := hl.cell (by omega)
  exact next_long b o n cap l w hl (by omega) hm
end Go.Proofs.YtnbddiiedagllaaGreat

/- A range over a function whose rounds are told what lies in memory where they begin: each round is handed an element x together with a fact 'At N x W' on the world W in which it begins. No round leaves the loop. -/
namespace Go.Proofs.YtnbddiiedagllaaGreat
open Go.RowKit

structure Stands {α : Type} (B : Nat) (I : List α → Nat → World → Prop) (At : Nat → α → World → Prop) : Prop where
 grow : ∀ s N W W', I s N W → Below W.heap.size W W' → I s N W'
 more : ∀ s N W, I s N W → I s W.heap.size W
 put : ∀ s N W l o o', I s N W → B ≤ l → W.heap[l]? = some o → o.isCells = false → I s N (W.putObj l o')
 putAt : ∀ N x W l o o', At N x W → W.heap[l]? = some o → o.isCells = false → At N x (W.putObj l o')

def Told {α : Type} (n : Nat) (P : Program) (gf : Nat) (lb : Array Value) (encs : α → Array Value) (I : List α → Nat → World → Prop) (At : Nat → α → World → Prop) (Fin : List α → Prop) (M : Nat) : Prop :=
 ∀ (l : Nat) (J : List α → Nat → World → Prop) (W : World) (N : Nat), (∀ s N W W', J s N W → Below W.heap.size W W' → J s N W') → (∀ s N W, J s N W → J s W.heap.size W) → (∀ s N W, J s N W → I s N W) →
  (∀ pre x N W1, J pre N W1 → At N x W1 → pre.length < M → YieldAt Fence.wide (n - 1) P l (encs x) W1 fun e W' => e = .returned (.bool true) ∧ ∃ N', J (pre ++ [x]) N' W') →
  J [] N W → CallsIn Fence.wide n P gf (#[.func (.yield l) #[] #[]] ++ lb) W fun e W' => (∃ v, e = .returned v) ∧ ∃ xs N', J xs N' W' ∧ Fin xs

theorem range_told {P : Program} {n : Nat} {α : Type} {g : Operand} {ps : Array Tmp} {assign body : Code} {Q : Exit → Act → World → Prop} {a : Act} {w : World} {gf : Nat} {lb : Array Value}
  (h1 : 1 ≤ n) (hg : a.eval g = .func (.func gf) #[] lb) (eg : ∀ args w, (callFunc gf args).run P w = .ok (.enter gf args) w)
  {encs : α → Array Value} (hps : ∀ x, (encs x).size = ps.size) {I : List α → Nat → World → Prop} {At : Nat → α → World → Prop} {Fin : List α → Prop} {M : Nat}
  (hS : Stands w.heap.size I At) (hseq : Told (n - 1) P gf lb encs I At Fin M) (N0 : Nat) (h0 : I [] N0 w) (a1 : α → Act)
  (hassign : ∀ (l : Nat) (x : α) (W : World) (K : Act → World → Prop), K (a1 x) W →
   assign.wpIn (Fence.wide.inRound l) (n - 1 - 1) P (Exit.then K (fun _ _ _ => False)) { tmps := (ps.zip (encs x)).foldl (fun t (p, v) => t.setIfInBounds p v) a.tmps, defers := [] } W)
  (hbody : ∀ (l : Nat) (pre : List α) (x : α) (N : Nat) (W : World), I pre N W → At N x W → pre.length < M →
   body.wpIn (Fence.wide.inRound l) (n - 1 - 1) P (Exit.then (fun _ W' => KeepsFrom w.heap.size W W' ∧ ∃ N', I (pre ++ [x]) N' W') (fun _ _ _ => False)) (a1 x) W)
  (hdone : ∀ (D : Nat) (xs : List α) (N : Nat) (W : World), w.heap.size ≤ D → Fin xs → I xs N W → W.heap[D]? = some (.deferred (some [])) → Q .normal { a with defers := { target := .collected D, args := #[] } :: a.defers } W) :
  (Code.rangeFunc g ps assign body).wpIn Fence.wide n P Q a w := by
 refine wpIn_rangeFunc fun fn hfn => ?_
 -- the loop's record, in each of its states
 let rec_ : LoopState → Loop := fun st => { state := st, pending := none, fn, tmps := a.tmps, params := ps, assign, body, defers := w.heap.size }
 have hz : (w.alloc (.deferred (some []))).heap.size = w.heap.size + 1 := by simp
 have hL0 : ((w.alloc (.deferred (some []))).alloc (.loop (rec_ .ready))).heap[w.heap.size + 1]? = some (.loop (rec_ .ready)) := by
  rw [← hz]; exact heap_alloc_new _ _
 have hD0 : ((w.alloc (.deferred (some []))).alloc (.loop (rec_ .ready))).heap[w.heap.size]? = some (.deferred (some [])) :=
  (Below.heap_alloc _ _ _ (by omega)).trans (heap_alloc_new _ _)
 have hI0 : I [] N0 ((w.alloc (.deferred (some []))).alloc (.loop (rec_ .ready))) :=
  hS.grow _ _ _ _ (hS.grow _ _ _ _ h0 ((Below.refl _ _).alloc (Nat.le_refl _) _)) ((Below.refl _ _).alloc (Nat.le_refl _) _)
 have hE := run_enterLoop_outer (P := P) (w := w) fn a.tmps ps assign body
 generalize hW : (w.alloc (.deferred (some []))).alloc (.loop (rec_ .ready)) = W1 at hL0 hD0 hI0
 have hE2 : (Instr.enterLoop fn a.tmps ps assign body none).run P w = .ok (w.heap.size + 1, [{ target := .collected w.heap.size, args := #[] }]) W1 := by rw [← hW]; exact hE
 refine ⟨w.heap.size + 1, [{ target := .collected w.heap.size, args := #[] }], W1, { target := .fn (.func gf) lb, args := #[.func (.yield (w.heap.size + 1)) #[] #[]] }, W1, gf, #[.func (.yield (w.heap.size + 1)) #[] #[]] ++ lb, W1,
  hE2, ?_, fun _ _ => trivial, ?_, fun _ => h1, ?_⟩
 ·simp only [resolve, hg]
  simp [go_sem]
 ·simp [invoke, go_sem, eg]
 refine (hseq (w.heap.size + 1) (fun s N W => I s N W ∧ W.heap[w.heap.size + 1]? = some (.loop (rec_ .ready)) ∧ W.heap[w.heap.size]? = some (.deferred (some []))) W1 N0 ?_ ?_ (fun _ _ _ h => h.1) ?_ ⟨hI0, hL0, hD0⟩).mono ?_
 ·rintro s N W W' ⟨hi, hl, hd⟩ hb
  exact ⟨hS.grow _ _ _ _ hi hb, (hb.block _ (Array.getElem?_eq_some_iff.1 hl).1).trans hl, (hb.block _ (Array.getElem?_eq_some_iff.1 hd).1).trans hd⟩
 ·rintro s N W ⟨hi, hl, hd⟩
  exact ⟨hS.more _ _ _ hi, hl, hd⟩
 ·rintro pre x N W ⟨hi, hl, hd⟩ hat hM
  have hlt : w.heap.size + 1 < W.heap.size := (Array.getElem?_eq_some_iff.1 hl).1
  refine ⟨fn, _, assign, body, run_yield (P := P) (args := encs x) hl (hps x), roundIn_of_wpIn hfn (hassign _ x W _ ⟨_, run_beginRound hl rfl, ?_⟩)⟩
  have hl2 : (W.putObj (w.heap.size + 1) (.loop (rec_ .busy))).heap[w.heap.size + 1]? = some (.loop (rec_ .busy)) := World.putObj_heap_same hlt
  have hd2 : (W.putObj (w.heap.size + 1) (.loop (rec_ .busy))).heap[w.heap.size]? = some (.deferred (some [])) := (World.putObj_heap_other (by omega)).trans hd
  refine wpIn_mono (hbody _ pre x N _ (hS.put _ _ _ _ _ _ hi (by omega) hl rfl) (hS.putAt _ _ _ _ _ _ hat hl rfl) hM) ?_
  rintro e a3 W3 hp
  cases e with
  | normal =>
   obtain ⟨hk, N', hi3⟩ := hp
   have hl3 := hk.same _ _ (by omega) hl2 rfl
   have hd3 := hk.same _ _ (Nat.le_refl _) hd2 rfl
   exact ⟨_, _, run_endRound (P := P) none hl3, rfl, N', hS.put _ _ _ _ _ _ hi3 (by omega) hl3 rfl, World.putObj_heap_same (Array.getElem?_eq_some_iff.1 hl3).1, (World.putObj_heap_other (by omega)).trans hd3⟩
  | ret => exact hp.elim
  | exit id => exact hp.elim
  | goto t => exact hp.elim
  | panic c => exact hp.elim
  | outgrown => exact hp.elim
 ·rintro e W2 ⟨⟨v, rfl⟩, xs, N', ⟨hi, hl, hd⟩, hF⟩
  exact ⟨none, _, run_endLoop (P := P) hl (by simp [rec_]), hdone _ xs N' _ (Nat.le_refl _) hF (hS.put _ _ _ _ _ _ hi (by omega) hl rfl) ((World.putObj_heap_other (by omega)).trans hd)⟩
end Go.Proofs.YtnbddiiedagllaaGreat

