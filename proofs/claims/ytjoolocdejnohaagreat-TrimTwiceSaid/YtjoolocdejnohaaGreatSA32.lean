import Derived.Test.YtjoolocdejnohaaGreatSA22
import Derived.Test.YtjoolocdejnohaaGreatSA24
import Derived.Test.YtjoolocdejnohaaGreatSA31
import Derived.Test.YtjoolocdejnohaaGreatSA30
/- A log beside the reference's, while a statement runs. -/
namespace Go.Proofs.YtjoolocdejnohaaGreat
open Go.RowKit Go.Maps Go.Shelf

theorem RBox.shift {X : Nat → Prop} {w w' : World} {B : Nat} {W : WM} (h : RBox X w B W) (hk : ∀ b, X b ∨ b = B → w'.heap[b]? = w.heap[b]?) (hs : w.heap.size ≤ w'.heap.size) : RBox X w' B W := by
  obtain ⟨a, n, c, R, h1, h2, h3, h4, h5⟩ := h
  exact ⟨a, n, c, R, (hk B (.inr rfl)).trans h1, h2.mono (fun b hb => hk b (.inl hb)) (fun _ h => h), h3, h4, fun b hx => ⟨Nat.lt_of_lt_of_le (h5 b hx).1 hs, (h5 b hx).2⟩⟩

theorem RBox.plan {X : Nat → Prop} {w : World} {B : Nat} {W : WM} (h : RBox X w B W) (k : Int) (hk : 0 ≤ k) : RBox X (w.setCell ⟨B, 2, none⟩ (.int .i64 k)) B { W with D := armM k W.D } := by
  obtain ⟨a, n, c, R, h1, h2, h3, h4, h5⟩ := h
  refine ⟨a, n, c, R, ?_, h2.mono (fun b hb => Below.heap_setCell w ⟨B, 2, none⟩ _ b (h5 b hb).2) (fun _ h => h), h3, h4, fun b hx => ⟨by simp; exact (h5 b hx).1, (h5 b hx).2⟩⟩
  have h6 := set_head (i := 2) h1 (.int .i64 k)
  have e : k = ((k.toNat : Nat) : Int) := by omega
  rw [e] at h6 ⊢
  simpa [logO, armM] using h6

/-- A disk beside a log of the reference in a box; the blocks of T stay as they were in wT. -/
structure DB (w0 : World) (T : Nat → Prop) (wT : World) (d B : Nat) (M : DM) (Wb : WM) (wr : World) : Prop where
  own : ∃ Y : Nat → Prop, Own w0 Y wr d M ∧ Y B ∧ (∀ b, T b → Y b) ∧ ∃ X : Nat → Prop, RBox X wr B Wb ∧ ∀ b, X b → Y b ∧ ¬ T b
  ne : w0.heap.size ≤ B ∧ ¬ T B
  tb : ∀ b, T b → b < wT.heap.size
  keep : ∀ b, T b → wr.heap[b]? = wT.heap[b]?
  size : wT.heap.size ≤ wr.heap.size

/-- .. and a log on it. -/
structure Both (w0 : World) (T : Nat → Prop) (wT : World) (g d B : Nat) (W Wb : WM) (wr : World) : Prop where
  log : ∃ Y : Nat → Prop, LogAt w0 Y wr g d W ∧ Y B ∧ (∀ b, T b → Y b) ∧ ∃ X : Nat → Prop, RBox X wr B Wb ∧ ∀ b, X b → Y b ∧ b ≠ g ∧ ¬ T b
  ne : B ≠ g ∧ w0.heap.size ≤ B ∧ ¬ T B ∧ ¬ T g
  tb : ∀ b, T b → b < wT.heap.size
  keep : ∀ b, T b → wr.heap[b]? = wT.heap[b]?
  size : wT.heap.size ≤ wr.heap.size

section
variable {w0 : World} {T : Nat → Prop} {wT : World} {g d B : Nat} {W Wb : WM} {M : DM} {wr : World}

theorem DB.base (h : DB w0 T wT d B M Wb wr) : Below w0.heap.size w0 wr := by
  obtain ⟨Y, h1, _⟩ := h.own
  exact h1.base

theorem Both.base (h : Both w0 T wT g d B W Wb wr) : Below w0.heap.size w0 wr := by
  obtain ⟨Y, h1, _⟩ := h.log
  exact h1.own.base

theorem Both.lt (h : Both w0 T wT g d B W Wb wr) : B < wr.heap.size ∧ g < wr.heap.size := by
  obtain ⟨Y, h1, h2, _⟩ := h.log
  exact ⟨h1.own.blocks B h2, h1.lt⟩

theorem DB.lt (h : DB w0 T wT d B M Wb wr) : B < wr.heap.size := by
  obtain ⟨Y, h1, h2, _⟩ := h.own
  exact h1.blocks B h2

/-- A call on the disk. -/
theorem DB.stepOwn (h : DB w0 T wT d B M Wb wr) {wa : World} (hb : Below wr.heap.size wr wa) : ∃ Y' : Nat → Prop, Own w0 Y' wa d M ∧ (∀ b, wr.heap.size ≤ b → b < wa.heap.size → Y' b) ∧ ∀ M' w3, OwnEnd w0 Y' wa d M' w3 → DB w0 T wT d B M' Wb w3 := by
  obtain ⟨Y, h1, h2, h3, X, h4, h5⟩ := h.own
  refine ⟨_, h1.more hb (fun b hb => hb), fun b g1 g2 => .inr ⟨g1, g2⟩, fun M' w3 hE => ?_⟩
  have hbk : ∀ b, Y b → w3.heap[b]? = wr.heap[b]? := fun b hy => (hE.2.1 b (.inl hy)).trans (hb.block b (h1.blocks b hy))
  refine ⟨⟨_, hE.1, .inl h2, fun b hb => .inl (h3 b hb), X, h4.shift (fun b hx => ?_) (Nat.le_trans hb.size hE.2.2.2), fun b hx => ⟨.inl (h5 b hx).1, (h5 b hx).2⟩⟩, h.ne, h.tb, fun b ht => (hbk b (h3 b ht)).trans (h.keep b ht), Nat.le_trans h.size (Nat.le_trans hb.size hE.2.2.2)⟩
  rcases hx with hx | rfl
  · exact hbk b (h5 b hx).1
  · exact hbk _ h2

theorem DB.grow (h : DB w0 T wT d B M Wb wr) {wa : World} (hb : Below wr.heap.size wr wa) : DB w0 T wT d B M Wb wa := by
  obtain ⟨Y, h1, _, h2⟩ := h.stepOwn hb
  exact h2 M wa ⟨h1, fun _ _ => rfl, Below.refl _ _, Nat.le_refl _⟩

/-- A call on the log. -/
theorem Both.stepLog (h : Both w0 T wT g d B W Wb wr) {wa : World} (hb : Below wr.heap.size wr wa) : ∃ Y' : Nat → Prop, LogAt w0 Y' wa g d W ∧ (∀ b, wr.heap.size ≤ b → b < wa.heap.size → Y' b) ∧ (∀ W' w3, LogEnd w0 Y' wa g d W' w3 → Both w0 T wT g d B W' Wb w3) ∧
    ∀ g2 W2 w3, wa.heap.size ≤ g2 → LogAt w0 (fun b => Y' b ∨ b = g2) w3 g2 d W2 → (∀ b, Y' b → w3.heap[b]? = wa.heap[b]?) → wa.heap.size ≤ w3.heap.size → Both w0 T wT g2 d B W2 Wb w3 := by
  obtain ⟨Y, h1, h2, h3, X, h4, h5⟩ := h.log
  obtain ⟨n1, n2, n3, n4⟩ := h.ne
  have hlt := h1.own.blocks
  refine ⟨_, h1.all hb, fun b g1 g2 => .inr ⟨g1, g2⟩, fun W' w3 hE => ?_, fun g2 W2 w3 hg hL hk hs => ?_⟩
  · have hbk : ∀ b, Y b → b ≠ g → w3.heap[b]? = wr.heap[b]? := fun b hy hg => (hE.2.1 b (.inl hy) hg).trans (hb.block b (hlt b hy))
    refine ⟨⟨_, hE.1, .inl h2, fun b hb => .inl (h3 b hb), X, h4.shift (fun b hx => ?_) (Nat.le_trans hb.size hE.2.2.2), fun b hx => ⟨.inl (h5 b hx).1, (h5 b hx).2⟩⟩, h.ne, h.tb, fun b ht => (hbk b (h3 b ht) (fun e => n4 (e ▸ ht))).trans (h.keep b ht), Nat.le_trans h.size (Nat.le_trans hb.size hE.2.2.2)⟩
    rcases hx with hx | rfl
    · exact hbk b (h5 b hx).1 (h5 b hx).2.1
    · exact hbk _ h2 n1
  · have hbk : ∀ b, Y b → w3.heap[b]? = wr.heap[b]? := fun b hy => (hk b (.inl hy)).trans (hb.block b (hlt b hy))
    have hg2 : wr.heap.size ≤ g2 := Nat.le_trans hb.size hg
    have hT : ¬ T g2 := fun ht => by have := hlt _ (h3 _ ht); omega
    refine ⟨⟨_, hL, .inl (.inl h2), fun b hb => .inl (.inl (h3 b hb)), X, h4.shift (fun b hx => ?_) (Nat.le_trans hb.size hs), fun b hx => ⟨.inl (.inl (h5 b hx).1), fun e => ?_, (h5 b hx).2.2⟩⟩, ⟨fun e => ?_, n2, n3, hT⟩, h.tb, fun b ht => (hbk b (h3 b ht)).trans (h.keep b ht), Nat.le_trans h.size (Nat.le_trans hb.size hs)⟩
    · rcases hx with hx | rfl
      · exact hbk b (h5 b hx).1
      · exact hbk _ h2
    · have := hlt _ (h5 b hx).1; omega
    · have := hlt _ h2; omega

theorem Both.grow (h : Both w0 T wT g d B W Wb wr) {wa : World} (hb : Below wr.heap.size wr wa) : Both w0 T wT g d B W Wb wa := by
  obtain ⟨Y', h1, _, h2, _⟩ := h.stepLog hb
  exact h2 W wa h1.refl

/-- A call on the log's disk. -/
theorem Both.stepDisk (h : Both w0 T wT g d B W Wb wr) {wa : World} (hb : Below wr.heap.size wr wa) : ∃ Y' : Nat → Prop, Own w0 Y' wa d W.D ∧ (∀ b, wr.heap.size ≤ b → b < wa.heap.size → Y' b) ∧ ∀ M' w3, OwnEnd w0 Y' wa d M' w3 → Both w0 T wT g d B { W with D := M' } Wb w3 := by
  obtain ⟨Y', h1, h0, h2, _⟩ := h.stepLog hb
  exact ⟨Y', h1.own, h0, fun M' w3 hE => h2 _ w3 ⟨⟨hE.1, h1.inY, h1.new, (hE.2.1 g h1.inY).trans h1.cells⟩, fun b hb _ => hE.2.1 b hb, hE.2.2.1, hE.2.2.2⟩⟩

theorem logO_ref {X : Nat → Prop} {w : World} (h : RBox X w B Wb) : ∃ a n c, w.heap[B]? = some (logO (Wb.D.room : Int) a n c (Wb.D.plan : Int) Wb.D.down Wb.most (Wb.n : Int) (Wb.size : Int) (Wb.wait : Int)) ∧
    RLogAt X w (logV (Wb.D.room : Int) a n c (Wb.D.plan : Int) Wb.D.down Wb.most (Wb.n : Int) (Wb.size : Int) (Wb.wait : Int)) Wb ∧ RefAt X w (refV (Wb.D.room : Int) a n c (Wb.D.plan : Int) Wb.D.down) Wb.D ∧ ∀ b, X b → b < w.heap.size := by
  obtain ⟨a, n, c, R, h1, h2, h3, _⟩ := h.ref
  exact ⟨a, n, c, h1, h2, h3, fun b hb => by obtain ⟨_, _, _, _, _, _, _, _, hX⟩ := h; exact (hX b hb).1⟩

/-- A call of the reference, whose answer goes into the box. -/
theorem Both.stepBox (h : Both w0 T wT g d B W Wb wr) : ∃ (X : Nat → Prop) (a : Option Addr) (n c : Nat), wr.heap[B]? = some (logO (Wb.D.room : Int) a n c (Wb.D.plan : Int) Wb.D.down Wb.most (Wb.n : Int) (Wb.size : Int) (Wb.wait : Int)) ∧
    RLogAt X wr (logV (Wb.D.room : Int) a n c (Wb.D.plan : Int) Wb.D.down Wb.most (Wb.n : Int) (Wb.size : Int) (Wb.wait : Int)) Wb ∧ RefAt X wr (refV (Wb.D.room : Int) a n c (Wb.D.plan : Int) Wb.D.down) Wb.D ∧ (∀ b, X b → b < wr.heap.size) ∧
    ∀ (r : WM) (w4 : World) (a' : Option Addr) (n' c' : Nat) (R' : List FR), Below wr.heap.size wr w4 → RowF (fun b => (X b ∨ wr.heap.size ≤ b) ∧ b < w4.heap.size) w4 a' n' c' R' → R'.map FR.f = r.D.fs → r.D.fs.length ≤ 1000000 →
      Both w0 T wT g d B W r (set8 w4 B (.int .i64 (r.D.room : Int)) (.slice a' n' c') (.int .i64 (r.D.plan : Int)) (.bool r.D.down) (.int .i64 r.most) (.int .i64 (r.n : Int)) (.int .i64 (r.size : Int)) (.int .i64 (r.wait : Int))) := by
  obtain ⟨Y, h1, h2, h3, X, h4, h5⟩ := h.log
  obtain ⟨n1, n2, n3, n4⟩ := h.ne
  obtain ⟨a, n, c, hc, hrl, hrf, hX⟩ := logO_ref h4
  refine ⟨X, a, n, c, hc, hrl, hrf, hX, fun r w4 a' n' c' R' hb4 hR' hf hn => ?_⟩
  have hC := set8_chg w4 B (.int .i64 (r.D.room : Int)) (.slice a' n' c') (.int .i64 (r.D.plan : Int)) (.bool r.D.down) (.int .i64 r.most) (.int .i64 (r.n : Int)) (.int .i64 (r.size : Int)) (.int .i64 (r.wait : Int))
  have hbx := rbox_put h4 hR' hf hb4 hn
  have hL4 := (h1.all hb4).turned hC (fun b hb => by rw [hb]; exact ⟨.inl h2, n1, n2⟩)
  have hgl := h1.lt
  refine ⟨⟨_, hL4, .inl (.inl h2), fun b hb => .inl (.inl (h3 b hb)), _, hbx, fun b hb => ?_⟩, h.ne, h.tb, fun b ht => ?_, Nat.le_trans h.size (Nat.le_trans hb4.size hC.size)⟩
  · rcases hb.1 with hx | hx
    · exact ⟨.inl (.inl (h5 b hx).1), (h5 b hx).2.1, (h5 b hx).2.2⟩
    · exact ⟨.inl (.inr ⟨hx, hb.2⟩), by omega, fun ht => by have := h1.own.blocks b (h3 b ht); omega⟩
  · have hbl := h1.own.blocks b (h3 b ht)
    have hsz4 := hb4.size
    exact (hC.block b (by omega) (fun e => n3 (e ▸ ht))).trans ((hb4.block b hbl).trans (h.keep b ht))

/-- A call of the reference, whose answer goes into a new box. -/
theorem DB.newBox (h : DB w0 T wT d B M Wb wr) : ∃ (X : Nat → Prop) (a : Option Addr) (n c : Nat), wr.heap[B]? = some (logO (Wb.D.room : Int) a n c (Wb.D.plan : Int) Wb.D.down Wb.most (Wb.n : Int) (Wb.size : Int) (Wb.wait : Int)) ∧
    RLogAt X wr (logV (Wb.D.room : Int) a n c (Wb.D.plan : Int) Wb.D.down Wb.most (Wb.n : Int) (Wb.size : Int) (Wb.wait : Int)) Wb ∧ RefAt X wr (refV (Wb.D.room : Int) a n c (Wb.D.plan : Int) Wb.D.down) Wb.D ∧ (∀ b, X b → b < wr.heap.size) ∧
    ∀ (r : WM) (w4 : World) (a' : Option Addr) (n' c' : Nat) (R' : List FR), Below wr.heap.size wr w4 → RowF (fun b => (X b ∨ wr.heap.size ≤ b) ∧ b < w4.heap.size) w4 a' n' c' R' → R'.map FR.f = r.D.fs → r.D.fs.length ≤ 1000000 →
      DB w0 T wT d w4.heap.size M r (w4.alloc (logO (r.D.room : Int) a' n' c' (r.D.plan : Int) r.D.down r.most (r.n : Int) (r.size : Int) (r.wait : Int))) := by
  obtain ⟨Y, h1, h2, h3, X, h4, h5⟩ := h.own
  obtain ⟨n2, n3⟩ := h.ne
  obtain ⟨a, n, c, hc, hrl, hrf, hX⟩ := logO_ref h4
  refine ⟨X, a, n, c, hc, hrl, hrf, hX, fun r w4 a' n' c' R' hb4 hR' hf hn => ?_⟩
  have hb5 := (Below.refl w4.heap.size w4).alloc (Nat.le_refl _) (logO (r.D.room : Int) a' n' c' (r.D.plan : Int) r.D.down r.most (r.n : Int) (r.size : Int) (r.wait : Int))
  have hb := hb4.trans (hb5.mono hb4.size)
  have hnl : n' ≤ 1000000 := by rw [← hR'.len, ← List.length_map (f := FR.f), hf]; exact hn
  have hs5 : (w4.alloc (logO (r.D.room : Int) a' n' c' (r.D.plan : Int) r.D.down r.most (r.n : Int) (r.size : Int) (r.wait : Int))).heap.size = w4.heap.size + 1 := World.size_alloc _ _
  have hs4 := hb4.size
  refine ⟨⟨_, h1.more hb (fun b hb => hb), .inr ⟨hs4, by omega⟩, fun b hb => .inl (h3 b hb), fun b => (X b ∨ wr.heap.size ≤ b) ∧ b < w4.heap.size, ⟨a', n', c', R', heap_alloc_new _ _, (hR'.below (fun b hb => hb.2) hb5), hf, hnl, fun b hb => ⟨by omega, by omega⟩⟩, fun b hb => ?_⟩, ⟨by have := h1.base.size; omega, fun ht => by have := h1.blocks _ (h3 _ ht); omega⟩, h.tb, fun b ht => (hb.block b (h1.blocks b (h3 b ht))).trans (h.keep b ht), Nat.le_trans h.size hb.size⟩
  rcases hb.1 with hx | hx
  · exact ⟨.inl (h5 b hx).1, (h5 b hx).2⟩
  · exact ⟨.inr ⟨hx, by omega⟩, fun ht => by have := h1.blocks b (h3 b ht); omega⟩

theorem Both.newBox (h : Both w0 T wT g d B W Wb wr) : ∃ (X : Nat → Prop) (a : Option Addr) (n c : Nat), wr.heap[B]? = some (logO (Wb.D.room : Int) a n c (Wb.D.plan : Int) Wb.D.down Wb.most (Wb.n : Int) (Wb.size : Int) (Wb.wait : Int)) ∧
    RLogAt X wr (logV (Wb.D.room : Int) a n c (Wb.D.plan : Int) Wb.D.down Wb.most (Wb.n : Int) (Wb.size : Int) (Wb.wait : Int)) Wb ∧ RefAt X wr (refV (Wb.D.room : Int) a n c (Wb.D.plan : Int) Wb.D.down) Wb.D ∧ (∀ b, X b → b < wr.heap.size) ∧
    ∀ (r : WM) (w4 : World) (a' : Option Addr) (n' c' : Nat) (R' : List FR), Below wr.heap.size wr w4 → RowF (fun b => (X b ∨ wr.heap.size ≤ b) ∧ b < w4.heap.size) w4 a' n' c' R' → R'.map FR.f = r.D.fs → r.D.fs.length ≤ 1000000 →
      Both w0 T wT g d w4.heap.size W r (w4.alloc (logO (r.D.room : Int) a' n' c' (r.D.plan : Int) r.D.down r.most (r.n : Int) (r.size : Int) (r.wait : Int))) := by
  obtain ⟨Y, h1, h2, h3, X, h4, h5⟩ := h.log
  obtain ⟨n1, n2, n3, n4⟩ := h.ne
  obtain ⟨a, n, c, hc, hrl, hrf, hX⟩ := logO_ref h4
  refine ⟨X, a, n, c, hc, hrl, hrf, hX, fun r w4 a' n' c' R' hb4 hR' hf hn => ?_⟩
  have hb5 := (Below.refl w4.heap.size w4).alloc (Nat.le_refl _) (logO (r.D.room : Int) a' n' c' (r.D.plan : Int) r.D.down r.most (r.n : Int) (r.size : Int) (r.wait : Int))
  have hb := hb4.trans (hb5.mono hb4.size)
  have hnl : n' ≤ 1000000 := by rw [← hR'.len, ← List.length_map (f := FR.f), hf]; exact hn
  have hs5 : (w4.alloc (logO (r.D.room : Int) a' n' c' (r.D.plan : Int) r.D.down r.most (r.n : Int) (r.size : Int) (r.wait : Int))).heap.size = w4.heap.size + 1 := World.size_alloc _ _
  have hs4 := hb4.size
  have hgl := h1.lt
  refine ⟨⟨_, h1.all hb, .inr ⟨hs4, by omega⟩, fun b hb => .inl (h3 b hb), fun b => (X b ∨ wr.heap.size ≤ b) ∧ b < w4.heap.size, ⟨a', n', c', R', heap_alloc_new _ _, (hR'.below (fun b hb => hb.2) hb5), hf, hnl, fun b hb => ⟨by omega, by omega⟩⟩, fun b hb => ?_⟩, ⟨by omega, by have := h1.own.base.size; omega, fun ht => by have := h1.own.blocks _ (h3 _ ht); omega, n4⟩, h.tb, fun b ht => (hb.block b (h1.own.blocks b (h3 b ht))).trans (h.keep b ht), Nat.le_trans h.size hb.size⟩
  rcases hb.1 with hx | hx
  · exact ⟨.inl (h5 b hx).1, (h5 b hx).2.1, (h5 b hx).2.2⟩
  · exact ⟨.inr ⟨hx, by omega⟩, by omega, fun ht => by have := h1.own.blocks b (h3 b ht); omega⟩

/-- A log and the reference's, new. -/
theorem Both.new {Y X : Nat → Prop} (hL : LogAt w0 Y wr g d W) (hR : RBox X wr B Wb) (hB : Y B) (hXY : ∀ b, X b → Y b ∧ b ≠ g ∧ ¬ T b) (hne : B ≠ g) (h0 : w0.heap.size ≤ B) (hT : ∀ b, T b → Y b) (hBT : ¬ T B) (hgT : ¬ T g) : Both w0 T wr g d B W Wb wr :=
  ⟨⟨Y, hL, hB, hT, X, hR, hXY⟩, ⟨hne, h0, hBT, hgT⟩, fun b h => hL.own.blocks b (hT b h), fun _ _ => rfl, Nat.le_refl _⟩
end
end Go.Proofs.YtjoolocdejnohaaGreat

/- Logs while records are put into them, whatever fails: how small they stay. -/
namespace Go.Proofs.YtjoolocdejnohaaGreat
open Go.RowKit Go.Maps

/-- How small a log is. -/
structure Tidy (W : WM) (N U n s k : Nat) (room : Nat) (most : Int) : Prop where
  neat : Neat W.D N U
  named : Named W.D
  n1 : 1 ≤ W.n
  n2 : W.n ≤ n
  size : W.size ≤ s
  wait : W.wait ≤ k
  rm : W.D.room = room
  most : W.most = most

theorem Tidy.mono {W : WM} {N U n s k N' U' n' s' k' : Nat} {room : Nat} {most : Int} (h : Tidy W N U n s k room most) (h1 : N ≤ N') (h2 : U ≤ U') (h3 : n ≤ n') (h4 : s ≤ s') (h5 : k ≤ k') : Tidy W N' U' n' s' k' room most :=
  ⟨h.neat.mono h1 h2, h.named, h.n1, Nat.le_trans h.n2 h3, Nat.le_trans h.size h4, Nat.le_trans h.wait h5, h.rm, h.most⟩

theorem nmB_short (N : Nat) : (nmB N).length ≤ 9223372036854775807 := by rw [nmB_length]; decide

theorem appendM_rm (n : List UInt8) (b : List Nat) (M : DM) : (appendM n b M).1.room = M.room := by
  unfold appendM chgM onM
  split
  · exact (failM_rm M).1
  · split
    · split
      · exact (failM_rm M).1
      · dsimp only
        split <;> exact (failM_rm M).1
    · exact (failM_rm M).1

section
variable {W : WM} {N U n s k room : Nat} {most : Int}

theorem tidy_rot (h : Tidy W N U n s k room most) : Tidy (rotW W).1 (N + 2) U (n + 1) s k room most := by
  by_cases hN : W.n < 99999999
  · have h1 := stepM_neat h.neat 3 (nmB W.n) [] []
    have h2 := named_step h.named 3 (tt := []) [] (nmB_short W.n) (Nat.zero_le _)
    have h3 := stepM_neat h1 1 (nmB (W.n + 1)) [] []
    have h4 := named_step h2 1 (tt := []) [] (nmB_short (W.n + 1)) (Nat.zero_le _)
    have e1 : stepM 3 (nmB W.n) [] [] W.D = syncM (nmB W.n) W.D := rfl
    have e2 : stepM 1 (nmB (W.n + 1)) [] [] (syncM (nmB W.n) W.D).1 = createM (nmB (W.n + 1)) (syncM (nmB W.n) W.D).1 := rfl
    rw [e1] at h1 h2 h3 h4
    rw [e2] at h3 h4
    have hu : U + ([] : List Nat).length + ([] : List Nat).length ≤ U := by simp
    have hu1 : U + ([] : List Nat).length ≤ U := by simp
    have r1 := (syncM_rm (nmB W.n) W.D).trans h.rm
    have r2 := (createM_rm (nmB (W.n + 1)) (syncM (nmB W.n) W.D).1).1.trans r1
    have n1 := h.n1
    have n2 := h.n2
    rw [rotW_eq W hN]
    dsimp only
    split
    · split
      · exact ⟨h3.mono (by omega) hu, h4, by show 1 ≤ W.n + 1; omega, by show W.n + 1 ≤ n + 1; omega, Nat.zero_le _, Nat.zero_le _, r2, h.most⟩
      · exact ⟨h3.mono (by omega) hu, h4, n1, by show W.n ≤ n + 1; omega, h.size, h.wait, r2, h.most⟩
    · exact ⟨h1.mono (by omega) hu1, h2, n1, by show W.n ≤ n + 1; omega, h.size, h.wait, r1, h.most⟩
  · have e : rotW W = (W, 2) := by unfold rotW; rw [if_pos (by omega)]
    rw [e]
    exact h.mono (by omega) (Nat.le_refl _) (by omega) (Nat.le_refl _) (Nat.le_refl _)

theorem tidy_app (h : Tidy W N U n s k room most) (l : List Nat) : Tidy (appW W l).1 (N + 1) (U + (l.length + 8)) n (s + (l.length + 8)) (k + 1) room most := by
  have h1 := stepM_neat h.neat 2 (nmB W.n) [] (frameL l)
  have h2 := named_step h.named 2 (tt := []) (frameL l) (nmB_short W.n) (Nat.zero_le _)
  rw [frameL_len] at h1
  have r1 := (appendM_rm (nmB W.n) (frameL l) W.D).trans h.rm
  have n5 := h.size
  have n6 := h.wait
  rw [appW_eq]
  dsimp only
  split
  · exact ⟨h1, h2, h.n1, h.n2, by show W.size + _ ≤ _; omega, by show W.wait + 1 ≤ _; omega, r1, h.most⟩
  · exact ⟨h1, h2, h.n1, h.n2, by show W.size ≤ _; omega, by show W.wait ≤ _; omega, r1, h.most⟩

theorem tidy_put (h : Tidy W N U n s k room most) (l : List Nat) : Tidy (putW W l).1 (N + 3) (U + (l.length + 8)) (n + 1) (s + (l.length + 8)) (k + 1) room most := by
  have h0 : Tidy W (N + 3) (U + (l.length + 8)) (n + 1) (s + (l.length + 8)) (k + 1) room most := h.mono (by omega) (by omega) (by omega) (by omega) (by omega)
  have hr := tidy_rot h
  unfold putW
  split
  · exact h0
  · split
    · exact h0
    · split
      · split
        · exact hr.mono (by omega) (by omega) (by omega) (by omega) (by omega)
        · exact (tidy_app hr l).mono (by omega) (by omega) (by omega) (by omega) (by omega)
      · exact (tidy_app h l).mono (by omega) (by omega) (by omega) (by omega) (by omega)
end

theorem tidy_start (room most : Int) : Tidy (startW room most) 1 0 1 0 0 room.toNat most := by
  obtain ⟨h1, h2⟩ := start_inv room most
  obtain ⟨s1, s2, s3⟩ := h1.small
  have hpl : (startW room most).D.plan = 0 := h1.plan
  refine ⟨⟨by rw [hpl]; decide, h1.sorted, ⟨by rw [s1]; exact Nat.le_refl _, by rw [s2]; exact Nat.le_refl _⟩⟩, s3, Nat.le_refl _, Nat.le_refl _, Nat.le_refl _, Nat.le_refl _, h2, rfl⟩

theorem tidy_run {W : WM} {N U n s k room : Nat} {most : Int} (h : Tidy W N U n s k room most) (ls : List (List Nat)) : Tidy (runP W ls) (N + 3 * ls.length) (U + sizeL ls) (n + ls.length) (s + sizeL ls) (k + ls.length) room most := by
  have key : ∀ (ls : List (List Nat)) {W : WM} {N U n s k : Nat}, Tidy W N U n s k room most → Tidy (runP W ls) (N + 3 * ls.length) (U + sizeL ls) (n + ls.length) (s + sizeL ls) (k + ls.length) room most := by
    intro ls
    induction ls with
    | nil => intro W N U n s k h; exact h.mono (by omega) (by omega) (by omega) (by omega) (by omega)
    | cons l ls ih =>
      intro W N U n s k h
      have h1 := ih (tidy_put h l)
      rw [sizeL_cons, List.length_cons]
      exact h1.mono (by omega) (by omega) (by omega) (by omega) (by omega)
  exact key ls h

theorem tidy_takes (room most : Int) (ls : List (List Nat)) (j : Nat) : Tidy (runP (startW room most) (ls.take j)) (1 + 3 * ls.length) (sizeL ls) (1 + ls.length) (sizeL ls) ls.length room.toNat most := by
  have h := tidy_run (tidy_start room most) (ls.take j)
  have h1 := sizeL_takes ls j
  have h2 : (ls.take j).length ≤ ls.length := by rw [List.length_take]; omega
  exact h.mono (by omega) (by omega) (by omega) (by omega) (by omega)

/-- A new disk has no segments. -/
theorem allOf_new (room : Int) : AllOf (newM room) [] := by
  refine ⟨⟨List.Pairwise.nil, fun x => ⟨fun h => by simp at h, ?_⟩⟩, fun p hp => by simp at hp⟩
  rintro ⟨l, hl, _⟩
  cases hl

theorem neat_new (room : Int) : Neat (newM room) 0 0 := ⟨Nat.zero_le _, List.Pairwise.nil, ⟨Nat.le_refl _, Nat.le_refl _⟩⟩

theorem open_new {room : Int} {r : OR} (h : IsOpen (newM room) [] r) : r = ⟨0, (startW room 0).D, 1, 0, []⟩ := by
  have hc : cleanM [cutB, newB] (newM room) = [] := by
    unfold cleanM
    rw [List.filter_eq_nil_iff.2]
    · rfl
    · intro n _
      simp [newM]
  rcases h with ⟨⟨k, ⟨h1, _⟩, _⟩, _⟩ | ⟨ops, N, size, recs, hr, rfl⟩
  · exact absurd h1 (by simp)
  · rcases hr with ⟨_, rfl, rfl, rfl, rfl⟩ | ⟨k, hp, _⟩
    · have e : repNone (newM room) = [⟨1, nmB 1, [], []⟩] := by
        unfold repNone
        rw [hc]
        rfl
      have e2 : stepsM (repNone (newM room)) (newM room) = ((createM (nmB 1) (newM room)).1, 0) := by
        rw [e]
        have e3 : createM (nmB 1) (newM room) = ({ newM room with fs := [⟨nmB 1, [], 0⟩] }, 0) := by
          unfold createM chgM
          rw [show failM (newM room) = newM room from rfl, nmB_named]
          rfl
        show (if (createM (nmB 1) (newM room)).2 = 0 then ((createM (nmB 1) (newM room)).1, (0 : Int)) else createM (nmB 1) (newM room)) = _
        rw [if_pos (by rw [e3])]
      rw [e2]
      rfl
    · exact absurd hp (by simp)
end Go.Proofs.YtjoolocdejnohaaGreat

