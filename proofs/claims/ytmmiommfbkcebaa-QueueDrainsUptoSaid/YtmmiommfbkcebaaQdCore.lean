/- What QueueDrains holds amid its loop: the queue, the reference's row, the boxes of both and of the number. -/
import Derived.Test.YtmmiommfbkcebaaQdDrain
import Derived.Test.YtmmiommfbkcebaaQueuePlay
namespace Go.Proofs.Ytmmiommfbkcebaa
open Go.RowKit

/-- The boxes of the queue, of the reference's row, of the number; the loop's two blocks. -/
structure DrB where
  q : Nat
  w : Nat
  n : Nat
  d : Nat
  l : Nat
  base : Nat
  hq : base ≤ q
  hw : q < w
  hn : w < n
  hd : n < d
  hl : d < l

/-- The queue v holds L1, the reference's row L2, the number is nn. -/
structure DrC (K : QKit) (w1 : World) (v : Value) (B : DrB) (m : Nat) (L1 L2 : List Int) (nn : Nat) (q : Option Addr) (c : Nat) (X : Nat → Prop) (W : World) : Prop where
  s : K.S w1 X W m v L1
  row : RowQ (fun b => X b ∧ b ≠ B.w ∧ b ≠ B.n ∧ b ≠ B.l) W q L2.length c L2
  bq : Boxed W B.q 24 v
  bw : Boxed W B.w 22 (.slice q L2.length c)
  bn : Boxed W B.n 3 (.int .i64 (nn : Int))
  x : X B.q ∧ X B.w ∧ X B.n ∧ X B.d ∧ X B.l
  eb : B.base = w1.heap.size

section
variable {K : QKit} {w1 W W' : World} {v : Value} {B : DrB} {m : Nat} {L1 L2 : List Int} {nn : Nat} {q : Option Addr} {c : Nat} {X : Nat → Prop}

theorem DrC.turned (h : DrC K w1 v B m L1 L2 nn q c X W) (hb : Below W.heap.size W W') : DrC K w1 v B m L1 L2 nn q c X W' :=
  ⟨K.turned h.s hb, h.row.below hb, (hb.block _ h.bq.lt).trans h.bq, (hb.block _ h.bw.lt).trans h.bw, (hb.block _ h.bn.lt).trans h.bn, h.x, h.eb⟩

theorem DrC.code (h : DrC K w1 v B m L1 L2 nn q c X W) {m' : Nat} {L1' : List Int} (hs : K.S w1 X W' m' v L1') (hk : ∀ b, X b → W'.heap[b]? = W.heap[b]?) (hb : Below w1.heap.size W W') : DrC K w1 v B m' L1' L2 nn q c X W' :=
  ⟨hs, h.row.kept (fun b e => hk b e.1) hb.size, (hk _ h.x.1).trans h.bq, (hk _ h.x.2.1).trans h.bw, (hk _ h.x.2.2.1).trans h.bn, h.x, h.eb⟩

/-- A block that is kept aside turns, and is none of the boxes or the row's. -/
theorem DrC.put (h : DrC K w1 v B m L1 L2 nn q c X W) {o' : Obj} : DrC K w1 v B m L1 L2 nn q c X (W.putObj B.l o') := by
  have hne : ∀ b, b ≠ B.l → (W.putObj B.l o').heap[b]? = W.heap[b]? := fun b hb => World.putObj_heap_other hb
  have := B.hq; have := B.hw; have := B.hn; have := B.hd; have := B.hl
  refine ⟨K.grown (r := some B.l) h.s (grownBy_putObj' W B.l o') (fun b e => by cases e; exact ⟨h.x.2.2.2.2, by rw [← h.eb]; omega⟩) (fun b hx => ⟨.inl hx, by simpa using K.xb h.s b hx⟩), h.row.kept (fun b e => hne b e.2.2.2) (by simp), (hne _ (by omega)).trans h.bq, (hne _ (by omega)).trans h.bw, (hne _ (by omega)).trans h.bn, h.x, h.eb⟩

/-- The number is turned. -/
theorem DrC.setn (h : DrC K w1 v B m L1 L2 nn q c X W) (nn' : Nat) : DrC K w1 v B m L1 L2 nn' q c X (W.setCell ⟨B.n, 0, none⟩ (.int .i64 (nn' : Int))) := by
  have hne : ∀ b, b ≠ B.n → (W.setCell ⟨B.n, 0, none⟩ (.int .i64 (nn' : Int))).heap[b]? = W.heap[b]? := fun b hb => heap_setCell_other _ _ _ _ hb
  have := B.hq; have := B.hw; have := B.hn; have := B.hd; have := B.hl
  refine ⟨K.grown (r := some B.n) h.s (grownBy_setCell' W B.n _) (fun b e => by cases e; exact ⟨h.x.2.2.1, by rw [← h.eb]; omega⟩) (fun b hx => ⟨.inl hx, by simpa [World.setCell] using K.xb h.s b hx⟩), h.row.kept (fun b e => hne b e.2.2.1) (by simp [World.setCell]), (hne _ (by omega)).trans h.bq, (hne _ (by omega)).trans h.bw, h.bn.set _, h.x, h.eb⟩

/-- The reference's row is turned: a row that lies among what is kept aside, or is new. -/
theorem DrC.setw (h : DrC K w1 v B m L1 L2 nn q c X W) (hb : Below W.heap.size W W') {L2' : List Int} {q' : Option Addr} {c' : Nat} (hr : RowQ (fun b => (X b ∧ b ≠ B.w ∧ b ≠ B.n ∧ b ≠ B.l) ∨ W.heap.size ≤ b) W' q' L2'.length c' L2') :
    ∃ Z, (∀ b, X b → Z b) ∧ DrC K w1 v B m L1 L2' nn q' c' Z (W'.setCell ⟨B.w, 0, none⟩ (.slice q' L2'.length c')) := by
  have hne : ∀ b, b ≠ B.w → (W'.setCell ⟨B.w, 0, none⟩ (.slice q' L2'.length c')).heap[b]? = W'.heap[b]? := fun b hb => heap_setCell_other _ _ _ _ hb
  have := B.hq; have := B.hw; have := B.hn; have := B.hd; have := B.hl
  have hlt : ∀ b, X b → b < W.heap.size := fun b hx => K.xb h.s b hx
  have l1 := hlt _ h.x.2.1
  have l2 := hlt _ h.x.2.2.1
  have l3 := hlt _ h.x.2.2.2.2
  have hs : (W'.setCell ⟨B.w, 0, none⟩ (.slice q' L2'.length c')).heap.size = W'.heap.size := by simp [World.setCell]
  have s' : K.S w1 (fun b => X b ∨ (W.heap.size ≤ b ∧ b < W'.heap.size)) W' m v L1 := K.swap h.s hb (fun b hx => by
    rcases hx with hx | hx
    · exact ⟨.inl hx, Nat.lt_of_lt_of_le (hlt b hx) hb.size⟩
    · exact ⟨.inr hx.1, hx.2⟩)
  refine ⟨fun b => X b ∨ (W.heap.size ≤ b ∧ b < W'.heap.size), fun b hx => .inl hx, K.grown (r := some B.w) s' (grownBy_setCell' W' B.w _) (fun b e => by cases e; exact ⟨.inl h.x.2.1, by rw [← h.eb]; omega⟩) (fun b hx => ⟨.inl hx, by rw [hs]; exact K.xb s' b hx⟩), ?_, (hne _ (by omega)).trans ((hb.block _ h.bq.lt).trans h.bq), ?_, (hne _ (by omega)).trans ((hb.block _ h.bn.lt).trans h.bn), ⟨.inl h.x.1, .inl h.x.2.1, .inl h.x.2.2.1, .inl h.x.2.2.2.1, .inl h.x.2.2.2.2⟩, h.eb⟩
  · have hr2 : RowQ (fun b => (X b ∨ (W.heap.size ≤ b ∧ b < W'.heap.size)) ∧ b ≠ B.w ∧ b ≠ B.n ∧ b ≠ B.l) W' q' L2'.length c' L2' := ⟨hr.items, hr.zero, hr.form, fun b o e => by
      obtain ⟨h1, h2⟩ := hr.mem b o e
      refine ⟨?_, h2⟩
      rcases h1 with h1 | h1
      · exact ⟨.inl h1.1, h1.2⟩
      · exact ⟨.inr ⟨h1, h2⟩, by omega, by omega, by omega⟩⟩
    exact hr2.kept (fun b e => hne b e.2.1) (by rw [hs]; exact Nat.le_refl _)
  · exact Boxed.set (v := .slice q L2.length c) _ ((hb.block _ h.bw.lt).trans h.bw)
end

/-- Between two rounds: k is how many rounds can come yet. -/
def DrI (K : QKit) (w1 : World) (v : Value) (B : DrB) (n0 nm : Nat) (k : Nat) (W : World) : Prop :=
  ∃ (X : Nat → Prop) (L : List Int) (q : Option Addr) (c m nn : Nat), DrC K w1 v B m L L nn q c X W ∧ m ≤ 100 + 2 * nn ∧ L.length + nn ≤ n0 + min nn nm ∧ k = L.length + (nm - nn)
/-- An element was popped. -/
def DrF (K : QKit) (w1 : World) (v : Value) (B : DrB) (n0 nm : Nat) (k : Nat) (x : Int) (W : World) : Prop :=
  ∃ (X : Nat → Prop) (L : List Int) (q : Option Addr) (c m nn : Nat), DrC K w1 v B m L (x :: L) nn q c X W ∧ m ≤ 101 + 2 * nn ∧ (x :: L).length + nn ≤ n0 + min nn nm ∧ k = (x :: L).length + (nm - nn)
/-- None is left. -/
def DrD (K : QKit) (w1 : World) (v : Value) (B : DrB) (n0 nm : Nat) (W : World) : Prop :=
  ∃ (X : Nat → Prop) (q : Option Addr) (c m nn : Nat), DrC K w1 v B m [] [] nn q c X W ∧ m ≤ 101 + 2 * nn ∧ nn ≤ n0 + nm
/-- The loop was left. -/
def DrX (K : QKit) (w1 : World) (v : Value) (B : DrB) (n0 nm st : Nat) (e : Code) (W : World) : Prop :=
  e = .exit 0 ∧ ∃ (X : Nat → Prop) (L : List Int) (q : Option Addr) (c m nn : Nat), DrC K w1 v B m L L nn q c X W ∧ m ≤ 100 + 2 * nn ∧ st < nn ∧ L.length + nn ≤ n0 + nm

section
variable {K : QKit} {w1 : World} {v : Value} {B : DrB} {n0 nm : Nat}
theorem dr_pop (hn0 : n0 ≤ 100) (hnm : nm ≤ 100) (k : Nat) (W : World) (h : DrI K w1 v B n0 nm k W) :
    Calls Try.prog 13 #[v] W fun r W' => ((∃ x, r = .returned (.tuple #[.int .i64 x, .bool true]) ∧ DrF K w1 v B n0 nm k x W') ∨ (r = .returned (.tuple #[.int .i64 0, .bool false]) ∧ DrD K w1 v B n0 nm W')) ∧ W'.heap[B.l]? = W.heap[B.l]? ∧ W'.heap[B.d]? = W.heap[B.d]? := by
  obtain ⟨X, L, q, c, m, nn, h, h1, h2, h3⟩ := h
  refine (K.pop h.s (by omega)).mono ?_
  rintro r W' ⟨rfl, hs, hk, hb⟩
  refine ⟨?_, hk _ h.x.2.2.2.2, hk _ h.x.2.2.2.1⟩
  have h' := h.code hs hk hb
  cases L with
  | nil => exact .inr ⟨rfl, X, q, c, m + 1, nn, h', by omega, by simp only [List.length_nil] at h2; omega⟩
  | cons x L => exact .inl ⟨x, rfl, X, L, q, c, m + 1, nn, h', by omega, h2, h3⟩
end
end Go.Proofs.Ytmmiommfbkcebaa
