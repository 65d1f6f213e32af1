/- The statement QueueMatches, over what the code's queue is asked to give: what is held amid an operation. -/
import Derived.Test.YtmmiommfbkcebaaQueueOrders
import Derived.Test.YtmmiommfbkcebaaOpenOps17
import Derived.Deep.RegionHeld3
import Derived.Deep.Cut
namespace Go.Proofs.Ytmmiommfbkcebaa
open Go.RowKit

/-- The queue holds L1, the reference's row L2; the operation lies in box Bo. -/
structure MaP (K : QKit) (w0 : World) (v : Value) (Bo : Nat) (k x : Int) (m : Nat) (L1 L2 : List Int) (q : Option Addr) (c : Nat) (X : Nat → Prop) (wr : World) : Prop where
  s : K.S w0 X wr m v L1
  row : RowQ X wr q L2.length c L2
  xo : X Bo
  ho : wr.heap[Bo]? = some (.cells #[.int .i64 k, .int .i64 x] 29 (0, 0))

theorem QKit.swap (K : QKit) {w0 w w' : World} {X Y : Nat → Prop} {m : Nat} {v : Value} {l : List Int} (h : K.S w0 X w m v l) (hb : Below w.heap.size w w') (hY : ∀ b, Y b → (X b ∨ w.heap.size ≤ b) ∧ b < w'.heap.size) : K.S w0 Y w' m v l :=
  K.grown (r := none) h ⟨hb.os, hb.tape, hb.output, hb.size, fun k hk _ => hb.block k hk⟩ (fun b e => by cases e) hY
theorem QKit.turned (K : QKit) {w0 w w' : World} {X : Nat → Prop} {m : Nat} {v : Value} {l : List Int} (h : K.S w0 X w m v l) (hb : Below w.heap.size w w') : K.S w0 X w' m v l :=
  K.swap h hb fun b hx => ⟨.inl hx, Nat.lt_of_lt_of_le (K.xb h b hx) hb.size⟩

/-- What play holds between two rounds. -/
def MaJ (K : QKit) (w0 : World) (v : Value) (t : Nat) (u : Value) (wr : World) : Prop := ∃ X L q c m, u = .slice q L.length c ∧ m ≤ t ∧ L.length ≤ t ∧ K.S w0 X wr m v L ∧ RowQ X wr q L.length c L

section
variable {K : QKit} {w0 wr : World} {v : Value} {Bo : Nat} {k x : Int} {m : Nat} {L1 L2 L : List Int} {q : Option Addr} {c : Nat} {X : Nat → Prop}

theorem MaP.turned (h : MaP K w0 v Bo k x m L1 L2 q c X wr) {w' : World} (hb : Below wr.heap.size wr w') : MaP K w0 v Bo k x m L1 L2 q c X w' :=
  ⟨K.turned h.s hb, h.row.below hb, h.xo, (hb.block Bo (K.xb h.s Bo h.xo)).trans h.ho⟩

theorem MaP.code (h : MaP K w0 v Bo k x m L1 L2 q c X wr) {w' : World} {m' : Nat} {L1' : List Int} (hs : K.S w0 X w' m' v L1') (hk : ∀ b, X b → w'.heap[b]? = wr.heap[b]?) (hb : Below w0.heap.size wr w') : MaP K w0 v Bo k x m' L1' L2 q c X w' :=
  ⟨hs, h.row.kept hk hb.size, h.xo, (hk Bo h.xo).trans h.ho⟩

theorem MaP.ref (h : MaP K w0 v Bo k x m L1 L2 q c X wr) {w' : World} (hb : Below wr.heap.size wr w') {L2' : List Int} {q' : Option Addr} {c' : Nat} (hr : RowQ (fun b => X b ∨ wr.heap.size ≤ b) w' q' L2'.length c' L2') : ∃ Z, MaP K w0 v Bo k x m L1 L2' q' c' Z w' := by
  refine ⟨fun b => X b ∨ (wr.heap.size ≤ b ∧ b < w'.heap.size), K.swap h.s hb (fun b hx => ?_), ⟨hr.items, hr.zero, hr.form, fun b o e => ?_⟩, .inl h.xo, (hb.block Bo (K.xb h.s Bo h.xo)).trans h.ho⟩
  · rcases hx with hx | hx
    · exact ⟨.inl hx, Nat.lt_of_lt_of_le (K.xb h.s b hx) hb.size⟩
    · exact ⟨.inr hx.1, hx.2⟩
  · obtain ⟨h1, h2⟩ := hr.mem b o e
    exact ⟨h1.imp id (fun h3 => ⟨h3, h2⟩), h2⟩

/-- The operation's box is new. -/
theorem MaP.start (hs : K.S w0 X wr m v L) (hr : RowQ X wr q L.length c L) : ∃ Z, MaP K w0 v wr.heap.size k x m L L q c Z (wr.alloc (.cells #[.int .i64 k, .int .i64 x] 29)) := by
  have hb : Below wr.heap.size wr (wr.alloc (.cells #[.int .i64 k, .int .i64 x] 29)) := (Below.refl _ _).alloc (Nat.le_refl _) _
  refine ⟨fun b => X b ∨ b = wr.heap.size, K.swap hs hb (fun b hx => ?_), (hr.below hb).mono (fun b e => .inl e), .inr rfl, heap_alloc_new _ _⟩
  rcases hx with hx | rfl
  · exact ⟨.inl hx, Nat.lt_of_lt_of_le (K.xb hs b hx) hb.size⟩
  · exact ⟨.inr (Nat.le_refl _), by simp⟩

/-- The calls of the round's last line. -/
theorem MaP.kit {w7 : World} {t : Nat} {b : Bool} (h : MaP K w0 v Bo k x m L L q c X w7) (hm : m ≤ t) (hl : L.length ≤ t) (ht : t ≤ 2000000) (hb : decide (x ∈ L) = b) (hx : InI x) :
    ∃ Q : World → Prop, Q w7 ∧ (∀ W, Q W → Q W.drew) ∧ (∀ W, Q W → W.cell? ⟨Bo, 1, none⟩ = some (.int .i64 x)) ∧
      (∀ W, Q W → Calls Try.prog 19 #[v] W fun r w' => ∃ q cq, r = .returned (.slice q L.length cq) ∧ Qs w' q L.length cq L ∧ Q w') ∧
      (∀ W p cp, Q W → Qs W p L.length cp L → Calls Try.prog 18 #[.slice p L.length cp, .slice q L.length c] W fun r w' => r = .returned (.bool true) ∧ Q w') ∧
      (∀ W, Q W → Calls Try.prog 20 #[v] W fun r w' => r = .returned (.int .i64 (L.length : Int)) ∧ Q w') ∧
      (∀ W, Q W → Calls Try.prog 21 #[v, .int .i64 x] W fun r w' => r = .returned (.int .i64 (posQ L x)) ∧ Q w') ∧
      (∀ W, Q W → Calls Try.prog 22 #[.slice q L.length c, .int .i64 x] W fun r w' => r = .returned (.int .i64 (posQ L x)) ∧ Q w') ∧
      (∀ W, Q W → Calls Try.prog 23 #[v, .int .i64 x] W fun r w' => r = .returned (.bool b) ∧ Q w') ∧
      ∀ W, Q W → MaJ K w0 v t (.slice q L.length c) W := by
  refine ⟨MaP K w0 v Bo k x m L L q c X, h, fun W h => h.turned (Below.refl _ _).drew, fun W h => ?_, fun W h => ?_, fun W p cp h hI => ?_, fun W h => ?_, fun W h => ?_, fun W h => ?_, fun W h => ?_, fun W h => ⟨X, L, q, c, m, rfl, hm, hl, h.s, h.row⟩⟩
  · rw [cell_of_row _ _ _ _ _ (0, 0) h.ho]; rfl
  · refine (K.list h.s (by omega)).mono ?_
    rintro r w' ⟨u, rfl, hu, hs, hk, hbl⟩
    obtain ⟨p, cp, rfl, hrow⟩ := rowQ_own hu rfl
    exact ⟨p, cp, rfl, hrow.items, h.code (K.swap hs (Below.refl _ _) (fun b hx => ⟨.inl (.inl hx), Nat.lt_of_lt_of_le (K.xb h.s b hx) hbl.size⟩)) hk hbl⟩
  · refine (qequal_any p q _ _ cp c L L W hI h.row.items).mono ?_
    rintro r w' ⟨e, hbl⟩
    exact ⟨e.trans (by simp), h.turned hbl⟩
  · refine (K.length h.s (by omega)).mono ?_
    rintro r w' ⟨e, hs, hk, hbl⟩
    exact ⟨e, h.code hs hk hbl⟩
  · refine (K.place x h.s (by omega) hx).mono ?_
    rintro r w' ⟨e, hs, hk, hbl⟩
    exact ⟨e, h.code hs hk hbl⟩
  · refine (rplace17_any x q _ c L W h.row.items).mono ?_
    rintro r w' ⟨e, hbl⟩
    exact ⟨e, h.turned hbl⟩
  · refine (K.has x h.s (by omega) hx).mono ?_
    rintro r w' ⟨e, hs, hk, hbl⟩
    exact ⟨by rw [e, hb], h.code hs hk hbl⟩
end
end Go.Proofs.Ytmmiommfbkcebaa
