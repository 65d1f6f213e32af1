/- A level that a law has made, beside blocks that are not its own. -/
import Derived.Test.YthidinaflaogfaaLvNil
import Derived.Test.YthidinaflaogfaaLvRIns
import Derived.Test.YthidinaflaogfaaLvM
namespace Go.Proofs.Ythidinaflaogfaa
open Go.RowKit

/-- The blocks of a level. -/
def fp (d : Nat) (V : List Value) (b : Nat) : Prop := b = d ∨ ∃ (s : Nat) (v : Value), V[s]? = some v ∧ v.ownBlock = some b

theorem LvAt.tight {S : Nat → Prop} {w : World} {d k : Nat} {V : List Value} {F : Nat → List It} (h : LvAt S w d k V F) : LvAt (fp d V) w d k V F ∧ ∀ b, fp d V b → S b ∧ b < w.heap.size := by
  refine ⟨⟨h.head, h.len, .inl rfl, fun s v hv => ⟨(h.slot s v hv).1, fun b hb => ⟨.inr ⟨s, v, hv, hb⟩, ((h.slot s v hv).2 b hb).2⟩⟩, h.apart⟩, fun b hb => ?_⟩
  rcases hb with rfl | ⟨s, v, hv, hb⟩
  · exact ⟨h.own, (Array.getElem?_eq_some_iff.1 h.head).1⟩
  · exact ⟨((h.slot s v hv).2 b hb).1, ((h.slot s v hv).1.lt b hb).2⟩

theorem LvAt.grown {S : Nat → Prop} {w w' : World} {d k : Nat} {V : List Value} {F : Nat → List It} (h : LvAt S w d k V F) {r : Option Nat} (hg : w.grownBy w' r) (hr : ∀ b, r = some b → ¬ S b) : LvAt S w' d k V F := by
  refine ⟨(hg.block d (Array.getElem?_eq_some_iff.1 h.head).1 (fun e => hr d e.symm h.own)).trans h.head, h.len, h.own, fun s v hv => ⟨(h.slot s v hv).1.kept hg ?_, (h.slot s v hv).2⟩, h.apart⟩
  cases hb : v.ownBlock with
  | none => exact .inl rfl
  | some b => exact .inr (fun e => hr b e.symm ((h.slot s v hv).2 b hb).1)

/-- A level with the items F, made since w0, in no block of X. -/
def LvO (w0 : World) (X : Nat → Prop) (w : World) (d k : Nat) (F : Nat → List It) : Prop := ∃ V, LvAt (fp d V) w d k V F ∧ (∀ b, fp d V b → w0.heap.size ≤ b ∧ ¬ X b) ∧ (∀ b, X b → b < w.heap.size) ∧ Below w0.heap.size w0 w

theorem LvO.base {w0 : World} {X : Nat → Prop} {w : World} {d k : Nat} {F : Nat → List It} (h : LvO w0 X w d k F) : Below w0.heap.size w0 w := by obtain ⟨_, _, _, _, h⟩ := h; exact h

theorem LvO.below {w0 : World} {X : Nat → Prop} {w w' : World} {d k : Nat} {F : Nat → List It} (h : LvO w0 X w d k F) (hb : Below w.heap.size w w') : LvO w0 X w' d k F := by
  obtain ⟨V, h1, h2, h3, h4⟩ := h
  exact ⟨V, h1.below hb, h2, fun b hx => Nat.lt_of_lt_of_le (h3 b hx) hb.size, h4.trans (hb.mono h4.size)⟩

/-- Blocks that the level has not are kept aside. -/
theorem LvO.swap {w0 : World} {X Y : Nat → Prop} {w w' : World} {d k : Nat} {F : Nat → List It} (h : LvO w0 X w d k F) (hb : Below w.heap.size w w') (hY : ∀ b, Y b → (X b ∨ w.heap.size ≤ b) ∧ b < w'.heap.size) : LvO w0 Y w' d k F := by
  obtain ⟨V, h1, h2, h3, h4⟩ := h
  refine ⟨V, h1.below hb, fun b hf => ⟨(h2 b hf).1, fun hy => ?_⟩, fun b hy => (hY b hy).2, h4.trans (hb.mono h4.size)⟩
  rcases (hY b hy).1 with h5 | h5
  · exact (h2 b hf).2 h5
  · have := (h1.tight.2 b hf).2; omega

/-- A row that is not the level's may turn. -/
theorem LvO.grown {w0 : World} {X Y : Nat → Prop} {w w' : World} {d k : Nat} {F : Nat → List It} (h : LvO w0 X w d k F) {v : Value} (hg : w.grownBy w' v.ownBlock) (hv : ∀ b, v.ownBlock = some b → X b ∧ w0.heap.size ≤ b) (hY : ∀ b, Y b → (X b ∨ w.heap.size ≤ b) ∧ b < w'.heap.size) : LvO w0 Y w' d k F := by
  obtain ⟨V, h1, h2, h3, h4⟩ := h
  refine ⟨V, h1.grown hg (fun b e hf => (h2 b hf).2 (hv b e).1), fun b hf => ⟨(h2 b hf).1, fun hy => ?_⟩, fun b hy => (hY b hy).2, h4.grown hg h4.size (fun b e => (hv b e).2)⟩
  rcases (hY b hy).1 with h5 | h5
  · exact (h2 b hf).2 h5
  · have := (h1.tight.2 b hf).2; omega

/-- What a change leaves. -/
structure LvOEnd (w0 : World) (X : Nat → Prop) (w : World) (d k : Nat) (F : Nat → List It) (w' : World) : Prop where
  lv : LvO w0 X w' d k F
  keep : ∀ b, X b → w'.heap[b]? = w.heap[b]?
  below : Below w0.heap.size w w'
  size : w.heap.size ≤ w'.heap.size

theorem LvO.step {w0 : World} {X : Nat → Prop} {w w' : World} {d k : Nat} {V : List Value} {F' : Nat → List It} (h2 : ∀ b, fp d V b → w0.heap.size ≤ b ∧ ¬ X b) (h3 : ∀ b, X b → b < w.heap.size) (h4 : Below w0.heap.size w0 w) (hs : LvStep (fp d V) w d k F' w') : LvOEnd w0 X w d k F' w' := by
  obtain ⟨S', V', g1, g2, g3⟩ := hs
  obtain ⟨t1, t2⟩ := g1.tight
  have hb : Below w0.heap.size w w' := ⟨g3.os, g3.tape, g3.output, g3.size, fun b hb => g3.block b (Nat.lt_of_lt_of_le hb h4.size) (fun hf => absurd (h2 b hf).1 (by omega))⟩
  refine ⟨⟨V', t1, fun b hf => ?_, fun b hx => Nat.lt_of_lt_of_le (h3 b hx) g3.size, h4.trans hb⟩, fun b hx => g3.block b (h3 b hx) (fun hf => (h2 b hf).2 hx), hb, g3.size⟩
  rcases g2 b (t2 b hf).1 with h5 | h5
  · exact h2 b h5
  · exact ⟨Nat.le_trans h4.size h5, fun hx => by have := h3 b hx; omega⟩

theorem own_put {w0 : World} {X : Nat → Prop} {w : World} {d k : Nat} {L : List It} (h : LvO w0 X w d k (slF k L)) (hk : k < 4) (hs : srtI L) (hl : L.length ≤ 999) (x : It) (hx : x.2 < 18446744073709551616) :
    Calls Try.prog 39 #[.pointer (some ⟨d, 0, none⟩), .agg #[.int .u64 (x.1 : Int), .int .u64 (x.2 : Int)]] w fun r w' => r = .returned (.bool (!decide (x ∈ L))) ∧ LvOEnd w0 X w d k (slF k (if x ∈ L then L else insI x L)) w' := by
  obtain ⟨V, h1, h2, h3, h4⟩ := h
  have hF := srt_slF (k := k) hs (slotN k x.2)
  have hle : (slF k L (slotN k x.2)).length ≤ 999 := Nat.le_trans (List.length_filter_le _ _) hl
  have hmm : decide ((slF k L (slotN k x.2))[cntI x (slF k L (slotN k x.2))]? = some x) = decide (x ∈ L) := by
    rw [decide_eq_decide, srt_mem hF, mem_slF]
    exact ⟨fun h => h.1, fun h => ⟨h, rfl⟩⟩
  refine (put_any h1 hk x hx (cntI x (slF k L (slotN k x.2))) hle (cntI_le _ _) (srt_idx hF x) (!decide (x ∈ L)) (by rw [hmm])).mono ?_
  rintro r w' ⟨e, hst⟩
  refine ⟨e, LvO.step h2 h3 h4 ?_⟩
  by_cases hm : x ∈ L
  · rw [if_pos hm]
    rw [if_neg (by rw [decide_eq_true hm]; decide)] at hst
    exact hst
  · rw [if_neg hm, slF_ins hs x]
    rw [if_pos (by rw [decide_eq_false hm]; rfl)] at hst
    exact hst

theorem own_take {w0 : World} {X : Nat → Prop} {w : World} {d k : Nat} {F : Nat → List It} (h : LvO w0 X w d k F) (s : Nat) (hs : s < 64) :
    Calls Try.prog 43 #[.pointer (some ⟨d, 0, none⟩), .int .i64 (s : Int)] w fun r w' => ∃ p n c, r = .returned (.slice p n c) ∧ Items w' p n c (F s) ∧ LvOEnd w0 X w d k (upd F s []) w' := by
  obtain ⟨V, h1, h2, h3, h4⟩ := h
  refine (take_any h1 s hs).mono ?_
  rintro r w' ⟨p, n, c, e, hI, hst⟩
  exact ⟨p, n, c, e, hI, LvO.step h2 h3 h4 hst⟩

theorem own_new (k : Nat) (w : World) : LvO w (fun _ => False) (w.alloc (.cells (lvC k nil64) 83)) w.heap.size k (fun _ => []) := by
  have h := lv_new k w
  obtain ⟨t1, t2⟩ := h.tight
  exact ⟨nil64, t1, fun b hf => ⟨Nat.le_of_eq ((t2 b hf).1).symm, fun h => h⟩, fun _ h => h.elim, (Below.refl _ _).alloc (Nat.le_refl _) _⟩
end Go.Proofs.Ythidinaflaogfaa
