/- The code's queue is what the laws ask of it. -/
import Derived.Test.YtmmiommfbkcebaaQmNew
import Derived.Test.YtmmiommfbkcebaaQuKit
namespace Go.Proofs.Ytmmiommfbkcebaa
open Go.RowKit

theorem QmE.end' {w0 : World} {X : Nat → Prop} {w w' : World} {m d : Nat} {l : List Int} (h : QmE w0 X w m d l w') : (∃ b, Value.pointer (some ⟨d, 0, none⟩) = .pointer (some ⟨b, 0, none⟩) ∧ QmS w0 X w' m b l) ∧ (∀ b, X b → w'.heap[b]? = w.heap[b]?) ∧ Below w0.heap.size w w' := ⟨⟨d, rfl, h.1⟩, h.2⟩

theorem QmS.kept {w0 : World} {X : Nat → Prop} {w w' : World} {m d : Nat} {l : List Int} (h : QmS w0 X w m d l) (hb : Below w.heap.size w w') : QmE w0 X w m d l w' := by
  obtain ⟨v, T, mb, k, h⟩ := h
  exact h.same (Nat.le_refl m) hb

/-- The code's queue. -/
def theKit : QKit where
  S w0 X w m v l := ∃ d, v = .pointer (some ⟨d, 0, none⟩) ∧ QmS w0 X w m d l
  base h := by obtain ⟨_, _, _, _, _, _, h⟩ := h; exact h.base
  xb h := by obtain ⟨_, _, _, _, _, _, h⟩ := h; exact h.xb
  nodup h := by obtain ⟨_, _, _, _, _, _, h⟩ := h; exact h.nd
  ptr h := by obtain ⟨d, rfl, _⟩ := h; exact ⟨d, rfl⟩
  grown h hg hr hY := by
    obtain ⟨d, rfl, v, T, mb, k, h⟩ := h
    refine ⟨d, rfl, v, T, mb, k, h.other (fun b e => ?_) hY ⟨hg.os, hg.tape, hg.output, hg.size, fun b hb => hg.block b (Nat.lt_of_lt_of_le hb h.base.size) (fun e => by have := (hr b e.symm).2; omega)⟩⟩
    have hlt : b < _ ∧ ¬ _ := ⟨by rcases e with rfl | rfl | e; exact h.dlt; exact h.map.lt; exact (h.row.lt e).2, by rcases e with rfl | rfl | e; exact h.dpos.2; exact h.mpos.2; exact (h.vpos b e).1⟩
    exact hg.block b hlt.1 (fun e => hlt.2 (hr b e.symm).1)
  new p n c l w h hn hr := (new_any p n c l w h hn hr).mono fun r w' ⟨d, e, h⟩ => ⟨_, e, d, rfl, h⟩
  pop h hm := by
    obtain ⟨d, rfl, h⟩ := h
    exact (pop_any h hm).mono fun r w' ⟨e, h⟩ => ⟨e, h.end'⟩
  length h hm := by
    obtain ⟨d, rfl, h⟩ := h
    have hk := h
    obtain ⟨v, T, mb, k, h⟩ := h
    refine (len_any h rfl).mono ?_
    rintro r w' ⟨e, rfl⟩
    exact ⟨e, (hk.kept (Below.refl _ _)).end'⟩
  push x h hm hx := by
    obtain ⟨d, rfl, h⟩ := h
    exact (push_any h hm x hx).mono fun r w' ⟨e, h⟩ => ⟨e, h.end'⟩
  remove x h hm hx := by
    obtain ⟨d, rfl, h⟩ := h
    exact (remove_any h hm x hx).mono fun r w' ⟨e, h⟩ => ⟨e, h.end'⟩
  peek h hm := by
    obtain ⟨d, rfl, h⟩ := h
    have hk := h
    obtain ⟨v, T, mb, k, h⟩ := h
    refine (peek_any h).mono ?_
    rintro r w' ⟨e, rfl⟩
    exact ⟨e, (hk.kept (Below.refl _ _)).end'⟩
  has x h hm hx := by
    obtain ⟨d, rfl, h⟩ := h
    have hk := h
    obtain ⟨v, T, mb, k, h⟩ := h
    refine (has_any h x hx).mono ?_
    rintro r w' ⟨e, rfl⟩
    exact ⟨e, (hk.kept (Below.refl _ _)).end'⟩
  place x h hm hx := by
    obtain ⟨d, rfl, h⟩ := h
    have hk := h
    obtain ⟨v, T, mb, k, h⟩ := h
    refine (place_any h hm x hx).mono ?_
    rintro r w' ⟨e, hb⟩
    exact ⟨e, (hk.kept hb).end'⟩
  list h hm := by
    obtain ⟨d, rfl, h⟩ := h
    have hk := h
    obtain ⟨v, T, mb, k, h⟩ := h
    refine (list_any h hm).mono ?_
    rintro r w' ⟨u, rfl, hu, hb⟩
    refine ⟨u, rfl, hu, ⟨d, rfl, v, T, mb, k, h.other (fun b e => hb.block b (by rcases e with rfl | rfl | e; exact h.dlt; exact h.map.lt; exact (h.row.lt e).2)) (fun b e => ?_) (hb.mono h.base.size)⟩, fun b e => hb.block b (h.xb b e), hb.mono h.base.size⟩
    rcases e with e | e
    · exact ⟨.inl e, Nat.lt_of_lt_of_le (h.xb b e) hb.size⟩
    · obtain ⟨h1, h2⟩ := World.ownsRow.lt hu b e
      exact ⟨.inr h1, h2⟩
end Go.Proofs.Ytmmiommfbkcebaa
