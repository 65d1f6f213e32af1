/- A wheel and the reference's beside each other. No condition. -/
import Derived.Test.YthidinaflaogfaaWrAll
import Derived.Test.YthidinaflaogfaaWhAlive
namespace Go.Proofs.Ythidinaflaogfaa
open Go.RowKit

/-- A wheel (tick n1, timers T1), and the reference's in box B (tick n2, timers T2), in blocks X that are not the wheel's. -/
structure LawP (w0 : World) (d B n1 : Nat) (T1 : List It) (n2 : Nat) (T2 : List It) (X : Nat → Prop) (wr : World) : Prop where
  wh : WhS w0 X wr d n1 T1
  bx : X B
  bb : w0.heap.size ≤ B
  box : ∃ p c, wr.heap[B]? = some (.cells #[.int .u64 (n2 : Int), .slice p T2.length c] 29 (0, 0)) ∧ RowAt (fun b => X b ∧ b ≠ B) wr p T2.length c T2

section
variable {w0 : World} {d B n1 : Nat} {T1 : List It} {n2 : Nat} {T2 : List It} {X : Nat → Prop} {wr : World}

theorem LawP.turned (h : LawP w0 d B n1 T1 n2 T2 X wr) {w' : World} (hb : Below wr.heap.size wr w') : LawP w0 d B n1 T1 n2 T2 X w' := by
  obtain ⟨h1, h2, h3, p, c, h4, h5⟩ := h
  exact ⟨h1.below hb, h2, h3, p, c, (hb.block B (h1.xb B h2)).trans h4, h5.below hb⟩

theorem LawP.wheel (h : LawP w0 d B n1 T1 n2 T2 X wr) {n1' : Nat} {T1' : List It} {w' : World} (hE : WhSEnd w0 X wr d n1' T1' w') : LawP w0 d B n1' T1' n2 T2 X w' := by
  obtain ⟨h1, h2, h3, p, c, h4, h5⟩ := h
  exact ⟨hE.wh, h2, h3, p, c, (hE.keep B h2).trans h4, h5.kept (fun b hx => hE.keep b hx.1) hE.below.size⟩

/-- More blocks are kept aside. -/
theorem LawP.aside (h : LawP w0 d B n1 T1 n2 T2 X wr) {Z : Nat → Prop} {w' : World} {n1' : Nat} {T1' : List It} (hw : WhS w0 Z w' d n1' T1') (hXZ : ∀ b, X b → Z b) (hk : ∀ b, X b → w'.heap[b]? = wr.heap[b]?) (hs : wr.heap.size ≤ w'.heap.size) : LawP w0 d B n1' T1' n2 T2 Z w' := by
  obtain ⟨h1, h2, h3, p, c, h4, h5⟩ := h
  exact ⟨hw, hXZ B h2, h3, p, c, (hk B h2).trans h4, (h5.kept (fun b hx => hk b hx.1) hs).mono (fun b hx => ⟨hXZ b hx.1, hx.2⟩)⟩

theorem LawP.ref (h : LawP w0 d B n1 T1 n2 T2 X wr) : ∃ p c, wr.heap[B]? = some (.cells #[.int .u64 (n2 : Int), .slice p T2.length c] 29 (0, 0)) ∧ RefV (fun b => X b ∧ b ≠ B) wr n2 T2 (.agg #[.int .u64 (n2 : Int), .slice p T2.length c]) ∧ RowAt (fun b => X b ∧ b ≠ B) wr p T2.length c T2 := by
  obtain ⟨_, _, _, p, c, h4, h5⟩ := h
  exact ⟨p, c, h4, ⟨p, c, rfl, h5⟩, h5⟩

/-- The reference has answered; the box is still the old one. -/
theorem LawP.got (h : LawP w0 d B n1 T1 n2 T2 X wr) {w' : World} (hb : Below wr.heap.size wr w') {n2' : Nat} {T2' : List It} {v : Value} (hv : RefV (fun b => (X b ∧ b ≠ B) ∨ wr.heap.size ≤ b) w' n2' T2' v) :
    ∃ p c Z, v = .agg #[.int .u64 (n2' : Int), .slice p T2'.length c] ∧ (∀ b, X b → Z b) ∧ LawP w0 d B n1 T1 n2 T2 Z w' ∧ RowAt (fun b => Z b ∧ b ≠ B) w' p T2'.length c T2' := by
  obtain ⟨p, c, e, hR⟩ := hv
  have h1 := h.wh.swap (Y := fun b => X b ∨ (wr.heap.size ≤ b ∧ b < w'.heap.size)) hb (fun b hb' => by
    rcases hb' with h2 | h2
    · exact ⟨.inl h2, Nat.lt_of_lt_of_le (h.wh.xb b h2) hb.size⟩
    · exact ⟨.inr h2.1, h2.2⟩)
  refine ⟨p, c, _, e, fun b hx => .inl hx, h.aside h1 (fun b hx => .inl hx) (fun b hx => hb.block b (h.wh.xb b hx)) hb.size, hR.items, hR.zero, hR.form, fun b o e' => ?_⟩
  obtain ⟨h2, h3⟩ := hR.mem b o e'
  refine ⟨?_, h3⟩
  rcases h2 with h2 | h2
  · exact ⟨.inl h2.1, h2.2⟩
  · have hB := h.wh.xb B h.bx
    exact ⟨.inr ⟨h2, h3⟩, by omega⟩

/-- The box is written. -/
theorem LawP.store (h : LawP w0 d B n1 T1 n2 T2 X wr) {n2' : Nat} {T2' : List It} {p : Option Addr} {c : Nat} (hR : RowAt (fun b => X b ∧ b ≠ B) wr p T2'.length c T2') :
    LawP w0 d B n1 T1 n2' T2' X ((wr.setCell ⟨B, 0, none⟩ (.int .u64 (n2' : Int))).setCell ⟨B, 1, none⟩ (.slice p T2'.length c)) := by
  obtain ⟨h1, h2, h3, p0, c0, h4, h5⟩ := h
  have hoth : ∀ b, b ≠ B → ((wr.setCell ⟨B, 0, none⟩ (.int .u64 (n2' : Int))).setCell ⟨B, 1, none⟩ (.slice p T2'.length c)).heap[b]? = wr.heap[b]? := fun b hb => by
    rw [heap_setCell_other _ _ _ _ hb, heap_setCell_other _ _ _ _ hb]
  have hsz : ((wr.setCell ⟨B, 0, none⟩ (.int .u64 (n2' : Int))).setCell ⟨B, 1, none⟩ (.slice p T2'.length c)).heap.size = wr.heap.size := by simp [World.setCell]
  refine ⟨h1.grown (v := .slice (some ⟨B, 0, none⟩) 0 0) ⟨rfl, rfl, rfl, by rw [hsz]; exact Nat.le_refl _, fun b _ hne => hoth b (fun e => hne (by rw [e]; rfl))⟩ (fun b e => by cases e; exact ⟨h2, h3⟩) (fun b hx => ⟨.inl hx, by rw [hsz]; exact h1.xb b hx⟩), h2, h3, p, c, put2 h4, ?_⟩
  refine ⟨items_same hR.items (fun b o e => hoth b (hR.mem b o e).1.2), hR.zero, hR.form, fun b o e => ⟨(hR.mem b o e).1, by rw [hsz]; exact (hR.mem b o e).2⟩⟩

theorem LawP.base (h : LawP w0 d B n1 T1 n2 T2 X wr) : Below w0.heap.size w0 wr := h.wh.base

/-- The beginning: a new wheel, and the reference's in a new box. -/
theorem LawP.start {w0 w1 w2 : World} {d now : Nat} (h : WhS w0 (fun _ => False) w1 d now []) (hb : Below w1.heap.size w1 w2) :
    LawP w0 d w2.heap.size now [] now [] (fun b => b = w2.heap.size) (w2.alloc (.cells #[.int .u64 (now : Int), .slice none 0 0] 29)) := by
  have hb2 : Below w1.heap.size w1 (w2.alloc (.cells #[.int .u64 (now : Int), .slice none 0 0] 29)) := hb.alloc hb.size _
  exact ⟨h.swap hb2 (fun b e => by subst e; exact ⟨.inr hb.size, by simp⟩), rfl, Nat.le_trans h.base.size hb.size, none, 0, heap_alloc_new _ _, rowAt_nil _ _⟩
end
end Go.Proofs.Ythidinaflaogfaa
