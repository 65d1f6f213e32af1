/- Two wheels beside each other, and the reference's. No condition. -/
import Derived.Test.YthidinaflaogfaaWheelFar
import Derived.Test.YthidinaflaogfaaWhEq
namespace Go.Proofs.Ythidinaflaogfaa
open Go.RowKit

/-- A wheel whose blocks are among F. -/
def WhF (w0 : World) (F : Nat → Prop) (w : World) (d now : Nat) (T : List It) : Prop := WhS w0 (fun b => b < w.heap.size ∧ ¬ F b) w d now T

theorem WhF.tim {w0 : World} {F : Nat → Prop} {w : World} {d now : Nat} {T : List It} (h : WhF w0 F w d now T) : TimW T := WhS.tim h
theorem WhF.base {w0 : World} {F : Nat → Prop} {w : World} {d now : Nat} {T : List It} (h : WhF w0 F w d now T) : Below w0.heap.size w0 w := WhS.base h

/-- Blocks that are not the wheel's have turned. -/
theorem WhF.other {w0 : World} {F : Nat → Prop} {w w' : World} {d now : Nat} {T : List It} (h : WhF w0 F w d now T) (hk : ∀ b, F b → w'.heap[b]? = w.heap[b]?) (hF : ∀ b, F b → b < w.heap.size) (hb : Below w0.heap.size w w') : WhF w0 F w' d now T := by
  obtain ⟨L, ⟨o, p, V, mb, h⟩, h2⟩ := h
  have hin : ∀ b, o b ≤ 12 → F b := fun b e => by
    obtain ⟨_, h5, h6⟩ := h.ob b e
    by_cases h7 : F b
    · exact h7
    · exact absurd ⟨h6, h7⟩ h5
  have hk2 : ∀ b, o b ≤ 12 → w'.heap[b]? = w.heap[b]? := fun b e => hk b (hin b e)
  refine ⟨L, ⟨o, p, V, mb, ⟨(hk2 d (by rw [h.od]; omega)).trans h.head, h.map.kept (hk2 mb (by rw [h.om]; omega)), fun i hi => (h.lv i hi).same (fun b hb => hk2 b (by rw [h.fpo i hi b hb]; omega)), h.fpo, h.od, h.om, fun b e => ⟨(h.ob b e).1, fun hx => hx.2 (hin b e), Nat.lt_of_lt_of_le (hF b (hin b e)) hb.size⟩, fun b hx => hx.1, h.base.trans hb⟩⟩, h2⟩

/-- The wheel has turned: its blocks are among F and the new ones. -/
theorem WhF.op {w0 : World} {F : Nat → Prop} {w w' : World} {d now now' : Nat} {T T' : List It} (_ : WhF w0 F w d now T) {X : Nat → Prop} (hE : WhS w0 X w' d now' T') (hX : ∀ b, b < w.heap.size → ¬ F b → X b) : WhF w0 (fun b => F b ∨ (w.heap.size ≤ b ∧ b < w'.heap.size ∧ ¬ X b)) w' d now' T' := by
  refine WhS.swap hE (Below.refl _ _) (fun b hb => ⟨.inl ?_, hb.1⟩)
  rcases Nat.lt_or_ge b w.heap.size with h1 | h1
  · exact hX b h1 (fun e => hb.2 (.inl e))
  · by_cases h2 : X b
    · exact h2
    · exact absurd (.inr ⟨h1, hb.1, h2⟩) hb.2

/-- Two wheels, and a state of the reference in box B. -/
structure Duo (w0 : World) (da db B na : Nat) (Ta : List It) (nb : Nat) (Tb : List It) (n2 : Nat) (T2 : List It) (Fa Fb : Nat → Prop) (wr : World) : Prop where
  a : WhF w0 Fa wr da na Ta
  b : WhF w0 Fb wr db nb Tb
  apart : ∀ x, Fa x → ¬ Fb x
  al : ∀ x, Fa x → x < wr.heap.size
  bl : ∀ x, Fb x → x < wr.heap.size
  ba : ¬ Fa B ∧ ¬ Fb B ∧ w0.heap.size ≤ B
  box : ∃ p c, wr.heap[B]? = some (.cells #[.int .u64 (n2 : Int), .slice p T2.length c] 29 (0, 0)) ∧ RowAt (fun x => ¬ Fa x ∧ ¬ Fb x ∧ x ≠ B) wr p T2.length c T2

section
variable {w0 : World} {da db B na : Nat} {Ta : List It} {nb : Nat} {Tb : List It} {n2 : Nat} {T2 : List It} {Fa Fb : Nat → Prop} {wr : World}

theorem Duo.base (h : Duo w0 da db B na Ta nb Tb n2 T2 Fa Fb wr) : Below w0.heap.size w0 wr := h.a.base

/-- Blocks that are neither wheel's nor the reference's have turned. -/
theorem Duo.other (h : Duo w0 da db B na Ta nb Tb n2 T2 Fa Fb wr) {w' : World} {g : Option Nat} (hg : wr.grownBy w' g) (hn : ∀ b, g = some b → ¬ Fa b ∧ ¬ Fb b ∧ b ≠ B ∧ w0.heap.size ≤ b) (hp : ∀ p c, wr.heap[B]? = some (.cells #[.int .u64 (n2 : Int), .slice p T2.length c] 29 (0, 0)) → ∀ b o, p = some ⟨b, o, none⟩ → g ≠ some b) : Duo w0 da db B na Ta nb Tb n2 T2 Fa Fb w' := by
  obtain ⟨ha, hb, h1, h2, h3, h4, p, c, h5, h6⟩ := h
  have hBl : B < wr.heap.size := (Array.getElem?_eq_some_iff.1 h5).1
  have hbel : Below w0.heap.size wr w' := ⟨hg.os, hg.tape, hg.output, hg.size, fun b hb' => hg.block b (Nat.lt_of_lt_of_le hb' ha.base.size) (fun e => by have := (hn b e.symm).2.2.2; omega)⟩
  refine ⟨ha.other (fun b e => hg.block b (h2 b e) (fun e' => (hn b e'.symm).1 e)) h2 hbel, hb.other (fun b e => hg.block b (h3 b e) (fun e' => (hn b e'.symm).2.1 e)) h3 hbel, h1, fun x e => Nat.lt_of_lt_of_le (h2 x e) hg.size, fun x e => Nat.lt_of_lt_of_le (h3 x e) hg.size, h4, p, c, (hg.block B hBl (fun e => (hn B e.symm).2.2.1 rfl)).trans h5, ?_⟩
  exact ⟨items_same h6.items (fun b o e => hg.block b (h6.mem b o e).2 (fun e' => hp p c h5 b o e e'.symm)), h6.zero, h6.form, fun b o e => ⟨(h6.mem b o e).1, Nat.lt_of_lt_of_le (h6.mem b o e).2 hg.size⟩⟩

theorem Duo.turned (h : Duo w0 da db B na Ta nb Tb n2 T2 Fa Fb wr) {w' : World} (hb : Below wr.heap.size wr w') : Duo w0 da db B na Ta nb Tb n2 T2 Fa Fb w' :=
  h.other (g := none) ⟨hb.os, hb.tape, hb.output, hb.size, fun b h1 _ => hb.block b h1⟩ (fun b e => by cases e) (fun _ _ _ b o _ e => by cases e)

/-- The first wheel has turned. -/
theorem Duo.opA (h : Duo w0 da db B na Ta nb Tb n2 T2 Fa Fb wr) {X : Nat → Prop} {na' : Nat} {Ta' : List It} {w' : World} (hE : WhS w0 X w' da na' Ta') (hX : ∀ b, b < wr.heap.size → ¬ Fa b → X b) (hk : ∀ b, b < wr.heap.size → ¬ Fa b → w'.heap[b]? = wr.heap[b]?) (hb : Below w0.heap.size wr w') :
    ∃ Fa', (∀ b, b < wr.heap.size → ¬ Fa b → ¬ Fa' b) ∧ (∀ b, wr.heap.size ≤ b → X b → ¬ Fa' b) ∧ Duo w0 da db B na' Ta' nb Tb n2 T2 Fa' Fb w' := by
  obtain ⟨ha, hb', h1, h2, h3, h4, p, c, h5, h6⟩ := h
  have hBl : B < wr.heap.size := (Array.getElem?_eq_some_iff.1 h5).1
  have hnew : ∀ b, b < wr.heap.size → ¬ Fa b → ¬ (Fa b ∨ (wr.heap.size ≤ b ∧ b < w'.heap.size ∧ ¬ X b)) := fun b h7 h8 h9 => by
    rcases h9 with h9 | h9
    · exact h8 h9
    · omega
  refine ⟨fun b => Fa b ∨ (wr.heap.size ≤ b ∧ b < w'.heap.size ∧ ¬ X b), hnew, fun b h7 h8 h9 => ?_, ?_⟩
  · rcases h9 with h9 | h9
    · have := h2 b h9; omega
    · exact h9.2.2 h8
  · refine ⟨WhF.op ha hE hX, hb'.other (fun b e => hk b (h3 b e) (fun e' => h1 b e' e)) h3 hb, fun x e e' => ?_, fun x e => ?_, fun x e => Nat.lt_of_lt_of_le (h3 x e) hb.size, ⟨hnew B hBl h4.1, h4.2⟩, p, c, (hk B hBl h4.1).trans h5, ?_⟩
    · rcases e with e | e
      · exact h1 x e e'
      · have := h3 x e'; omega
    · rcases e with e | e
      · exact Nat.lt_of_lt_of_le (h2 x e) hb.size
      · exact e.2.1
    · exact ⟨items_same h6.items (fun b o e => hk b (h6.mem b o e).2 (h6.mem b o e).1.1), h6.zero, h6.form, fun b o e => ⟨⟨hnew b (h6.mem b o e).2 (h6.mem b o e).1.1, (h6.mem b o e).1.2⟩, Nat.lt_of_lt_of_le (h6.mem b o e).2 hb.size⟩⟩

/-- The second one. -/
theorem Duo.flip (h : Duo w0 da db B na Ta nb Tb n2 T2 Fa Fb wr) : Duo w0 db da B nb Tb na Ta n2 T2 Fb Fa wr := by
  obtain ⟨ha, hb', h1, h2, h3, h4, p, c, h5, h6⟩ := h
  exact ⟨hb', ha, fun x e e' => h1 x e' e, h3, h2, ⟨h4.2.1, h4.1, h4.2.2⟩, p, c, h5, h6.mono (fun b e => ⟨e.2.1, e.1, e.2.2⟩)⟩

theorem Duo.sched (h : Duo w0 da db B na Ta nb Tb n2 T2 Fa Fb wr) (hl : Ta.length ≤ 990) (i a : Nat) (hi : i < 18446744073709551616) (ha : a < 18446744073709551616) :
    Calls Try.prog 13 #[.pointer (some ⟨da, 0, none⟩), .int .u64 (i : Int), .int .u64 (a : Int)] wr fun r w' => r = .returned (.int .i64 (schedC Ta (i, a))) ∧ (∃ Fa', Duo w0 da db B na (schedT Ta (i, a)) nb Tb n2 T2 Fa' Fb w') ∧ ∀ b, b < wr.heap.size → ¬ Fa b → w'.heap[b]? = wr.heap[b]? := by
  refine (wsched_any h.a hl (i, a) hi ha).mono ?_
  rintro r w' ⟨rfl, hE⟩
  obtain ⟨Fa', _, _, h2⟩ := h.opA hE.wh (fun b h1 h2 => ⟨h1, h2⟩) (fun b h1 h2 => hE.keep b ⟨h1, h2⟩) hE.below
  exact ⟨rfl, ⟨Fa', h2⟩, fun b h1 h2 => hE.keep b ⟨h1, h2⟩⟩

/-- Advance: the row is neither wheel's. -/
theorem Duo.adv (h : Duo w0 da db B na Ta nb Tb n2 T2 Fa Fb wr) (hl : Ta.length ≤ 990) (now' : Nat) (hn : now' < 18446744073709551616) {nw : Nat} {T' D : List It} {cd : Int} (hc : advC na now' = cd) (hD : advD na now' Ta = D) (hT : advT na now' Ta = T') (hw : advN na now' = nw) :
    Calls Try.prog 14 #[.pointer (some ⟨da, 0, none⟩), .int .u64 (now' : Int)] wr fun r w' => ∃ p c Fa', r = .returned (.tuple #[.slice p D.length c, .int .i64 cd]) ∧ Items w' p D.length c D ∧ Duo w0 da db B nw T' nb Tb n2 T2 Fa' Fb w' ∧ (∀ b, b < wr.heap.size → ¬ Fa b → ¬ Fa' b) ∧ (∀ b o, p = some ⟨b, o, none⟩ → wr.heap.size ≤ b ∧ ¬ Fa' b) ∧ (∀ b, b < wr.heap.size → ¬ Fa b → w'.heap[b]? = wr.heap[b]?) ∧ wr.heap.size ≤ w'.heap.size := by
  refine (wadv_any h.a hl now' hn).mono ?_
  rintro r w' ⟨u, rfl, hr, hS, hk, hb⟩
  rw [hc, hD, hT, hw] at *
  obtain ⟨p, c, rfl, hI⟩ := OwnL.items hr rfl
  obtain ⟨Fa', h1, h2, h3⟩ := h.opA hS (fun b h1 h2 => .inl ⟨h1, h2⟩) (fun b h1 h2 => hk b ⟨h1, h2⟩) hb
  refine ⟨p, c, Fa', rfl, hI, h3, h1, fun b o e => ?_, fun b h1 h2 => hk b ⟨h1, h2⟩, hb.size⟩
  have h7 := (World.ownsRow.lt hr b (by rw [e]; rfl)).1
  exact ⟨h7, h2 b h7 (.inr (by rw [e]; rfl))⟩

/-- The reference has answered; the box is still the old one. -/
theorem Duo.got (h : Duo w0 da db B na Ta nb Tb n2 T2 Fa Fb wr) {w' : World} (hb : Below wr.heap.size wr w') {n2' : Nat} {T2' : List It} {v : Value} (hv : RefV (fun b => (¬ Fa b ∧ ¬ Fb b ∧ b ≠ B) ∨ wr.heap.size ≤ b) w' n2' T2' v) :
    ∃ p c, v = .agg #[.int .u64 (n2' : Int), .slice p T2'.length c] ∧ Duo w0 da db B na Ta nb Tb n2 T2 Fa Fb w' ∧ RowAt (fun b => ¬ Fa b ∧ ¬ Fb b ∧ b ≠ B) w' p T2'.length c T2' := by
  obtain ⟨p, c, e, hR⟩ := hv
  obtain ⟨p0, c0, h5, _⟩ := h.box
  have hBl : B < wr.heap.size := (Array.getElem?_eq_some_iff.1 h5).1
  refine ⟨p, c, e, h.turned hb, hR.mono (fun b hb' => ?_)⟩
  rcases hb' with h1 | h1
  · exact h1
  · exact ⟨fun e => by have := h.al b e; omega, fun e => by have := h.bl b e; omega, by omega⟩

/-- The box is written. -/
theorem Duo.store (h : Duo w0 da db B na Ta nb Tb n2 T2 Fa Fb wr) {n2' : Nat} {T2' : List It} {p : Option Addr} {c : Nat} (hR : RowAt (fun b => ¬ Fa b ∧ ¬ Fb b ∧ b ≠ B) wr p T2'.length c T2') :
    Duo w0 da db B na Ta nb Tb n2' T2' Fa Fb ((wr.setCell ⟨B, 0, none⟩ (.int .u64 (n2' : Int))).setCell ⟨B, 1, none⟩ (.slice p T2'.length c)) := by
  obtain ⟨ha, hb', h1, h2, h3, h4, p0, c0, h5, h6⟩ := h
  have hoth : ∀ b, b ≠ B → ((wr.setCell ⟨B, 0, none⟩ (.int .u64 (n2' : Int))).setCell ⟨B, 1, none⟩ (.slice p T2'.length c)).heap[b]? = wr.heap[b]? := fun b hb => by
    rw [heap_setCell_other _ _ _ _ hb, heap_setCell_other _ _ _ _ hb]
  have hsz : ((wr.setCell ⟨B, 0, none⟩ (.int .u64 (n2' : Int))).setCell ⟨B, 1, none⟩ (.slice p T2'.length c)).heap.size = wr.heap.size := by simp [World.setCell]
  have hbel : Below w0.heap.size wr ((wr.setCell ⟨B, 0, none⟩ (.int .u64 (n2' : Int))).setCell ⟨B, 1, none⟩ (.slice p T2'.length c)) := ((Below.refl _ _).setCell h4.2.2 _).setCell h4.2.2 _
  refine ⟨ha.other (fun b e => hoth b (fun e' => h4.1 (e' ▸ e))) h2 hbel, hb'.other (fun b e => hoth b (fun e' => h4.2.1 (e' ▸ e))) h3 hbel, h1, fun x e => by rw [hsz]; exact h2 x e, fun x e => by rw [hsz]; exact h3 x e, h4, p, c, put2 h5, ?_⟩
  exact ⟨items_same hR.items (fun b o e => hoth b (hR.mem b o e).1.2.2), hR.zero, hR.form, fun b o e => ⟨(hR.mem b o e).1, by rw [hsz]; exact (hR.mem b o e).2⟩⟩

theorem Duo.ref (h : Duo w0 da db B na Ta nb Tb n2 T2 Fa Fb wr) : ∃ p c, wr.heap[B]? = some (.cells #[.int .u64 (n2 : Int), .slice p T2.length c] 29 (0, 0)) ∧ RefV (fun b => ¬ Fa b ∧ ¬ Fb b ∧ b ≠ B) wr n2 T2 (.agg #[.int .u64 (n2 : Int), .slice p T2.length c]) := by
  obtain ⟨p, c, h4, h5⟩ := h.box
  exact ⟨p, c, h4, p, c, rfl, h5⟩

theorem Duo.rsched (h : Duo w0 da db B na Ta nb Tb n2 T2 Fa Fb wr) (hs : srtI T2) (hl : T2.length ≤ 990) (i a : Nat) (ha : a < 18446744073709551616) : ∃ p c, wr.heap[B]? = some (.cells #[.int .u64 (n2 : Int), .slice p T2.length c] 29 (0, 0)) ∧
    Calls Try.prog 12 #[.agg #[.int .u64 (n2 : Int), .slice p T2.length c], .int .u64 (i : Int), .int .u64 (a : Int)] wr fun r w' => ∃ p' c', r = .returned (.tuple #[.agg #[.int .u64 (n2 : Int), .slice p' (schedT T2 (i, a)).length c'], .int .i64 (schedC T2 (i, a))]) ∧ Duo w0 da db B na Ta nb Tb n2 T2 Fa Fb w' ∧ RowAt (fun b => ¬ Fa b ∧ ¬ Fb b ∧ b ≠ B) w' p' (schedT T2 (i, a)).length c' (schedT T2 (i, a)) := by
  obtain ⟨p, c, h1, h2⟩ := h.ref
  refine ⟨p, c, h1, (rsched16_any _ n2 T2 _ (i, a) wr h2 hs hl ha).mono ?_⟩
  rintro r w' ⟨v, rfl, hv, hb⟩
  obtain ⟨p', c', rfl, h3, h4⟩ := h.got hb hv
  exact ⟨p', c', rfl, h3, h4⟩
end

theorem WhS.above {w0 : World} {X : Nat → Prop} {w : World} {d now : Nat} {T : List It} (h : WhS w0 X w d now T) : WhS w0 (fun b => X b ∨ b < w0.heap.size) w d now T := by
  obtain ⟨L, ⟨o, p, V, mb, h⟩, h2⟩ := h
  refine ⟨L, ⟨o, p, V, mb, ⟨h.head, h.map, h.lv, h.fpo, h.od, h.om, fun b e => ⟨(h.ob b e).1, fun hx => ?_, (h.ob b e).2.2⟩, fun b hx => ?_, h.base⟩⟩, h2⟩
  · rcases hx with hx | hx
    · exact (h.ob b e).2.1 hx
    · have := (h.ob b e).1; omega
  · rcases hx with hx | hx
    · exact h.xb b hx
    · exact Nat.lt_of_lt_of_le hx h.base.size

theorem WhS.rebase {w w0 : World} {X : Nat → Prop} {w' : World} {d now : Nat} {T : List It} (h : WhS w0 X w' d now T) (hb : Below w.heap.size w w0) : WhS w X w' d now T := by
  obtain ⟨L, ⟨o, p, V, mb, h⟩, h2⟩ := h
  exact ⟨L, ⟨o, p, V, mb, ⟨h.head, h.map, h.lv, h.fpo, h.od, h.om, fun b e => ⟨Nat.le_trans hb.size (h.ob b e).1, (h.ob b e).2⟩, h.xb, hb.trans (h.base.mono hb.size)⟩⟩, h2⟩

theorem Duo.start {w w1 w2 w3 : World} {da db now : Nat} (ha : WhS w (fun _ => False) w1 da now []) (hb : WhS w1 (fun _ => False) w2 db now []) (h3 : Below w2.heap.size w2 w3) :
    ∃ Fa Fb, Duo w da db w3.heap.size now [] now [] now [] Fa Fb (w3.alloc (.cells #[.int .u64 (now : Int), .slice none 0 0] 29)) := by
  have hW : Below w2.heap.size w2 (w3.alloc (.cells #[.int .u64 (now : Int), .slice none 0 0] 29)) := h3.alloc h3.size _
  have s1 := ha.base.size
  have s2 := hb.base.size
  have s3 := h3.size
  have hW1 : Below w1.heap.size w1 (w3.alloc (.cells #[.int .u64 (now : Int), .slice none 0 0] 29)) := hb.base.trans (hW.mono s2)
  refine ⟨fun b => w.heap.size ≤ b ∧ b < w1.heap.size, fun b => w1.heap.size ≤ b ∧ b < w2.heap.size, ⟨?_, ?_, fun x h1 h2 => by omega, fun x h1 => by simp; omega, fun x h1 => by simp; omega, ⟨by omega, by omega, by omega⟩, none, 0, heap_alloc_new _ _, rowAt_nil _ _⟩⟩
  · refine WhS.swap (WhS.above ha) hW1 (fun b h => ⟨?_, h.1⟩)
    have := h.2
    by_cases h5 : b < w.heap.size
    · exact .inl (.inr h5)
    · exact .inr (by omega)
  · refine WhS.rebase (WhS.swap (WhS.above hb) hW (fun b h => ⟨?_, h.1⟩)) ha.base
    have := h.2
    by_cases h5 : b < w1.heap.size
    · exact .inl (.inr h5)
    · exact .inr (by omega)
end Go.Proofs.Ythidinaflaogfaa
