/- What take holds amid its loops. No condition. -/
import Derived.Test.YthidinaflaogfaaWhSched
import Derived.Test.YthidinaflaogfaaWhApp
namespace Go.Proofs.Ythidinaflaogfaa
open Go.RowKit

/-- A wheel whose levels lie at p. -/
def WhP (w0 : World) (X : Nat → Prop) (w : World) (d now : Nat) (L : Nat → List It) (T : List It) (p : Nat → Nat) : Prop := ∃ o V mb, Wh w0 X w d now L T o p V mb

theorem WhP.wh {w0 : World} {X : Nat → Prop} {w : World} {d now : Nat} {L : Nat → List It} {T : List It} {p : Nat → Nat} (h : WhP w0 X w d now L T p) : WhO w0 X w d now L T := by obtain ⟨o, V, mb, h⟩ := h; exact ⟨o, p, V, mb, h⟩
theorem WhP.below {w0 : World} {X : Nat → Prop} {w w' : World} {d now : Nat} {L : Nat → List It} {T : List It} {p : Nat → Nat} (h : WhP w0 X w d now L T p) (hb : Below w.heap.size w w') : WhP w0 X w' d now L T p := by obtain ⟨o, V, mb, h⟩ := h; exact ⟨o, V, mb, h.below hb⟩
theorem WhP.base {w0 : World} {X : Nat → Prop} {w : World} {d now : Nat} {L : Nat → List It} {T : List It} {p : Nat → Nat} (h : WhP w0 X w d now L T p) : Below w0.heap.size w0 w := h.wh.base
theorem WhP.xb {w0 : World} {X : Nat → Prop} {w : World} {d now : Nat} {L : Nat → List It} {T : List It} {p : Nat → Nat} (h : WhP w0 X w d now L T p) : ∀ b, X b → b < w.heap.size := h.wh.xb
theorem WhP.congr {w0 : World} {X : Nat → Prop} {w : World} {d now : Nat} {L L' : Nat → List It} {T : List It} {p : Nat → Nat} (h : WhP w0 X w d now L T p) (e : ∀ n, L n = L' n) : WhP w0 X w d now L' T p := by
  have : L = L' := funext e
  subst this
  exact h

theorem WhP.swap {w0 : World} {X Y : Nat → Prop} {w w' : World} {d now : Nat} {L : Nat → List It} {T : List It} {p : Nat → Nat} (h : WhP w0 X w d now L T p) (hb : Below w.heap.size w w') (hY : ∀ b, Y b → (X b ∨ w.heap.size ≤ b) ∧ b < w'.heap.size) : WhP w0 Y w' d now L T p := by
  obtain ⟨o, V, mb, h⟩ := h
  have h2 := h.below hb
  refine ⟨o, V, mb, ⟨h2.head, h2.map, h2.lv, h2.fpo, h2.od, h2.om, fun b e => ⟨(h2.ob b e).1, fun hy => ?_, (h2.ob b e).2.2⟩, fun b hy => (hY b hy).2, h2.base⟩⟩
  rcases (hY b hy).1 with h5 | h5
  · exact (h.ob b e).2.1 h5
  · have := (h.ob b e).2.2; omega

theorem WhP.grown {w0 : World} {X Y : Nat → Prop} {w w' : World} {d now : Nat} {L : Nat → List It} {T : List It} {p : Nat → Nat} (h : WhP w0 X w d now L T p) {v : Value} (hg : w.grownBy w' v.ownBlock) (hv : ∀ b, v.ownBlock = some b → X b ∧ w0.heap.size ≤ b) (hY : ∀ b, Y b → (X b ∨ w.heap.size ≤ b) ∧ b < w'.heap.size) : WhP w0 Y w' d now L T p := by
  obtain ⟨o, V, mb, h⟩ := h
  have hk : ∀ b, o b ≤ 12 → w'.heap[b]? = w.heap[b]? := fun b e => hg.block b (h.ob b e).2.2 (fun e' => (h.ob b e).2.1 (hv b e'.symm).1)
  refine ⟨o, V, mb, ⟨(hk d (by rw [h.od]; omega)).trans h.head, h.map.kept (hk mb (by rw [h.om]; omega)), fun i hi => (h.lv i hi).same (fun b hb => hk b (by rw [h.fpo i hi b hb]; omega)), h.fpo, h.od, h.om, fun b e => ⟨(h.ob b e).1, fun hy => ?_, Nat.lt_of_lt_of_le (h.ob b e).2.2 hg.size⟩, fun b hy => (hY b hy).2, h.base.grown hg h.base.size (fun b e => (hv b e).2)⟩⟩
  rcases (hY b hy).1 with h5 | h5
  · exact (h.ob b e).2.1 h5
  · have := (h.ob b e).2.2; omega

/-- A wheel with the levels L', beside a row v of items R that the call has made since w. -/
structure RowW (w0 : World) (X : Nat → Prop) (w : World) (d now : Nat) (T : List It) (p : Nat → Nat) (v : Value) (R : List It) (L' : Nat → List It) (wr : World) : Prop where
  wh : WhP w0 (fun b => X b ∨ v.ownBlock = some b) wr d now L' T p
  row : OwnL wr w.heap.size v R
  keep : ∀ b, X b → wr.heap[b]? = w.heap[b]?
  below : Below w0.heap.size w wr
  old : ∀ b, X b → b < w.heap.size

section
variable {w0 : World} {X : Nat → Prop} {w : World} {d now : Nat} {T : List It} {p : Nat → Nat} {v : Value} {R : List It} {L' : Nat → List It} {wr : World}

theorem RowW.turned (h : RowW w0 X w d now T p v R L' wr) {w' : World} (hb : Below wr.heap.size wr w') : RowW w0 X w d now T p v R L' w' :=
  ⟨h.wh.below hb, h.row.below hb, fun b hx => (hb.block b (h.wh.xb b (.inl hx))).trans (h.keep b hx), h.below.trans (hb.mono h.wh.base.size), h.old⟩

theorem RowW.congr (h : RowW w0 X w d now T p v R L' wr) {L2 : Nat → List It} (e : ∀ n, L' n = L2 n) : RowW w0 X w d now T p v R L2 wr := ⟨h.wh.congr e, h.row, h.keep, h.below, h.old⟩

/-- The row has grown. -/
theorem RowW.app (h : RowW w0 X w d now T p v R L' wr) (hw : w0.heap.size ≤ w.heap.size) {v' : Value} {R' : List It} {w' : World} (hr : OwnL w' w.heap.size v' R') (hg : wr.grownBy w' v.ownBlock) (ho : v'.ownBlock = v.ownBlock ∨ v'.ownBlock = some wr.heap.size) : RowW w0 X w d now T p v' R' L' w' := by
  have hlt := World.ownsRow.lt h.row
  have hlt' := World.ownsRow.lt hr
  refine ⟨h.wh.grown hg (fun b e => ⟨.inr e, Nat.le_trans hw (hlt b e).1⟩) (fun b hb => ?_), hr, fun b hx => ?_, ?_, h.old⟩
  · rcases hb with hb | hb
    · exact ⟨.inl (.inl hb), Nat.lt_of_lt_of_le (h.wh.xb b (.inl hb)) hg.size⟩
    · refine ⟨?_, (hlt' b hb).2⟩
      rcases ho with ho | ho
      · exact .inl (.inr (ho ▸ hb))
      · rw [ho] at hb; cases hb; exact .inr (Nat.le_refl _)
  · have h1 := h.old b hx
    refine (hg.block b (h.wh.xb b (.inl hx)) (fun e => ?_)).trans (h.keep b hx)
    have := (hlt b e.symm).1
    omega
  · exact h.below.trans ⟨hg.os, hg.tape, hg.output, hg.size, fun b hb => hg.block b (Nat.lt_of_lt_of_le hb h.wh.base.size) (fun e => by have := (hlt b e.symm).1; omega)⟩

/-- A level has turned. -/
theorem RowW.step {o : Nat → Nat} {V : Nat → List Value} {mb : Nat} (h : RowW w0 X w d now T p v R L' wr) (hW : Wh w0 (fun b => X b ∨ v.ownBlock = some b) wr d now L' T o p V mb) {i : Nat} (hi : i < 11) {l : List It} {w' : World}
    (hE : LvOEnd w0 (fun b => (X b ∨ v.ownBlock = some b) ∨ (o b ≤ 12 ∧ o b ≠ i)) wr (p i) (i % 4) (slF (i % 4) l) w') : RowW w0 X w d now T p v R (updL L' i l) w' := by
  obtain ⟨⟨o', V', h1⟩, h2, h3⟩ := hW.step hi hE
  exact ⟨⟨o', V', mb, h1⟩, OwnL.kept h.row (fun b e => h2 b (.inr e)), fun b hx => (h2 b (.inl hx)).trans (h.keep b hx), h.below.trans h3, h.old⟩

theorem fromS_twice (k : Nat) (l : List It) {s t : Nat} (h : s ≤ t) : fromS k (fromS k l s) t = fromS k l t := by
  unfold fromS
  rw [List.filter_filter]
  refine List.filter_congr fun a _ => ?_
  rw [Bool.eq_iff_iff]
  simp
  omega

theorem updL_id (L : Nat → List It) (n : Nat) : ∀ m, updL L n (L n) m = L m := fun m => by
  unfold updL
  split
  · rename_i e; rw [e]
  · rfl
theorem updL_twice (L : Nat → List It) (n : Nat) (l l' : List It) : ∀ m, updL (updL L n l) n l' m = updL L n l' m := fun m => by
  unfold updL
  split <;> rfl

/-- The levels amid take: those below n are empty, of level n the slots from s on are left. -/
def midW (L : Nat → List It) (n s : Nat) (m : Nat) : List It := if m < n then [] else if m = n then fromS (n % 4) (L n) s else L m

theorem midW_zero (L : Nat → List It) (m : Nat) : midW L 0 0 m = L m := by
  unfold midW
  rw [if_neg (by omega)]
  split
  · rename_i e; subst e; exact fromS_zero _ _
  · rfl
theorem midW_next (L : Nat → List It) (n : Nat) (m : Nat) : midW L n 64 m = midW L (n + 1) 0 m := by
  unfold midW
  by_cases h : m < n
  · rw [if_pos h, if_pos (by omega)]
  · rw [if_neg h]
    by_cases e : m = n
    · rw [if_pos e, if_pos (by omega)]
      refine List.filter_eq_nil_iff.2 fun a _ => ?_
      have := slotN_lt (n % 4) a.2
      simp
      omega
    · rw [if_neg e, if_neg (by omega)]
      split
      · rename_i e'; rw [e']; exact (fromS_zero _ _).symm
      · rfl
theorem midW_at (L : Nat → List It) (n s : Nat) : midW L n s n = fromS (n % 4) (L n) s := by
  unfold midW
  rw [if_neg (by omega), if_pos rfl]
theorem midW_upd (L : Nat → List It) (n s t : Nat) : ∀ m, updL (midW L n s) n (fromS (n % 4) (L n) t) m = midW L n t m := fun m => by
  unfold updL midW
  split
  · rename_i e; rw [if_neg (by omega)]
  · rename_i e
    split
    · rfl
    · rfl
theorem midW_left (L : Nat → List It) (K now' : Nat) (m : Nat) : midW L K (dgt K now' + 1) m = leftW now' K L m := rfl

theorem TakenW.congr {L L1 L2 : Nat → List It} {R : List It} (h : TakenW L L1 R) (e : ∀ n, L1 n = L2 n) : TakenW L L2 R := by
  have : L1 = L2 := funext e
  subst this
  exact h

/-- What take holds at level n, of which the slots ahead of s have been taken. -/
structure TkJ (w0 : World) (X : Nat → Prop) (w : World) (d now : Nat) (T : List It) (p : Nat → Nat) (L : Nat → List It) (n s : Nat) (v : Value) (wr : World) : Prop where
  ex : ∃ R, RowW w0 X w d now T p v R (midW L n s) wr ∧ TakenW L (midW L n s) R

theorem TkJ.turned {L : Nat → List It} {n s : Nat} (h : TkJ w0 X w d now T p L n s v wr) {w' : World} (hb : Below wr.heap.size wr w') : TkJ w0 X w d now T p L n s v w' := by
  obtain ⟨R, h1, h2⟩ := h
  exact ⟨R, h1.turned hb, h2⟩

theorem TkJ.next {L : Nat → List It} {n : Nat} (h : TkJ w0 X w d now T p L n 64 v wr) : TkJ w0 X w d now T p L (n + 1) 0 v wr := by
  obtain ⟨R, h1, h2⟩ := h
  exact ⟨R, h1.congr (midW_next L n), h2.congr (midW_next L n)⟩

theorem TkJ.skip {L : Nat → List It} {n s t : Nat} (h : TkJ w0 X w d now T p L n s v wr) (e : fromS (n % 4) (L n) s = fromS (n % 4) (L n) t) : TkJ w0 X w d now T p L n t v wr := by
  have e2 : ∀ m, midW L n s m = midW L n t m := fun m => by unfold midW; rw [e]
  obtain ⟨R, h1, h2⟩ := h
  exact ⟨R, h1.congr e2, h2.congr e2⟩

/-- What First says of a level amid take. -/
theorem TkJ.first {L : Nat → List It} {n s : Nat} (h : TkJ w0 X w d now T p L n s v wr) (hn : n < 11) (m : Nat) :
    Calls Try.prog 36 #[.pointer (some ⟨p n, 0, none⟩), .int .i64 (m : Int)] wr fun r w' => ∃ x, r = .returned (.int .i64 x) ∧ IsFirst (slF (n % 4) (fromS (n % 4) (L n) s)) m x ∧ w' = wr := by
  obtain ⟨R, h1, h2⟩ := h
  obtain ⟨o, V, mb, hW⟩ := h1.wh
  have hl := hW.lv n hn
  rw [midW_at] at hl
  exact first_any hl (m : Int) m (by omega)

/-- A slot is taken: the row is still the old one. -/
def TkH (w0 : World) (X : Nat → Prop) (w : World) (d now : Nat) (T : List It) (p : Nat → Nat) (L : Nat → List It) (n t : Nat) (v : Value) (M : List It) (wr : World) : Prop := ∃ R, RowW w0 X w d now T p v R (midW L n (t + 1)) wr ∧ TakenW L (midW L n (t + 1)) (R ++ M)

theorem TkJ.take {L : Nat → List It} {n s : Nat} (h : TkJ w0 X w d now T p L n s v wr) (hn : n < 11) {P : It → Prop} (hg : GoodP now T P L) (hT : ∀ a ∈ T, ∀ b ∈ T, a.1 = b.1 → a = b) {t : Nat} (hst : s ≤ t) (ht : t < 64) (hne : slF (n % 4) (fromS (n % 4) (L n) s) t ≠ []) (hem : ∀ u, u < t → u < 64 → slF (n % 4) (fromS (n % 4) (L n) s) u = []) :
    Calls Try.prog 43 #[.pointer (some ⟨p n, 0, none⟩), .int .i64 (t : Int)] wr fun r w' => ∃ b o m c M, r = .returned (.slice (some ⟨b, o, none⟩) m c) ∧ Items w' (some ⟨b, o, none⟩) m c M ∧ TkH w0 X w d now T p L n t v M w' := by
  have h := h.skip (fromS_skip hst hem)
  rw [fromS_skip hst hem] at hne
  obtain ⟨R, h1, h2⟩ := h
  obtain ⟨o, V, mb, hW⟩ := h1.wh
  have hO := hW.lvO hn
  rw [midW_at] at hO
  refine (own_take hO t ht).mono ?_
  rintro r w' ⟨q, m, c, rfl, hI, hE⟩
  rw [take_slot] at hE
  have hm : 0 < m := by
    rw [← hI.len]
    exact List.length_pos_iff.2 hne
  obtain ⟨b, oo, rfl, _⟩ := hI.cell hm
  refine ⟨b, oo, m, c, _, rfl, hI, R, (h1.step hW hn hE).congr (midW_upd L n t (t + 1)), ?_⟩
  have h5 := h2.slot (n := n) (t := t) hg hT (k := n % 4) (by rw [midW_at]; exact fromS_srt (hg.srt n) _) (fun y hy => by rw [midW_at] at hy; exact (mem_fromS.1 hy).2)
  rw [midW_at, fromS_twice _ _ (by omega)] at h5
  exact h5.congr (midW_upd L n t (t + 1))

theorem TkH.row {L : Nat → List It} {n t : Nat} {M : List It} (h : TkH w0 X w d now T p L n t v M wr) : ∃ R, OwnL wr w.heap.size v R ∧ w.heap.size ≤ wr.heap.size ∧
    (∀ P, GoodP now T P L → R.length + M.length ≤ T.length) ∧ ∀ v' w', w0.heap.size ≤ w.heap.size → OwnL w' w.heap.size v' (R ++ M) → wr.grownBy w' v.ownBlock → (v'.ownBlock = v.ownBlock ∨ v'.ownBlock = some wr.heap.size) → TkJ w0 X w d now T p L n (t + 1) v' w' := by
  obtain ⟨R, h1, h2⟩ := h
  exact ⟨R, h1.row, h1.below.size, fun P hg => by have := h2.len hg; rwa [List.length_append] at this, fun v' w' hw hr hg ho => ⟨R ++ M, h1.app hw hr hg ho, h2⟩⟩
end
end Go.Proofs.Ythidinaflaogfaa
