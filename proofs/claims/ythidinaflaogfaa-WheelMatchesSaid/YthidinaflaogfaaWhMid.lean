/- What take, fire and least hold amid their loops. No condition. -/
import Derived.Test.YthidinaflaogfaaWhCode
import Derived.Test.YthidinaflaogfaaWhApp
namespace Go.Proofs.Ythidinaflaogfaa
open Go.RowKit

/-- A wheel whose levels lie at p. -/
def WhP (w0 : World) (X : Nat → Prop) (w : World) (d now : Nat) (L : Nat → List It) (T : List It) (p : Nat → Nat) : Prop := ∃ o V mb, Wh w0 X w d now L T o p V mb

theorem WhP.wh {w0 : World} {X : Nat → Prop} {w : World} {d now : Nat} {L : Nat → List It} {T : List It} {p : Nat → Nat} (h : WhP w0 X w d now L T p) : WhO w0 X w d now L T := by obtain ⟨o, V, mb, h⟩ := h; exact ⟨o, p, V, mb, h⟩
theorem WhP.below {w0 : World} {X : Nat → Prop} {w w' : World} {d now : Nat} {L : Nat → List It} {T : List It} {p : Nat → Nat} (h : WhP w0 X w d now L T p) (hb : Below w.heap.size w w') : WhP w0 X w' d now L T p := by obtain ⟨o, V, mb, h⟩ := h; exact ⟨o, V, mb, h.below hb⟩
theorem WhP.base {w0 : World} {X : Nat → Prop} {w : World} {d now : Nat} {L : Nat → List It} {T : List It} {p : Nat → Nat} (h : WhP w0 X w d now L T p) : Below w0.heap.size w0 w := h.wh.base
theorem WhP.xb {w0 : World} {X : Nat → Prop} {w : World} {d now : Nat} {L : Nat → List It} {T : List It} {p : Nat → Nat} (h : WhP w0 X w d now L T p) : ∀ b, X b → b < w.heap.size := h.wh.xb
theorem WhP.congr {w0 : World} {X : Nat → Prop} {w : World} {d now : Nat} {L L' : Nat → List It} {T : List It} {p : Nat → Nat} (h : WhP w0 X w d now L T p) (e : ∀ n, L n = L' n) : WhP w0 X w d now L' T p := by
  have : L = L' := funext e
  subst this
  exact h

theorem WhP.swap {w0 : World} {X Y : Nat → Prop} {w w' : World} {d now : Nat} {L : Nat → List It} {T : List It} {p : Nat → Nat} (h : WhP w0 X w d now L T p) (hb : Below w.heap.size w w') (hY : ∀ b, Y b → (X b ∨ w.heap.size ≤ b) ∧ b < w'.heap.size) : WhP w0 Y w' d now L T p := by
  obtain ⟨o, V, mb, h⟩ := h
  have h2 := h.below hb
  refine ⟨o, V, mb, ⟨h2.head, h2.map, h2.lv, h2.fpo, h2.od, h2.om, fun b e => ⟨(h2.ob b e).1, fun hy => ?_, (h2.ob b e).2.2⟩, fun b hy => (hY b hy).2, h2.base⟩⟩
  rcases (hY b hy).1 with h5 | h5
  · exact (h.ob b e).2.1 h5
  · have := (h.ob b e).2.2; omega

theorem WhP.grown {w0 : World} {X Y : Nat → Prop} {w w' : World} {d now : Nat} {L : Nat → List It} {T : List It} {p : Nat → Nat} (h : WhP w0 X w d now L T p) {v : Value} (hg : w.grownBy w' v.ownBlock) (hv : ∀ b, v.ownBlock = some b → X b ∧ w0.heap.size ≤ b) (hY : ∀ b, Y b → (X b ∨ w.heap.size ≤ b) ∧ b < w'.heap.size) : WhP w0 Y w' d now L T p := by
  obtain ⟨o, V, mb, h⟩ := h
  have hk : ∀ b, o b ≤ 12 → w'.heap[b]? = w.heap[b]? := fun b e => hg.block b (h.ob b e).2.2 (fun e' => (h.ob b e).2.1 (hv b e'.symm).1)
  refine ⟨o, V, mb, ⟨(hk d (by rw [h.od]; omega)).trans h.head, h.map.kept (hk mb (by rw [h.om]; omega)), fun i hi => (h.lv i hi).same (fun b hb => hk b (by rw [h.fpo i hi b hb]; omega)), h.fpo, h.od, h.om, fun b e => ⟨(h.ob b e).1, fun hy => ?_, Nat.lt_of_lt_of_le (h.ob b e).2.2 hg.size⟩, fun b hy => (hY b hy).2, h.base.grown hg h.base.size (fun b e => (hv b e).2)⟩⟩
  rcases (hY b hy).1 with h5 | h5
  · exact (h.ob b e).2.1 h5
  · have := (h.ob b e).2.2; omega

/-- A wheel with the levels L', beside a row v of items R that the call has made since w. -/
structure RowW (w0 : World) (X : Nat → Prop) (w : World) (d now : Nat) (T : List It) (p : Nat → Nat) (v : Value) (R : List It) (L' : Nat → List It) (wr : World) : Prop where
  wh : WhP w0 (fun b => X b ∨ v.ownBlock = some b) wr d now L' T p
  row : OwnL wr w.heap.size v R
  keep : ∀ b, X b → wr.heap[b]? = w.heap[b]?
  below : Below w0.heap.size w wr
  old : ∀ b, X b → b < w.heap.size

section
variable {w0 : World} {X : Nat → Prop} {w : World} {d now : Nat} {T : List It} {p : Nat → Nat} {v : Value} {R : List It} {L' : Nat → List It} {wr : World}

theorem RowW.turned (h : RowW w0 X w d now T p v R L' wr) {w' : World} (hb : Below wr.heap.size wr w') : RowW w0 X w d now T p v R L' w' :=
  ⟨h.wh.below hb, h.row.below hb, fun b hx => (hb.block b (h.wh.xb b (.inl hx))).trans (h.keep b hx), h.below.trans (hb.mono h.wh.base.size), h.old⟩

theorem RowW.congr (h : RowW w0 X w d now T p v R L' wr) {L2 : Nat → List It} (e : ∀ n, L' n = L2 n) : RowW w0 X w d now T p v R L2 wr := ⟨h.wh.congr e, h.row, h.keep, h.below, h.old⟩

/-- The row has grown. -/
theorem RowW.app (h : RowW w0 X w d now T p v R L' wr) (hw : w0.heap.size ≤ w.heap.size) {v' : Value} {R' : List It} {w' : World} (hr : OwnL w' w.heap.size v' R') (hg : wr.grownBy w' v.ownBlock) (ho : v'.ownBlock = v.ownBlock ∨ v'.ownBlock = some wr.heap.size) : RowW w0 X w d now T p v' R' L' w' := by
  have hlt := World.ownsRow.lt h.row
  have hlt' := World.ownsRow.lt hr
  refine ⟨h.wh.grown hg (fun b e => ⟨.inr e, Nat.le_trans hw (hlt b e).1⟩) (fun b hb => ?_), hr, fun b hx => ?_, ?_, h.old⟩
  · rcases hb with hb | hb
    · exact ⟨.inl (.inl hb), Nat.lt_of_lt_of_le (h.wh.xb b (.inl hb)) hg.size⟩
    · refine ⟨?_, (hlt' b hb).2⟩
      rcases ho with ho | ho
      · exact .inl (.inr (ho ▸ hb))
      · rw [ho] at hb; cases hb; exact .inr (Nat.le_refl _)
  · have h1 := h.old b hx
    refine (hg.block b (h.wh.xb b (.inl hx)) (fun e => ?_)).trans (h.keep b hx)
    have := (hlt b e.symm).1
    omega
  · exact h.below.trans ⟨hg.os, hg.tape, hg.output, hg.size, fun b hb => hg.block b (Nat.lt_of_lt_of_le hb h.wh.base.size) (fun e => by have := (hlt b e.symm).1; omega)⟩

/-- A level has turned. -/
theorem RowW.step {o : Nat → Nat} {V : Nat → List Value} {mb : Nat} (h : RowW w0 X w d now T p v R L' wr) (hW : Wh w0 (fun b => X b ∨ v.ownBlock = some b) wr d now L' T o p V mb) {i : Nat} (hi : i < 11) {l : List It} {w' : World}
    (hE : LvOEnd w0 (fun b => (X b ∨ v.ownBlock = some b) ∨ (o b ≤ 12 ∧ o b ≠ i)) wr (p i) (i % 4) (slF (i % 4) l) w') : RowW w0 X w d now T p v R (updL L' i l) w' := by
  obtain ⟨⟨o', V', h1⟩, h2, h3⟩ := hW.step hi hE
  exact ⟨⟨o', V', mb, h1⟩, OwnL.kept h.row (fun b e => h2 b (.inr e)), fun b hx => (h2 b (.inl hx)).trans (h.keep b hx), h.below.trans h3, h.old⟩

theorem fromS_twice (k : Nat) (l : List It) {s t : Nat} (h : s ≤ t) : fromS k (fromS k l s) t = fromS k l t := by
  unfold fromS
  rw [List.filter_filter]
  refine List.filter_congr fun a _ => ?_
  rw [Bool.eq_iff_iff]
  simp
  omega

theorem updL_id (L : Nat → List It) (n : Nat) : ∀ m, updL L n (L n) m = L m := fun m => by
  unfold updL
  split
  · rename_i e; rw [e]
  · rfl
theorem updL_twice (L : Nat → List It) (n : Nat) (l l' : List It) : ∀ m, updL (updL L n l) n l' m = updL L n l' m := fun m => by
  unfold updL
  split <;> rfl

/-- The levels amid take: those below n are empty, of level n the slots from s on are left. -/
def midW (L : Nat → List It) (n s : Nat) (m : Nat) : List It := if m < n then [] else if m = n then fromS (n % 4) (L n) s else L m

theorem midW_zero (L : Nat → List It) (m : Nat) : midW L 0 0 m = L m := by
  unfold midW
  rw [if_neg (by omega)]
  split
  · rename_i e; subst e; exact fromS_zero _ _
  · rfl
theorem midW_next (L : Nat → List It) (n : Nat) (m : Nat) : midW L n 64 m = midW L (n + 1) 0 m := by
  unfold midW
  by_cases h : m < n
  · rw [if_pos h, if_pos (by omega)]
  · rw [if_neg h]
    by_cases e : m = n
    · rw [if_pos e, if_pos (by omega)]
      refine List.filter_eq_nil_iff.2 fun a _ => ?_
      have := slotN_lt (n % 4) a.2
      simp
      omega
    · rw [if_neg e, if_neg (by omega)]
      split
      · rename_i e'; rw [e']; exact (fromS_zero _ _).symm
      · rfl
theorem midW_at (L : Nat → List It) (n s : Nat) : midW L n s n = fromS (n % 4) (L n) s := by
  unfold midW
  rw [if_neg (by omega), if_pos rfl]
theorem midW_upd (L : Nat → List It) (n s t : Nat) : ∀ m, updL (midW L n s) n (fromS (n % 4) (L n) t) m = midW L n t m := fun m => by
  unfold updL midW
  split
  · rename_i e; rw [if_neg (by omega)]
  · rename_i e
    split
    · rfl
    · rfl
theorem midW_left (L : Nat → List It) (K now' : Nat) (m : Nat) : midW L K (dgt K now' + 1) m = leftW now' K L m := rfl

theorem TakenW.congr {L L1 L2 : Nat → List It} {R : List It} (h : TakenW L L1 R) (e : ∀ n, L1 n = L2 n) : TakenW L L2 R := by
  have : L1 = L2 := funext e
  subst this
  exact h

/-- What take holds at level n, of which the slots ahead of s have been taken. -/
structure TkJ (w0 : World) (X : Nat → Prop) (w : World) (d now : Nat) (T : List It) (p : Nat → Nat) (L : Nat → List It) (n s : Nat) (v : Value) (wr : World) : Prop where
  ex : ∃ R, RowW w0 X w d now T p v R (midW L n s) wr ∧ TakenW L (midW L n s) R

theorem TkJ.turned {L : Nat → List It} {n s : Nat} (h : TkJ w0 X w d now T p L n s v wr) {w' : World} (hb : Below wr.heap.size wr w') : TkJ w0 X w d now T p L n s v w' := by
  obtain ⟨R, h1, h2⟩ := h
  exact ⟨R, h1.turned hb, h2⟩

theorem TkJ.next {L : Nat → List It} {n : Nat} (h : TkJ w0 X w d now T p L n 64 v wr) : TkJ w0 X w d now T p L (n + 1) 0 v wr := by
  obtain ⟨R, h1, h2⟩ := h
  exact ⟨R, h1.congr (midW_next L n), h2.congr (midW_next L n)⟩

theorem TkJ.skip {L : Nat → List It} {n s t : Nat} (h : TkJ w0 X w d now T p L n s v wr) (e : fromS (n % 4) (L n) s = fromS (n % 4) (L n) t) : TkJ w0 X w d now T p L n t v wr := by
  have e2 : ∀ m, midW L n s m = midW L n t m := fun m => by unfold midW; rw [e]
  obtain ⟨R, h1, h2⟩ := h
  exact ⟨R, h1.congr e2, h2.congr e2⟩

/-- What First says of a level amid take. -/
theorem TkJ.first {L : Nat → List It} {n s : Nat} (h : TkJ w0 X w d now T p L n s v wr) (hn : n < 11) (m : Nat) :
    Calls Try.prog 36 #[.pointer (some ⟨p n, 0, none⟩), .int .i64 (m : Int)] wr fun r w' => ∃ x, r = .returned (.int .i64 x) ∧ IsFirst (slF (n % 4) (fromS (n % 4) (L n) s)) m x ∧ w' = wr := by
  obtain ⟨R, h1, h2⟩ := h
  obtain ⟨o, V, mb, hW⟩ := h1.wh
  have hl := hW.lv n hn
  rw [midW_at] at hl
  exact first_any hl (m : Int) m (by omega)

/-- A slot is taken: the row is still the old one. -/
def TkH (w0 : World) (X : Nat → Prop) (w : World) (d now : Nat) (T : List It) (p : Nat → Nat) (L : Nat → List It) (n t : Nat) (v : Value) (M : List It) (wr : World) : Prop := ∃ R, RowW w0 X w d now T p v R (midW L n (t + 1)) wr ∧ TakenW L (midW L n (t + 1)) (R ++ M)

theorem TkJ.take {L : Nat → List It} {n s : Nat} (h : TkJ w0 X w d now T p L n s v wr) (hn : n < 11) {P : It → Prop} (hg : GoodP now T P L) (hT : ∀ a ∈ T, ∀ b ∈ T, a.1 = b.1 → a = b) {t : Nat} (hst : s ≤ t) (ht : t < 64) (hne : slF (n % 4) (fromS (n % 4) (L n) s) t ≠ []) (hem : ∀ u, u < t → u < 64 → slF (n % 4) (fromS (n % 4) (L n) s) u = []) :
    Calls Try.prog 43 #[.pointer (some ⟨p n, 0, none⟩), .int .i64 (t : Int)] wr fun r w' => ∃ b o m c M, r = .returned (.slice (some ⟨b, o, none⟩) m c) ∧ Items w' (some ⟨b, o, none⟩) m c M ∧ TkH w0 X w d now T p L n t v M w' := by
  have h := h.skip (fromS_skip hst hem)
  rw [fromS_skip hst hem] at hne
  obtain ⟨R, h1, h2⟩ := h
  obtain ⟨o, V, mb, hW⟩ := h1.wh
  have hO := hW.lvO hn
  rw [midW_at] at hO
  refine (own_take hO t ht).mono ?_
  rintro r w' ⟨q, m, c, rfl, hI, hE⟩
  rw [take_slot] at hE
  have hm : 0 < m := by
    rw [← hI.len]
    exact List.length_pos_iff.2 hne
  obtain ⟨b, oo, rfl, _⟩ := hI.cell hm
  refine ⟨b, oo, m, c, _, rfl, hI, R, (h1.step hW hn hE).congr (midW_upd L n t (t + 1)), ?_⟩
  have h5 := h2.slot (n := n) (t := t) hg hT (k := n % 4) (by rw [midW_at]; exact fromS_srt (hg.srt n) _) (fun y hy => by rw [midW_at] at hy; exact (mem_fromS.1 hy).2)
  rw [midW_at, fromS_twice _ _ (by omega)] at h5
  exact h5.congr (midW_upd L n t (t + 1))

theorem TkH.row {L : Nat → List It} {n t : Nat} {M : List It} (h : TkH w0 X w d now T p L n t v M wr) : ∃ R, OwnL wr w.heap.size v R ∧ w.heap.size ≤ wr.heap.size ∧
    (∀ P, GoodP now T P L → R.length + M.length ≤ T.length) ∧ ∀ v' w', w0.heap.size ≤ w.heap.size → OwnL w' w.heap.size v' (R ++ M) → wr.grownBy w' v.ownBlock → (v'.ownBlock = v.ownBlock ∨ v'.ownBlock = some wr.heap.size) → TkJ w0 X w d now T p L n (t + 1) v' w' := by
  obtain ⟨R, h1, h2⟩ := h
  exact ⟨R, h1.row, h1.below.size, fun P hg => by have := h2.len hg; rwa [List.length_append] at this, fun v' w' hw hr hg ho => ⟨R ++ M, h1.app hw hr hg ho, h2⟩⟩
end
end Go.Proofs.Ythidinaflaogfaa
namespace Go.Proofs.Ythidinaflaogfaa
open Go.RowKit

theorem srt_ext : ∀ {l m : List It}, srtI l → srtI m → (∀ x, x ∈ l ↔ x ∈ m) → l = m
  | [], [], _, _, _ => rfl
  | [], b :: m, _, _, h => by have := (h b).2 List.mem_cons_self; cases this
  | a :: l, [], _, _, h => by have := (h a).1 List.mem_cons_self; cases this
  | a :: l, b :: m, h1, h2, h => by
    obtain ⟨p1, p2⟩ := List.pairwise_cons.1 h1
    obtain ⟨q1, q2⟩ := List.pairwise_cons.1 h2
    have e : a = b := by
      rcases List.mem_cons.1 ((h a).1 List.mem_cons_self) with e | e
      · exact e
      · rcases List.mem_cons.1 ((h b).2 List.mem_cons_self) with e2 | e2
        · exact e2.symm
        · have h3 := q1 a e
          have h4 := p1 b e2
          rw [ltI_iff] at h3 h4
          omega
    subst e
    have hn1 : a ∉ l := fun hm => by have := p1 a hm; rw [ltI_irr] at this; cases this
    have hn2 : a ∉ m := fun hm => by have := q1 a hm; rw [ltI_irr] at this; cases this
    rw [srt_ext p2 q2 (fun x => ?_)]
    have h3 := h x
    rw [List.mem_cons, List.mem_cons] at h3
    constructor
    · intro hx
      rcases h3.1 (.inr hx) with rfl | h4
      · exact absurd hx hn1
      · exact h4
    · intro hx
      rcases h3.2 (.inr hx) with rfl | h4
      · exact absurd hx hn2
      · exact h4

theorem srt_of_perm {l D : List It} (hp : l.Perm D) (hs : l.Pairwise (fun a b => ltI b a = false)) (hn : D.Nodup) : srtI l := by
  have hn' : l.Nodup := hp.nodup_iff.2 hn
  refine (hs.and hn').imp ?_
  rintro a b ⟨h1, h2⟩
  cases h3 : ltI a b with
  | true => rfl
  | false => exact absurd (ltI_total h1 (fun e => h2 e.symm)) (by rw [h3]; decide)

theorem mem_ids {R : List It} {x : Nat} : x ∈ R.map Prod.fst ↔ ∃ r ∈ R, r.1 = x := by
  rw [List.mem_map]

/-- What fire is called with. -/
structure FireIn (now : Nat) (T R : List It) : Prop where
  tim : TimW T
  nodup : (R.map Prod.fst).Nodup
  sub : ∀ r ∈ R, ∃ t ∈ T, t.1 = r.1
  due : ∀ t ∈ T, t.2 ≤ now → t.1 ∈ R.map Prod.fst

/-- The timers and the due ones behind j rounds. -/
structure FireAt (now : Nat) (T R : List It) (j : Nat) (T' D : List It) : Prop where
  sub : T'.Sublist T
  mem : ∀ x, x ∈ T' ↔ x ∈ T ∧ ¬ (x.2 ≤ now ∧ x.1 ∈ (R.take j).map Prod.fst)
  dmem : ∀ x, x ∈ D ↔ x ∈ T ∧ x.2 ≤ now ∧ x.1 ∈ (R.take j).map Prod.fst
  dnodup : D.Nodup
  dlen : D.length ≤ T.length

theorem FireAt.start (now : Nat) (T R : List It) : FireAt now T R 0 T [] :=
  ⟨List.Sublist.refl _, fun x => ⟨fun h => ⟨h, fun e => by simp at e⟩, fun h => h.1⟩, fun x => ⟨fun h => (by cases h), fun h => by simp at h⟩, List.Pairwise.nil, Nat.zero_le _⟩

theorem ids_take {R : List It} {j : Nat} {r : It} (hr : R[j]? = some r) (x : Nat) : x ∈ (R.take (j + 1)).map Prod.fst ↔ x ∈ (R.take j).map Prod.fst ∨ x = r.1 := by
  obtain ⟨hj, rfl⟩ := List.getElem?_eq_some_iff.1 hr
  rw [List.take_succ_eq_append_getElem hj, List.map_append, List.mem_append]
  simp
theorem ids_drop {R : List It} {j : Nat} {r : It} (hr : R[j]? = some r) (x : Nat) : x ∈ (R.drop j).map Prod.fst ↔ x = r.1 ∨ x ∈ (R.drop (j + 1)).map Prod.fst := by
  obtain ⟨hj, rfl⟩ := List.getElem?_eq_some_iff.1 hr
  rw [List.drop_eq_getElem_cons hj, List.map_cons, List.mem_cons]
theorem ids_apart {R : List It} (hn : (R.map Prod.fst).Nodup) {j : Nat} {r : It} (hr : R[j]? = some r) : r.1 ∉ (R.take j).map Prod.fst ∧ r.1 ∉ (R.drop (j + 1)).map Prod.fst := by
  obtain ⟨hj, rfl⟩ := List.getElem?_eq_some_iff.1 hr
  have e : R = R.take j ++ R[j] :: R.drop (j + 1) := by rw [← List.drop_eq_getElem_cons hj, List.take_append_drop]
  rw [e, List.map_append, List.map_cons, List.nodup_append, List.nodup_cons] at hn
  exact ⟨fun h => hn.2.2 _ h _ List.mem_cons_self rfl, hn.2.1.1⟩

/-- The timer of the round. -/
theorem FireAt.timer {now : Nat} {T R : List It} (hi : FireIn now T R) {j : Nat} {T' D : List It} (h : FireAt now T R j T' D) {r : It} (hr : R[j]? = some r) : ∃ t, t ∈ T' ∧ t ∈ T ∧ t.1 = r.1 := by
  obtain ⟨t, ht, e⟩ := hi.sub r (List.mem_of_getElem? hr)
  refine ⟨t, (h.mem t).2 ⟨ht, fun h1 => ?_⟩, ht, e⟩
  rw [e] at h1
  exact (ids_apart hi.nodup hr).1 h1.2

/-- It is not due yet. -/
theorem FireAt.later {now : Nat} {T R : List It} (hi : FireIn now T R) {j : Nat} {T' D : List It} (h : FireAt now T R j T' D) {r t : It} (hr : R[j]? = some r) (ht : t ∈ T) (e : t.1 = r.1) (hl : ¬ t.2 ≤ now) : FireAt now T R (j + 1) T' D := by
  refine ⟨h.sub, fun x => ?_, fun x => ?_, h.dnodup, h.dlen⟩
  · rw [h.mem, ids_take hr]
    constructor
    · rintro ⟨h1, h2⟩
      refine ⟨h1, fun h3 => ?_⟩
      rcases h3.2 with h4 | h4
      · exact h2 ⟨h3.1, h4⟩
      · obtain rfl := hi.tim.ids x h1 t ht (h4.trans e.symm)
        exact hl h3.1
    · rintro ⟨h1, h2⟩
      exact ⟨h1, fun h3 => h2 ⟨h3.1, .inl h3.2⟩⟩
  · rw [h.dmem, ids_take hr]
    constructor
    · rintro ⟨h1, h2, h3⟩
      exact ⟨h1, h2, .inl h3⟩
    · rintro ⟨h1, h2, h3 | h3⟩
      · exact ⟨h1, h2, h3⟩
      · obtain rfl := hi.tim.ids x h1 t ht (h3.trans e.symm)
        exact absurd h2 hl

/-- It fires. -/
theorem FireAt.fires {now : Nat} {T R : List It} (hi : FireIn now T R) {j : Nat} {T' D : List It} (h : FireAt now T R j T' D) {r t : It} (hr : R[j]? = some r) (ht : t ∈ T) (e : t.1 = r.1) (hl : t.2 ≤ now) : FireAt now T R (j + 1) (cancT T' t.1) (D ++ [t]) := by
  have hnd : t ∉ D := fun hd => by
    have := ((h.dmem t).1 hd).2.2
    rw [e] at this
    exact (ids_apart hi.nodup hr).1 this
  have hnd2 : (D ++ [t]).Nodup := by
    rw [List.nodup_append]
    refine ⟨h.dnodup, by simp, fun a ha b hb e9 => ?_⟩
    rw [List.mem_singleton] at hb
    rw [e9, hb] at ha
    exact hnd ha
  have hm2 : ∀ x, x ∈ D ++ [t] ↔ x ∈ T ∧ x.2 ≤ now ∧ x.1 ∈ (R.take (j + 1)).map Prod.fst := fun x => by
    rw [List.mem_append, List.mem_singleton, h.dmem, ids_take hr]
    constructor
    · rintro (⟨h1, h2, h3⟩ | rfl)
      · exact ⟨h1, h2, .inl h3⟩
      · exact ⟨ht, hl, .inr e⟩
    · rintro ⟨h1, h2, h3 | h3⟩
      · exact .inl ⟨h1, h2, h3⟩
      · exact .inr (hi.tim.ids x h1 t ht (h3.trans e.symm))
  refine ⟨List.filter_sublist.trans h.sub, fun x => ?_, hm2, hnd2, nodup_len hnd2 (fun x hx => ((hm2 x).1 hx).1)⟩
  rw [mem_cancT, h.mem, ids_take hr, e]
  constructor
  · rintro ⟨⟨h1, h2⟩, h3⟩
    refine ⟨h1, fun h4 => ?_⟩
    rcases h4.2 with h5 | h5
    · exact h2 ⟨h4.1, h5⟩
    · exact h3 h5
  · rintro ⟨h1, h2⟩
    refine ⟨⟨h1, fun h3 => h2 ⟨h3.1, .inl h3.2⟩⟩, fun h3 => ?_⟩
    have := hi.tim.ids x h1 t ht (h3.trans e.symm)
    subst this
    exact h2 ⟨hl, .inr h3⟩

/-- What is left, and what has fired, in the end. -/
theorem FireAt.done {now : Nat} {T R : List It} (hi : FireIn now T R) {T' D : List It} (h : FireAt now T R R.length T' D) : T' = T.filter (fun t => decide (now < t.2)) ∧ ∀ x, x ∈ D ↔ x ∈ T.filter (fun t => decide (t.2 ≤ now)) := by
  have ht : R.take R.length = R := List.take_length
  constructor
  · refine srt_ext (hi.tim.srt.sublist h.sub) (List.Pairwise.filter _ hi.tim.srt) fun x => ?_
    rw [h.mem, List.mem_filter, decide_eq_true_eq, ht]
    constructor
    · rintro ⟨h1, h2⟩
      refine ⟨h1, ?_⟩
      rcases Nat.lt_or_ge now x.2 with h3 | h3
      · exact h3
      · exact absurd ⟨h3, hi.due x h1 h3⟩ h2
    · rintro ⟨h1, h2⟩
      exact ⟨h1, fun h3 => by omega⟩
  · intro x
    rw [h.dmem, List.mem_filter, decide_eq_true_eq, ht]
    constructor
    · rintro ⟨h1, h2, _⟩
      exact ⟨h1, h2⟩
    · rintro ⟨h1, h2⟩
      exact ⟨h1, h2, hi.due x h1 h2⟩

/-- The levels behind a round: the timer has been put. -/
theorem good_later {now : Nat} {T R : List It} (hi : FireIn now T R) {j : Nat} {T' D : List It} (h : FireAt now T R j T' D) {r t : It} (hr : R[j]? = some r) (ht : t ∈ T') (e : t.1 = r.1) {L : Nat → List It} (hg : GoodP now T' (fun u => u.1 ∉ (R.drop j).map Prod.fst) L) {n : Nat} (hn : IsPl now (max t.2 now) n) :
    GoodP now T' (fun u => u.1 ∉ (R.drop (j + 1)).map Prod.fst) (updL L n (if itW now n t ∈ L n then L n else insI (itW now n t) (L n))) := by
  refine (hg.put ht hn).congr (fun u => ?_)
  rw [ids_drop hr]
  constructor
  · rintro ⟨hu, h1 | rfl⟩
    · exact ⟨hu, fun h2 => h1 (.inr h2)⟩
    · exact ⟨hu, by rw [e]; exact (ids_apart hi.nodup hr).2⟩
  · rintro ⟨hu, h1⟩
    refine ⟨hu, ?_⟩
    by_cases e2 : u.1 = r.1
    · exact .inr (hi.tim.ids u (h.sub.subset hu) t (h.sub.subset ht) (e2.trans e.symm))
    · exact .inl (fun h2 => h2.elim e2 h1)

theorem good_fires {now : Nat} {T R : List It} (hi : FireIn now T R) {j : Nat} {T' : List It} {r t : It} (hr : R[j]? = some r) (e : t.1 = r.1) {L : Nat → List It} (hg : GoodP now T' (fun u => u.1 ∉ (R.drop j).map Prod.fst) L) :
    GoodP now (cancT T' t.1) (fun u => u.1 ∉ (R.drop (j + 1)).map Prod.fst) L := by
  have _ := hi
  refine hg.congr (fun u => ?_)
  rw [ids_drop hr, mem_cancT, e]
  constructor
  · rintro ⟨hu, h1⟩
    exact ⟨⟨hu, fun h2 => h1 (.inl h2)⟩, fun h2 => h1 (.inr h2)⟩
  · rintro ⟨⟨hu, h1⟩, h2⟩
    exact ⟨hu, fun h3 => h3.elim h1 h2⟩

/-- What fire holds. -/
structure FrJ (w0 : World) (X : Nat → Prop) (w : World) (d now : Nat) (T R : List It) (j : Nat) (u : Value) (wr : World) : Prop where
  ex : ∃ L T' D, WhO w0 (fun b => X b ∨ u.ownBlock = some b) wr d now L T' ∧ OwnL wr w.heap.size u D ∧ GoodP now T' (fun t => t.1 ∉ (R.drop j).map Prod.fst) L ∧ FireAt now T R j T' D
  keep : ∀ b, X b → wr.heap[b]? = w.heap[b]?
  below : Below w0.heap.size w wr
  old : ∀ b, X b → b < w.heap.size
  base : w0.heap.size ≤ w.heap.size

section
variable {w0 : World} {X : Nat → Prop} {w : World} {d now : Nat} {T R : List It} {j : Nat} {u : Value} {wr : World}

theorem FrJ.turned (h : FrJ w0 X w d now T R j u wr) {w' : World} (hb : Below wr.heap.size wr w') : FrJ w0 X w d now T R j u w' := by
  obtain ⟨⟨L, T', D, h1, h2, h3⟩, h4, h5, h6, h7⟩ := h
  exact ⟨⟨L, T', D, h1.below hb, h2.below hb, h3⟩, fun b hx => (hb.block b (h1.xb b (.inl hx))).trans (h4 b hx), h5.trans (hb.mono (Nat.le_trans h7 h5.size)), h6, h7⟩

/-- A timer that is not due is put into its new slot. -/
theorem FrJ.put (h : FrJ w0 X w d now T R j u wr) (hi : FireIn now T R) (hn : now < 9223372036854775808) (hl : T.length ≤ 990) {r : It} (hr : R[j]? = some r) (t : It) (ht : t ∈ T) (e : t.1 = r.1) (hlate : ¬ t.2 ≤ now) :
    Calls Try.prog 31 #[.pointer (some ⟨d, 0, none⟩), .int .u64 (t.1 : Int), .int .u64 (t.2 : Int)] wr fun r w' => r = .returned (.tuple #[]) ∧ FrJ w0 X w d now T R (j + 1) u w' := by
  obtain ⟨⟨L, T', D, h1, h2, h3, h3'⟩, h4, h5, h6, h7⟩ := h
  have hls := h3'.sub.length_le
  refine (wput_any h1 hn h3.srt (fun n => Nat.le_trans (h3.len n) (by omega)) t (hi.tim.tick t ht)).mono ?_
  rintro r' w' ⟨e', n, _, hp, hE⟩
  obtain ⟨t', ht', ht'', e''⟩ := h3'.timer hi hr
  obtain rfl := hi.tim.ids t' ht'' t ht (e''.trans e.symm)
  exact ⟨e', ⟨⟨_, T', D, hE.wh, OwnL.kept h2 (fun b e => hE.keep b (.inr e)), good_later hi h3' hr ht' e h3 hp, h3'.later hi hr ht e hlate⟩, fun b hx => (hE.keep b (.inl hx)).trans (h4 b hx), h5.trans hE.below, h6, h7⟩⟩

/-- A timer that is due has been deleted: the row is still the old one. -/
structure FrH (w0 : World) (X : Nat → Prop) (w : World) (d now : Nat) (T R : List It) (j : Nat) (t : It) (u : Value) (wr : World) : Prop where
  ex : ∃ L T' D, WhO w0 (fun b => X b ∨ u.ownBlock = some b) wr d now L T' ∧ OwnL wr w.heap.size u D ∧ GoodP now T' (fun t => t.1 ∉ (R.drop (j + 1)).map Prod.fst) L ∧ FireAt now T R (j + 1) T' (D ++ [t])
  keep : ∀ b, X b → wr.heap[b]? = w.heap[b]?
  below : Below w0.heap.size w wr
  old : ∀ b, X b → b < w.heap.size
  base : w0.heap.size ≤ w.heap.size

theorem FrH.turned {t : It} (h : FrH w0 X w d now T R j t u wr) {w' : World} (hb : Below wr.heap.size wr w') : FrH w0 X w d now T R j t u w' := by
  obtain ⟨⟨L, T', D, h1, h2, h3⟩, h4, h5, h6, h7⟩ := h
  exact ⟨⟨L, T', D, h1.below hb, h2.below hb, h3⟩, fun b hx => (hb.block b (h1.xb b (.inl hx))).trans (h4 b hx), h5.trans (hb.mono (Nat.le_trans h7 h5.size)), h6, h7⟩

theorem FrJ.del (h : FrJ w0 X w d now T R j u wr) (hi : FireIn now T R) {r : It} (hr : R[j]? = some r) (t : It) (ht : t ∈ T) (e : t.1 = r.1) (hdue : t.2 ≤ now) :
    ∃ mb, wr.cell? ⟨d, 12, none⟩ = some (.map (some mb)) ∧ ∃ w', (Builtin.delete_ #[61, 22] 0 #[.map (some mb), .int .u64 (t.1 : Int)]).run Try.prog wr = .ok (.tuple #[]) w' ∧ FrH w0 X w d now T R j t u w' ∧ ∀ b i v, b ≠ mb → wr.cell? ⟨b, i, none⟩ = some v → w'.cell? ⟨b, i, none⟩ = some v := by
  obtain ⟨⟨L, T', D, ⟨o, p, V, mb, h1⟩, h2, h3, h3'⟩, h4, h5, h6, h7⟩ := h
  obtain ⟨t', ht', ht'', e''⟩ := h3'.timer hi hr
  obtain rfl := hi.tim.ids t' ht'' t ht (e''.trans e.symm)
  have hT' := hi.tim.sub h3'.sub
  obtain ⟨w', hrun, g1, g2⟩ := h1.map.del (T' := cancT T' t'.1) t' ht' (hT'.idb t' ht') hT'.ids (fun x => by
    rw [mem_cancT]
    exact ⟨fun e => ⟨e.1, fun e' => e.2 (by rw [e'])⟩, fun e => ⟨e.1, fun e' => e.2 (hT'.ids x e.1 t' ht' e')⟩⟩) (cancT_len hT' ht') 0
  obtain ⟨g3, g4, g5⟩ := h1.setMap g1 g2
  exact ⟨mb, h1.mapc, w', hrun, ⟨⟨L, _, D, ⟨o, p, V, mb, g3⟩, OwnL.kept h2 (fun b e => g4 b (.inr e)), good_fires hi hr e h3, h3'.fires hi hr ht e hdue⟩, fun b hx => (g4 b (.inl hx)).trans (h4 b hx), h5.trans g5, h6, h7⟩, fun b i v hb hv => g2.cell hv (fun e => hb (Option.some.inj e))⟩

theorem FrH.row {t : It} (h : FrH w0 X w d now T R j t u wr) : ∃ D, OwnL wr w.heap.size u D ∧ D.length ≤ T.length ∧ w.heap.size ≤ wr.heap.size ∧ ∀ u' w', OwnL w' w.heap.size u' (D ++ [t]) → wr.grownBy w' u.ownBlock → (u'.ownBlock = u.ownBlock ∨ u'.ownBlock = some wr.heap.size) → FrJ w0 X w d now T R (j + 1) u' w' := by
  obtain ⟨⟨L, T', D, h1, h2, h3, h3'⟩, h4, h5, h6, h7⟩ := h
  refine ⟨D, h2, by have := h3'.dlen; rw [List.length_append] at this; omega, h5.size, fun u' w' hr hg ho => ?_⟩
  have hlt := World.ownsRow.lt h2
  have hlt' := World.ownsRow.lt hr
  refine ⟨⟨L, T', _, h1.grown hg (fun b e => ⟨.inr e, Nat.le_trans h7 (hlt b e).1⟩) (fun b hb => ?_), hr, h3, h3'⟩, fun b hx => ?_, ?_, h6, h7⟩
  · rcases hb with hb | hb
    · exact ⟨.inl (.inl hb), Nat.lt_of_lt_of_le (h1.xb b (.inl hb)) hg.size⟩
    · refine ⟨?_, (hlt' b hb).2⟩
      rcases ho with ho | ho
      · exact .inl (.inr (ho ▸ hb))
      · rw [ho] at hb; cases hb; exact .inr (Nat.le_refl _)
  · have h8 := h6 b hx
    refine (hg.block b (h1.xb b (.inl hx)) (fun e => ?_)).trans (h4 b hx)
    have := (hlt b e.symm).1
    omega
  · exact h5.trans ⟨hg.os, hg.tape, hg.output, hg.size, fun b hb => hg.block b (Nat.lt_of_lt_of_le hb h1.base.size) (fun e => by have := (hlt b e.symm).1; omega)⟩

theorem FrJ.mapAt (h : FrJ w0 X w d now T R j u wr) : ∃ mb, wr.cell? ⟨d, 12, none⟩ = some (.map (some mb)) ∧ mb < wr.heap.size := by
  obtain ⟨⟨L, T', D, ⟨o, p, V, mb, h1⟩, _⟩, _⟩ := h
  exact ⟨mb, h1.mapc, h1.map.lt⟩
end
end Go.Proofs.Ythidinaflaogfaa
namespace Go.Proofs.Ythidinaflaogfaa
open Go.RowKit

set_option maxRecDepth 100000 in
set_option maxHeartbeats 3200000 in
theorem take_at {S : Nat → Prop} {w : World} {d k : Nat} {V : List Value} {F : Nat → List It} (h : LvAt S w d k V F) (s : Nat) (hs : s < 64) :
    Calls Try.prog 43 #[.pointer (some ⟨d, 0, none⟩), .int .i64 (s : Int)] w fun r w' => ∃ v, V[s]? = some v ∧ r = .returned v ∧ w' = w.setCell ⟨d, 1 + s, none⟩ (.slice none 0 0) := by
  have HI := Lib.hid (fun w => isslot_any (s : Int) w)
  rw [(isSlotB_iff (s : Int)).2 ⟨by omega, by omega⟩] at HI
  obtain ⟨v, hv, hc, p, c, hvp, _⟩ := h.cell hs
  have hf := h.frozen (1 + s)
  obtain ⟨n, hn⟩ : ∃ n, n = (F s).length := ⟨_, rfl⟩
  rw [← hn] at hvp
  subst hvp
  have Hv := Lib.hid hv
  have hsi : (s : Int) < 64 := by omega
  clear h hv hn
  go_enter Try.func43, Try.ntmps43
  go_wp2_with fail
  refine (HI.out _).mono ?_
  rintro r w2 ⟨rfl, rfl⟩
  go_wp2
  go_ret
  exact ⟨_, Hv.out, rfl, rfl⟩

section
variable {w0 : World} {X : Nat → Prop} {w : World} {d now : Nat} {L : Nat → List It} {T : List It} {o p : Nat → Nat} {V : Nat → List Value} {mb : Nat}

/-- A level has turned, and gives a block away. -/
theorem Wh.stepX (h : Wh w0 X w d now L T o p V mb) {i : Nat} (hi : i < 11) {l : List It} {w' : World} {X' : Nat → Prop} (hlv : LvO w0 (fun b => X' b ∨ (o b ≤ 12 ∧ o b ≠ i)) w' (p i) (i % 4) (slF (i % 4) l))
    (hkeep : ∀ b, o b ≤ 12 → o b ≠ i → w'.heap[b]? = w.heap[b]?) (hsz : w.heap.size ≤ w'.heap.size) (hX : ∀ b, X' b → ¬ (o b ≤ 12 ∧ o b ≠ i)) (hxb : ∀ b, X' b → b < w'.heap.size) : ∃ o' V', Wh w0 X' w' d now (updL L i l) T o' p V' mb := by
  obtain ⟨V', g1, g2, g3, g4⟩ := hlv
  have hd : o d ≤ 12 ∧ o d ≠ i := by rw [h.od]; omega
  have hm : o mb ≤ 12 ∧ o mb ≠ i := by rw [h.om]; omega
  have hnot : ∀ b, o b ≤ 12 → o b ≠ i → ¬ fp (p i) V' b := fun b h1 h2 h3 => (g2 b h3).2 (.inr ⟨h1, h2⟩)
  refine ⟨newO i (fp (p i) V') o, fun j => if j = i then V' else V j, ?_⟩
  refine ⟨(hkeep d hd.1 hd.2).trans h.head, h.map.kept (hkeep mb hm.1 hm.2), fun j hj => ?_, fun j hj b hb => ?_, ?_, ?_, fun b hb => ?_, hxb, g4⟩
  · by_cases e : j = i
    · subst e
      rw [if_pos rfl, updL_same]
      exact g1
    · rw [if_neg e, updL_other _ _ _ e]
      refine (h.lv j hj).same (fun b hb => ?_)
      have := h.fpo j hj b hb
      exact hkeep b (by omega) (by omega)
  · by_cases e : j = i
    · subst e
      rw [if_pos rfl] at hb
      exact newO_in hb
    · rw [if_neg e] at hb
      have h1 := h.fpo j hj b hb
      rw [newO_other (hnot b (by omega) (by omega)) (by omega), h1]
  · rw [newO_other (hnot d hd.1 hd.2) hd.2, h.od]
  · rw [newO_other (hnot mb hm.1 hm.2) hm.2, h.om]
  · by_cases hf : fp (p i) V' b
    · exact ⟨(g2 b hf).1, fun hx => (g2 b hf).2 (.inl hx), (g1.tight.2 b hf).2⟩
    · by_cases e : o b = i
      · rw [newO_old hf e] at hb; omega
      · rw [newO_other hf e] at hb
        obtain ⟨h1, h2, h3⟩ := h.ob b hb
        exact ⟨h1, fun hx => hX b hx ⟨hb, e⟩, Nat.lt_of_lt_of_le h3 hsz⟩

/-- Take, the list that is returned kept aside. -/
theorem Wh.takeAside (h : Wh w0 X w d now L T o p V mb) {i : Nat} (hi : i < 11) (s : Nat) (hs : s < 64) (l : List It) (hl : upd (slF (i % 4) (L i)) s [] = slF (i % 4) l) :
    Calls Try.prog 43 #[.pointer (some ⟨p i, 0, none⟩), .int .i64 (s : Int)] w fun r w' => ∃ v, r = .returned v ∧ OwnL w' 0 v (slF (i % 4) (L i) s) ∧ (∀ b, X b → w'.heap[b]? = w.heap[b]?) ∧ Below w0.heap.size w w' ∧ ∃ o' V', Wh w0 (fun b => X b ∨ v.ownBlock = some b) w' d now (updL L i l) T o' p V' mb := by
  have hlv := h.lv i hi
  refine (take_at hlv s hs).mono ?_
  rintro r w' ⟨v, hv, rfl, hw'⟩
  obtain ⟨r1, r2⟩ := hlv.slot s v hv
  have hpi : o (p i) = i := h.fpo i hi _ (.inl rfl)
  have hvo : ∀ b, v.ownBlock = some b → o b = i := fun b e => h.fpo i hi b (.inr ⟨s, v, hv, e⟩)
  have hpo := h.ob (p i) (by omega)
  have hother : ∀ b, b ≠ p i → w'.heap[b]? = w.heap[b]? := fun b hb => by rw [hw']; exact heap_setCell_other _ _ _ _ hb
  have hsz : w'.heap.size = w.heap.size := by rw [hw']; simp [World.setCell]
  have hlen := hlv.len
  have hat : LvAt (fp (p i) ((V i).set s (.slice none 0 0))) w' (p i) (i % 4) ((V i).set s (.slice none 0 0)) (upd (slF (i % 4) (L i)) s []) := by
    rw [hw']
    refine ⟨?_, by rw [List.length_set]; exact hlen, .inl rfl, fun t u hu => ?_, fun t r u z b htr hu hz hb => ?_⟩
    · rw [Joins.block_setCell (i := 1 + s) hlv.head (.slice none 0 0)]
      congr 2
      unfold lvC
      apply Array.ext'
      rw [Array.toList_setIfInBounds, Nat.add_comm]
      rfl
    · rw [List.getElem?_set] at hu
      by_cases hts : s = t
      · rw [if_pos hts, if_pos (by rw [hlen]; exact hs)] at hu
        cases hu
        subst hts
        unfold upd
        rw [if_pos rfl]
        exact ⟨World.ownsRow_nil _ _ _ _, fun b hb => by cases hb⟩
      · rw [if_neg hts] at hu
        obtain ⟨h1, h2⟩ := hlv.slot t u hu
        refine ⟨?_, fun b hb => ⟨.inr ⟨t, u, by rw [List.getElem?_set, if_neg hts]; exact hu, hb⟩, (h2 b hb).2⟩⟩
        unfold upd
        rw [if_neg (fun e => hts e.symm)]
        exact ownsRow_setCell_other h1 (fun e => (h2 (p i) e).2 rfl) _
    · rw [List.getElem?_set] at hu hz
      by_cases h1 : s = t
      · rw [if_pos h1, if_pos (by rw [hlen]; exact hs)] at hu
        cases hu
        cases hb
      · rw [if_neg h1] at hu
        by_cases h2 : s = r
        · rw [if_pos h2, if_pos (by rw [hlen]; exact hs)] at hz
          cases hz
          intro hzb
          cases hzb
        · rw [if_neg h2] at hz
          exact hlv.apart t r u z b htr hu hz hb
  have hbel : Below w0.heap.size w w' := ⟨by rw [hw']; rfl, by rw [hw']; rfl, by rw [hw']; rfl, by rw [hsz]; exact Nat.le_refl _, fun b hb => hother b (fun e => by rw [e] at hb; omega)⟩
  refine ⟨v, rfl, ownsRow_same r1 (fun b e => hother b (r2 b e).2), fun b hx => hother b (fun e => hpo.2.1 (e ▸ hx)), hbel, ?_⟩
  have hcases : ∀ b, X b ∨ v.ownBlock = some b → ¬ (o b ≤ 12 ∧ o b ≠ i) := fun b hb e => by
    rcases hb with hb | hb
    · exact (h.ob b e.1).2.1 hb
    · exact e.2 (hvo b hb)
  have hxb : ∀ b, X b ∨ v.ownBlock = some b → b < w'.heap.size := fun b hb => by
    rw [hsz]
    rcases hb with hb | hb
    · exact h.xb b hb
    · have := hvo b hb
      exact (h.ob b (by omega)).2.2
  refine h.stepX hi ⟨_, by rw [← hl]; exact hat, fun b hb => ?_, fun b hb => ?_, h.base.trans hbel⟩ (fun b h1 h2 => hother b (fun e => h2 (by rw [e]; exact hpi))) (by rw [hsz]; exact Nat.le_refl _) hcases hxb
  · have hob : o b = i ∧ v.ownBlock ≠ some b := by
      rcases hb with hb | ⟨t, u, hu, hb⟩
      · subst hb
        exact ⟨hpi, fun e => (r2 _ e).2 rfl⟩
      · rw [List.getElem?_set] at hu
        by_cases hts : s = t
        · rw [if_pos hts, if_pos (by rw [hlen]; exact hs)] at hu
          cases hu
          cases hb
        · rw [if_neg hts] at hu
          exact ⟨h.fpo i hi b (.inr ⟨t, u, hu, hb⟩), fun e => hlv.apart s t v u b hts hv hu e hb⟩
    obtain ⟨h1, h2, h3⟩ := h.ob b (by omega)
    refine ⟨h1, fun hx => ?_⟩
    rcases hx with (hx | hx) | hx
    · exact h2 hx
    · exact hob.2 hx
    · exact hx.2 hob.1
  · rcases hb with hb | hb
    · exact hxb b hb
    · rw [hsz]
      exact (h.ob b hb.1).2.2
end

/-- The slot s of level n is the first that has items: its timers are due before all others. -/
theorem first_least {now : Nat} {T : List It} {L : Nat → List It} (hg : GoodP now T (fun _ => True) L) (hT : TimW T) (hn : now < 9223372036854775808) {n s : Nat} (hb : ∀ m, m < n → L m = []) (hs : ∀ u, u < s → slF (n % 4) (L n) u = []) {x : It} (hx : x ∈ slF (n % 4) (L n) s) {h0 : It} (hh : h0 ∈ T) (hmin : ∀ t ∈ T, h0.2 ≤ t.2) :
    ∃ y, y ∈ slF (n % 4) (L n) s ∧ y.1 = h0.1 := by
  have hpl : ∀ t ∈ T, ∃ m, IsPl now (max t.2 now) m := fun t ht => by
    have := hT.tick t ht
    obtain ⟨m, _, hm⟩ := pl_le (now := now) (a := max t.2 now) (by omega) (by omega)
    exact ⟨m, hm⟩
  obtain ⟨hx1, hx2⟩ := mem_slF.1 hx
  obtain ⟨t, ht, _, hp, rfl⟩ := (hg.mem n x).1 hx1
  rw [slot_itW] at hx2
  obtain ⟨m, hm⟩ := hpl h0 hh
  have hin : itW now m h0 ∈ L m := (hg.mem m _).2 ⟨h0, hh, trivial, hm, rfl⟩
  have hnm : n ≤ m := by
    rcases Nat.lt_or_ge m n with h1 | h1
    · rw [hb m h1] at hin; cases hin
    · exact h1
  have hle := hmin t ht
  rcases Nat.lt_or_eq_of_le hnm with h1 | rfl
  · exfalso
    obtain ⟨q, rfl⟩ : ∃ q, m = q + 1 := ⟨m - 1, by omega⟩
    have hne : ¬ now / 64 ^ (q + 1) = max h0.2 now / 64 ^ (q + 1) := hm.2 q (by omega)
    have h2 := div_gt (Nat.le_max_right _ _) hne
    have e1 : now / 64 ^ (q + 1) = max t.2 now / 64 ^ (q + 1) := fitW_mono (by omega) hp.1
    rw [e1] at h2
    have h3 := gt_of_div h2
    omega
  · refine ⟨itW now n h0, mem_slF.2 ⟨hin, ?_⟩, rfl⟩
    rw [slot_itW]
    rcases Nat.lt_trichotomy (dgt n (max h0.2 now)) s with h1 | h1 | h1
    · have h2 := hs _ h1
      have h3 : itW now n h0 ∈ slF (n % 4) (L n) (dgt n (max h0.2 now)) := mem_slF.2 ⟨hin, slot_itW _ _ _⟩
      rw [h2] at h3
      cases h3
    · exact h1
    · exfalso
      rw [← hx2] at h1
      have hf : fitW n (max t.2 now) (max h0.2 now) := fitW_trans (fitW_symm hp.1) hm.1
      have h2 := ((dgt_div hf).1).2 h1
      have h3 := gt_of_div h2
      omega
end Go.Proofs.Ythidinaflaogfaa
