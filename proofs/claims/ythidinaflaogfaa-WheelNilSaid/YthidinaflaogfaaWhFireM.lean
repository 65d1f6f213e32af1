/- What fire holds amid its loop. No condition. -/
import Derived.Test.YthidinaflaogfaaWhTakeM
namespace Go.Proofs.Ythidinaflaogfaa
open Go.RowKit

theorem srt_ext : ∀ {l m : List It}, srtI l → srtI m → (∀ x, x ∈ l ↔ x ∈ m) → l = m
  | [], [], _, _, _ => rfl
  | [], b :: m, _, _, h => by have := (h b).2 List.mem_cons_self; cases this
  | a :: l, [], _, _, h => by have := (h a).1 List.mem_cons_self; cases this
  | a :: l, b :: m, h1, h2, h => by
    obtain ⟨p1, p2⟩ := List.pairwise_cons.1 h1
    obtain ⟨q1, q2⟩ := List.pairwise_cons.1 h2
    have e : a = b := by
      rcases List.mem_cons.1 ((h a).1 List.mem_cons_self) with e | e
      · exact e
      · rcases List.mem_cons.1 ((h b).2 List.mem_cons_self) with e2 | e2
        · exact e2.symm
        · have h3 := q1 a e
          have h4 := p1 b e2
          rw [ltI_iff] at h3 h4
          omega
    subst e
    have hn1 : a ∉ l := fun hm => by have := p1 a hm; rw [ltI_irr] at this; cases this
    have hn2 : a ∉ m := fun hm => by have := q1 a hm; rw [ltI_irr] at this; cases this
    rw [srt_ext p2 q2 (fun x => ?_)]
    have h3 := h x
    rw [List.mem_cons, List.mem_cons] at h3
    constructor
    · intro hx
      rcases h3.1 (.inr hx) with rfl | h4
      · exact absurd hx hn1
      · exact h4
    · intro hx
      rcases h3.2 (.inr hx) with rfl | h4
      · exact absurd hx hn2
      · exact h4

theorem srt_of_perm {l D : List It} (hp : l.Perm D) (hs : l.Pairwise (fun a b => ltI b a = false)) (hn : D.Nodup) : srtI l := by
  have hn' : l.Nodup := hp.nodup_iff.2 hn
  refine (hs.and hn').imp ?_
  rintro a b ⟨h1, h2⟩
  cases h3 : ltI a b with
  | true => rfl
  | false => exact absurd (ltI_total h1 (fun e => h2 e.symm)) (by rw [h3]; decide)

theorem mem_ids {R : List It} {x : Nat} : x ∈ R.map Prod.fst ↔ ∃ r ∈ R, r.1 = x := by
  rw [List.mem_map]

/-- What fire is called with. -/
structure FireIn (now : Nat) (T R : List It) : Prop where
  tim : TimW T
  nodup : (R.map Prod.fst).Nodup
  sub : ∀ r ∈ R, ∃ t ∈ T, t.1 = r.1
  due : ∀ t ∈ T, t.2 ≤ now → t.1 ∈ R.map Prod.fst

/-- The timers and the due ones behind j rounds. -/
structure FireAt (now : Nat) (T R : List It) (j : Nat) (T' D : List It) : Prop where
  sub : T'.Sublist T
  mem : ∀ x, x ∈ T' ↔ x ∈ T ∧ ¬ (x.2 ≤ now ∧ x.1 ∈ (R.take j).map Prod.fst)
  dmem : ∀ x, x ∈ D ↔ x ∈ T ∧ x.2 ≤ now ∧ x.1 ∈ (R.take j).map Prod.fst
  dnodup : D.Nodup
  dlen : D.length ≤ T.length

theorem FireAt.start (now : Nat) (T R : List It) : FireAt now T R 0 T [] :=
  ⟨List.Sublist.refl _, fun x => ⟨fun h => ⟨h, fun e => by simp at e⟩, fun h => h.1⟩, fun x => ⟨fun h => (by cases h), fun h => by simp at h⟩, List.Pairwise.nil, Nat.zero_le _⟩

theorem ids_take {R : List It} {j : Nat} {r : It} (hr : R[j]? = some r) (x : Nat) : x ∈ (R.take (j + 1)).map Prod.fst ↔ x ∈ (R.take j).map Prod.fst ∨ x = r.1 := by
  obtain ⟨hj, rfl⟩ := List.getElem?_eq_some_iff.1 hr
  rw [List.take_succ_eq_append_getElem hj, List.map_append, List.mem_append]
  simp
theorem ids_drop {R : List It} {j : Nat} {r : It} (hr : R[j]? = some r) (x : Nat) : x ∈ (R.drop j).map Prod.fst ↔ x = r.1 ∨ x ∈ (R.drop (j + 1)).map Prod.fst := by
  obtain ⟨hj, rfl⟩ := List.getElem?_eq_some_iff.1 hr
  rw [List.drop_eq_getElem_cons hj, List.map_cons, List.mem_cons]
theorem ids_apart {R : List It} (hn : (R.map Prod.fst).Nodup) {j : Nat} {r : It} (hr : R[j]? = some r) : r.1 ∉ (R.take j).map Prod.fst ∧ r.1 ∉ (R.drop (j + 1)).map Prod.fst := by
  obtain ⟨hj, rfl⟩ := List.getElem?_eq_some_iff.1 hr
  have e : R = R.take j ++ R[j] :: R.drop (j + 1) := by rw [← List.drop_eq_getElem_cons hj, List.take_append_drop]
  rw [e, List.map_append, List.map_cons, List.nodup_append, List.nodup_cons] at hn
  exact ⟨fun h => hn.2.2 _ h _ List.mem_cons_self rfl, hn.2.1.1⟩

/-- The timer of the round. -/
theorem FireAt.timer {now : Nat} {T R : List It} (hi : FireIn now T R) {j : Nat} {T' D : List It} (h : FireAt now T R j T' D) {r : It} (hr : R[j]? = some r) : ∃ t, t ∈ T' ∧ t ∈ T ∧ t.1 = r.1 := by
  obtain ⟨t, ht, e⟩ := hi.sub r (List.mem_of_getElem? hr)
  refine ⟨t, (h.mem t).2 ⟨ht, fun h1 => ?_⟩, ht, e⟩
  rw [e] at h1
  exact (ids_apart hi.nodup hr).1 h1.2

/-- It is not due yet. -/
theorem FireAt.later {now : Nat} {T R : List It} (hi : FireIn now T R) {j : Nat} {T' D : List It} (h : FireAt now T R j T' D) {r t : It} (hr : R[j]? = some r) (ht : t ∈ T) (e : t.1 = r.1) (hl : ¬ t.2 ≤ now) : FireAt now T R (j + 1) T' D := by
  refine ⟨h.sub, fun x => ?_, fun x => ?_, h.dnodup, h.dlen⟩
  · rw [h.mem, ids_take hr]
    constructor
    · rintro ⟨h1, h2⟩
      refine ⟨h1, fun h3 => ?_⟩
      rcases h3.2 with h4 | h4
      · exact h2 ⟨h3.1, h4⟩
      · obtain rfl := hi.tim.ids x h1 t ht (h4.trans e.symm)
        exact hl h3.1
    · rintro ⟨h1, h2⟩
      exact ⟨h1, fun h3 => h2 ⟨h3.1, .inl h3.2⟩⟩
  · rw [h.dmem, ids_take hr]
    constructor
    · rintro ⟨h1, h2, h3⟩
      exact ⟨h1, h2, .inl h3⟩
    · rintro ⟨h1, h2, h3 | h3⟩
      · exact ⟨h1, h2, h3⟩
      · obtain rfl := hi.tim.ids x h1 t ht (h3.trans e.symm)
        exact absurd h2 hl

/-- It fires. -/
theorem FireAt.fires {now : Nat} {T R : List It} (hi : FireIn now T R) {j : Nat} {T' D : List It} (h : FireAt now T R j T' D) {r t : It} (hr : R[j]? = some r) (ht : t ∈ T) (e : t.1 = r.1) (hl : t.2 ≤ now) : FireAt now T R (j + 1) (cancT T' t.1) (D ++ [t]) := by
  have hnd : t ∉ D := fun hd => by
    have := ((h.dmem t).1 hd).2.2
    rw [e] at this
    exact (ids_apart hi.nodup hr).1 this
  have hnd2 : (D ++ [t]).Nodup := by
    rw [List.nodup_append]
    refine ⟨h.dnodup, by simp, fun a ha b hb e9 => ?_⟩
    rw [List.mem_singleton] at hb
    rw [e9, hb] at ha
    exact hnd ha
  have hm2 : ∀ x, x ∈ D ++ [t] ↔ x ∈ T ∧ x.2 ≤ now ∧ x.1 ∈ (R.take (j + 1)).map Prod.fst := fun x => by
    rw [List.mem_append, List.mem_singleton, h.dmem, ids_take hr]
    constructor
    · rintro (⟨h1, h2, h3⟩ | rfl)
      · exact ⟨h1, h2, .inl h3⟩
      · exact ⟨ht, hl, .inr e⟩
    · rintro ⟨h1, h2, h3 | h3⟩
      · exact .inl ⟨h1, h2, h3⟩
      · exact .inr (hi.tim.ids x h1 t ht (h3.trans e.symm))
  refine ⟨List.filter_sublist.trans h.sub, fun x => ?_, hm2, hnd2, nodup_len hnd2 (fun x hx => ((hm2 x).1 hx).1)⟩
  rw [mem_cancT, h.mem, ids_take hr, e]
  constructor
  · rintro ⟨⟨h1, h2⟩, h3⟩
    refine ⟨h1, fun h4 => ?_⟩
    rcases h4.2 with h5 | h5
    · exact h2 ⟨h4.1, h5⟩
    · exact h3 h5
  · rintro ⟨h1, h2⟩
    refine ⟨⟨h1, fun h3 => h2 ⟨h3.1, .inl h3.2⟩⟩, fun h3 => ?_⟩
    have := hi.tim.ids x h1 t ht (h3.trans e.symm)
    subst this
    exact h2 ⟨hl, .inr h3⟩

/-- What is left, and what has fired, in the end. -/
theorem FireAt.done {now : Nat} {T R : List It} (hi : FireIn now T R) {T' D : List It} (h : FireAt now T R R.length T' D) : T' = T.filter (fun t => decide (now < t.2)) ∧ ∀ x, x ∈ D ↔ x ∈ T.filter (fun t => decide (t.2 ≤ now)) := by
  have ht : R.take R.length = R := List.take_length
  constructor
  · refine srt_ext (hi.tim.srt.sublist h.sub) (List.Pairwise.filter _ hi.tim.srt) fun x => ?_
    rw [h.mem, List.mem_filter, decide_eq_true_eq, ht]
    constructor
    · rintro ⟨h1, h2⟩
      refine ⟨h1, ?_⟩
      rcases Nat.lt_or_ge now x.2 with h3 | h3
      · exact h3
      · exact absurd ⟨h3, hi.due x h1 h3⟩ h2
    · rintro ⟨h1, h2⟩
      exact ⟨h1, fun h3 => by omega⟩
  · intro x
    rw [h.dmem, List.mem_filter, decide_eq_true_eq, ht]
    constructor
    · rintro ⟨h1, h2, _⟩
      exact ⟨h1, h2⟩
    · rintro ⟨h1, h2⟩
      exact ⟨h1, h2, hi.due x h1 h2⟩

/-- The levels behind a round: the timer has been put. -/
theorem good_later {now : Nat} {T R : List It} (hi : FireIn now T R) {j : Nat} {T' D : List It} (h : FireAt now T R j T' D) {r t : It} (hr : R[j]? = some r) (ht : t ∈ T') (e : t.1 = r.1) {L : Nat → List It} (hg : GoodP now T' (fun u => u.1 ∉ (R.drop j).map Prod.fst) L) {n : Nat} (hn : IsPl now (max t.2 now) n) :
    GoodP now T' (fun u => u.1 ∉ (R.drop (j + 1)).map Prod.fst) (updL L n (if itW now n t ∈ L n then L n else insI (itW now n t) (L n))) := by
  refine (hg.put ht hn).congr (fun u => ?_)
  rw [ids_drop hr]
  constructor
  · rintro ⟨hu, h1 | rfl⟩
    · exact ⟨hu, fun h2 => h1 (.inr h2)⟩
    · exact ⟨hu, by rw [e]; exact (ids_apart hi.nodup hr).2⟩
  · rintro ⟨hu, h1⟩
    refine ⟨hu, ?_⟩
    by_cases e2 : u.1 = r.1
    · exact .inr (hi.tim.ids u (h.sub.subset hu) t (h.sub.subset ht) (e2.trans e.symm))
    · exact .inl (fun h2 => h2.elim e2 h1)

theorem good_fires {now : Nat} {T R : List It} (hi : FireIn now T R) {j : Nat} {T' : List It} {r t : It} (hr : R[j]? = some r) (e : t.1 = r.1) {L : Nat → List It} (hg : GoodP now T' (fun u => u.1 ∉ (R.drop j).map Prod.fst) L) :
    GoodP now (cancT T' t.1) (fun u => u.1 ∉ (R.drop (j + 1)).map Prod.fst) L := by
  have _ := hi
  refine hg.congr (fun u => ?_)
  rw [ids_drop hr, mem_cancT, e]
  constructor
  · rintro ⟨hu, h1⟩
    exact ⟨⟨hu, fun h2 => h1 (.inl h2)⟩, fun h2 => h1 (.inr h2)⟩
  · rintro ⟨⟨hu, h1⟩, h2⟩
    exact ⟨hu, fun h3 => h3.elim h1 h2⟩

/-- What fire holds. -/
structure FrJ (w0 : World) (X : Nat → Prop) (w : World) (d now : Nat) (T R : List It) (j : Nat) (u : Value) (wr : World) : Prop where
  ex : ∃ L T' D, WhO w0 (fun b => X b ∨ u.ownBlock = some b) wr d now L T' ∧ OwnL wr w.heap.size u D ∧ GoodP now T' (fun t => t.1 ∉ (R.drop j).map Prod.fst) L ∧ FireAt now T R j T' D
  keep : ∀ b, X b → wr.heap[b]? = w.heap[b]?
  below : Below w0.heap.size w wr
  old : ∀ b, X b → b < w.heap.size
  base : w0.heap.size ≤ w.heap.size

section
variable {w0 : World} {X : Nat → Prop} {w : World} {d now : Nat} {T R : List It} {j : Nat} {u : Value} {wr : World}

theorem FrJ.turned (h : FrJ w0 X w d now T R j u wr) {w' : World} (hb : Below wr.heap.size wr w') : FrJ w0 X w d now T R j u w' := by
  obtain ⟨⟨L, T', D, h1, h2, h3⟩, h4, h5, h6, h7⟩ := h
  exact ⟨⟨L, T', D, h1.below hb, h2.below hb, h3⟩, fun b hx => (hb.block b (h1.xb b (.inl hx))).trans (h4 b hx), h5.trans (hb.mono (Nat.le_trans h7 h5.size)), h6, h7⟩

/-- A timer that is not due is put into its new slot. -/
theorem FrJ.put (h : FrJ w0 X w d now T R j u wr) (hi : FireIn now T R) (hn : now < 9223372036854775808) (hl : T.length ≤ 990) {r : It} (hr : R[j]? = some r) (t : It) (ht : t ∈ T) (e : t.1 = r.1) (hlate : ¬ t.2 ≤ now) :
    Calls Try.prog 31 #[.pointer (some ⟨d, 0, none⟩), .int .u64 (t.1 : Int), .int .u64 (t.2 : Int)] wr fun r w' => r = .returned (.tuple #[]) ∧ FrJ w0 X w d now T R (j + 1) u w' := by
  obtain ⟨⟨L, T', D, h1, h2, h3, h3'⟩, h4, h5, h6, h7⟩ := h
  have hls := h3'.sub.length_le
  refine (wput_any h1 hn h3.srt (fun n => Nat.le_trans (h3.len n) (by omega)) t (hi.tim.tick t ht)).mono ?_
  rintro r' w' ⟨e', n, _, hp, hE⟩
  obtain ⟨t', ht', ht'', e''⟩ := h3'.timer hi hr
  obtain rfl := hi.tim.ids t' ht'' t ht (e''.trans e.symm)
  exact ⟨e', ⟨⟨_, T', D, hE.wh, OwnL.kept h2 (fun b e => hE.keep b (.inr e)), good_later hi h3' hr ht' e h3 hp, h3'.later hi hr ht e hlate⟩, fun b hx => (hE.keep b (.inl hx)).trans (h4 b hx), h5.trans hE.below, h6, h7⟩⟩

/-- A timer that is due has been deleted: the row is still the old one. -/
structure FrH (w0 : World) (X : Nat → Prop) (w : World) (d now : Nat) (T R : List It) (j : Nat) (t : It) (u : Value) (wr : World) : Prop where
  ex : ∃ L T' D, WhO w0 (fun b => X b ∨ u.ownBlock = some b) wr d now L T' ∧ OwnL wr w.heap.size u D ∧ GoodP now T' (fun t => t.1 ∉ (R.drop (j + 1)).map Prod.fst) L ∧ FireAt now T R (j + 1) T' (D ++ [t])
  keep : ∀ b, X b → wr.heap[b]? = w.heap[b]?
  below : Below w0.heap.size w wr
  old : ∀ b, X b → b < w.heap.size
  base : w0.heap.size ≤ w.heap.size

theorem FrH.turned {t : It} (h : FrH w0 X w d now T R j t u wr) {w' : World} (hb : Below wr.heap.size wr w') : FrH w0 X w d now T R j t u w' := by
  obtain ⟨⟨L, T', D, h1, h2, h3⟩, h4, h5, h6, h7⟩ := h
  exact ⟨⟨L, T', D, h1.below hb, h2.below hb, h3⟩, fun b hx => (hb.block b (h1.xb b (.inl hx))).trans (h4 b hx), h5.trans (hb.mono (Nat.le_trans h7 h5.size)), h6, h7⟩

theorem FrJ.del (h : FrJ w0 X w d now T R j u wr) (hi : FireIn now T R) {r : It} (hr : R[j]? = some r) (t : It) (ht : t ∈ T) (e : t.1 = r.1) (hdue : t.2 ≤ now) :
    ∃ mb, wr.cell? ⟨d, 12, none⟩ = some (.map (some mb)) ∧ ∃ w', (Builtin.delete_ #[61, 22] 0 #[.map (some mb), .int .u64 (t.1 : Int)]).run Try.prog wr = .ok (.tuple #[]) w' ∧ FrH w0 X w d now T R j t u w' ∧ ∀ b i v, b ≠ mb → wr.cell? ⟨b, i, none⟩ = some v → w'.cell? ⟨b, i, none⟩ = some v := by
  obtain ⟨⟨L, T', D, ⟨o, p, V, mb, h1⟩, h2, h3, h3'⟩, h4, h5, h6, h7⟩ := h
  obtain ⟨t', ht', ht'', e''⟩ := h3'.timer hi hr
  obtain rfl := hi.tim.ids t' ht'' t ht (e''.trans e.symm)
  have hT' := hi.tim.sub h3'.sub
  obtain ⟨w', hrun, g1, g2⟩ := h1.map.del (T' := cancT T' t'.1) t' ht' (hT'.idb t' ht') hT'.ids (fun x => by
    rw [mem_cancT]
    exact ⟨fun e => ⟨e.1, fun e' => e.2 (by rw [e'])⟩, fun e => ⟨e.1, fun e' => e.2 (hT'.ids x e.1 t' ht' e')⟩⟩) (cancT_len hT' ht') 0
  obtain ⟨g3, g4, g5⟩ := h1.setMap g1 g2
  exact ⟨mb, h1.mapc, w', hrun, ⟨⟨L, _, D, ⟨o, p, V, mb, g3⟩, OwnL.kept h2 (fun b e => g4 b (.inr e)), good_fires hi hr e h3, h3'.fires hi hr ht e hdue⟩, fun b hx => (g4 b (.inl hx)).trans (h4 b hx), h5.trans g5, h6, h7⟩, fun b i v hb hv => g2.cell hv (fun e => hb (Option.some.inj e))⟩

theorem FrH.row {t : It} (h : FrH w0 X w d now T R j t u wr) : ∃ D, OwnL wr w.heap.size u D ∧ D.length ≤ T.length ∧ w.heap.size ≤ wr.heap.size ∧ ∀ u' w', OwnL w' w.heap.size u' (D ++ [t]) → wr.grownBy w' u.ownBlock → (u'.ownBlock = u.ownBlock ∨ u'.ownBlock = some wr.heap.size) → FrJ w0 X w d now T R (j + 1) u' w' := by
  obtain ⟨⟨L, T', D, h1, h2, h3, h3'⟩, h4, h5, h6, h7⟩ := h
  refine ⟨D, h2, by have := h3'.dlen; rw [List.length_append] at this; omega, h5.size, fun u' w' hr hg ho => ?_⟩
  have hlt := World.ownsRow.lt h2
  have hlt' := World.ownsRow.lt hr
  refine ⟨⟨L, T', _, h1.grown hg (fun b e => ⟨.inr e, Nat.le_trans h7 (hlt b e).1⟩) (fun b hb => ?_), hr, h3, h3'⟩, fun b hx => ?_, ?_, h6, h7⟩
  · rcases hb with hb | hb
    · exact ⟨.inl (.inl hb), Nat.lt_of_lt_of_le (h1.xb b (.inl hb)) hg.size⟩
    · refine ⟨?_, (hlt' b hb).2⟩
      rcases ho with ho | ho
      · exact .inl (.inr (ho ▸ hb))
      · rw [ho] at hb; cases hb; exact .inr (Nat.le_refl _)
  · have h8 := h6 b hx
    refine (hg.block b (h1.xb b (.inl hx)) (fun e => ?_)).trans (h4 b hx)
    have := (hlt b e.symm).1
    omega
  · exact h5.trans ⟨hg.os, hg.tape, hg.output, hg.size, fun b hb => hg.block b (Nat.lt_of_lt_of_le hb h1.base.size) (fun e => by have := (hlt b e.symm).1; omega)⟩

theorem FrJ.mapAt (h : FrJ w0 X w d now T R j u wr) : ∃ mb, wr.cell? ⟨d, 12, none⟩ = some (.map (some mb)) ∧ mb < wr.heap.size := by
  obtain ⟨⟨L, T', D, ⟨o, p, V, mb, h1⟩, _⟩, _⟩ := h
  exact ⟨mb, h1.mapc, h1.map.lt⟩
end
end Go.Proofs.Ythidinaflaogfaa
