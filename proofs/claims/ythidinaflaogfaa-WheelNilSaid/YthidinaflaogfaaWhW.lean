/- A wheel in memory, made by a law, beside blocks that are not its own. No condition. -/
import Derived.Test.YthidinaflaogfaaWhMap
import Derived.Test.YthidinaflaogfaaLvOwn
import Derived.Test.YthidinaflaogfaaLvMat
namespace Go.Proofs.Ythidinaflaogfaa
open Go.RowKit Go.Maps

/-- The pointers of the levels. -/
def ptrs (p : Nat → Nat) : List Value := (List.range 11).map fun i => .pointer (some ⟨p i, 0, none⟩)
/-- The cells of a wheel. -/
def whC (now : Nat) (ps : List Value) (mb : Nat) : Array Value := (.int .u64 (now : Int) :: (ps ++ [.map (some mb)])).toArray

theorem ptrs_len (p : Nat → Nat) : (ptrs p).length = 11 := by simp [ptrs]
theorem ptrs_get (p : Nat → Nat) {i : Nat} (hi : i < 11) : (ptrs p)[i]? = some (.pointer (some ⟨p i, 0, none⟩)) := by simp [ptrs, hi]

theorem ownsRow_same {w w' : World} {base : Nat} {e : TypeId} {size : Nat} {v : Value} {n : Nat} {xs : List Value} (h : w.ownsRow base e size v n xs) (hb : ∀ b, v.ownBlock = some b → w'.heap[b]? = w.heap[b]?) : w'.ownsRow base e size v n xs := by
  obtain ⟨h1, h2 | ⟨g, cap, cur, rfl, h3, h4, h5⟩⟩ := h
  · exact ⟨h1, .inl h2⟩
  · exact ⟨h1, .inr ⟨g, cap, cur, rfl, h3, (hb g rfl).trans h4, h5⟩⟩

theorem LvAt.same {S : Nat → Prop} {w w' : World} {d k : Nat} {V : List Value} {F : Nat → List It} (h : LvAt S w d k V F) (hb : ∀ b, fp d V b → w'.heap[b]? = w.heap[b]?) : LvAt S w' d k V F :=
  ⟨(hb d (.inl rfl)).trans h.head, h.len, h.own, fun s v hv => ⟨ownsRow_same (h.slot s v hv).1 (fun b e => hb b (.inr ⟨s, v, hv, e⟩)), (h.slot s v hv).2⟩, h.apart⟩

/-- A wheel: o tells whose each block is (a level's number, 11 the wheel's cells, 12 the map). -/
structure Wh (w0 : World) (X : Nat → Prop) (w : World) (d now : Nat) (L : Nat → List It) (T : List It) (o p : Nat → Nat) (V : Nat → List Value) (mb : Nat) : Prop where
  head : w.heap[d]? = some (.cells (whC now (ptrs p) mb) 65 (0, 0))
  map : MapT w mb T
  lv : ∀ i, i < 11 → LvAt (fp (p i) (V i)) w (p i) (i % 4) (V i) (slF (i % 4) (L i))
  fpo : ∀ i, i < 11 → ∀ b, fp (p i) (V i) b → o b = i
  od : o d = 11
  om : o mb = 12
  ob : ∀ b, o b ≤ 12 → w0.heap.size ≤ b ∧ ¬ X b ∧ b < w.heap.size
  xb : ∀ b, X b → b < w.heap.size
  base : Below w0.heap.size w0 w

section
variable {w0 : World} {X : Nat → Prop} {w : World} {d now : Nat} {L : Nat → List It} {T : List It} {o p : Nat → Nat} {V : Nat → List Value} {mb : Nat}

theorem Wh.tick (h : Wh w0 X w d now L T o p V mb) : w.cell? ⟨d, 0, none⟩ = some (.int .u64 (now : Int)) := by
  rw [cell_of_row _ _ _ _ _ (0, 0) h.head]; rfl
theorem Wh.mapc (h : Wh w0 X w d now L T o p V mb) : w.cell? ⟨d, 12, none⟩ = some (.map (some mb)) := by
  rw [cell_of_row _ _ _ _ _ (0, 0) h.head]; rfl
theorem Wh.ptr (h : Wh w0 X w d now L T o p V mb) {i : Nat} (hi : i < 11) : w.cell? ⟨d, 1 + i, none⟩ = some (.pointer (some ⟨p i, 0, none⟩)) := by
  rw [cell_of_row _ _ _ _ _ (0, 0) h.head, Nat.add_comm]
  have e : (ptrs p ++ [Value.map (some mb)])[i]? = some (.pointer (some ⟨p i, 0, none⟩)) := by
    rw [List.getElem?_append_left (by rw [ptrs_len]; exact hi), ptrs_get p hi]
  simpa [whC] using e
theorem Wh.frozen (h : Wh w0 X w d now L T o p V mb) (j : Nat) : w.frozen? ⟨d, j, none⟩ = false := by simp [World.frozen?, h.head]
theorem Wh.low (h : Wh w0 X w d now L T o p V mb) {i : Nat} (hi : i < 11) : Low w (p i) (i % 4) := (h.lv i hi).low
theorem Wh.dlt (h : Wh w0 X w d now L T o p V mb) : d < w.heap.size := (Array.getElem?_eq_some_iff.1 h.head).1
theorem Wh.ne (h : Wh w0 X w d now L T o p V mb) : d ≠ mb := fun e => by have h1 := h.od; rw [e, h.om] at h1; omega

theorem Wh.below (h : Wh w0 X w d now L T o p V mb) {w' : World} (hb : Below w.heap.size w w') : Wh w0 X w' d now L T o p V mb :=
  ⟨(hb.block d h.dlt).trans h.head, h.map.kept (hb.block mb h.map.lt), fun i hi => (h.lv i hi).below hb, h.fpo, h.od, h.om, fun b e => ⟨(h.ob b e).1, (h.ob b e).2.1, Nat.lt_of_lt_of_le (h.ob b e).2.2 hb.size⟩,
   fun b hx => Nat.lt_of_lt_of_le (h.xb b hx) hb.size, h.base.trans (hb.mono h.base.size)⟩

/-- Level i, beside all else. -/
theorem Wh.lvO (h : Wh w0 X w d now L T o p V mb) {i : Nat} (hi : i < 11) : LvO w0 (fun b => X b ∨ (o b ≤ 12 ∧ o b ≠ i)) w (p i) (i % 4) (slF (i % 4) (L i)) := by
  refine ⟨V i, h.lv i hi, fun b hb => ?_, fun b hb => ?_, h.base⟩
  · have h1 := h.fpo i hi b hb
    obtain ⟨h2, h3, h4⟩ := h.ob b (by omega)
    refine ⟨h2, fun hx => ?_⟩
    rcases hx with hx | hx
    · exact h3 hx
    · exact hx.2 h1
  · rcases hb with hb | hb
    · exact h.xb b hb
    · exact (h.ob b hb.1).2.2

open Classical in
/-- Whose each block is, behind a change of level i. -/
noncomputable def newO (i : Nat) (S : Nat → Prop) (o : Nat → Nat) (b : Nat) : Nat := if S b then i else if o b = i then 13 else o b
theorem newO_in {i : Nat} {S : Nat → Prop} {o : Nat → Nat} {b : Nat} (h : S b) : newO i S o b = i := by unfold newO; rw [if_pos h]
theorem newO_old {i : Nat} {S : Nat → Prop} {o : Nat → Nat} {b : Nat} (h : ¬ S b) (e : o b = i) : newO i S o b = 13 := by unfold newO; rw [if_neg h, if_pos e]
theorem newO_other {i : Nat} {S : Nat → Prop} {o : Nat → Nat} {b : Nat} (h : ¬ S b) (e : o b ≠ i) : newO i S o b = o b := by unfold newO; rw [if_neg h, if_neg e]

/-- A level has turned. -/
theorem Wh.step (h : Wh w0 X w d now L T o p V mb) {i : Nat} (hi : i < 11) {l : List It} {w' : World} (hE : LvOEnd w0 (fun b => X b ∨ (o b ≤ 12 ∧ o b ≠ i)) w (p i) (i % 4) (slF (i % 4) l) w') :
    (∃ o' V', Wh w0 X w' d now (updL L i l) T o' p V' mb) ∧ (∀ b, X b → w'.heap[b]? = w.heap[b]?) ∧ Below w0.heap.size w w' := by
  obtain ⟨⟨V', g1, g2, g3, g4⟩, hkeep, hbel, hsz⟩ := hE
  have hd : o d ≤ 12 ∧ o d ≠ i := by rw [h.od]; omega
  have hm : o mb ≤ 12 ∧ o mb ≠ i := by rw [h.om]; omega
  have hnot : ∀ b, o b ≤ 12 → o b ≠ i → ¬ fp (p i) V' b := fun b h1 h2 h3 => (g2 b h3).2 (.inr ⟨h1, h2⟩)
  refine ⟨⟨newO i (fp (p i) V') o, fun j => if j = i then V' else V j, ?_⟩, fun b hx => hkeep b (.inl hx), hbel⟩
  refine ⟨(hkeep d (.inr hd)).trans h.head, h.map.kept (hkeep mb (.inr hm)), fun j hj => ?_, fun j hj b hb => ?_, ?_, ?_, fun b hb => ?_, fun b hx => Nat.lt_of_lt_of_le (h.xb b hx) hsz, g4⟩
  · by_cases e : j = i
    · subst e
      rw [if_pos rfl, updL_same]
      exact g1
    · rw [if_neg e, updL_other _ _ _ e]
      refine (h.lv j hj).same (fun b hb => hkeep b (.inr ?_))
      have := h.fpo j hj b hb
      omega
  · by_cases e : j = i
    · subst e
      rw [if_pos rfl] at hb
      exact newO_in hb
    · rw [if_neg e] at hb
      have h1 := h.fpo j hj b hb
      rw [newO_other (hnot b (by omega) (by omega)) (by omega), h1]
  · rw [newO_other (hnot d hd.1 hd.2) hd.2, h.od]
  · rw [newO_other (hnot mb hm.1 hm.2) hm.2, h.om]
  · by_cases hf : fp (p i) V' b
    · exact ⟨(g2 b hf).1, fun hx => (g2 b hf).2 (.inl hx), (g1.tight.2 b hf).2⟩
    · by_cases e : o b = i
      · rw [newO_old hf e] at hb; omega
      · rw [newO_other hf e] at hb
        obtain ⟨h1, h2, h3⟩ := h.ob b hb
        exact ⟨h1, h2, Nat.lt_of_lt_of_le h3 hsz⟩

/-- The tick or the map has turned. -/
theorem Wh.turn (h : Wh w0 X w d now L T o p V mb) {w' : World} {now' : Nat} {T' : List It} (hh : w'.heap[d]? = some (.cells (whC now' (ptrs p) mb) 65 (0, 0))) (hm : MapT w' mb T')
    (hc : Chg (fun b => b = d ∨ b = mb) w w') : Wh w0 X w' d now' L T' o p V mb ∧ (∀ b, X b → w'.heap[b]? = w.heap[b]?) ∧ Below w0.heap.size w w' := by
  have hd := h.ob d (by rw [h.od]; omega)
  have hmb := h.ob mb (by rw [h.om]; omega)
  have hbel : Below w0.heap.size w w' := ⟨hc.os, hc.tape, hc.output, hc.size, fun b hb => hc.block b (Nat.lt_of_lt_of_le hb h.base.size) (fun e => by rcases e with rfl | rfl <;> omega)⟩
  refine ⟨⟨hh, hm, fun j hj => (h.lv j hj).same (fun b hb => ?_), h.fpo, h.od, h.om, fun b e => ⟨(h.ob b e).1, (h.ob b e).2.1, Nat.lt_of_lt_of_le (h.ob b e).2.2 hc.size⟩, fun b hx => Nat.lt_of_lt_of_le (h.xb b hx) hc.size, h.base.trans hbel⟩, fun b hx => ?_, hbel⟩
  · have h1 := h.fpo j hj b hb
    refine hc.block b (h.ob b (by omega)).2.2 (fun e => ?_)
    rcases e with rfl | rfl
    · rw [h.od] at h1; omega
    · rw [h.om] at h1; omega
  · refine hc.block b (h.xb b hx) (fun e => ?_)
    rcases e with rfl | rfl
    · exact hd.2.1 hx
    · exact hmb.2.1 hx

theorem Wh.setMap (h : Wh w0 X w d now L T o p V mb) {w' : World} {T' : List It} (hm : MapT w' mb T') (hg : w.grownBy w' (some mb)) : Wh w0 X w' d now L T' o p V mb ∧ (∀ b, X b → w'.heap[b]? = w.heap[b]?) ∧ Below w0.heap.size w w' :=
  h.turn ((hg.block d h.dlt (fun e => h.ne (Option.some.inj e))).trans h.head) hm ⟨hg.os, hg.tape, hg.output, hg.size, fun b hb hs => hg.block b hb (fun e => hs (.inr (Option.some.inj e)))⟩

theorem Wh.setNow (h : Wh w0 X w d now L T o p V mb) (now' : Nat) : Wh w0 X (w.setCell ⟨d, 0, none⟩ (.int .u64 (now' : Int))) d now' L T o p V mb ∧ (∀ b, X b → (w.setCell ⟨d, 0, none⟩ (.int .u64 (now' : Int))).heap[b]? = w.heap[b]?) ∧ Below w0.heap.size w (w.setCell ⟨d, 0, none⟩ (.int .u64 (now' : Int))) := by
  refine h.turn ?_ (h.map.kept (heap_setCell_other _ _ _ _ (fun e => h.ne e.symm))) ⟨rfl, rfl, rfl, by simp [World.setCell], fun b hb hs => heap_setCell_other _ _ _ _ (fun e => hs (.inl e))⟩
  rw [Joins.block_setCell (i := 0) h.head]
  rfl
end

/-- A wheel with the tick now, whose levels hold L and whose map holds T, made since w0, in no block of X. -/
def WhO (w0 : World) (X : Nat → Prop) (w : World) (d now : Nat) (L : Nat → List It) (T : List It) : Prop := ∃ o p V mb, Wh w0 X w d now L T o p V mb

/-- What a change leaves. -/
structure WhEnd (w0 : World) (X : Nat → Prop) (w : World) (d now : Nat) (L : Nat → List It) (T : List It) (w' : World) : Prop where
  wh : WhO w0 X w' d now L T
  keep : ∀ b, X b → w'.heap[b]? = w.heap[b]?
  below : Below w0.heap.size w w'

theorem WhEnd.trans {w0 : World} {X : Nat → Prop} {w w1 w2 : World} {d now now' : Nat} {L L' : Nat → List It} {T T' : List It} (h : WhEnd w0 X w d now L T w1) (h' : WhEnd w0 X w1 d now' L' T' w2) : WhEnd w0 X w d now' L' T' w2 :=
  ⟨h'.wh, fun b hb => (h'.keep b hb).trans (h.keep b hb), h.below.trans h'.below⟩

theorem WhO.below {w0 : World} {X : Nat → Prop} {w w' : World} {d now : Nat} {L : Nat → List It} {T : List It} (h : WhO w0 X w d now L T) (hb : Below w.heap.size w w') : WhO w0 X w' d now L T := by
  obtain ⟨o, p, V, mb, h⟩ := h
  exact ⟨o, p, V, mb, h.below hb⟩

theorem WhO.base {w0 : World} {X : Nat → Prop} {w : World} {d now : Nat} {L : Nat → List It} {T : List It} (h : WhO w0 X w d now L T) : Below w0.heap.size w0 w := by obtain ⟨_, _, _, _, h⟩ := h; exact h.base
theorem WhO.xb {w0 : World} {X : Nat → Prop} {w : World} {d now : Nat} {L : Nat → List It} {T : List It} (h : WhO w0 X w d now L T) : ∀ b, X b → b < w.heap.size := by obtain ⟨_, _, _, _, h⟩ := h; exact h.xb

theorem WhEnd.same {w0 : World} {X : Nat → Prop} {w w' : World} {d now : Nat} {L : Nat → List It} {T : List It} (h : WhO w0 X w d now L T) (hb : Below w.heap.size w w') : WhEnd w0 X w d now L T w' :=
  ⟨h.below hb, fun b hx => hb.block b (h.xb b hx), hb.mono h.base.size⟩

theorem WhEnd.pre {w0 : World} {X : Nat → Prop} {w w1 w2 : World} {d now : Nat} {L : Nat → List It} {T : List It} (hb : Below w.heap.size w w1) (hx : ∀ b, X b → b < w.heap.size) (hbase : w0.heap.size ≤ w.heap.size) (h : WhEnd w0 X w1 d now L T w2) : WhEnd w0 X w d now L T w2 :=
  ⟨h.wh, fun b e => (h.keep b e).trans (hb.block b (hx b e)), (hb.mono hbase).trans h.below⟩

/-- Other blocks are kept aside. -/
theorem WhO.swap {w0 : World} {X Y : Nat → Prop} {w w' : World} {d now : Nat} {L : Nat → List It} {T : List It} (h : WhO w0 X w d now L T) (hb : Below w.heap.size w w') (hY : ∀ b, Y b → (X b ∨ w.heap.size ≤ b) ∧ b < w'.heap.size) : WhO w0 Y w' d now L T := by
  obtain ⟨o, p, V, mb, h⟩ := h
  have h2 := h.below hb
  refine ⟨o, p, V, mb, ⟨h2.head, h2.map, h2.lv, h2.fpo, h2.od, h2.om, fun b e => ⟨(h2.ob b e).1, fun hy => ?_, (h2.ob b e).2.2⟩, fun b hy => (hY b hy).2, h2.base⟩⟩
  rcases (hY b hy).1 with h5 | h5
  · exact (h.ob b e).2.1 h5
  · have := (h.ob b e).2.2; omega

/-- A row that is not the wheel's may turn. -/
theorem WhO.grown {w0 : World} {X Y : Nat → Prop} {w w' : World} {d now : Nat} {L : Nat → List It} {T : List It} (h : WhO w0 X w d now L T) {v : Value} (hg : w.grownBy w' v.ownBlock) (hv : ∀ b, v.ownBlock = some b → X b ∧ w0.heap.size ≤ b) (hY : ∀ b, Y b → (X b ∨ w.heap.size ≤ b) ∧ b < w'.heap.size) : WhO w0 Y w' d now L T := by
  obtain ⟨o, p, V, mb, h⟩ := h
  have hk : ∀ b, o b ≤ 12 → w'.heap[b]? = w.heap[b]? := fun b e => hg.block b (h.ob b e).2.2 (fun e' => (h.ob b e).2.1 (hv b e'.symm).1)
  refine ⟨o, p, V, mb, ⟨(hk d (by rw [h.od]; omega)).trans h.head, h.map.kept (hk mb (by rw [h.om]; omega)), fun i hi => (h.lv i hi).same (fun b hb => hk b (by rw [h.fpo i hi b hb]; omega)), h.fpo, h.od, h.om, fun b e => ⟨(h.ob b e).1, fun hy => ?_, Nat.lt_of_lt_of_le (h.ob b e).2.2 hg.size⟩, fun b hy => (hY b hy).2, h.base.grown hg h.base.size (fun b e => (hv b e).2)⟩⟩
  rcases (hY b hy).1 with h5 | h5
  · exact (h.ob b e).2.1 h5
  · have := (h.ob b e).2.2; omega
end Go.Proofs.Ythidinaflaogfaa
