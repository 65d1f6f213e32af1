/- A wheel in memory; the walks of coarse, place, put, Has, Count, Now, Schedule and Cancel. No condition but what each states. -/
import Derived.Test.YthidinaflaogfaaWhPlain
import Derived.Test.YthidinaflaogfaaLvOwn
import Derived.Test.YthidinaflaogfaaLvMat
import Derived.BigQuiet
namespace Go.Proofs.Ythidinaflaogfaa
open Go.RowKit Go.Maps

/-- The pointers of the levels. -/
def ptrs (p : Nat → Nat) : List Value := (List.range 11).map fun i => .pointer (some ⟨p i, 0, none⟩)
/-- The cells of a wheel. -/
def whC (now : Nat) (ps : List Value) (mb : Nat) : Array Value := (.int .u64 (now : Int) :: (ps ++ [.map (some mb)])).toArray

theorem ptrs_len (p : Nat → Nat) : (ptrs p).length = 11 := by simp [ptrs]
theorem ptrs_get (p : Nat → Nat) {i : Nat} (hi : i < 11) : (ptrs p)[i]? = some (.pointer (some ⟨p i, 0, none⟩)) := by simp [ptrs, hi]

theorem ownsRow_same {w w' : World} {base : Nat} {e : TypeId} {size : Nat} {v : Value} {n : Nat} {xs : List Value} (h : w.ownsRow base e size v n xs) (hb : ∀ b, v.ownBlock = some b → w'.heap[b]? = w.heap[b]?) : w'.ownsRow base e size v n xs := by
  obtain ⟨h1, h2 | ⟨g, cap, cur, rfl, h3, h4, h5⟩⟩ := h
  · exact ⟨h1, .inl h2⟩
  · exact ⟨h1, .inr ⟨g, cap, cur, rfl, h3, (hb g rfl).trans h4, h5⟩⟩

theorem LvAt.same {S : Nat → Prop} {w w' : World} {d k : Nat} {V : List Value} {F : Nat → List It} (h : LvAt S w d k V F) (hb : ∀ b, fp d V b → w'.heap[b]? = w.heap[b]?) : LvAt S w' d k V F :=
  ⟨(hb d (.inl rfl)).trans h.head, h.len, h.own, fun s v hv => ⟨ownsRow_same (h.slot s v hv).1 (fun b e => hb b (.inr ⟨s, v, hv, e⟩)), (h.slot s v hv).2⟩, h.apart⟩

/-- A wheel: o tells whose each block is (a level's number, 11 the wheel's cells, 12 the map). -/
structure Wh (w0 : World) (X : Nat → Prop) (w : World) (d now : Nat) (L : Nat → List It) (T : List It) (o p : Nat → Nat) (V : Nat → List Value) (mb : Nat) : Prop where
  head : w.heap[d]? = some (.cells (whC now (ptrs p) mb) 65 (0, 0))
  map : MapT w mb T
  lv : ∀ i, i < 11 → LvAt (fp (p i) (V i)) w (p i) (i % 4) (V i) (slF (i % 4) (L i))
  fpo : ∀ i, i < 11 → ∀ b, fp (p i) (V i) b → o b = i
  od : o d = 11
  om : o mb = 12
  ob : ∀ b, o b ≤ 12 → w0.heap.size ≤ b ∧ ¬ X b ∧ b < w.heap.size
  xb : ∀ b, X b → b < w.heap.size
  base : Below w0.heap.size w0 w

section
variable {w0 : World} {X : Nat → Prop} {w : World} {d now : Nat} {L : Nat → List It} {T : List It} {o p : Nat → Nat} {V : Nat → List Value} {mb : Nat}

theorem Wh.tick (h : Wh w0 X w d now L T o p V mb) : w.cell? ⟨d, 0, none⟩ = some (.int .u64 (now : Int)) := by
  rw [cell_of_row _ _ _ _ _ (0, 0) h.head]; rfl
theorem Wh.mapc (h : Wh w0 X w d now L T o p V mb) : w.cell? ⟨d, 12, none⟩ = some (.map (some mb)) := by
  rw [cell_of_row _ _ _ _ _ (0, 0) h.head]; rfl
theorem Wh.ptr (h : Wh w0 X w d now L T o p V mb) {i : Nat} (hi : i < 11) : w.cell? ⟨d, 1 + i, none⟩ = some (.pointer (some ⟨p i, 0, none⟩)) := by
  rw [cell_of_row _ _ _ _ _ (0, 0) h.head, Nat.add_comm]
  have e : (ptrs p ++ [Value.map (some mb)])[i]? = some (.pointer (some ⟨p i, 0, none⟩)) := by
    rw [List.getElem?_append_left (by rw [ptrs_len]; exact hi), ptrs_get p hi]
  simpa [whC] using e
theorem Wh.frozen (h : Wh w0 X w d now L T o p V mb) (j : Nat) : w.frozen? ⟨d, j, none⟩ = false := by simp [World.frozen?, h.head]
theorem Wh.low (h : Wh w0 X w d now L T o p V mb) {i : Nat} (hi : i < 11) : Low w (p i) (i % 4) := (h.lv i hi).low
theorem Wh.dlt (h : Wh w0 X w d now L T o p V mb) : d < w.heap.size := (Array.getElem?_eq_some_iff.1 h.head).1
theorem Wh.ne (h : Wh w0 X w d now L T o p V mb) : d ≠ mb := fun e => by have h1 := h.od; rw [e, h.om] at h1; omega

theorem Wh.below (h : Wh w0 X w d now L T o p V mb) {w' : World} (hb : Below w.heap.size w w') : Wh w0 X w' d now L T o p V mb :=
  ⟨(hb.block d h.dlt).trans h.head, h.map.kept (hb.block mb h.map.lt), fun i hi => (h.lv i hi).below hb, h.fpo, h.od, h.om, fun b e => ⟨(h.ob b e).1, (h.ob b e).2.1, Nat.lt_of_lt_of_le (h.ob b e).2.2 hb.size⟩,
   fun b hx => Nat.lt_of_lt_of_le (h.xb b hx) hb.size, h.base.trans (hb.mono h.base.size)⟩

/-- Level i, beside all else. -/
theorem Wh.lvO (h : Wh w0 X w d now L T o p V mb) {i : Nat} (hi : i < 11) : LvO w0 (fun b => X b ∨ (o b ≤ 12 ∧ o b ≠ i)) w (p i) (i % 4) (slF (i % 4) (L i)) := by
  refine ⟨V i, h.lv i hi, fun b hb => ?_, fun b hb => ?_, h.base⟩
  · have h1 := h.fpo i hi b hb
    obtain ⟨h2, h3, h4⟩ := h.ob b (by omega)
    refine ⟨h2, fun hx => ?_⟩
    rcases hx with hx | hx
    · exact h3 hx
    · exact hx.2 h1
  · rcases hb with hb | hb
    · exact h.xb b hb
    · exact (h.ob b hb.1).2.2

open Classical in
/-- Whose each block is, behind a change of level i. -/
noncomputable def newO (i : Nat) (S : Nat → Prop) (o : Nat → Nat) (b : Nat) : Nat := if S b then i else if o b = i then 13 else o b
theorem newO_in {i : Nat} {S : Nat → Prop} {o : Nat → Nat} {b : Nat} (h : S b) : newO i S o b = i := by unfold newO; rw [if_pos h]
theorem newO_old {i : Nat} {S : Nat → Prop} {o : Nat → Nat} {b : Nat} (h : ¬ S b) (e : o b = i) : newO i S o b = 13 := by unfold newO; rw [if_neg h, if_pos e]
theorem newO_other {i : Nat} {S : Nat → Prop} {o : Nat → Nat} {b : Nat} (h : ¬ S b) (e : o b ≠ i) : newO i S o b = o b := by unfold newO; rw [if_neg h, if_neg e]

/-- A level has turned. -/
theorem Wh.step (h : Wh w0 X w d now L T o p V mb) {i : Nat} (hi : i < 11) {l : List It} {w' : World} (hE : LvOEnd w0 (fun b => X b ∨ (o b ≤ 12 ∧ o b ≠ i)) w (p i) (i % 4) (slF (i % 4) l) w') :
    (∃ o' V', Wh w0 X w' d now (updL L i l) T o' p V' mb) ∧ (∀ b, X b → w'.heap[b]? = w.heap[b]?) ∧ Below w0.heap.size w w' := by
  obtain ⟨⟨V', g1, g2, g3, g4⟩, hkeep, hbel, hsz⟩ := hE
  have hd : o d ≤ 12 ∧ o d ≠ i := by rw [h.od]; omega
  have hm : o mb ≤ 12 ∧ o mb ≠ i := by rw [h.om]; omega
  have hnot : ∀ b, o b ≤ 12 → o b ≠ i → ¬ fp (p i) V' b := fun b h1 h2 h3 => (g2 b h3).2 (.inr ⟨h1, h2⟩)
  refine ⟨⟨newO i (fp (p i) V') o, fun j => if j = i then V' else V j, ?_⟩, fun b hx => hkeep b (.inl hx), hbel⟩
  refine ⟨(hkeep d (.inr hd)).trans h.head, h.map.kept (hkeep mb (.inr hm)), fun j hj => ?_, fun j hj b hb => ?_, ?_, ?_, fun b hb => ?_, fun b hx => Nat.lt_of_lt_of_le (h.xb b hx) hsz, g4⟩
  · by_cases e : j = i
    · subst e
      rw [if_pos rfl, updL_same]
      exact g1
    · rw [if_neg e, updL_other _ _ _ e]
      refine (h.lv j hj).same (fun b hb => hkeep b (.inr ?_))
      have := h.fpo j hj b hb
      omega
  · by_cases e : j = i
    · subst e
      rw [if_pos rfl] at hb
      exact newO_in hb
    · rw [if_neg e] at hb
      have h1 := h.fpo j hj b hb
      rw [newO_other (hnot b (by omega) (by omega)) (by omega), h1]
  · rw [newO_other (hnot d hd.1 hd.2) hd.2, h.od]
  · rw [newO_other (hnot mb hm.1 hm.2) hm.2, h.om]
  · by_cases hf : fp (p i) V' b
    · exact ⟨(g2 b hf).1, fun hx => (g2 b hf).2 (.inl hx), (g1.tight.2 b hf).2⟩
    · by_cases e : o b = i
      · rw [newO_old hf e] at hb; omega
      · rw [newO_other hf e] at hb
        obtain ⟨h1, h2, h3⟩ := h.ob b hb
        exact ⟨h1, h2, Nat.lt_of_lt_of_le h3 hsz⟩

/-- The tick or the map has turned. -/
theorem Wh.turn (h : Wh w0 X w d now L T o p V mb) {w' : World} {now' : Nat} {T' : List It} (hh : w'.heap[d]? = some (.cells (whC now' (ptrs p) mb) 65 (0, 0))) (hm : MapT w' mb T')
    (hc : Chg (fun b => b = d ∨ b = mb) w w') : Wh w0 X w' d now' L T' o p V mb ∧ (∀ b, X b → w'.heap[b]? = w.heap[b]?) ∧ Below w0.heap.size w w' := by
  have hd := h.ob d (by rw [h.od]; omega)
  have hmb := h.ob mb (by rw [h.om]; omega)
  have hbel : Below w0.heap.size w w' := ⟨hc.os, hc.tape, hc.output, hc.size, fun b hb => hc.block b (Nat.lt_of_lt_of_le hb h.base.size) (fun e => by rcases e with rfl | rfl <;> omega)⟩
  refine ⟨⟨hh, hm, fun j hj => (h.lv j hj).same (fun b hb => ?_), h.fpo, h.od, h.om, fun b e => ⟨(h.ob b e).1, (h.ob b e).2.1, Nat.lt_of_lt_of_le (h.ob b e).2.2 hc.size⟩, fun b hx => Nat.lt_of_lt_of_le (h.xb b hx) hc.size, h.base.trans hbel⟩, fun b hx => ?_, hbel⟩
  · have h1 := h.fpo j hj b hb
    refine hc.block b (h.ob b (by omega)).2.2 (fun e => ?_)
    rcases e with rfl | rfl
    · rw [h.od] at h1; omega
    · rw [h.om] at h1; omega
  · refine hc.block b (h.xb b hx) (fun e => ?_)
    rcases e with rfl | rfl
    · exact hd.2.1 hx
    · exact hmb.2.1 hx

theorem Wh.setMap (h : Wh w0 X w d now L T o p V mb) {w' : World} {T' : List It} (hm : MapT w' mb T') (hg : w.grownBy w' (some mb)) : Wh w0 X w' d now L T' o p V mb ∧ (∀ b, X b → w'.heap[b]? = w.heap[b]?) ∧ Below w0.heap.size w w' :=
  h.turn ((hg.block d h.dlt (fun e => h.ne (Option.some.inj e))).trans h.head) hm ⟨hg.os, hg.tape, hg.output, hg.size, fun b hb hs => hg.block b hb (fun e => hs (.inr (Option.some.inj e)))⟩

theorem Wh.setNow (h : Wh w0 X w d now L T o p V mb) (now' : Nat) : Wh w0 X (w.setCell ⟨d, 0, none⟩ (.int .u64 (now' : Int))) d now' L T o p V mb ∧ (∀ b, X b → (w.setCell ⟨d, 0, none⟩ (.int .u64 (now' : Int))).heap[b]? = w.heap[b]?) ∧ Below w0.heap.size w (w.setCell ⟨d, 0, none⟩ (.int .u64 (now' : Int))) := by
  refine h.turn ?_ (h.map.kept (heap_setCell_other _ _ _ _ (fun e => h.ne e.symm))) ⟨rfl, rfl, rfl, by simp [World.setCell], fun b hb hs => heap_setCell_other _ _ _ _ (fun e => hs (.inl e))⟩
  rw [Joins.block_setCell (i := 0) h.head]
  rfl
end

/-- A wheel with the tick now, whose levels hold L and whose map holds T, made since w0, in no block of X. -/
def WhO (w0 : World) (X : Nat → Prop) (w : World) (d now : Nat) (L : Nat → List It) (T : List It) : Prop := ∃ o p V mb, Wh w0 X w d now L T o p V mb

/-- What a change leaves. -/
structure WhEnd (w0 : World) (X : Nat → Prop) (w : World) (d now : Nat) (L : Nat → List It) (T : List It) (w' : World) : Prop where
  wh : WhO w0 X w' d now L T
  keep : ∀ b, X b → w'.heap[b]? = w.heap[b]?
  below : Below w0.heap.size w w'

theorem WhEnd.trans {w0 : World} {X : Nat → Prop} {w w1 w2 : World} {d now now' : Nat} {L L' : Nat → List It} {T T' : List It} (h : WhEnd w0 X w d now L T w1) (h' : WhEnd w0 X w1 d now' L' T' w2) : WhEnd w0 X w d now' L' T' w2 :=
  ⟨h'.wh, fun b hb => (h'.keep b hb).trans (h.keep b hb), h.below.trans h'.below⟩

theorem WhO.below {w0 : World} {X : Nat → Prop} {w w' : World} {d now : Nat} {L : Nat → List It} {T : List It} (h : WhO w0 X w d now L T) (hb : Below w.heap.size w w') : WhO w0 X w' d now L T := by
  obtain ⟨o, p, V, mb, h⟩ := h
  exact ⟨o, p, V, mb, h.below hb⟩

theorem WhO.base {w0 : World} {X : Nat → Prop} {w : World} {d now : Nat} {L : Nat → List It} {T : List It} (h : WhO w0 X w d now L T) : Below w0.heap.size w0 w := by obtain ⟨_, _, _, _, h⟩ := h; exact h.base
theorem WhO.xb {w0 : World} {X : Nat → Prop} {w : World} {d now : Nat} {L : Nat → List It} {T : List It} (h : WhO w0 X w d now L T) : ∀ b, X b → b < w.heap.size := by obtain ⟨_, _, _, _, h⟩ := h; exact h.xb

theorem WhEnd.same {w0 : World} {X : Nat → Prop} {w w' : World} {d now : Nat} {L : Nat → List It} {T : List It} (h : WhO w0 X w d now L T) (hb : Below w.heap.size w w') : WhEnd w0 X w d now L T w' :=
  ⟨h.below hb, fun b hx => hb.block b (h.xb b hx), hb.mono h.base.size⟩

theorem WhEnd.pre {w0 : World} {X : Nat → Prop} {w w1 w2 : World} {d now : Nat} {L : Nat → List It} {T : List It} (hb : Below w.heap.size w w1) (hx : ∀ b, X b → b < w.heap.size) (hbase : w0.heap.size ≤ w.heap.size) (h : WhEnd w0 X w1 d now L T w2) : WhEnd w0 X w d now L T w2 :=
  ⟨h.wh, fun b e => (h.keep b e).trans (hb.block b (hx b e)), (hb.mono hbase).trans h.below⟩

/-- Other blocks are kept aside. -/
theorem WhO.swap {w0 : World} {X Y : Nat → Prop} {w w' : World} {d now : Nat} {L : Nat → List It} {T : List It} (h : WhO w0 X w d now L T) (hb : Below w.heap.size w w') (hY : ∀ b, Y b → (X b ∨ w.heap.size ≤ b) ∧ b < w'.heap.size) : WhO w0 Y w' d now L T := by
  obtain ⟨o, p, V, mb, h⟩ := h
  have h2 := h.below hb
  refine ⟨o, p, V, mb, ⟨h2.head, h2.map, h2.lv, h2.fpo, h2.od, h2.om, fun b e => ⟨(h2.ob b e).1, fun hy => ?_, (h2.ob b e).2.2⟩, fun b hy => (hY b hy).2, h2.base⟩⟩
  rcases (hY b hy).1 with h5 | h5
  · exact (h.ob b e).2.1 h5
  · have := (h.ob b e).2.2; omega

/-- A row that is not the wheel's may turn. -/
theorem WhO.grown {w0 : World} {X Y : Nat → Prop} {w w' : World} {d now : Nat} {L : Nat → List It} {T : List It} (h : WhO w0 X w d now L T) {v : Value} (hg : w.grownBy w' v.ownBlock) (hv : ∀ b, v.ownBlock = some b → X b ∧ w0.heap.size ≤ b) (hY : ∀ b, Y b → (X b ∨ w.heap.size ≤ b) ∧ b < w'.heap.size) : WhO w0 Y w' d now L T := by
  obtain ⟨o, p, V, mb, h⟩ := h
  have hk : ∀ b, o b ≤ 12 → w'.heap[b]? = w.heap[b]? := fun b e => hg.block b (h.ob b e).2.2 (fun e' => (h.ob b e).2.1 (hv b e'.symm).1)
  refine ⟨o, p, V, mb, ⟨(hk d (by rw [h.od]; omega)).trans h.head, h.map.kept (hk mb (by rw [h.om]; omega)), fun i hi => (h.lv i hi).same (fun b hb => hk b (by rw [h.fpo i hi b hb]; omega)), h.fpo, h.od, h.om, fun b e => ⟨(h.ob b e).1, fun hy => ?_, Nat.lt_of_lt_of_le (h.ob b e).2.2 hg.size⟩, fun b hy => (hY b hy).2, h.base.grown hg h.base.size (fun b e => (hv b e).2)⟩⟩
  rcases (hY b hy).1 with h5 | h5
  · exact (h.ob b e).2.1 h5
  · have := (h.ob b e).2.2; omega
end Go.Proofs.Ythidinaflaogfaa
namespace Go.Proofs.Ythidinaflaogfaa
open Go.RowKit

theorem fits_coarse (n a b : Nat) : fitsB (n % 4) (coarseN n a) (coarseN n b) = decide (fitW n a b) := by
  unfold fitsB
  rw [turn_coarse, turn_coarse, decide_eq_decide]
  exact Iff.rfl

set_option maxRecDepth 100000 in
theorem coarse_any (n t : Nat) (hn : n < 11) (_ : t < 18446744073709551616) (w : World) :
    Calls Try.prog 40 #[.int .i64 (n : Int), .int .u64 (t : Int)] w (Reads (.int .u64 (coarseN n t : Int)) w) := by
  obtain ⟨S, hS⟩ : ∃ S, S = coarseN n t := ⟨_, rfl⟩
  rw [← hS]
  unfold coarseN at hS
  obtain rfl | rfl | rfl | rfl | rfl | rfl | rfl | rfl | rfl | rfl | rfl : n = 0 ∨ n = 1 ∨ n = 2 ∨ n = 3 ∨ n = 4 ∨ n = 5 ∨ n = 6 ∨ n = 7 ∨ n = 8 ∨ n = 9 ∨ n = 10 := by omega
  all_goals
    have HS := Lib.hid hS
    clear hS
    go_enter Try.func40, Try.ntmps40
    go_wp2
    go_ret
    exact ⟨ret_u64 (by have := HS.out; omega), 0, rfl⟩

set_option maxRecDepth 100000 in
set_option maxHeartbeats 1600000 in
theorem place_any {d now at' : Nat} {p : Nat → Nat} {w : World} (hc : w.cell? ⟨d, 0, none⟩ = some (.int .u64 (now : Int))) (hp : ∀ i, i < 11 → w.cell? ⟨d, 1 + i, none⟩ = some (.pointer (some ⟨p i, 0, none⟩))) (hl : ∀ i, i < 11 → Low w (p i) (i % 4))
    (hn : now < 18446744073709551616) (ha : at' < 18446744073709551616) :
    Calls Try.prog 34 #[.pointer (some ⟨d, 0, none⟩), .int .u64 (at' : Int)] w fun r w' => ∃ n q, n < 11 ∧ IsPl now (max at' now) n ∧ r = .returned (.tuple #[.pointer (some ⟨p n, 0, none⟩), .int .u64 (coarseN n (max at' now) : Int)]) ∧ w' = w.drewN q := by
  obtain ⟨m, hm⟩ : ∃ m, m = max at' now := ⟨_, rfl⟩
  have hmi : max (at' : Int) (now : Int) = (m : Int) := by rw [hm]; omega
  have hmb : m < 18446744073709551616 := by omega
  rw [← hm]
  have HC := Lib.hid (fun n t hn ht w => coarse_any n t hn ht w)
  have HL := Lib.hid hl
  have HP := Lib.hid hp
  have HN := Lib.hid (And.intro hn hmb)
  clear hm hl hp hn ha hmb
  go_enter Try.func34, Try.ntmps34
  go_wp2
  go_loopw [6] (fun i wr => ∃ j q : Nat, j ≤ 10 ∧ i = .int .i64 (j : Int) ∧ RowKit.Hid (∀ k, k < j → ¬ fitW k now m) ∧ wr = w.drewN q) (fun i _ => 10 - (intOf i).toNat)
  case atStart => exact ⟨0, 0, by decide, rfl, Lib.hid (fun k hk => absurd hk (by omega)), rfl⟩
  case round =>
    obtain ⟨j, q', hj, rfl, Hno, hwr⟩ := hrel
    have hj11 : (j : Int) < 11 := by omega
    have q0 : wr.cell? ⟨d, 1 + j, none⟩ = some (.pointer (some ⟨p j, 0, none⟩)) := by rw [hwr]; exact HP.out j (by omega)
    have q1 : wr.cell? ⟨d, 0, none⟩ = some (.int .u64 (now : Int)) := by rw [hwr]; exact hc
    have Hwr := Lib.hid hwr
    have HF := Lib.hid (fun q => fits_any (p j) (j % 4) (coarseN j now) (coarseN j m) (wr.drewN q) (by omega) (Nat.lt_of_le_of_lt (coarse_le _ _) HN.out.1) (Nat.lt_of_le_of_lt (coarse_le _ _) HN.out.2) (by rw [Hwr.out]; exact HL.out j (by omega)))
    have HA := Lib.hid (show ∀ W, Calls Try.prog 40 #[.int .i64 (j : Int), .int .u64 (now : Int)] W fun r w' => r = .returned (.int .u64 (coarseN j now : Int)) ∧ ∃ q, w' = W.drewN q from fun W => HC.out j now (by omega) HN.out.1 W)
    have HB := Lib.hid (show ∀ W, Calls Try.prog 40 #[.int .i64 (j : Int), .int .u64 (m : Int)] W fun r w' => r = .returned (.int .u64 (coarseN j m : Int)) ∧ ∃ q, w' = W.drewN q from fun W => HC.out j m (by omega) HN.out.2 W)
    rw [fits_coarse] at HF
    clear hwr
    by_cases hf : fitW j now m
    · rw [decide_eq_true hf] at HF
      have Hf := Lib.hid (show IsPl now m j from ⟨hf, Hno.out⟩)
      clear hf
      go_wp2_with fail
      go_quiet (first | (go_at_call 40; with_reducible exact Calls.quiet_of (HA.out _)) | (go_at_call 40; with_reducible exact Calls.quiet_of (HB.out _)) | (go_at_call 42; exact Calls.quiet_of (HF.out _)))
      obtain ⟨wq, hwq⟩ : ∃ wq, wq = wr.drewN nq := ⟨_, rfl⟩
      rw [← hwq]
      have q2 : wq.cell? ⟨d, 1 + j, none⟩ = some (.pointer (some ⟨p j, 0, none⟩)) := by rw [hwq]; exact q0
      have Hwq := Lib.hid hwq
      clear hwq q0 q1
      go_wp2_with fail
      go_quiet (first | (go_at_call 40; with_reducible exact Calls.quiet_of (HB.out _)))
      go_wp2
      refine bodyPost_ret (results_tmp2 rfl _ _ _) rfl ?_
      exact ⟨j, _, by omega, Hf.out, rfl, by rw [Hwq.out, Hwr.out, World.drewN_drewN, World.drewN_drewN]⟩
    · rw [decide_eq_false hf] at HF
      have hlt : j < 10 := by
        rcases Nat.lt_or_ge j 10 with h | h
        · exact h
        · obtain rfl : j = 10 := by omega
          exact absurd (fitW_ten HN.out.1 HN.out.2) hf
      have Hn2 := Lib.hid (show ∀ k, k < j + 1 → ¬ fitW k now m from fun k hk => by
        by_cases e : k = j
        · rw [e]; exact hf
        · exact Hno.out k (by omega))
      clear hf
      go_wp2_with fail
      go_quiet (first | (go_at_call 40; with_reducible exact Calls.quiet_of (HA.out _)) | (go_at_call 40; with_reducible exact Calls.quiet_of (HB.out _)) | (go_at_call 42; exact Calls.quiet_of (HF.out _)))
      go_wp2
      go_roundw
      case rel => exact ⟨j + 1, q' + nq, by omega, by go_num, Hn2, by rw [← World.drewN_drewN, ← Hwr.out]⟩
      case measure => simp [intOf]; omega
end Go.Proofs.Ythidinaflaogfaa
namespace Go.Proofs.Ythidinaflaogfaa
open Go.RowKit

theorem below_drew (w : World) (q : Nat) : Below w.heap.size w (w.drewN q) := ⟨rfl, rfl, rfl, Nat.le_refl _, fun _ _ => rfl⟩

/-- What put leaves. -/
def PutW (w0 : World) (X : Nat → Prop) (w : World) (d now : Nat) (L : Nat → List It) (T : List It) (t : It) (r : Ending) (w' : World) : Prop :=
  r = .returned (.tuple #[]) ∧ ∃ n, n < 11 ∧ IsPl now (max t.2 now) n ∧ WhEnd w0 X w d now (updL L n (if itW now n t ∈ L n then L n else insI (itW now n t) (L n))) T w'

theorem Wh.placed {w0 : World} {X : Nat → Prop} {w : World} {d now : Nat} {L : Nat → List It} {T : List It} {o p : Nat → Nat} {V : Nat → List Value} {mb : Nat} (h : Wh w0 X w d now L T o p V mb) (hn : now < 18446744073709551616) (a : Nat) (ha : a < 18446744073709551616) :
    Calls Try.prog 34 #[.pointer (some ⟨d, 0, none⟩), .int .u64 (a : Int)] w fun r w' => ∃ n, n < 11 ∧ IsPl now (max a now) n ∧ r = .returned (.tuple #[.pointer (some ⟨p n, 0, none⟩), .int .u64 (coarseN n (max a now) : Int)]) ∧ Wh w0 X w' d now L T o p V mb ∧ Below w.heap.size w w' := by
  refine (place_any h.tick (fun i hi => h.ptr hi) (fun i hi => h.low hi) hn ha).mono ?_
  rintro r w' ⟨n, q, hn11, hp, rfl, rfl⟩
  exact ⟨n, hn11, hp, rfl, h.below (below_drew w q), below_drew w q⟩

set_option maxRecDepth 100000 in
theorem wput_any {w0 : World} {X : Nat → Prop} {w : World} {d now : Nat} {L : Nat → List It} {T : List It} (h : WhO w0 X w d now L T) (hn : now < 9223372036854775808) (hs : ∀ n, srtI (L n)) (hl : ∀ n, (L n).length ≤ 999) (t : It) (ht : t.2 < 9223372036854775808) :
    Calls Try.prog 31 #[.pointer (some ⟨d, 0, none⟩), .int .u64 (t.1 : Int), .int .u64 (t.2 : Int)] w (PutW w0 X w d now L T t) := by
  obtain ⟨o, p, V, mb, h⟩ := h
  have HP := Lib.hid (h.placed (by omega) t.2 (by omega))
  have Hmx := Lib.hid (show max t.2 now < 9223372036854775808 by omega)
  have Hs := Lib.hid (And.intro hs hl)
  have Hx := Lib.hid h.xb
  have Hb := Lib.hid h.base.size
  obtain ⟨t1, t2⟩ := t
  clear h hs hl
  go_enter Try.func31, Try.ntmps31
  go_wp2_with fail
  refine HP.out.mono ?_
  rintro r w1 ⟨n, hn11, hp, rfl, h1, hb1⟩
  have Hp := Lib.hid hp
  have H1 := Lib.hid h1
  have Hb1 := Lib.hid hb1
  have HPut := Lib.hid (own_put (h1.lvO hn11) (by omega) (Hs.out.1 n) (Hs.out.2 n) (itW now n (t1, t2)) (Nat.lt_of_le_of_lt (coarse_le _ _) (Nat.lt_of_lt_of_le Hmx.out (by decide))))
  have HE := Lib.hid (fun l w' => h1.step hn11 (l := l) (w' := w'))
  clear h1 hb1 hp
  go_wp2_with fail
  refine HPut.out.mono ?_
  rintro r w2 ⟨rfl, hE⟩
  obtain ⟨⟨o', V', h2⟩, hk, hbel⟩ := HE.out _ _ hE
  have H2 := Lib.hid h2
  have Hk := Lib.hid hk
  have Hbl := Lib.hid hbel
  clear h2 hk hbel hE
  go_wp2
  go_end0
  exact ⟨rfl, n, hn11, Hp.out, WhEnd.pre Hb1.out Hx.out Hb.out ⟨⟨o', p, V', mb, H2.out⟩, Hk.out, Hbl.out⟩⟩

set_option maxRecDepth 100000 in
theorem whas_any {w0 : World} {X : Nat → Prop} {w : World} {d now : Nat} {L : Nat → List It} {T : List It} (h : WhO w0 X w d now L T) (id : Nat) (hid : id < 18446744073709551616) :
    Calls Try.prog 25 #[.pointer (some ⟨d, 0, none⟩), .int .u64 (id : Int)] w fun r w' => r = .returned (.bool (hasW T id)) ∧ w' = w := by
  obtain ⟨o, p, V, mb, h⟩ := h
  have q0 := h.mapc
  obtain ⟨c, hrun, _⟩ := h.map.look id hid
  generalize hasW T id = b at *
  clear h
  go_enter Try.func25, Try.ntmps25
  go_wp2
  go_ret
  exact ⟨rfl, rfl⟩

set_option maxRecDepth 100000 in
theorem wcount_any {w0 : World} {X : Nat → Prop} {w : World} {d now : Nat} {L : Nat → List It} {T : List It} (h : WhO w0 X w d now L T) {n : Nat} (hn : T.length = n) :
    Calls Try.prog 18 #[.pointer (some ⟨d, 0, none⟩)] w fun r w' => r = .returned (.int .i64 (n : Int)) ∧ w' = w := by
  obtain ⟨o, p, V, mb, h⟩ := h
  have q0 := h.mapc
  have hrun := fun ty => h.map.len ty
  rw [hn] at hrun
  clear h
  go_enter Try.func18, Try.ntmps18
  go_wp2
  go_ret
  exact ⟨rfl, rfl⟩

theorem wnow_any {w0 : World} {X : Nat → Prop} {w : World} {d now : Nat} {L : Nat → List It} {T : List It} (h : WhO w0 X w d now L T) :
    Calls Try.prog 23 #[.pointer (some ⟨d, 0, none⟩)] w fun r w' => r = .returned (.int .u64 (now : Int)) ∧ w' = w := by
  obtain ⟨o, p, V, mb, h⟩ := h
  have q0 := h.tick
  clear h
  go_enter Try.func23, Try.ntmps23
  go_wp2
  go_ret
  exact ⟨rfl, rfl⟩
end Go.Proofs.Ythidinaflaogfaa
namespace Go.Proofs.Ythidinaflaogfaa
open Go.RowKit

/-- A wheel of the law's own: its tick and its timers. -/
def WhS (w0 : World) (X : Nat → Prop) (w : World) (d now : Nat) (T : List It) : Prop := ∃ L, WhO w0 X w d now L T ∧ GoodP now T (fun _ => True) L ∧ TimW T ∧ now < 9223372036854775808

/-- What a change leaves. -/
structure WhSEnd (w0 : World) (X : Nat → Prop) (w : World) (d now : Nat) (T : List It) (w' : World) : Prop where
  wh : WhS w0 X w' d now T
  keep : ∀ b, X b → w'.heap[b]? = w.heap[b]?
  below : Below w0.heap.size w w'

theorem WhS.below {w0 : World} {X : Nat → Prop} {w w' : World} {d now : Nat} {T : List It} (h : WhS w0 X w d now T) (hb : Below w.heap.size w w') : WhS w0 X w' d now T := by
  obtain ⟨L, h1, h2⟩ := h
  exact ⟨L, h1.below hb, h2⟩
theorem WhS.base {w0 : World} {X : Nat → Prop} {w : World} {d now : Nat} {T : List It} (h : WhS w0 X w d now T) : Below w0.heap.size w0 w := by obtain ⟨_, h, _⟩ := h; exact h.base
theorem WhS.xb {w0 : World} {X : Nat → Prop} {w : World} {d now : Nat} {T : List It} (h : WhS w0 X w d now T) : ∀ b, X b → b < w.heap.size := by obtain ⟨_, h, _⟩ := h; exact h.xb
theorem WhS.tim {w0 : World} {X : Nat → Prop} {w : World} {d now : Nat} {T : List It} (h : WhS w0 X w d now T) : TimW T := by obtain ⟨_, _, _, h, _⟩ := h; exact h
theorem WhS.swap {w0 : World} {X Y : Nat → Prop} {w w' : World} {d now : Nat} {T : List It} (h : WhS w0 X w d now T) (hb : Below w.heap.size w w') (hY : ∀ b, Y b → (X b ∨ w.heap.size ≤ b) ∧ b < w'.heap.size) : WhS w0 Y w' d now T := by
  obtain ⟨L, h1, h2⟩ := h
  exact ⟨L, h1.swap hb hY, h2⟩
theorem WhS.grown {w0 : World} {X Y : Nat → Prop} {w w' : World} {d now : Nat} {T : List It} (h : WhS w0 X w d now T) {v : Value} (hg : w.grownBy w' v.ownBlock) (hv : ∀ b, v.ownBlock = some b → X b ∧ w0.heap.size ≤ b) (hY : ∀ b, Y b → (X b ∨ w.heap.size ≤ b) ∧ b < w'.heap.size) : WhS w0 Y w' d now T := by
  obtain ⟨L, h1, h2⟩ := h
  exact ⟨L, h1.grown hg hv hY, h2⟩
theorem WhSEnd.same {w0 : World} {X : Nat → Prop} {w w' : World} {d now : Nat} {T : List It} (h : WhS w0 X w d now T) (hb : Below w.heap.size w w') : WhSEnd w0 X w d now T w' :=
  ⟨h.below hb, fun b hx => hb.block b (h.xb b hx), hb.mono h.base.size⟩
theorem WhEnd.toS {w0 : World} {X : Nat → Prop} {w w' : World} {d now : Nat} {T : List It} {L : Nat → List It} (h : WhEnd w0 X w d now L T w') (hg : GoodP now T (fun _ => True) L) (hT : TimW T) (hn : now < 9223372036854775808) : WhSEnd w0 X w d now T w' :=
  ⟨⟨L, h.wh, hg, hT, hn⟩, h.keep, h.below⟩

theorem hasW_uniq {T : List It} (hT : TimW T) {id : Nat} (h : hasW T id = true) : ∃ t, t ∈ T ∧ t.1 = id ∧ ∀ u ∈ T, u.1 = id → u = t := by
  obtain ⟨t, ht, rfl⟩ := hasW_iff.1 h
  exact ⟨t, ht, rfl, fun u hu e => hT.ids u hu t ht e⟩

theorem TimW.ins {T : List It} (h : TimW T) {t : It} (hno : hasW T t.1 = false) (ha : t.2 < 9223372036854775808) (hi : t.1 < 18446744073709551616) : TimW (insI t T) := by
  have hnm : t ∉ T := fun hm => hasW_no.1 hno t hm rfl
  refine ⟨srt_ins h.srt hnm, fun a ha' b hb e => ?_, fun a ha' => ?_, fun a ha' => ?_⟩
  · rcases (mem_ins h.srt).1 ha' with rfl | h1 <;> rcases (mem_ins h.srt).1 hb with rfl | h2
    · rfl
    · exact absurd e.symm (hasW_no.1 hno b h2)
    · exact absurd e (hasW_no.1 hno a h1)
    · exact h.ids a h1 b h2 e
  · rcases (mem_ins h.srt).1 ha' with rfl | h1
    · exact ha
    · exact h.tick a h1
  · rcases (mem_ins h.srt).1 ha' with rfl | h1
    · exact hi
    · exact h.idb a h1

theorem TimW.sub {T T' : List It} (h : TimW T) (hs : T'.Sublist T) : TimW T' :=
  ⟨h.srt.sublist hs, fun a ha b hb e => h.ids a (hs.subset ha) b (hs.subset hb) e, fun a ha => h.tick a (hs.subset ha), fun a ha => h.idb a (hs.subset ha)⟩

/-- What Schedule answers. -/
def schedC (T : List It) (t : It) : Int := if 9223372036854775807 < t.2 then 2 else if hasW T t.1 = true then 7 else 0
/-- What Schedule leaves. -/
def schedT (T : List It) (t : It) : List It := if 9223372036854775807 < t.2 then T else if hasW T t.1 = true then T else insI t T

set_option maxRecDepth 100000 in
theorem wsched_any {w0 : World} {X : Nat → Prop} {w : World} {d now : Nat} {T : List It} (h : WhS w0 X w d now T) (hl : T.length ≤ 990) (t : It) (hi : t.1 < 18446744073709551616) (ha : t.2 < 18446744073709551616) :
    Calls Try.prog 13 #[.pointer (some ⟨d, 0, none⟩), .int .u64 (t.1 : Int), .int .u64 (t.2 : Int)] w fun r w' => r = .returned (.int .i64 (schedC T t)) ∧ WhSEnd w0 X w d now (schedT T t) w' := by
  unfold schedC schedT
  by_cases hbig : 9223372036854775807 < t.2
  · rw [if_pos hbig, if_pos hbig]
    have hb : (9223372036854775807 : Int) < (t.2 : Int) := by omega
    have H := Lib.hid h
    obtain ⟨t1, t2⟩ := t
    clear h hbig
    go_enter Try.func13, Try.ntmps13
    go_wp2
    go_ret
    exact ⟨rfl, WhSEnd.same H.out (Below.refl _ _)⟩
  · rw [if_neg hbig, if_neg hbig]
    have hb : ¬ (9223372036854775807 : Int) < (t.2 : Int) := by omega
    have HH : Hid (Calls Try.prog 25 #[.pointer (some ⟨d, 0, none⟩), .int .u64 (t.1 : Int)] w fun r w' => r = .returned (.bool (hasW T t.1)) ∧ w' = w) := by
      obtain ⟨L, h1, _⟩ := h
      exact Lib.hid (whas_any h1 t.1 hi)
    cases hh : hasW T t.1 with
    | true =>
      rw [hh] at HH
      rw [if_pos rfl, if_pos rfl]
      have H := Lib.hid h
      obtain ⟨t1, t2⟩ := t
      clear h hbig hh
      go_enter Try.func13, Try.ntmps13
      go_wp2_with fail
      refine HH.out.mono ?_
      rintro r w1 ⟨rfl, rfl⟩
      go_wp2
      go_ret
      exact ⟨rfl, WhSEnd.same H.out (Below.refl _ _)⟩
    | false =>
      rw [hh] at HH
      rw [if_neg (by decide), if_neg (by decide)]
      obtain ⟨L, ⟨o, p, V, mb, h1⟩, h2, h3, h4⟩ := h
      have q0 := h1.mapc
      have hm : ∀ x, x ∈ insI t T ↔ x = t ∨ x ∈ T := fun x => mem_ins h3.srt
      obtain ⟨w1, hrun, g1, g2⟩ := h1.map.put t hi ha hh (by omega) hm (len_ins t T)
      obtain ⟨g3, g4, g5⟩ := h1.setMap g1 g2
      have hT' := h3.ins hh (by omega) hi
      have hG := h2.congr (T' := insI t T) (P' := fun u => u ≠ t) (fun u => by
        rw [hm]
        constructor
        · rintro ⟨hu, _⟩
          exact ⟨.inr hu, fun e => hasW_no.1 hh u hu (by rw [e])⟩
        · rintro ⟨rfl | hu, hne⟩
          · exact absurd rfl hne
          · exact ⟨hu, trivial⟩)
      have HP := Lib.hid (wput_any (t := t) ⟨o, p, V, mb, g3⟩ h4 h2.srt (fun n => Nat.le_trans (h2.len n) (by omega)) (by omega))
      have Hfin := Lib.hid (show ∀ n w', IsPl now (max t.2 now) n → WhEnd w0 X w1 d now (updL L n (if itW now n t ∈ L n then L n else insI (itW now n t) (L n))) (insI t T) w' → WhSEnd w0 X w d now (insI t T) w' from fun n w' hp hE =>
        WhEnd.toS (L := updL L n (if itW now n t ∈ L n then L n else insI (itW now n t) (L n))) ⟨hE.wh, fun b hx => (hE.keep b hx).trans (g4 b hx), g5.trans hE.below⟩ ((hG.put ((hm t).2 (.inl rfl)) hp).congr (fun u => ⟨fun e => ⟨e.1, trivial⟩, fun e => ⟨e.1, by
          by_cases e1 : u = t
          · exact .inr e1
          · exact .inl e1⟩⟩)) hT' h4)
      obtain ⟨t1, t2⟩ := t
      change (Instr.mapUpdate _ _ (.int .u64 (t1 : Int)) (.int .u64 (t2 : Int))).run _ _ = _ at hrun
      clear h1 h2 h3 h4 hm g1 g2 g3 g4 g5 hT' hG hbig hh
      go_enter Try.func13, Try.ntmps13
      go_wp2_with fail
      refine HH.out.mono ?_
      rintro r w2 ⟨rfl, rfl⟩
      go_wp2_with fail
      refine HP.out.mono ?_
      rintro r w2 ⟨rfl, n, hn, hp, hE⟩
      have He := Lib.hid (Hfin.out n w2 hp hE)
      clear hp hE
      go_wp2
      go_ret
      exact ⟨rfl, He.out⟩

/-- What Cancel leaves. -/
def cancT (T : List It) (id : Nat) : List It := T.filter fun t => !decide (t.1 = id)

theorem cancT_no {T : List It} {id : Nat} (h : hasW T id = false) : cancT T id = T := List.filter_eq_self.2 fun t ht => by
  rw [decide_eq_false (hasW_no.1 h t ht)]; rfl
theorem mem_cancT {T : List It} {id : Nat} {x : It} : x ∈ cancT T id ↔ x ∈ T ∧ x.1 ≠ id := by unfold cancT; rw [List.mem_filter]; simp

theorem cancT_len {T : List It} (h : TimW T) {t : It} (ht : t ∈ T) : (cancT T t.1).length + 1 = T.length := by
  obtain ⟨u, v, rfl⟩ := List.append_of_mem ht
  have hu : ∀ a ∈ u ++ v, a.1 ≠ t.1 := fun a ha e => by
    have ha' : a ∈ u ++ t :: v := by
      rw [List.mem_append, List.mem_cons]
      rcases List.mem_append.1 ha with h1 | h1
      · exact .inl h1
      · exact .inr (.inr h1)
    obtain rfl := h.ids a ha' t ht e
    have hn := srt_nodup h.srt
    rw [List.nodup_append, List.nodup_cons] at hn
    rcases List.mem_append.1 ha with h1 | h1
    · exact hn.2.2 a h1 a List.mem_cons_self rfl
    · exact hn.2.1.1 h1
  have e1 : cancT (u ++ t :: v) t.1 = u ++ v := by
    unfold cancT
    rw [List.filter_append, List.filter_cons, if_neg (by simp), ← List.filter_append]
    exact List.filter_eq_self.2 fun a ha => by rw [decide_eq_false (hu a ha)]; rfl
  rw [e1]
  simp
  omega

set_option maxRecDepth 100000 in
theorem wcancel_any {w0 : World} {X : Nat → Prop} {w : World} {d now : Nat} {T : List It} (h : WhS w0 X w d now T) (hl : T.length ≤ 990) (id : Nat) (hi : id < 18446744073709551616) :
    Calls Try.prog 17 #[.pointer (some ⟨d, 0, none⟩), .int .u64 (id : Int)] w fun r w' => r = .returned (.int .i64 (if hasW T id = true then 0 else 6)) ∧ WhSEnd w0 X w d now (cancT T id) w' := by
  have H := Lib.hid h
  obtain ⟨L, ⟨o, p, V, mb, h1⟩, h2, h3, h4⟩ := h
  have q0 := h1.mapc
  obtain ⟨c, hrun, hc⟩ := h1.map.look id hi
  cases hh : hasW T id with
  | false =>
    rw [hh] at hrun
    rw [if_neg (by decide), cancT_no hh]
    clear h1 h2 h3 h4 hh hc
    go_enter Try.func17, Try.ntmps17
    go_wp2
    go_ret
    exact ⟨rfl, WhSEnd.same H.out (Below.refl _ _)⟩
  | true =>
    rw [hh] at hrun
    rw [if_pos rfl]
    obtain ⟨t, ht, rfl, hun⟩ := hasW_uniq h3 hh
    obtain rfl := hc t ht rfl
    have hta := h3.tick t ht
    have HP := Lib.hid (h1.placed (by omega) t.2 (by omega))
    have HRem := Lib.hid (fun (W : World) (h1 : Wh w0 X W d now L T o p V mb) n (hn : n < 11) => own_remove (h1.lvO hn) (by omega) (h2.srt n) (Nat.le_trans (h2.len n) (by omega)) (itW now n t) (Nat.lt_of_le_of_lt (coarse_le _ _) (show max t.2 now < 18446744073709551616 by omega)))
    have Hfin := Lib.hid (show ∀ n w1 w2 w3 o' V', n < 11 → IsPl now (max t.2 now) n → Below w.heap.size w w1 → (∀ b, X b → w2.heap[b]? = w1.heap[b]?) → Below w0.heap.size w1 w2 → Wh w0 X w2 d now (updL L n (delI (itW now n t) (L n))) T o' p V' mb → MapT w3 mb (cancT T t.1) → w2.grownBy w3 (some mb) → WhSEnd w0 X w d now (cancT T t.1) w3 from fun n w1 w2 w3 o' V' hn hp hb1 hk hb2 hW hm hg => by
      obtain ⟨g3, g4, g5⟩ := hW.setMap hm hg
      refine WhEnd.toS (L := updL L n (delI (itW now n t) (L n))) ⟨⟨o', p, V', mb, g3⟩, fun b hx => ((g4 b hx).trans (hk b hx)).trans (hb1.block b (h1.xb b hx)), ((hb1.mono h1.base.size).trans hb2).trans g5⟩ ((h2.del h3.ids ht hp).congr (fun u => ?_)) (h3.sub List.filter_sublist) h4
      rw [mem_cancT]
      constructor
      · rintro ⟨hu, _, hne⟩
        exact ⟨⟨hu, fun e => hne (hun u hu e)⟩, trivial⟩
      · rintro ⟨⟨hu, hne⟩, _⟩
        exact ⟨hu, trivial, fun e => hne (by rw [e])⟩)
    have HD := Lib.hid (fun (W : World) (L' : Nat → List It) (o' : Nat → Nat) (V' : Nat → List Value) (hW : Wh w0 X W d now L' T o' p V' mb) ty => hW.map.del (T' := cancT T t.1) t ht hi h3.ids (fun x => by
      rw [mem_cancT]
      exact ⟨fun e => ⟨e.1, fun e' => e.2 (by rw [e'])⟩, fun e => ⟨e.1, fun e' => e.2 (hun x e.1 e')⟩⟩) (cancT_len h3 ht) ty)
    obtain ⟨t1, t2⟩ := t
    change (Instr.lookup _ _ (.int .u64 (t1 : Int)) true).run _ _ = .ok (.tuple #[.int .u64 (t2 : Int), _]) _ at hrun
    clear h1 h2 h3 h4 hh hc ht hun hta
    go_enter Try.func17, Try.ntmps17
    go_wp2_with fail
    refine HP.out.mono ?_
    rintro r w1 ⟨n, hn, hp, rfl, hW, hb1⟩
    have HW := Lib.hid hW
    have Hp := Lib.hid (And.intro hp hb1)
    clear hp hb1 hW
    go_wp2_with fail
    refine (HRem.out _ HW.out n hn).mono ?_
    rintro r w2 ⟨rfl, hE⟩
    obtain ⟨⟨o', V', h5⟩, hk, hbel⟩ := HW.out.step hn hE
    have q1 := h5.mapc
    obtain ⟨w3, hdel, g1, g2⟩ := HD.out _ _ _ _ h5 0
    have He := Lib.hid (Hfin.out n w1 w2 w3 o' V' hn Hp.out.1 Hp.out.2 hk hbel h5 g1 g2)
    clear h5 hk hbel hE g1 g2
    go_wp2
    go_ret
    exact ⟨rfl, He.out⟩
end Go.Proofs.Ythidinaflaogfaa
