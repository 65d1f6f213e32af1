/- The walk of Put. -/
import Derived.Test.YthidinaflaogfaaLvFind
import Derived.OneCell
import Derived.Deep.RegionHeld3
import Derived.Deep.RegionLaw
namespace Go.Proofs.Ythidinaflaogfaa
open Go.RowKit

/-- Nothing but blocks of S and new ones has turned. -/
structure Chg (S : Nat → Prop) (w w' : World) : Prop where
  os : w'.os = w.os
  tape : w'.tape = w.tape
  output : w'.output = w.output
  size : w.heap.size ≤ w'.heap.size
  block : ∀ b, b < w.heap.size → ¬ S b → w'.heap[b]? = w.heap[b]?

theorem Chg.refl (S : Nat → Prop) (w : World) : Chg S w w := ⟨rfl, rfl, rfl, Nat.le_refl _, fun _ _ _ => rfl⟩
theorem Chg.of_below {S : Nat → Prop} {w w' : World} (h : Below w.heap.size w w') : Chg S w w' := ⟨h.os, h.tape, h.output, h.size, fun b hb _ => h.block b hb⟩
theorem Chg.trans {S : Nat → Prop} {w w1 w2 : World} (h : Chg S w w1) (h1 : Chg S w1 w2) : Chg S w w2 :=
  ⟨h1.os.trans h.os, h1.tape.trans h.tape, h1.output.trans h.output, Nat.le_trans h.size h1.size, fun b hb hs => (h1.block b (Nat.lt_of_lt_of_le hb h.size) hs).trans (h.block b hb hs)⟩

/-- Each slot's items, one turned. -/
def upd (F : Nat → List It) (s : Nat) (L : List It) (t : Nat) : List It := if t = s then L else F t

/-- What a change leaves. -/
def LvStep (S : Nat → Prop) (w : World) (d k : Nat) (F : Nat → List It) (w' : World) : Prop := ∃ S' V', LvAt S' w' d k V' F ∧ (∀ b, S' b → S b ∨ w.heap.size ≤ b) ∧ Chg S w w'

theorem LvStep.after {S : Nat → Prop} {w w1 : World} {d k : Nat} {F : Nat → List It} {w' : World} (hb : Below w.heap.size w w1) (h : LvStep S w1 d k F w') : LvStep S w d k F w' := by
  obtain ⟨S', V', h1, h2, h3⟩ := h
  exact ⟨S', V', h1, fun b hs => (h2 b hs).imp id (fun h => Nat.le_trans hb.size h), (Chg.of_below hb).trans h3⟩

theorem LvAt.put {S : Nat → Prop} {w : World} {d k : Nat} {V : List Value} {F : Nat → List It} (h : LvAt S w d k V F) {s : Nat} {v : Value} (hv : V[s]? = some v) {w1 : World} (hg : w.grownBy w1 v.ownBlock) {v' : Value} {L' : List It}
    (hrow : w1.ownsRow 0 44 2 v' L'.length (flatI L')) (hob : ∀ b, v'.ownBlock = some b → v.ownBlock = some b ∨ w.heap.size ≤ b) : LvStep S w d k (upd F s L') (w1.setCell ⟨d, 1 + s, none⟩ v') := by
  have hd : d < w.heap.size := (Array.getElem?_eq_some_iff.1 h.head).1
  have hvd : ∀ b, v.ownBlock = some b → b ≠ d := fun b hb => ((h.slot s v hv).2 b hb).2
  have hvd' : ∀ b, v'.ownBlock = some b → b ≠ d := fun b hb => by
    rcases hob b hb with h1 | h1
    · exact hvd b h1
    · omega
  have hsl : s < V.length := (List.getElem?_eq_some_iff.1 hv).1
  have hh : w1.heap[d]? = some (.cells (lvC k V) 83 (0, 0)) := (hg.block d hd (fun e => hvd d e.symm rfl)).trans h.head
  refine ⟨fun b => S b ∨ v'.ownBlock = some b, V.set s v', ⟨?_, by rw [List.length_set]; exact h.len, .inl h.own, fun t u hu => ?_, fun t r u z b htr hu hz hb => ?_⟩, fun b hb => ?_, ?_⟩
  · rw [Joins.block_setCell (i := 1 + s) hh v']
    congr 2
    unfold lvC
    apply Array.ext'
    rw [Array.toList_setIfInBounds, Nat.add_comm]
    rfl
  · rw [List.getElem?_set] at hu
    by_cases hts : s = t
    · rw [if_pos hts, if_pos hsl] at hu
      cases hu
      subst hts
      refine ⟨?_, fun b hb => ⟨.inr hb, hvd' b hb⟩⟩
      unfold upd
      rw [if_pos rfl]
      exact ownsRow_setCell_other hrow (fun e => hvd' d e rfl) _
    · rw [if_neg hts] at hu
      obtain ⟨h1, h2⟩ := h.slot t u hu
      refine ⟨?_, fun b hb => ⟨.inl (h2 b hb).1, (h2 b hb).2⟩⟩
      unfold upd
      rw [if_neg (fun e => hts e.symm)]
      refine ownsRow_setCell_other (h1.kept hg ?_) (fun e => (h2 d e).2 rfl) _
      cases hb : u.ownBlock with
      | none => exact .inl rfl
      | some b => exact .inr (fun e => h.apart t s u v b (fun e => hts e.symm) hu hv hb e.symm)
  · rw [List.getElem?_set] at hu hz
    by_cases h1 : s = t
    · rw [if_pos h1, if_pos hsl] at hu
      cases hu
      rw [if_neg (fun e => htr (h1.symm.trans e))] at hz
      intro hzb
      rcases hob b hb with h3 | h3
      · exact h.apart s r v z b (fun e => htr (h1.symm.trans e)) hv hz h3 hzb
      · have := ((h.slot r z hz).1.lt b hzb).2
        omega
    · rw [if_neg h1] at hu
      by_cases h2 : s = r
      · rw [if_pos h2, if_pos hsl] at hz
        cases hz
        intro hzb
        rcases hob b hzb with h3 | h3
        · exact h.apart t s u v b (fun e => h1 e.symm) hu hv hb h3
        · have := ((h.slot t u hu).1.lt b hb).2
          omega
      · rw [if_neg h2] at hz
        exact h.apart t r u z b htr hu hz hb
  · rcases hb with h1 | h1
    · exact .inl h1
    · rcases hob b h1 with h2 | h2
      · exact .inl ((h.slot s v hv).2 b h2).1
      · exact .inr h2
  · refine ⟨hg.os, hg.tape, hg.output, by simpa using hg.size, fun b hb hs => ?_⟩
    rw [heap_setCell_other _ _ _ _ (fun e => hs (by rw [e]; exact h.own))]
    refine hg.block b hb (fun e => hs ((h.slot s v hv).2 b e.symm).1)

/-- What a change of a row of items leaves, the number of items as a letter. -/
def RowEndN (w : World) (v : Value) (L : List It) (N : Nat) (r : Ending) (w' : World) : Prop :=
  ∃ p c, r = .returned (.slice p N c) ∧ w'.ownsRow 0 44 2 (.slice p N c) L.length (flatI L) ∧ w.grownBy w' v.ownBlock ∧ ∀ b, (Value.slice p N c).ownBlock = some b → v.ownBlock = some b ∨ w.heap.size ≤ b

theorem RowEnd.letter {w : World} {v : Value} {L : List It} {N : Nat} (hN : L.length = N) {r : Ending} {w' : World} (h : RowEnd w 0 v L r w') : RowEndN w v L N r w' := by
  obtain ⟨v', rfl, h1, h2, h3⟩ := h
  obtain ⟨p, c, rfl, _⟩ := items_own h1
  subst hN
  refine ⟨p, c, rfl, h1, h2, fun b hb => ?_⟩
  rcases h3 with h3 | h3
  · exact .inl (h3 ▸ hb)
  · rw [h3] at hb; cases hb; exact .inr (Nat.le_refl _)

/-- What Put or Remove answers and leaves. -/
def PutEnd (S : Nat → Prop) (w : World) (d k : Nat) (F : Nat → List It) (b : Bool) (r : Ending) (w' : World) : Prop := r = .returned (.bool b) ∧ LvStep S w d k F w'

theorem LvStep.same {S : Nat → Prop} {w : World} {d k : Nat} {V : List Value} {F : Nat → List It} (h : LvAt S w d k V F) {w' : World} (hb : Below w.heap.size w w') : LvStep S w d k F w' := ⟨S, V, h.below hb, fun _ h => .inl h, Chg.of_below hb⟩

set_option maxRecDepth 100000 in
set_option maxHeartbeats 3200000 in
theorem put_any {S : Nat → Prop} {w : World} {d k : Nat} {V : List Value} {F : Nat → List It} (h : LvAt S w d k V F) (hk : k < 4) (x : It) (hx : x.2 < 18446744073709551616) (K : Nat) (hn : (F (slotN k x.2)).length ≤ 999) (hK : K ≤ (F (slotN k x.2)).length)
    (hlt : ∀ i y, (F (slotN k x.2))[i]? = some y → (cmpI y.1 y.2 x.1 x.2 < 0 ↔ i < K)) (b : Bool) (hb : b = !decide ((F (slotN k x.2))[K]? = some x)) :
    Calls Try.prog 39 #[.pointer (some ⟨d, 0, none⟩), .agg #[.int .u64 (x.1 : Int), .int .u64 (x.2 : Int)]] w
      (PutEnd S w d k (if b = true then upd F (slotN k x.2) ((F (slotN k x.2)).take K ++ x :: (F (slotN k x.2)).drop K) else F) b) := by
  have hs := slotN_lt k x.2
  have HF := Lib.hid (fun W hW => find_any (h.below (w' := W) hW) hk x hx K (by omega) hK hlt)
  obtain ⟨f, hf⟩ : ∃ f, f = decide ((F (slotN k x.2))[K]? = some x) := ⟨_, rfl⟩
  rw [← hf] at hb HF
  clear hf hlt
  generalize slotN k x.2 = s at *
  obtain ⟨w1, hw1⟩ : ∃ w1, w1 = w.alloc (.cells #[.int .u64 (x.1 : Int), .int .u64 (x.2 : Int)] 44) := ⟨_, rfl⟩
  have hb1 : Below w.heap.size w w1 := by rw [hw1]; exact (Below.refl _ _).alloc (Nat.le_refl _) _
  obtain ⟨d0, d1⟩ := box2 w (.int .u64 (x.1 : Int)) (.int .u64 (x.2 : Int)) 44
  rw [← hw1] at d0 d1
  have HF1 := Lib.hid (HF.out w1 hb1)
  have HD := Lib.hid (And.intro d0 d1)
  have Hb1 := Lib.hid hb1
  have H := Lib.hid h
  have Hn := Lib.hid (And.intro hn hK)
  have hsi : (s : Int) < 64 := by omega
  have Hs := Lib.hid hs
  obtain ⟨x1, x2⟩ := x
  clear h HF hb1 hn hK hs
  cases f with
  | true =>
    change b = false at hb
    subst hb
    go_enter Try.func39, Try.ntmps39
    go_upto_region 1 with fail
    rw [← hw1]
    clear hw1
    go_wp2_with fail
    refine HF1.out.mono ?_
    rintro r w2 ⟨rfl, hb2⟩
    have Hb2 := Lib.hid (Hb1.out.trans (hb2.mono Hb1.out.size))
    clear hb2
    go_wp2
    go_ret
    exact ⟨rfl, LvStep.same H.out Hb2.out⟩
  | false =>
    change b = true at hb
    subst hb
    obtain ⟨v, hv, _, p, c, hvp, hI⟩ := H.out.cell Hs.out
    obtain ⟨l, hl⟩ : ∃ l, l = F s := ⟨_, rfl⟩
    rw [← hl] at hvp hI
    have Hnl := Lib.hid (show l.length ≤ 999 ∧ K ≤ l.length from by rw [hl]; exact Hn.out)
    have Hl := Lib.hid hl
    obtain ⟨n, hnl⟩ : ∃ n, n = l.length := ⟨_, rfl⟩
    rw [← hnl] at hvp hI
    obtain ⟨L', hL'⟩ : ∃ L', L' = l.take K ++ (x1, x2) :: l.drop K := ⟨_, rfl⟩
    obtain ⟨N, hN⟩ : ∃ N, L'.length = N := ⟨_, rfl⟩
    rw [← hl, ← hL']
    have HIns := Lib.hid (fun (W : World) (hW : Below w.heap.size w W) => (insert_any (w := (W.alloc (.cells #[.int .u64 (x1 : Int), .int .u64 (x2 : Int)] 44)).drew) (base := 0) (v := v) (l := l)
      (by rw [hl]; exact (((H.out.below (hW.trans ((((Below.refl W.heap.size W).alloc (Nat.le_refl _) _).drew).mono hW.size))).slot s v hv).1)) (by have := Hnl.out.1; omega) (Nat.zero_le _) K Hnl.out.2 W.heap.size (x1, x2) (heap_alloc_new W _) (fun g hg e => by have := ((H.out.slot s v hv).1.lt g hg).2; have := hW.size; omega)).mono fun r w' h => RowEnd.letter (N := N) (by rw [← hN, hL']) h)
    have hcv := fun (W : World) (hW : Below w.heap.size w W) => (H.out.below hW).cell (s := s) Hs.out
    have Hcv := Lib.hid (show ∀ W, Below w.heap.size w W → W.cell? ⟨d, 1 + s, none⟩ = some (.slice p n c) from fun W hW => by
      obtain ⟨v2, h1, h2, _⟩ := hcv W hW
      rw [hv] at h1
      cases h1
      rw [h2, hvp])
    have Hfin := Lib.hid (fun (W : World) (hW : Below w.heap.size w W) (w1 : World) hg v' hrow hob => LvStep.after hW ((H.out.below hW).put hv (w1 := w1) (v' := v') (L' := L') hg hrow hob))
    have hle := hI.le
    have hmx := hI.max
    have hKn : (K : Int) ≤ (n : Int) := by have := Hnl.out.2; omega
    have hdb : ∀ b, v.ownBlock = some b → b ≠ d := fun b hb => ((H.out.slot s v hv).2 b hb).2
    rw [hvp] at HIns Hfin hdb
    have Hdb := Lib.hid hdb
    have Hbx := Lib.hid (show ∀ b, (Value.slice p n c).ownBlock = some b → b ≠ w.heap.size from fun b hb => by rw [← hvp] at hb; have := ((H.out.slot s v hv).1.lt b hb).2; omega)
    have Hdlt := Lib.hid ((Array.getElem?_eq_some_iff.1 H.out.head).1)
    have Hhead := Lib.hid (fun (W : World) (hW : Below w.heap.size w W) => (H.out.below hW).head)
    have HL := Lib.hid hL'
    clear hcv hI hv hl hnl hL' hdb
    go_enter Try.func39, Try.ntmps39
    go_upto_region 1 with fail
    rw [← hw1]
    clear hw1
    go_wp2_with fail
    refine HF1.out.mono ?_
    rintro r w2 ⟨rfl, hb2⟩
    have Hb2 := Lib.hid (Hb1.out.trans (hb2.mono Hb1.out.size))
    have e0 := cell_below hb2 HD.out.1
    have e1 := cell_below hb2 HD.out.2
    have q0 := Hcv.out w2 Hb2.out
    clear hb2
    have qf : w2.frozen? ⟨d, 1 + s, none⟩ = false := by simp [World.frozen?, Hhead.out w2 Hb2.out]
    have hd2 : d < w2.heap.size := Nat.lt_of_lt_of_le Hdlt.out Hb2.out.size
    have hb2l : w.heap.size < w2.heap.size := World.block_lt_of_cell? _ _ e0
    have Hal := Lib.hid (((Below.refl w2.heap.size w2).alloc (Nat.le_refl _) (.cells #[.int .u64 (x1 : Int), .int .u64 (x2 : Int)] 44)).drew)
    have Hfz := Lib.hid (And.intro qf hd2)
    have HC0 := Lib.hid (And.intro q0 (And.intro e0 e1))
    have Hlt2 := Lib.hid (Nat.lt_of_lt_of_le hd2 Hal.out.size)
    have Hlt3 := Lib.hid (Nat.lt_of_lt_of_le hb2l Hal.out.size)
    go_upto_region 6 with fail
    go_region_law (first | (go_simp; go_at_call 49; (with_reducible refine (HIns.out w2 Hb2.out).mono ?_); rintro r w5 ⟨p', c', rfl, hrow, hgr, hob⟩; have u0 := hgr.cell (cell_below Hal.out HC0.out.1) (fun e => Hdb.out d e.symm rfl); have uf := (World.frozen?_of_block (hgr.block d Hlt2.out (fun e => Hdb.out d e.symm rfl))).trans ((World.frozen?_of_block (Hal.out.block d Hfz.out.2)).trans Hfz.out.1)))
    all_goals
      go_wp2
      go_ret
      exact ⟨rfl, Hfin.out _ (Hb2.out.trans (Hal.out.mono Hb2.out.size)) w5 hgr _ (by rw [HL.out]; exact hrow) hob⟩
end Go.Proofs.Ythidinaflaogfaa
