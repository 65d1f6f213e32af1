/- The walk of Remove. -/
import Derived.Test.YthidinaflaogfaaLvPut
import Derived.Test.YthidinaflaogfaaLvDel
namespace Go.Proofs.Ythidinaflaogfaa
open Go.RowKit

set_option maxRecDepth 100000 in
set_option maxHeartbeats 3200000 in
theorem remove_any {S : Nat → Prop} {w : World} {d k : Nat} {V : List Value} {F : Nat → List It} (h : LvAt S w d k V F) (hk : k < 4) (x : It) (hx : x.2 < 18446744073709551616) (K : Nat) (hn : (F (slotN k x.2)).length ≤ 999) (hK : K ≤ (F (slotN k x.2)).length)
    (hlt : ∀ i y, (F (slotN k x.2))[i]? = some y → (cmpI y.1 y.2 x.1 x.2 < 0 ↔ i < K)) (b : Bool) (hb : b = decide ((F (slotN k x.2))[K]? = some x)) :
    Calls Try.prog 35 #[.pointer (some ⟨d, 0, none⟩), .agg #[.int .u64 (x.1 : Int), .int .u64 (x.2 : Int)]] w
      (PutEnd S w d k (if b = true then upd F (slotN k x.2) ((F (slotN k x.2)).take K ++ (F (slotN k x.2)).drop (K + 1)) else F) b) := by
  have hs := slotN_lt k x.2
  have HF := Lib.hid (fun W hW => find_any (h.below (w' := W) hW) hk x hx K (by omega) hK hlt)
  obtain ⟨f, hf⟩ : ∃ f, f = decide ((F (slotN k x.2))[K]? = some x) := ⟨_, rfl⟩
  rw [← hf] at hb HF
  have Hfr := Lib.hid hf
  clear hf hlt
  generalize slotN k x.2 = s at *
  obtain ⟨w1, hw1⟩ : ∃ w1, w1 = w.alloc (.cells #[.int .u64 (x.1 : Int), .int .u64 (x.2 : Int)] 44) := ⟨_, rfl⟩
  have hb1 : Below w.heap.size w w1 := by rw [hw1]; exact (Below.refl _ _).alloc (Nat.le_refl _) _
  obtain ⟨d0, d1⟩ := box2 w (.int .u64 (x.1 : Int)) (.int .u64 (x.2 : Int)) 44
  rw [← hw1] at d0 d1
  have HF1 := Lib.hid (HF.out w1 hb1)
  have HD := Lib.hid (And.intro d0 d1)
  have Hb1 := Lib.hid hb1
  have H := Lib.hid h
  have Hn := Lib.hid (And.intro hn hK)
  have hsi : (s : Int) < 64 := by omega
  have Hs := Lib.hid hs
  obtain ⟨x1, x2⟩ := x
  clear h HF hb1 hn hK hs
  cases f with
  | false =>
    change b = false at hb
    subst hb
    go_enter Try.func35, Try.ntmps35
    go_upto_region 1 with fail
    rw [← hw1]
    clear hw1
    go_wp2_with fail
    refine HF1.out.mono ?_
    rintro r w2 ⟨rfl, hb2⟩
    have Hb2 := Lib.hid (Hb1.out.trans (hb2.mono Hb1.out.size))
    clear hb2
    go_wp2
    go_ret
    exact ⟨rfl, LvStep.same H.out Hb2.out⟩
  | true =>
    change b = true at hb
    subst hb
    obtain ⟨v, hv, _, p, c, hvp, hI⟩ := H.out.cell Hs.out
    obtain ⟨l, hl⟩ : ∃ l, l = F s := ⟨_, rfl⟩
    rw [← hl] at hvp hI
    have Hnl := Lib.hid (show l.length ≤ 999 ∧ K ≤ l.length from by rw [hl]; exact Hn.out)
    have Hl := Lib.hid hl
    obtain ⟨n, hnl⟩ : ∃ n, n = l.length := ⟨_, rfl⟩
    rw [← hnl] at hvp hI
    obtain ⟨L', hL'⟩ : ∃ L', L' = l.take K ++ l.drop (K + 1) := ⟨_, rfl⟩
    have hKl : K < l.length := by
      have h1 := Hfr.out
      have h2 := of_decide_eq_true h1.symm
      rw [← hl] at h2
      exact (List.getElem?_eq_some_iff.1 h2).1
    have HKl := Lib.hid hKl
    obtain ⟨N, hN⟩ : ∃ N, L'.length = N := ⟨_, rfl⟩
    rw [← hl, ← hL']
    have HIns := Lib.hid (fun (W : World) (hW : Below w.heap.size w W) => (delete_any (w := W.drew) (base := 0) (v := v) (l := l)
      (by rw [hl]; exact (((H.out.below hW.drew).slot s v hv).1)) (by have := Hnl.out.1; omega) K HKl.out).mono fun r w' h => RowEnd.letter (N := N) (by rw [← hN, hL']) h)
    have hKw : IntKind.i64.wrap ((K : Int) + 1) = (K : Int) + 1 := by rw [IntKind.wrap_i64]; have := Hnl.out.1; omega
    have hcv := fun (W : World) (hW : Below w.heap.size w W) => (H.out.below hW).cell (s := s) Hs.out
    have Hcv := Lib.hid (show ∀ W, Below w.heap.size w W → W.cell? ⟨d, 1 + s, none⟩ = some (.slice p n c) from fun W hW => by
      obtain ⟨v2, h1, h2, _⟩ := hcv W hW
      rw [hv] at h1
      cases h1
      rw [h2, hvp])
    have Hfin := Lib.hid (fun (W : World) (hW : Below w.heap.size w W) (w1 : World) hg v' hrow hob => LvStep.after hW ((H.out.below hW).put hv (w1 := w1) (v' := v') (L' := L') hg hrow hob))
    have hle := hI.le
    have hmx := hI.max
    have hKn : (K : Int) ≤ (n : Int) := by have := Hnl.out.2; omega
    have hdb : ∀ b, v.ownBlock = some b → b ≠ d := fun b hb => ((H.out.slot s v hv).2 b hb).2
    rw [hvp] at HIns Hfin hdb
    have Hdb := Lib.hid hdb
    have Hbx := Lib.hid (show ∀ b, (Value.slice p n c).ownBlock = some b → b ≠ w.heap.size from fun b hb => by rw [← hvp] at hb; have := ((H.out.slot s v hv).1.lt b hb).2; omega)
    have Hdlt := Lib.hid ((Array.getElem?_eq_some_iff.1 H.out.head).1)
    have Hhead := Lib.hid (fun (W : World) (hW : Below w.heap.size w W) => (H.out.below hW).head)
    have HL := Lib.hid hL'
    clear hcv hI hv hl hnl hL' hdb hKl
    go_enter Try.func35, Try.ntmps35
    go_upto_region 1 with fail
    rw [← hw1]
    clear hw1
    go_wp2_with fail
    refine HF1.out.mono ?_
    rintro r w2 ⟨rfl, hb2⟩
    have Hb2 := Lib.hid (Hb1.out.trans (hb2.mono Hb1.out.size))
    have e0 := cell_below hb2 HD.out.1
    have e1 := cell_below hb2 HD.out.2
    have q0 := Hcv.out w2 Hb2.out
    clear hb2
    have qf : w2.frozen? ⟨d, 1 + s, none⟩ = false := by simp [World.frozen?, Hhead.out w2 Hb2.out]
    have hd2 : d < w2.heap.size := Nat.lt_of_lt_of_le Hdlt.out Hb2.out.size
    have hb2l : w.heap.size < w2.heap.size := World.block_lt_of_cell? _ _ e0
    have Hal := Lib.hid ((Below.refl w2.heap.size w2).drew)
    have Hfz := Lib.hid (And.intro qf hd2)
    have HC0 := Lib.hid (And.intro q0 (And.intro e0 e1))
    have Hlt2 := Lib.hid (Nat.lt_of_lt_of_le hd2 Hal.out.size)
    have Hlt3 := Lib.hid (Nat.lt_of_lt_of_le hb2l Hal.out.size)
    go_upto_region 6 with fail
    go_region_law (first | (go_simp; go_at_call 47; (with_reducible refine (HIns.out w2 Hb2.out).mono ?_); rintro r w5 ⟨p', c', rfl, hrow, hgr, hob⟩; have u0 := hgr.cell (cell_below Hal.out HC0.out.1) (fun e => Hdb.out d e.symm rfl); have uf := (World.frozen?_of_block (hgr.block d Hlt2.out (fun e => Hdb.out d e.symm rfl))).trans ((World.frozen?_of_block (Hal.out.block d Hfz.out.2)).trans Hfz.out.1)))
    all_goals
      go_wp2
      go_ret
      exact ⟨rfl, Hfin.out _ (Hb2.out.trans (Hal.out.mono Hb2.out.size)) w5 hgr _ (by rw [HL.out]; exact hrow) hob⟩
end Go.Proofs.Ythidinaflaogfaa
