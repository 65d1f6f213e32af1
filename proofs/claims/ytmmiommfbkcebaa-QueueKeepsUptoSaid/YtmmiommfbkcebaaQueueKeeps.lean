/- The statement QueueKeeps, over what the code's queue is asked to give. -/
import Derived.Test.YtmmiommfbkcebaaQdDrain
import Derived.Test.YtmmiommfbkcebaaQueuePlay
import Derived.Test.YtmmiommfbkcebaaQnNil
namespace Go.Proofs.Ytmmiommfbkcebaa
open Go.RowKit Go.Shelf

attribute [local go_sem] Oper.semAt_some

/-- The ints of a row of the call's own, whatever they are. -/
theorem ownQ_set {w : World} {base : Nat} {p : Option Addr} {n c : Nat} {l : List Int} (h : OwnQ w base (.slice p n c) l) (hn : l.length = n) {i : Nat} (hi : i < n) :
    ∃ g, p = some ⟨g, 0, none⟩ ∧ base ≤ g ∧ (∃ x, w.cell? ⟨g, i, none⟩ = some (.int .i64 x)) ∧ w.frozen? ⟨g, i, none⟩ = false ∧ ∀ y, ∃ l', l'.length = n ∧ OwnQ (w.setCell ⟨g, i, none⟩ (.int .i64 y)) base (.slice p n c) l' := by
  subst hn
  rcases h.2 with ⟨e, h0⟩ | ⟨g, cap, cur, e, hb, hg, hnc, hcm, hcs, htake⟩
  · omega
  · cases e
    rw [Nat.mul_one] at htake hcs
    have hx : l[i]? = some l[i] := List.getElem?_eq_getElem hi
    refine ⟨g, rfl, hb, ⟨l[i], cell_inQ (xs := qE l) hg (by rw [qE_len]; exact htake) (by unfold qE; rw [List.getElem?_map, hx]; rfl)⟩, by simp [World.frozen?, hg], fun y => ⟨l.set i y, List.length_set, ?_⟩⟩
    refine ⟨by rw [qE_len, Nat.mul_one], .inr ⟨g, _, _, by rw [List.length_set], hb, Joins.block_setCell (i := i) hg _, by rw [List.length_set]; exact hnc, hcm, by rw [Array.size_setIfInBounds, Nat.mul_one]; exact hcs, ?_⟩⟩
    rw [Nat.mul_one, List.length_set, Array.toList_setIfInBounds, List.take_set, htake]
    unfold qE
    rw [List.map_set]

/-- Behind the loops: the queue has not turned. -/
def QkI (K : QKit) (w1 : World) (DD m : Nat) (v : Value) (L0 : List Int) (W : World) : Prop := ∃ X, K.S w1 X W m v L0 ∧ X DD ∧ X (DD + 1) ∧ w1.heap.size ≤ DD

theorem QkI.put {K : QKit} {w1 : World} {DD m : Nat} {v : Value} {L0 : List Int} {W : World} (h : QkI K w1 DD m v L0 W) (o' : Obj) : QkI K w1 DD m v L0 (W.putObj (DD + 1) o') := by
  obtain ⟨X, hs, h1, h2, h3⟩ := h
  exact ⟨X, K.grown (r := some (DD + 1)) hs (grownBy_putObj' W (DD + 1) o') (fun b e => by cases e; exact ⟨h2, by omega⟩) (fun b hx => ⟨.inl hx, by simpa using K.xb hs b hx⟩), h1, h2, h3⟩

set_option maxRecDepth 100000 in
set_option maxHeartbeats 12800000 in
theorem queueKeeps_any (K : QKit) (p : Option Addr) (n c : Nat) (l : List Int) (w : World) (h : Qs w p n c l) (hn : n ≤ 1048576) (hr : ∀ x ∈ l, InI x) :
    Calls Try.prog 6 #[.slice p n c] w fun r w' => r = .returned (.bool true) ∧ Below w.heap.size w w' := by
  have hle := h.le
  have hmx := h.max
  have HA := Lib.hid (fun w => alive17_any K w)
  refine (callsIn_wide (n := 6)).1 ?_
  obtain ⟨w1, hw1⟩ : ∃ w1, w1 = w.alloc (.cells #[.bool false] 4) := ⟨_, rfl⟩
  have hb1 : Below w.heap.size w w1 := by rw [hw1]; exact (Below.refl _ _).alloc (Nat.le_refl _) _
  have hz1 : w1.heap.size = w.heap.size + 1 := by rw [hw1]; simp
  have hB2 : Boxed w1 w.heap.size 4 (.bool false) := by rw [hw1]; exact Boxed.new w _ _
  have HN := Lib.hid (K.new p n c l w1 (h.below hb1) hn hr)
  have HBx := Lib.hid hB2
  have Hb1 := Lib.hid (And.intro hb1 hz1)
  refine callsIn_of_wp_marks Try.func6 rfl trivial ?_ rfl
  simp only [Try.ntmps6, List.size_toArray, List.length_cons, List.length_nil, Nat.reduceAdd, Nat.reduceSub, Array.replicate_succ, Array.replicate_zero, List.push_toArray, List.append_toArray, List.nil_append, List.cons_append]
  clear hB2 hb1 hz1
  by_cases hbig : 200 < n
  · have hbi : (200 : Int) < (n : Int) := by omega
    clear h hn hbig
    gi_wp2_with fail
    rw [← hw1]
    clear hw1
    refine ⟨trivial, (callsIn_wide.2 HN.out).mono ?_⟩
    rintro r w2 ⟨v, rfl, hS⟩
    obtain ⟨b, rfl⟩ := K.ptr hS
    have HS := Lib.hid hS
    clear hS
    gi_wp2_with fail
    refine ⟨trivial, (callsIn_wide.2 (HA.out w2)).mono ?_⟩
    rintro r w4 ⟨rfl, hb4⟩
    have hb14 := (K.base HS.out).trans (hb4.mono (K.base HS.out).size)
    have hR4 : Boxed w4 w.heap.size 4 (.bool false) := (hb14.block _ (by have := Hb1.out.2; omega)).trans HBx.out
    have hr4 := hR4.cell
    have hf4 := hR4.frozen
    have HE := Lib.hid (show Below w.heap.size w (w4.setCell ⟨w.heap.size, 0, none⟩ (.bool true)) ∧ _ from ⟨(Hb1.out.1.trans (hb14.mono Hb1.out.1.size)).setCell (p := ⟨w.heap.size, 0, none⟩) (Nat.le_refl _) _, (hR4.set (.bool true)).cell⟩)
    clear hb4 hb14 hR4
    gi_wp2
    have hres := HE.out.2
    refine ⟨.bool true, (by simp [results, Try.results6, go_sem, hres]), rfl, HE.out.1⟩
  · have hbi : ¬ (200 : Int) < (n : Int) := by omega
    have hn2 : n ≤ 200 := by omega
    obtain ⟨L0, hL⟩ : ∃ L, L = newQ l := ⟨_, rfl⟩
    have hLn : L0.length ≤ n := by rw [hL, ← h.len]; exact newQ_len l
    have HR := Lib.hid (fun W (hW : Below w.heap.size w W) => rnew17_any p n c l W (h.below hW) (by omega))
    rw [← hL] at HN HR
    clear h hn hbig hL hr
    gi_wp2_with fail
    rw [← hw1]
    clear hw1
    refine ⟨trivial, (callsIn_wide.2 HN.out).mono ?_⟩
    rintro r w2 ⟨v, rfl, hS⟩
    obtain ⟨b, rfl⟩ := K.ptr hS
    have HS := Lib.hid hS
    have HLi := Lib.hid (K.list hS (by omega))
    clear hS
    gi_wp2_with fail
    refine ⟨trivial, (callsIn_wide.2 HLi.out).mono ?_⟩
    rintro r w3 ⟨u, rfl, hu, hs3, hk3, hb3⟩
    obtain ⟨N, hN⟩ : ∃ N, L0.length = N := ⟨_, rfl⟩
    obtain ⟨pu, cu, rfl, hrow3⟩ := rowQ_own hu hN
    have hleu := hrow3.items.le
    have hmxu := hrow3.items.max
    have HS3 := Lib.hid (And.intro hs3 hu)
    have Hbase := Lib.hid (K.base hs3)
    clear hs3 hu hk3 hb3 hrow3
    gi_wp2_with fail
    gi_loopw [29] (fun i wr => ∃ j : Nat, j ≤ N ∧ i = .int .i64 (j : Int) ∧ RowKit.Hid (∃ l', l'.length = N ∧ OwnQ wr w2.heap.size (.slice pu N cu) l' ∧ K.S w1 (fun b => (Value.slice pu N cu).ownBlock = some b) wr n (.pointer (some ⟨b, 0, none⟩)) L0)) (fun i _ => N - (intOf i).toNat)
    case atStart =>
      refine ⟨0, Nat.zero_le _, rfl, Lib.hid ⟨L0, hN, HS3.out.2, K.swap HS3.out.1 (Below.refl _ _) (fun b hb => ⟨.inl (.inr hb), (World.ownsRow.lt HS3.out.2 b hb).2⟩)⟩⟩
    case round =>
      obtain ⟨j, hj, rfl, HJ⟩ := hrel
      by_cases hlt : j < N
      · have hji : (j : Int) < (N : Int) := by omega
        obtain ⟨l', hl', ho, hs⟩ := HJ.out
        obtain ⟨g, rfl, hg, ⟨x, gx⟩, gf, hset⟩ := ownQ_set ho hl' hlt
        have Hset := Lib.hid hset
        have Hs := Lib.hid hs
        have Hg := Lib.hid hg
        clear ho hs hset HJ hg
        gi_wp2
        go_roundw
        case rel =>
          obtain ⟨l2, hl2, ho2⟩ := Hset.out (wrap64 (x + 1))
          refine ⟨j + 1, by omega, by go_num, Lib.hid ⟨l2, hl2, ho2, K.grown (r := some g) Hs.out ⟨rfl, rfl, rfl, by simp [World.setCell], fun k hk hne => heap_setCell_other _ _ _ _ (fun e => hne (by rw [e]))⟩ (fun b e => by cases e; exact ⟨rfl, Nat.le_trans (K.base HS.out).size Hg.out⟩) (fun b hb => ⟨.inl hb, by have := K.xb Hs.out b hb; simpa [World.setCell] using this⟩)⟩⟩
        case measure => simp [intOf]; omega
      · have hji : ¬ (j : Int) < (N : Int) := by omega
        obtain ⟨l', hl', ho, hs⟩ := HJ.out
        have HS5 := Lib.hid (show ∃ l', l'.length = N ∧ OwnQ wr w2.heap.size (.slice pu N cu) l' ∧ K.S w1 (fun b => (Value.slice pu N cu).ownBlock = some b) wr n (.pointer (some ⟨b, 0, none⟩)) L0 from ⟨l', hl', ho, hs⟩)
        have HNp := Lib.hid (fun W => npop_any W)
        have HNk := Lib.hid (fun W => npeek_any W)
        clear ho hs HJ
        gi_wp2_with fail
        refine ⟨trivial, (callsIn_wide.2 (HNp.out _)).mono ?_⟩
        rintro r w6 ⟨rfl, rfl⟩
        gi_wp2_with fail
        refine ⟨trivial, (callsIn_wide.2 (HNk.out _)).mono ?_⟩
        rintro r w7 ⟨rfl, rfl⟩
        gi_wp2_with fail
        have h0 : ∀ o o', QkI K w1 w7.heap.size n (.pointer (some ⟨b, 0, none⟩)) L0 ((w7.alloc o).alloc o') := fun o o' => by
          obtain ⟨l'', hl2, ho2, hs2⟩ := HS5.out
          exact ⟨fun b => b = w7.heap.size ∨ b = w7.heap.size + 1, K.swap hs2 (((Below.refl _ _).alloc (Nat.le_refl _) _).alloc (by simp) _) (fun b hb => ⟨.inr (by omega), by simp; omega⟩), .inl rfl, .inr rfl, (K.base hs2).size⟩
        refine range_drain (n := 6) (.pointer none) (by omega) rfl rfl (fun _ W => QkI K w1 w7.heap.size n (.pointer (some ⟨b, 0, none⟩)) L0 W) (fun _ _ _ => False) (QkI K w1 w7.heap.size n (.pointer (some ⟨b, 0, none⟩)) L0) (fun _ _ => False) 0 h0 (fun k W o o' h _ _ => h.put o') (fun k x W o o' h => h.elim) (fun W o o' h _ _ => h.put o') (fun e W o o' h => h.elim) ?pop (fun _ => { tmps := #[], defers := [] }) (fun l k x W K' h => h.elim) (fun k x W h => h.elim) ?done (fun e W h => h.elim)
        case pop =>
          intro k W h
          refine (HNp.out W).mono ?_
          rintro r W' ⟨rfl, rfl⟩
          exact ⟨.inr ⟨rfl, h⟩, rfl, rfl⟩
        case done =>
          intro W hD hK
          obtain ⟨DD, hDD⟩ : ∃ DD, DD = w7.heap.size := ⟨_, rfl⟩
          rw [← hDD] at hD hK ⊢
          obtain ⟨X, hs, hx1, hx2, hx3⟩ := hD
          have HsW := Lib.hid hs
          have HX := Lib.hid (And.intro hx1 hx3)
          have HK0 := Lib.hid hK
          have HP0 := Lib.hid (fun W => npush_any 1 W)
          have HR0 := Lib.hid (fun W => nremove_any 1 W)
          have HH0 := Lib.hid (fun W => nhas_any 1 W)
          have HQ0 := Lib.hid (fun W => nplace_any 1 W)
          have HL0 := Lib.hid (fun W => nlist_any W)
          have HE0 := Lib.hid (fun W => nlen_any W)
          clear hs hx1 hx2 hx3 hK hDD h0
          gi_wp2_with fail
          refine ⟨trivial, (callsIn_wide.2 (HA.out W)).mono ?_⟩
          rintro r w8 ⟨rfl, hb8⟩
          have hs8 := K.turned HsW.out hb8
          have hd8 := (hb8.block DD (K.xb HsW.out _ HX.out.1)).trans HK0.out
          have HLj := Lib.hid (K.list hs8 (by omega))
          have Hd8 := Lib.hid hd8
          clear hb8 hs8 hd8
          gi_wp2_with fail
          refine ⟨trivial, (callsIn_wide.2 HLj.out).mono ?_⟩
          rintro r w9 ⟨u9, rfl, hu9, hs9, hk9, hb9⟩
          obtain ⟨p9, c9, rfl, hrow9⟩ := rowQ_own hu9 hN
          have Hd9 := Lib.hid ((hk9 DD HX.out.1).trans Hd8.out)
          have Hs9 := Lib.hid hs9
          have Hr9 := Lib.hid hrow9.items
          clear hu9 hs9 hk9 hb9 hrow9
          gi_wp2_with fail
          refine ⟨trivial, (callsIn_wide.2 (HR.out w9 (Hb1.out.1.trans ((K.base Hs9.out).mono Hb1.out.1.size)))).mono ?_⟩
          rintro r w10 ⟨q10, k10, rfl, hrow10, hb10⟩
          have hEq := (show Calls Try.prog 18 #[.slice p9 N c9, .slice q10 N k10] w10 fun r w' => r = .returned (.bool true) ∧ Below w10.heap.size w10 w' from (qequal_any p9 q10 _ _ c9 k10 L0 L0 w10 (Hr9.out.below hb10) (by have h5 := hrow10.items; rw [hN] at h5; exact h5)).mono (fun r w' h => ⟨h.1.trans (by simp), h.2⟩))
          have HEq := Lib.hid hEq
          have Hs10 := Lib.hid (K.turned Hs9.out hb10)
          have Hd10 := Lib.hid ((hb10.block DD (K.xb Hs9.out _ (.inl HX.out.1))).trans Hd9.out)
          rw [hN]
          clear hrow10 hb10 hEq
          gi_wp2_with fail
          refine ⟨trivial, (callsIn_wide.2 HEq.out).mono ?_⟩
          rintro r w11 ⟨rfl, hb11⟩
          have hs11 := K.turned Hs10.out hb11
          have Hd11 := Lib.hid ((hb11.block DD (K.xb Hs10.out _ (.inl HX.out.1))).trans Hd10.out)
          have hR11 : Boxed w11 w.heap.size 4 (.bool false) := ((K.base hs11).block _ (by have := Hb1.out.2; omega)).trans HBx.out
          have hr11 := hR11.cell
          have hf11 := hR11.frozen
          have HE := Lib.hid (show Below w.heap.size w (w11.setCell ⟨w.heap.size, 0, none⟩ (.bool true)) ∧ _ from ⟨(Hb1.out.1.trans ((K.base hs11).mono Hb1.out.1.size)).setCell (p := ⟨w.heap.size, 0, none⟩) (Nat.le_refl _) _, (hR11.set (.bool true)).cell⟩)
          clear hb11 hs11 hR11
          gi_wp2_with fail
          refine ⟨trivial, (callsIn_wide.2 (HP0.out _)).mono ?_⟩
          rintro r w12 ⟨rfl, rfl⟩
          gi_wp2_with fail
          refine ⟨trivial, (callsIn_wide.2 (HR0.out _)).mono ?_⟩
          rintro r w12 ⟨rfl, rfl⟩
          gi_wp2_with fail
          refine ⟨trivial, (callsIn_wide.2 (HH0.out _)).mono ?_⟩
          rintro r w12 ⟨rfl, rfl⟩
          gi_wp2_with fail
          refine ⟨trivial, (callsIn_wide.2 (HQ0.out _)).mono ?_⟩
          rintro r w12 ⟨rfl, rfl⟩
          gi_wp2_with fail
          refine ⟨trivial, (callsIn_wide.2 (HL0.out _)).mono ?_⟩
          rintro r w12 ⟨rfl, rfl⟩
          gi_wp2_with fail
          refine ⟨trivial, (callsIn_wide.2 (HE0.out _)).mono ?_⟩
          rintro r w12 ⟨rfl, rfl⟩
          gi_wp2
          have hne : DD ≠ w.heap.size := by have := Hb1.out.2; have := HX.out.2; omega
          have hDW : (w12.setCell ⟨w.heap.size, 0, none⟩ (.bool true)).heap[DD]? = some (.deferred (some [])) := (heap_setCell_other _ _ _ _ hne).trans Hd11.out
          refine ⟨by simp, .inl ⟨_, _, rfl, run_takeDeferred hDW, ?_⟩⟩
          have hres := (World.cell?_of_block (a := ⟨w.heap.size, 0, none⟩) (World.putObj_heap_other (w := w12.setCell ⟨w.heap.size, 0, none⟩ (.bool true)) (o := .deferred none) (Ne.symm hne))).trans HE.out.2
          refine ⟨.bool true, (by simp [results, Try.results6, go_sem, hres]), rfl, HE.out.1.grown (grownBy_putObj' _ DD (.deferred none)) HE.out.1.size (fun k e => by cases e; have := Hb1.out.2; have := HX.out.2; omega)⟩
end Go.Proofs.Ytmmiommfbkcebaa
