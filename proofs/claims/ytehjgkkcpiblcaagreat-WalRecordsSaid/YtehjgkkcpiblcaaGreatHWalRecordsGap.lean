/- The walks of slices.Values, slices.AppendSeq, slices.Collect and slices.Sorted of ints, and of the code's Gap at numbers in ascending order. -/
import Derived.Test.YtehjgkkcpiblcaaGreatMB37
import Derived.Test.YtehjgkkcpiblcaaGreatMB34
import Derived.OwnWalkIn
import Derived.TacticsInMore
import Derived.LoopNIn
import Derived.LoopIn
import Derived.Maps.AppendAt
import Derived.Maps.OwnIn
namespace Go.Proofs.YtehjgkkcpiblcaaGreat
open Go.RowKit Go.Shelf

attribute [local go_sem] Oper.semAt_some

theorem values_any (p : Option Addr) (n c : Nat) (w : World) :
    Calls Tryz.prog 71 #[.slice p n c] w fun e w' => e = .returned (.func (.func 112) #[] #[.pointer (some ⟨w.heap.size, 0, none⟩)]) ∧ w' = w.alloc (.cells #[.slice p n c] 40) := by
  go_enter Tryz.func71, Tryz.ntmps71
  go_wp2
  go_ret
  exact ⟨rfl, rfl⟩

set_option maxRecDepth 100000 in
set_option maxHeartbeats 2000000 in
theorem vals1_told (m : Nat) (hm1 : 1 ≤ m) (Bn : Nat) (p : Option Addr) (n c : Nat) (L : List Int) (hn : n ≤ 1000000) (I : List Int → Nat → World → Prop)
    (hI : ∀ s N W, I s N W → Ints W p n c L ∧ W.cell? ⟨Bn, 0, none⟩ = some (.slice p n c)) :
    Told m Tryz.prog 112 #[.pointer (some ⟨Bn, 0, none⟩)] (fun x : Int => #[.int .i64 x]) I (fun _ _ _ => True) (fun xs => xs = L) (n + 1) := by
  intro l J W N hg hm hJI hY h0
  obtain ⟨hB0, hc0⟩ := hI _ _ _ (hJI _ _ _ h0)
  have hlen := hB0.len
  refine callsIn_of_wp Tryz.func112 rfl trivial ?_ rfl
  simp only [Tryz.ntmps112, List.size_toArray, List.length_cons, List.length_nil, Nat.reduceAdd, Nat.reduceSub, Array.replicate_succ, Array.replicate_zero, List.push_toArray, List.append_toArray, List.nil_append, List.cons_append]
  gi_wp2
  gi_loopw [7] (fun u wr => ∃ (j N' : Nat), j ≤ n ∧ u = .int .i64 (j : Int) ∧ J (L.take j) N' wr) (fun u _ => n - (intOf u).toNat)
  case atStart => exact ⟨0, N, Nat.zero_le _, rfl, h0⟩
  case round =>
    obtain ⟨j, N', hj, rfl, hJ⟩ := hrel
    obtain ⟨hI1, _⟩ := hI _ _ _ (hJI _ _ _ hJ)
    by_cases hlt : j < n
    · obtain ⟨b, o, rfl, hc1⟩ := hI1.cell (by omega)
      have hc := hc1 j hlt
      have hnx : L.take (j + 1) = L.take j ++ [L.getD j 0] := by
        rw [List.take_succ_eq_append_getElem (by omega), List.getD_eq_getElem?_getD, List.getElem?_eq_getElem (by omega)]
        rfl
      obtain ⟨fn, tmps, assign, body, hy, hRd⟩ := hY (L.take j) (L.getD j 0) N' wr hJ trivial (by rw [List.length_take]; omega)
      rw [← hnx] at hRd
      have HRd := Lib.hid hRd
      have hji : (j : Int) < (n : Int) := by omega
      clear hc1 hnx hI1 hRd
      generalize L.getD j 0 = x at *
      gi_wp2
      refine HRd.out.mono ?_
      rintro e W3 ⟨rfl, N3, hJ3⟩
      gi_wp2
      go_roundw
      case rel => exact ⟨j + 1, N3, hlt, by go_num, hJ3⟩
      case measure => simp [intOf]; omega
    · obtain rfl : j = n := by omega
      have hall : L.take j = L := List.take_of_length_le (by omega)
      rw [hall] at hJ
      gi_wp2
      go_end0
      exact ⟨⟨_, rfl⟩, L, N', hJ, rfl⟩

/-- Between two rounds: the numbers that came, in a row of the call's own; the box. -/
def ApY (w : World) (pre : List Int) (_ : Nat) (W : World) : Prop :=
  (∃ v, Boxed W w.heap.size 40 v ∧ W.ownsRow w.heap.size 3 1 v pre.length (intsE pre)) ∧ Below w.heap.size w W ∧ w.heap.size + 1 ≤ W.heap.size

theorem apY_stands (w : World) (B : Nat) (hB : B = w.heap.size + 1) : Stands B (ApY w) (fun _ _ _ => True) := by
  subst hB
  refine ⟨?_, ?_, ?_, ?_⟩
  · rintro s N W W' ⟨⟨v, h1, h2⟩, h3, h4⟩ hb
    exact ⟨⟨v, (hb.block _ h1.lt).trans h1, own_below h2 hb⟩, h3.trans (hb.mono h3.size), Nat.le_trans h4 hb.size⟩
  · rintro s N W h
    exact h
  · rintro s N W l o o' ⟨⟨v, h1, h2⟩, h3, h4⟩ hl hlo ho
    refine ⟨⟨v, (World.putObj_heap_other (fun e => ?_)).trans h1, ownsRow_putObj h2 o' hlo ho⟩, ?_, by simpa using h4⟩
    · rw [← e, show W.heap[w.heap.size]? = _ from h1] at hlo
      cases hlo
      cases ho
    · exact h3.grown (grownBy_putObj' W l o') h3.size (fun k e => by cases e; omega)
  · rintro N x W l o o' h _ _
    exact h

set_option maxRecDepth 100000 in
set_option maxHeartbeats 2000000 in
theorem appseq_any (p : Option Addr) (n c : Nat) (L : List Int) (Bn : Nat) (w : World) (hI : Ints w p n c L) (hc : w.cell? ⟨Bn, 0, none⟩ = some (.slice p n c)) (hn : n ≤ 1000000) :
    Calls Tryz.prog 140 #[.slice none 0 0, .func (.func 112) #[] #[.pointer (some ⟨Bn, 0, none⟩)]] w fun e w' => ∃ v, e = .returned v ∧ w'.ownsRow w.heap.size 3 1 v n (intsE L) ∧ Below w.heap.size w w' := by
  refine (callsIn_wide (n := 6)).1 ?_
  have HI := Lib.hid hI
  have Hc := Lib.hid hc
  obtain ⟨i0, hi, hz0, hz1, hz2⟩ := info_parts info_int
  clear hI hc
  refine callsIn_of_wp_marks Tryz.func140 rfl trivial ?_ rfl
  simp only [Tryz.ntmps140, List.size_toArray, List.length_cons, List.length_nil, Nat.reduceAdd, Nat.reduceSub, Array.replicate_succ, Array.replicate_zero, List.push_toArray, List.append_toArray, List.nil_append, List.cons_append]
  gi_wp2
  have bO := Boxed.new w 40 (.slice none 0 0)
  have hB0 : Below w.heap.size w (w.alloc (.cells #[.slice none 0 0] 40)) := (Below.refl _ w).alloc (Nat.le_refl _) _
  have hsz : (w.alloc (.cells #[.slice none 0 0] 40)).heap.size = w.heap.size + 1 := by simp
  have h0 : ApY w [] 0 (w.alloc (.cells #[.slice none 0 0] 40)) := ⟨⟨_, bO, World.ownsRow_nil _ _ _ _⟩, hB0, by rw [hsz]; exact Nat.le_refl _⟩
  have hT := vals1_told 5 (by omega) Bn p n c L hn (ApY w) (fun s N W h => ⟨HI.out.grow h.2.1, by rw [h.2.1.cell (p := ⟨Bn, 0, none⟩) (World.block_lt_of_cell? _ _ Hc.out)]; exact Hc.out⟩)
  refine range_told (n := 6) (by omega) (gf := 112) (lb := #[.pointer (some ⟨Bn, 0, none⟩)]) rfl (enters_of Tryz.func112 (by kernel_rfl) rfl) (encs := fun x : Int => #[.int .i64 x]) (fun _ => rfl)
    (apY_stands w _ hsz) hT 0 h0
    (fun x => { tmps := #[.slice none 0 0, .func (.func 112) #[] #[.pointer (some ⟨Bn, 0, none⟩)], .pointer (some ⟨w.heap.size, 0, none⟩), undef, .slice none 0 0, .int .i64 x, .func (.func 112) #[] #[.pointer (some ⟨Bn, 0, none⟩)], .int .i64 x, undef, undef, undef, undef, undef], defers := [] }) ?assign ?body ?done
  case assign =>
    intro l x W K hK
    gi_wp2
    exact hK
  case body =>
    rintro l pre x N W ⟨⟨v, hv, hrow⟩, hB, hW⟩ _ hM
    have hc := hv.cell
    gi_wp2_with (gi_at_builtin; refine wpListIn_append_own_at _ rfl _ _ 40 rfl w.heap.size 3 i0 (.int .i64 0) 1 8 Tryz.underlying40 hi hz0 hz1 hz2 rfl (by decide) _ _ _ rfl (hrow.alloc _) ⟨W.heap.size, 0, none⟩ 1 1 [.int .i64 x] rfl rfl (cell_one_new _ _ _) (by simp [Value.oneCell']) (by rw [maxLen_nat]; omega) (by omega) (by simp; omega) ?_; intro v' w1 hown' hgrow _ hblk; obtain ⟨g', cap', rfl⟩ := ownsRow_succ hown'; obtain ⟨hv1, hv2, hr2, hk2, hb2⟩ := hv.appended (by decide) hrow hB.size (Nat.le_refl _) hown' hgrow; have hc1 := hv1.cell; have hf1 := hv1.frozen)
    exact ⟨hk2.from _, 0, ⟨_, hv2, by rw [List.length_append, intsE_append]; exact hr2⟩, hB.trans hb2, by have := hb2.size; omega⟩
  case done =>
    rintro D xs N W hD rfl ⟨⟨v, hv, hrow⟩, hB, hW⟩ hK
    have hc := hv.cell
    have hln := HI.out.len
    gi_wp2
    refine ⟨by simp, .inl ⟨_, _, rfl, run_takeDeferred hK, ?_⟩⟩
    rw [hln] at hrow
    exact ⟨_, results_tmp rfl _ _ _, v, rfl, ownsRow_putObj hrow _ hK rfl, hB.trans (belowK_b (w := w) (Nat.le_refl _) W D _ _ (by simp at hD; omega) hK rfl rfl)⟩

set_option maxRecDepth 100000 in
theorem collect_any (p : Option Addr) (n c : Nat) (L : List Int) (Bn : Nat) (w : World) (hI : Ints w p n c L) (hc : w.cell? ⟨Bn, 0, none⟩ = some (.slice p n c)) (hn : n ≤ 1000000) :
    Calls Tryz.prog 111 #[.func (.func 112) #[] #[.pointer (some ⟨Bn, 0, none⟩)]] w fun e w' => ∃ v, e = .returned v ∧ w'.ownsRow w.heap.size 3 1 v n (intsE L) ∧ Below w.heap.size w w' := by
  have HA := Lib.hid (appseq_any p n c L Bn w hI hc hn)
  clear hI hc
  go_enter Tryz.func111, Tryz.ntmps111
  go_wp2_with fail
  refine HA.out.mono ?_
  rintro e w' ⟨v, rfl, h1, h2⟩
  go_wp2
  go_ret
  exact ⟨v, rfl, h1, h2⟩

theorem asc_sorted {l : List Int} (h : Asc l) : l.mergeSort (fun x y => decide (x ≤ y)) = l := by
  refine List.mergeSort_of_pairwise ?_
  refine List.Pairwise.imp ?_ h
  intro a b hab
  exact decide_eq_true (Int.le_of_lt hab)

set_option maxRecDepth 100000 in
set_option maxHeartbeats 3200000 in
/-- slices.Sorted of the values of a slice whose numbers ascend: the same numbers. -/
theorem sorted_any (p : Option Addr) (n c : Nat) (L : List Int) (Bn : Nat) (w : World) (hI : Ints w p n c L) (hc : w.cell? ⟨Bn, 0, none⟩ = some (.slice p n c)) (hn : n ≤ 1000000) (hs : Asc L) :
    Calls Tryz.prog 70 #[.func (.func 112) #[] #[.pointer (some ⟨Bn, 0, none⟩)]] w fun e w' => ∃ q cp, e = .returned (.slice q n cp) ∧ Ints w' q n cp L ∧ Below w.heap.size w w' := by
  have HA := Lib.hid (collect_any p n c L Bn w hI hc hn)
  have hln := hI.len
  have Hs := Lib.hid hs
  clear hI hc hs
  go_enter Tryz.func70, Tryz.ntmps70
  go_wp2_with fail
  refine HA.out.mono ?_
  rintro e wr ⟨v, rfl, hown, hb⟩
  have Hown := Lib.hid hown
  have Hbel := Lib.hid hb
  clear hown hb
  by_cases hz : n = 0
  · subst hz
    obtain ⟨q, cp, rfl, hI⟩ := own_ints Hown.out
    have H1 := Lib.hid (Tryz.slices_Sort_int_none q cp wr)
    have HI := Lib.hid hI
    clear hI
    go_wp2_with fail
    refine H1.out.mono ?_
    rintro e w1 ⟨rfl, rfl⟩
    go_wp2
    go_ret
    exact ⟨q, cp, rfl, HI.out, Hbel.out⟩
  · obtain ⟨g, cp, rfl, hbg, hgl, hnc, hcm, _, hH⟩ := Lib.holds_of_ownsRow (enc := Value.int .i64) Hown.out (by
      intro e
      have h := Hown.out
      rw [e] at h
      rcases h.2 with ⟨_, h0⟩ | ⟨_, _, _, e2, _⟩
      · omega
      · cases e2)
    obtain ⟨cur, hcur, hcs⟩ : ∃ cur, wr.heap[g]? = some (.cells cur 3 (0, 0)) ∧ cur.size = cp * 1 := by
      rcases Hown.out.2 with ⟨e, _⟩ | ⟨g', cp', cur, e, _, hg, _, _, hs, _⟩
      · cases e
      · cases e; exact ⟨cur, hg, hs⟩
    have H1 := Tryz.slices_Sort_int g 0 cp L wr hH hgl (by omega)
    have hml : (L.mergeSort fun x y => decide (x ≤ y)).length = L.length := List.length_mergeSort L
    have hs := fun (q : Nat) (os : Array Obj) => ownsRow_sortedI (w := wr) (base := w.heap.size) (n := q) (os := os) hml hbg hcur (by rw [hln]; exact hnc) (by rw [maxLen_nat] at hcm ⊢; exact hcm) hcs
    have hg := fun (q : Nat) (os : Array Obj) => Hbel.out.grown (grownBy_sortedI (w := wr) (g := g) (n := q) (os := os) (L.mergeSort fun x y => decide (x ≤ y)).toArray) Hbel.out.size (fun x hx => by cases hx; exact hbg)
    rw [hln] at H1
    have H1 := Lib.hid H1
    have HsI := Lib.hid hs
    have Hg := Lib.hid hg
    rename_i H10
    clear hs hg hcur hcs hH hml H10
    go_wp2_with fail
    refine H1.out.mono ?_
    rintro e w1 ⟨rfl, q, os, hw1⟩
    have ho := HsI.out q os
    have hb1 := Hg.out q os
    rw [← hw1] at ho hb1
    rw [asc_sorted Hs.out] at ho
    have Hend := Lib.hid (And.intro (ints_of_own (a := some ⟨g, 0, none⟩) (n := n) (cap := cp) (l := L) (by rw [hln] at ho; exact ho)) hb1)
    clear ho hb1 hw1
    go_wp2
    go_ret
    exact ⟨_, cp, rfl, Hend.out.1, Hend.out.2⟩
end Go.Proofs.YtehjgkkcpiblcaaGreat
