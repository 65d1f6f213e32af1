import Derived.Test.YtnbddiiedagllaaGreatSSB28
import Derived.Test.YtnbddiiedagllaaGreatSSB25
import Derived.OwnWalkIn
import Derived.TacticsInMore
import Derived.LoopNIn
import Derived.LoopIn
import Derived.Maps.AppendAt
import Derived.Maps.OwnIn
import Derived.Test.YtnbddiiedagllaaGreatSSB32
import Derived.Test.YtnbddiiedagllaaGreatSSB20
/- The walks of slices.Values, slices.AppendSeq, slices.Collect and slices.Sorted of ints, and of the code's Gap at numbers in ascending order. -/
namespace Go.Proofs.YtnbddiiedagllaaGreat
open Go.RowKit Go.Shelf

attribute [local go_sem] Oper.semAt_some

theorem values_any (p : Option Addr) (n c : Nat) (w : World) :
  Calls Tryz.prog 147 #[.slice p n c] w fun e w' => e = .returned (.func (.func 178) #[] #[.pointer (some ⟨w.heap.size, 0, none⟩)]) ∧ w' = w.alloc (.cells #[.slice p n c] 33) := by
 go_enter Tryz.func147, Tryz.ntmps147
 go_wp2
 go_ret
 exact ⟨rfl, rfl⟩

set_option maxRecDepth 100000 in
set_option maxHeartbeats 2000000 in
theorem vals1_told (m : Nat) (hm1 : 1 ≤ m) (Bn : Nat) (p : Option Addr) (n c : Nat) (L : List Int) (hn : n ≤ 1000000) (I : List Int → Nat → World → Prop)
  (hI : ∀ s N W, I s N W → Ints W p n c L ∧ W.cell? ⟨Bn, 0, none⟩ = some (.slice p n c)) :
  Told m Tryz.prog 178 #[.pointer (some ⟨Bn, 0, none⟩)] (fun x : Int => #[.int .i64 x]) I (fun _ _ _ => True) (fun xs => xs = L) (n + 1) := by
 intro l J W N hg hm hJI hY h0
 obtain ⟨hB0, hc0⟩ := hI _ _ _ (hJI _ _ _ h0)
 have hlen := hB0.len
 refine callsIn_of_wp Tryz.func178 rfl trivial ?_ rfl
 simp only [Tryz.ntmps178, List.size_toArray, List.length_cons, List.length_nil, Nat.reduceAdd, Nat.reduceSub, Array.replicate_succ, Array.replicate_zero, List.push_toArray, List.append_toArray, List.nil_append, List.cons_append]
 gi_wp2
 gi_loopw [7] (fun u wr => ∃ (j N' : Nat), j ≤ n ∧ u = .int .i64 (j : Int) ∧ J (L.take j) N' wr) (fun u _ => n - (intOf u).toNat)
 case atStart => exact ⟨0, N, Nat.zero_le _, rfl, h0⟩
 case round =>
  obtain ⟨j, N', hj, rfl, hJ⟩ := hrel
  obtain ⟨hI1, _⟩ := hI _ _ _ (hJI _ _ _ hJ)
  by_cases hlt : j < n
  ·obtain ⟨b, o, rfl, hc1⟩ := hI1.cell (by omega)
   have hc := hc1 j hlt
   have hnx : L.take (j + 1) = L.take j ++ [L.getD j 0] := by
    rw [List.take_succ_eq_append_getElem (by omega), List.getD_eq_getElem?_getD, List.getElem?_eq_getElem (by omega)]
    rfl
   obtain ⟨fn, tmps, assign, body, hy, hRd⟩ := hY (L.take j) (L.getD j 0) N' wr hJ trivial (by rw [List.length_take]; omega)
   rw [← hnx] at hRd
   have HRd := Lib.hid hRd
   have hji : (j : Int) < (n : Int) := by omega
   clear hc1 hnx hI1 hRd
   generalize L.getD j 0 = x at *
   gi_wp2
   refine HRd.out.mono ?_
   rintro e W3 ⟨rfl, N3, hJ3⟩
   gi_wp2
   go_roundw
   case rel => exact ⟨j + 1, N3, hlt, by go_num, hJ3⟩
   case measure => simp [intOf]; omega
  ·obtain rfl : j = n := by omega
   have hall : L.take j = L := List.take_of_length_le (by omega)
   rw [hall] at hJ
   gi_wp2
   go_end0
   exact ⟨⟨_, rfl⟩, L, N', hJ, rfl⟩

def ApY (w : World) (pre : List Int) (_ : Nat) (W : World) : Prop :=
 (∃ v, Boxed W w.heap.size 33 v ∧ W.ownsRow w.heap.size 3 1 v pre.length (intsE pre)) ∧ Below w.heap.size w W ∧ w.heap.size + 1 ≤ W.heap.size

theorem apY_stands (w : World) (B : Nat) (hB : B = w.heap.size + 1) : Stands B (ApY w) (fun _ _ _ => True) := by
 subst hB
 refine ⟨?_, ?_, ?_, ?_⟩
 ·rintro s N W W' ⟨⟨v, h1, h2⟩, h3, h4⟩ hb
  exact ⟨⟨v, (hb.block _ h1.lt).trans h1, own_below h2 hb⟩, h3.trans (hb.mono h3.size), Nat.le_trans h4 hb.size⟩
 ·rintro s N W h
  exact h
 ·rintro s N W l o o' ⟨⟨v, h1, h2⟩, h3, h4⟩ hl hlo ho
  refine ⟨⟨v, (World.putObj_heap_other (fun e => ?_)).trans h1, ownsRow_putObj h2 o' hlo ho⟩, ?_, by simpa using h4⟩
  ·rw [← e, show W.heap[w.heap.size]? = _ from h1] at hlo
   cases hlo
   cases ho
  ·exact h3.grown (grownBy_putObj' W l o') h3.size (fun k e => by cases e; omega)
 ·rintro N x W l o o' h _ _
  exact h

set_option maxRecDepth 100000 in
set_option maxHeartbeats 2000000 in
theorem appseq_any (p : Option Addr) (n c : Nat) (L : List Int) (Bn : Nat) (w : World) (hI : Ints w p n c L) (hc : w.cell? ⟨Bn, 0, none⟩ = some (.slice p n c)) (hn : n ≤ 1000000) :
  Calls Tryz.prog 200 #[.slice none 0 0, .func (.func 178) #[] #[.pointer (some ⟨Bn, 0, none⟩)]] w fun e w' => ∃ v, e = .returned v ∧ w'.ownsRow w.heap.size 3 1 v n (intsE L) ∧ Below w.heap.size w w' := by
 refine (callsIn_wide (n := 6)).1 ?_
 have HI := Lib.hid hI
 have Hc := Lib.hid hc
 obtain ⟨i0, hi, hz0, hz1, hz2⟩ := info_parts info_int
 clear hI hc
 refine callsIn_of_wp_marks Tryz.func200 rfl trivial ?_ rfl
 simp only [Tryz.ntmps200, List.size_toArray, List.length_cons, List.length_nil, Nat.reduceAdd, Nat.reduceSub, Array.replicate_succ, Array.replicate_zero, List.push_toArray, List.append_toArray, List.nil_append, List.cons_append]
 gi_wp2
 have bO := Boxed.new w 33 (.slice none 0 0)
 have hB0 : Below w.heap.size w (w.alloc (.cells #[.slice none 0 0] 33)) := (Below.refl _ w).alloc (Nat.le_refl _) _
 have hsz : (w.alloc (.cells #[.slice none 0 0] 33)).heap.size = w.heap.size + 1 := by simp
 have h0 : ApY w [] 0 (w.alloc (.cells #[.slice none 0 0] 33)) := ⟨⟨_, bO, World.ownsRow_nil _ _ _ _⟩, hB0, by rw [hsz]; exact Nat.le_refl _⟩
 have hT := vals1_told 5 (by omega) Bn p n c L hn (ApY w) (fun s N W h => ⟨HI.out.grow h.2.1, by rw [h.2.1.cell (p := ⟨Bn, 0, none⟩) (World.block_lt_of_cell? _ _ Hc.out)]; exact Hc.out⟩)
 refine range_told (n := 6) (by omega) (gf := 178) (lb := #[.pointer (some ⟨Bn, 0, none⟩)]) rfl (enters_of Tryz.func178 (by kernel_rfl) rfl) (encs := fun x : Int => #[.int .i64 x]) (fun _ => rfl)
  (apY_stands w _ hsz) hT 0 h0
  (fun x => { tmps := #[.slice none 0 0, .func (.func 178) #[] #[.pointer (some ⟨Bn, 0, none⟩)], .pointer (some ⟨w.heap.size, 0, none⟩), undef, .slice none 0 0, .int .i64 x, .func (.func 178) #[] #[.pointer (some ⟨Bn, 0, none⟩)], .int .i64 x, undef, undef, undef, undef, undef], defers := [] }) ?assign ?body ?done
 case assign =>
  intro l x W K hK
  gi_wp2
  exact hK
 case body =>
  rintro l pre x N W ⟨⟨v, hv, hrow⟩, hB, hW⟩ _ hM
  have hc := hv.cell
  gi_wp2_with (gi_at_builtin; refine wpListIn_append_own_at _ rfl _ _ 33 rfl w.heap.size 3 i0 (.int .i64 0) 1 8 Tryz.underlying33 hi hz0 hz1 hz2 rfl (by decide) _ _ _ rfl (hrow.alloc _) ⟨W.heap.size, 0, none⟩ 1 1 [.int .i64 x] rfl rfl (cell_one_new _ _ _) (by simp [Value.oneCell']) (by rw [maxLen_nat]; omega) (by omega) (by simp; omega) ?_; intro v' w1 hown' hgrow _ hblk; obtain ⟨g', cap', rfl⟩ := ownsRow_succ hown'; obtain ⟨hv1, hv2, hr2, hk2, hb2⟩ := hv.appended (by decide) hrow hB.size (Nat.le_refl _) hown' hgrow; have hc1 := hv1.cell; have hf1 := hv1.frozen)
  exact ⟨hk2.from _, 0, ⟨_, hv2, by rw [List.length_append, intsE_append]; exact hr2⟩, hB.trans hb2, by have := hb2.size; omega⟩
 case done =>
  rintro D xs N W hD rfl ⟨⟨v, hv, hrow⟩, hB, hW⟩ hK
  have hc := hv.cell
  have hln := HI.out.len
  gi_wp2
  refine ⟨by simp, .inl ⟨_, _, rfl, run_takeDeferred hK, ?_⟩⟩
  rw [hln] at hrow
  exact ⟨_, results_tmp rfl _ _ _, v, rfl, ownsRow_putObj hrow _ hK rfl, hB.trans (belowK_b (w := w) (Nat.le_refl _) W D _ _ (by simp at hD; omega) hK rfl rfl)⟩

set_option maxRecDepth 100000 in
theorem collect_any (p : Option Addr) (n c : Nat) (L : List Int) (Bn : Nat) (w : World) (hI : Ints w p n c L) (hc : w.cell? ⟨Bn, 0, none⟩ = some (.slice p n c)) (hn : n ≤ 1000000) :
  Calls Tryz.prog 177 #[.func (.func 178) #[] #[.pointer (some ⟨Bn, 0, none⟩)]] w fun e w' => ∃ v, e = .returned v ∧ w'.ownsRow w.heap.size 3 1 v n (intsE L) ∧ Below w.heap.size w w' := by
 have HA := Lib.hid (appseq_any p n c L Bn w hI hc hn)
 clear hI hc
 go_enter Tryz.func177, Tryz.ntmps177
 go_wp2_with fail
 refine HA.out.mono ?_
 rintro e w' ⟨v, rfl, h1, h2⟩
 go_wp2
 go_ret
 exact ⟨v, rfl, h1, h2⟩

theorem asc_sorted {l : List Int} (h : Asc l) : l.mergeSort (fun x y => decide (x ≤ y)) = l := by
 refine List.mergeSort_of_pairwise ?_
 refine List.Pairwise.imp ?_ h
 intro a b hab
 exact decide_eq_true (Int.le_of_lt hab)

set_option maxRecDepth 100000 in
set_option maxHeartbeats 3200000 in
theorem sorted_any (p : Option Addr) (n c : Nat) (L : List Int) (Bn : Nat) (w : World) (hI : Ints w p n c L) (hc : w.cell? ⟨Bn, 0, none⟩ = some (.slice p n c)) (hn : n ≤ 1000000) (hs : Asc L) :
  Calls Tryz.prog 146 #[.func (.func 178) #[] #[.pointer (some ⟨Bn, 0, none⟩)]] w fun e w' => ∃ q cp, e = .returned (.slice q n cp) ∧ Ints w' q n cp L ∧ Below w.heap.size w w' := by
 have HA := Lib.hid (collect_any p n c L Bn w hI hc hn)
 have hln := hI.len
 have Hs := Lib.hid hs
 clear hI hc hs
 go_enter Tryz.func146, Tryz.ntmps146
 go_wp2_with fail
 refine HA.out.mono ?_
 rintro e wr ⟨v, rfl, hown, hb⟩
 have Hown := Lib.hid hown
 have Hbel := Lib.hid hb
 clear hown hb
 by_cases hz : n = 0
 ·subst hz
  obtain ⟨q, cp, rfl, hI⟩ := own_ints Hown.out
  have H1 := Lib.hid (Tryz.slices_Sort_int_none q cp wr)
  have HI := Lib.hid hI
  clear hI
  go_wp2_with fail
  refine H1.out.mono ?_
  rintro e w1 ⟨rfl, rfl⟩
  go_wp2
  go_ret
  exact ⟨q, cp, rfl, HI.out, Hbel.out⟩
 ·obtain ⟨g, cp, rfl, hbg, hgl, hnc, hcm, _, hH⟩ := Lib.holds_of_ownsRow (enc := Value.int .i64) Hown.out (by
   intro e
   have h := Hown.out
   rw [e] at h
   rcases h.2 with ⟨_, h0⟩ | ⟨_, _, _, e2, _⟩
   ·omega
   ·cases e2)
  obtain ⟨cur, hcur, hcs⟩ : ∃ cur, wr.heap[g]? = some (.cells cur 3 (0, 0)) ∧ cur.size = cp * 1 := by
   rcases Hown.out.2 with ⟨e, _⟩ | ⟨g', cp', cur, e, _, hg, _, _, hs, _⟩
   ·cases e
   ·cases e; exact ⟨cur, hg, hs⟩
  have H1 := Tryz.slices_Sort_int g 0 cp L wr hH hgl (by omega)
  have hml : (L.mergeSort fun x y => decide (x ≤ y)).length = L.length := List.length_mergeSort L
  have hs := fun (q : Nat) (os : Array Obj) => ownsRow_sortedI (w := wr) (base := w.heap.size) (n := q) (os := os) hml hbg hcur (by rw [hln]; exact hnc) (by rw [maxLen_nat] at hcm ⊢; exact hcm) hcs
  have hg := fun (q : Nat) (os : Array Obj) => Hbel.out.grown (grownBy_sortedI (w := wr) (g := g) (n := q) (os := os) (L.mergeSort fun x y => decide (x ≤ y)).toArray) Hbel.out.size (fun x hx => by cases hx; exact hbg)
  rw [hln] at H1
  have H1 := Lib.hid H1
  have HsI := Lib.hid hs
  have Hg := Lib.hid hg
  rename_i H10
  clear hs hg hcur hcs hH hml H10
  go_wp2_with fail
  refine H1.out.mono ?_
  rintro e w1 ⟨rfl, q, os, hw1⟩
  have ho := HsI.out q os
  have hb1 := Hg.out q os
  rw [← hw1] at ho hb1
  rw [asc_sorted Hs.out] at ho
  have Hend := Lib.hid (And.intro (ints_of_own (a := some ⟨g, 0, none⟩) (n := n) (cap := cp) (l := L) (by rw [hln] at ho; exact ho)) hb1)
  clear ho hb1 hw1
  go_wp2
  go_ret
  exact ⟨_, cp, rfl, Hend.out.1, Hend.out.2⟩
end Go.Proofs.YtnbddiiedagllaaGreat

/- The walk of the code's Gap, at numbers of segments in ascending order. -/
namespace Go.Proofs.YtnbddiiedagllaaGreat
open Go.RowKit Go.Shelf

def gapL : List Int → Int
 | a :: b :: r => if a + 1 < b then a + 1 else gapL (b :: r)
 | _ => 0

theorem gapL_at {L : List Int} {j : Nat} (h : j + 1 < L.length) : gapL (L.drop j) = if L[j] + 1 < L[j + 1] then L[j] + 1 else gapL (L.drop (j + 1)) := by
 rw [List.drop_eq_getElem_cons (by omega : j < L.length), List.drop_eq_getElem_cons h]
 rfl

theorem gapL_end {L : List Int} {j : Nat} (h : L.length ≤ j + 1) : gapL (L.drop j) = 0 := by
 rcases Nat.lt_or_ge j L.length with h1 | h1
 ·rw [List.drop_eq_getElem_cons h1, List.drop_eq_nil_of_le h]
  rfl
 ·rw [List.drop_eq_nil_of_le h1]
  rfl

theorem gapL_zero {L : List Int} (hp : ∀ x ∈ L, 0 < x) : ∀ j, gapL (L.drop j) = 0 ↔ ∀ i (h : i + 1 < L.length), j ≤ i → L[i + 1] ≤ L[i] + 1 := by
 suffices H : ∀ k j, L.length ≤ j + k → (gapL (L.drop j) = 0 ↔ ∀ i (h : i + 1 < L.length), j ≤ i → L[i + 1] ≤ L[i] + 1) from fun j => H L.length j (by omega)
 intro k
 induction k with
 | zero =>
  intro j hj
  rw [gapL_end (by omega)]
  exact ⟨fun _ i h hji => by omega, fun _ => rfl⟩
 | succ k ih =>
  intro j hj
  by_cases h : j + 1 < L.length
  ·rw [gapL_at h]
   have hpos := hp L[j] (List.getElem_mem _)
   by_cases hc : L[j] + 1 < L[j + 1]
   ·rw [if_pos hc]
    constructor
    ·intro e; omega
    ·intro q
     have := q j h (Nat.le_refl _)
     omega
   ·rw [if_neg hc, ih (j + 1) (by omega)]
    constructor
    ·intro q i hi hji
     rcases Nat.lt_or_eq_of_le hji with h1 | h1
     ·exact q i hi h1
     ·subst h1; omega
    ·intro q i hi hji
     exact q i hi (by omega)
  ·rw [gapL_end (by omega)]
   exact ⟨fun _ i h' hji => by omega, fun _ => rfl⟩

set_option maxRecDepth 100000 in
set_option maxHeartbeats 3200000 in
theorem gap_any (p : Option Addr) (n c : Nat) (L : List Int) (w : World) (hI : Ints w p n c L) (hn : n ≤ 1000000) (hs : Asc L) (hp : ∀ x ∈ L, 0 < x ∧ x ≤ 1000000000) :
  Calls Tryz.prog 104 #[.slice p n c] w fun e w' => e = .returned (.int .i64 (gapL L)) ∧ Below w.heap.size w w' := by
 have hb1 := (Below.refl w.heap.size w).alloc (Nat.le_refl _) (.cells #[.slice p n c] 33)
 have HV := Lib.hid (values_any p n c w)
 have HS := Lib.hid (sorted_any p n c L w.heap.size (w.alloc (.cells #[.slice p n c] 33)) (hI.grow hb1) (Boxed.new w 33 (.slice p n c)).cell hn hs)
 have Hb1 := Lib.hid hb1
 have Hln := Lib.hid hI.len
 have Hp := Lib.hid hp
 clear hI hs hb1 hp
 go_enter Tryz.func104, Tryz.ntmps104
 go_wp2_with fail
 refine HV.out.mono ?_
 rintro e w1 ⟨rfl, rfl⟩
 go_wp2_with fail
 refine HS.out.mono ?_
 rintro e w2 ⟨q, cp, rfl, hI2, hb2⟩
 have HI2 := Lib.hid hI2
 have Hb2 := Lib.hid (Hb1.out.trans (hb2.mono Hb1.out.size))
 clear hI2 hb2 HV HS
 go_wp2_with fail
 go_loopw [13] (fun i wr => ∃ j : Nat, (j : Int) ≤ max ((n : Int) - 1) 0 ∧ i = .int .i64 (j : Int) ∧ gapL L = gapL (L.drop j) ∧ Below w2.heap.size w2 wr) (fun i _ => n - (intOf i).toNat)
 case atStart => exact ⟨0, by omega, rfl, rfl, Below.refl _ _⟩
 case round =>
  obtain ⟨j, hj, rfl, hg, hb⟩ := hrel
  have Hb := Lib.hid hb
  have Hbw := Lib.hid (Hb2.out.trans (hb.mono Hb2.out.size))
  have hln := Hln.out
  by_cases hlt : j + 1 < n
  ·obtain ⟨b, o, rfl, hc0⟩ := (HI2.out.grow hb).cell (by omega)
   have hc := hc0 j (by omega)
   have hc2 := hc0 (j + 1) hlt
   have hj0 : j < L.length := by omega
   have hj1 : j + 1 < L.length := by omega
   have e1 : L.getD j 0 = L[j] := by rw [List.getD_eq_getElem?_getD, List.getElem?_eq_getElem hj0]; rfl
   have e2 : L.getD (j + 1) 0 = L[j + 1] := by rw [List.getD_eq_getElem?_getD, List.getElem?_eq_getElem hj1]; rfl
   rw [e1] at hc
   rw [e2] at hc2
   have hat := gapL_at hj1
   obtain ⟨p1, p2⟩ := Hp.out L[j] (List.getElem_mem _)
   obtain ⟨p3, p4⟩ := Hp.out L[j + 1] (List.getElem_mem _)
   rw [← hg] at hat
   have Hat := Lib.hid hat
   generalize L[j] = x at *
   generalize L[j + 1] = y at *
   have hji : (j : Int) < (n : Int) - 1 := by omega
   have hj64 : (j : Int) + 1 < (n : Int) := by omega
   have hx1 : ¬ y ≤ x ∨ y ≤ x := by omega
   clear hc0 e1 e2 hg hat hj hb
   by_cases hxy : x < y
   ·by_cases hxy2 : x + 1 < y
    ·have hr := Hat.out
     rw [if_pos hxy2] at hr
     have Hr := Lib.hid hr
     clear hr
     go_wp2
     go_region
     go_wp2
     go_ret
     exact ⟨by rw [Hr.out]; rfl, Hbw.out.drew⟩
    ·have hr := Hat.out
     rw [if_neg hxy2] at hr
     have Hr := Lib.hid hr
     clear hr
     go_wp2
     go_region
     go_wp2
     go_roundw
     case rel => exact ⟨j + 1, by omega, by go_num, Hr.out, Hb.out.drew⟩
     case measure => simp [intOf]; omega
   ·have hr := Hat.out
    rw [if_neg (by omega)] at hr
    have Hr := Lib.hid hr
    clear hr
    go_wp2
    go_region
    go_wp2
    go_roundw
    case rel => exact ⟨j + 1, by omega, by go_num, Hr.out, Hb.out.drew⟩
    case measure => simp [intOf]; omega
  ·have hji : ¬ (j : Int) < (n : Int) - 1 := by omega
   have hend := gapL_end (L := L) (j := j) (by omega)
   rw [← hg] at hend
   have Hend := Lib.hid hend
   clear hg hend hb
   go_wp2
   go_ret
   exact ⟨by rw [Hend.out]; rfl, Hbw.out⟩
end Go.Proofs.YtnbddiiedagllaaGreat

/- What a log on any files is, as plain data: its segments, its first one, whether it is broken, its records, what is torn. -/
namespace Go.Proofs.YtnbddiiedagllaaGreat
open Go.RowKit

structure PS where
 n : Int
 ls : List (List Nat)
 t : List Nat

def PS.mark (p : PS) : Bool := markOf p.ls
def PS.recs (p : PS) : List (List Nat) := restOf p.ls

def AllOf (M : DM) (ps : List PS) : Prop := SegsOf M (ps.map PS.n) ∧ ∀ p ∈ ps, Splits (readM (nmB p.n.toNat) M).1 p.ls p.t

theorem allOf_uniq {M : DM} {ps qs : List PS} (hp : AllOf M ps) (hq : AllOf M qs) : ps = qs := by
 have hm := segsOf_uniq hp.1 hq.1
 have hl : ps.length = qs.length := by have := congrArg List.length hm; simpa using this
 apply List.ext_getElem hl
 intro i h1 h2
 have hn : ps[i].n = qs[i].n := by
  have := congrArg (fun l => l[i]?) hm
  simp only [List.getElem?_map, List.getElem?_eq_getElem h1, List.getElem?_eq_getElem h2, Option.map_some, Option.some.injEq] at this
  exact this
 have e1 := hp.2 ps[i] (List.getElem_mem h1)
 have e2 := hq.2 qs[i] (List.getElem_mem h2)
 rw [hn] at e1
 obtain ⟨h3, h4⟩ := splits_uniq e1 e2
 cases hx : ps[i]
 cases hy : qs[i]
 rw [hx, hy] at hn h3 h4
 simp only at hn h3 h4
 rw [hn, h3, h4]

def FirstAt (ps : List PS) (k : Nat) : Prop := ∃ h : k < ps.length, (∀ i (h : i < ps.length), k < i → ps[i].mark = false) ∧ (k = 0 ∨ ps[k].mark = true)

theorem firstAt_uniq {ps : List PS} {k k' : Nat} (h : FirstAt ps k) (h' : FirstAt ps k') : k = k' := by
 obtain ⟨a, b, c⟩ := h
 obtain ⟨a', b', c'⟩ := h'
 rcases Nat.lt_trichotomy k k' with hlt | rfl | hlt
 ·rcases c' with c' | c'
  ·omega
  ·rw [b k' a' hlt] at c'; cases c'
 ·rfl
 ·rcases c with c | c
  ·omega
  ·rw [b' k a hlt] at c; cases c

def GoodAt (qs : List PS) (i : Nat) (h : i < qs.length) : Prop := (∀ h0 : 0 < i, qs[i].n = (qs[i - 1]'(by omega)).n + 1) ∧ (i + 1 < qs.length → qs[i].t = []) ∧ [] ∉ qs[i].recs
def Good (qs : List PS) : Prop := ∀ i (h : i < qs.length), GoodAt qs i h

def recsL (qs : List PS) : List (List Nat) := (qs.map PS.recs).flatten

theorem recsL_snoc (qs : List PS) (p : PS) : recsL (qs ++ [p]) = recsL qs ++ p.recs := by
 unfold recsL
 rw [List.map_append, List.flatten_append, List.map_cons, List.map_nil, List.flatten_cons, List.flatten_nil, List.append_nil]

structure LR where
 z : Int
 recs : List (List Nat)
 torn : Nat

def IsLog (ps : List PS) (x : LR) : Prop :=
 (ps = [] ∧ x = ⟨0, [], 0⟩) ∨ ∃ (k : Nat) (h : 0 < ps.length), FirstAt ps k ∧ ((¬ Good (ps.drop k) ∧ x = ⟨11, [], 0⟩) ∨ (Good (ps.drop k) ∧ x = ⟨0, recsL (ps.drop k), (ps[ps.length - 1]'(by omega)).t.length⟩))

theorem isLog_uniq {ps : List PS} {x y : LR} (hx : IsLog ps x) (hy : IsLog ps y) : x = y := by
 rcases hx with ⟨h0, rfl⟩ | ⟨k, hp, hk, hx⟩
 ·rcases hy with ⟨_, rfl⟩ | ⟨k', hp', _⟩
  ·rfl
  ·rw [h0] at hp'; exact absurd hp' (Nat.lt_irrefl _)
 ·rcases hy with ⟨h0, _⟩ | ⟨k', hp', hk', hy⟩
  ·rw [h0] at hp; exact absurd hp (Nat.lt_irrefl _)
  ·obtain rfl := firstAt_uniq hk hk'
   rcases hx with ⟨h1, rfl⟩ | ⟨h1, rfl⟩
   ·rcases hy with ⟨_, rfl⟩ | ⟨h2, _⟩
    ·rfl
    ·exact absurd h2 h1
   ·rcases hy with ⟨h2, _⟩ | ⟨_, rfl⟩
    ·exact absurd h1 h2
    ·rfl

def Stands1 (x : PD) (rs : List (List Nat)) (p : PS) : Prop := x.n = p.n ∧ x.mark = p.mark ∧ rs = p.recs ∧ x.tn = (p.t.length : Int)

theorem gathL_good : ∀ (xs : List (PD × List (List Nat))) (qs : List PS) (acc : List (List Nat)), xs.length = qs.length → (∀ i (h : i < xs.length) (h' : i < qs.length), Stands1 xs[i].1 xs[i].2 qs[i]) →
  (gathL xs acc = some (acc ++ recsL qs) ∧ ∀ i (h : i < qs.length), (i + 1 < qs.length → qs[i].t = []) ∧ [] ∉ qs[i].recs) ∨ (gathL xs acc = none ∧ ∃ i, ∃ h : i < qs.length, ¬ ((i + 1 < qs.length → qs[i].t = []) ∧ [] ∉ qs[i].recs))
 | [], qs, acc, hl, _ => by
  have : qs = [] := List.length_eq_zero_iff.1 hl.symm
  subst this
  exact .inl ⟨by simp [gathL, recsL], fun i h => absurd h (by simp)⟩
 | x :: xs, qs, acc, hl, hs => by
  match qs with
  | [] => cases hl
  | q :: qs =>
   have h0 := hs 0 (by simp) (by simp)
   simp only [List.getElem_cons_zero] at h0
   obtain ⟨_, _, hr, ht⟩ := h0
   have hl' : xs.length = qs.length := by simpa using hl
   have hne : xs ≠ [] ↔ 0 + 1 < (q :: qs).length := by
    rw [List.length_cons, ← hl']
    cases xs with
    | nil => simp
    | cons a b => simp
   by_cases hb : (0 < x.1.tn ∧ xs ≠ []) ∨ [] ∈ x.2
   ·refine .inr ⟨if_pos hb, 0, by simp, fun ⟨g1, g2⟩ => ?_⟩
    simp only [List.getElem_cons_zero] at g1 g2
    rcases hb with ⟨b1, b2⟩ | b1
    ·have := g1 (hne.1 b2)
     rw [ht, this] at b1
     exact absurd b1 (by simp)
    ·rw [hr] at b1
     exact g2 b1
   ·have hg : gathL (x :: xs) acc = gathL xs (acc ++ x.2) := if_neg hb
    rw [hg]
    have hz : (0 + 1 < (q :: qs).length → q.t = []) ∧ [] ∉ q.recs := by
     refine ⟨fun h => ?_, fun h => hb (.inr (by rw [hr]; exact h))⟩
     by_cases h1 : q.t = []
     ·exact h1
     ·have : 0 < q.t.length := List.length_pos_iff.2 h1
      exact absurd (.inl ⟨by rw [ht]; omega, hne.2 h⟩) hb
    rcases gathL_good xs qs (acc ++ x.2) hl' (fun i h h' => by
      have := hs (i + 1) (by simp; omega) (by simp; omega)
      simpa using this) with ⟨g1, g2⟩ | ⟨g1, i, h, g2⟩
    ·refine .inl ⟨?_, fun i h => ?_⟩
     ·rw [g1, hr, List.append_assoc]
      rfl
     ·match i with
      | 0 => exact hz
      | i + 1 =>
       have h2 : i < qs.length := by simpa using h
       have := g2 i h2
       simp only [List.getElem_cons_succ, List.length_cons]
       exact ⟨fun h3 => this.1 (by omega), this.2⟩
    ·refine .inr ⟨g1, i + 1, by simp; omega, fun h3 => g2 ?_⟩
     simp only [List.getElem_cons_succ, List.length_cons] at h3
     exact ⟨fun h4 => h3.1 (by omega), h3.2⟩

theorem gap_good {qs : List PS} (hp : ∀ x ∈ qs.map PS.n, 0 < x) (ha : Asc (qs.map PS.n)) : gapL (qs.map PS.n) = 0 ↔ ∀ i (h : i < qs.length) (h0 : 0 < i), qs[i].n = (qs[i - 1]'(by omega)).n + 1 := by
 have h := gapL_zero hp 0
 rw [List.drop_zero] at h
 rw [h]
 have hasc : ∀ i (h : i + 1 < (qs.map PS.n).length), (qs.map PS.n)[i] < (qs.map PS.n)[i + 1] := fun i h => (List.pairwise_iff_getElem.1 ha) i (i + 1) (by omega) h (by omega)
 constructor
 ·intro hh i hi h0
  have h1 := hh (i - 1) (by rw [List.length_map]; omega) (Nat.zero_le _)
  have h2 := hasc (i - 1) (by rw [List.length_map]; omega)
  have e : i - 1 + 1 = i := by omega
  simp only [List.getElem_map, e] at h1 h2
  omega
 ·intro hh i hi _
  have h1 := hh (i + 1) (by rw [List.length_map] at hi; exact hi) (by omega)
  simp only [Nat.add_sub_cancel] at h1
  simp only [List.getElem_map]
  omega

theorem good_iff {qs : List PS} (hp : ∀ x ∈ qs.map PS.n, 0 < x) (ha : Asc (qs.map PS.n)) : Good qs ↔ gapL (qs.map PS.n) = 0 ∧ ∀ i (h : i < qs.length), (i + 1 < qs.length → qs[i].t = []) ∧ [] ∉ qs[i].recs := by
 rw [gap_good hp ha]
 exact ⟨fun h => ⟨fun i hi h0 => (h i hi).1 h0, fun i hi => (h i hi).2⟩, fun h i hi => ⟨fun h0 => h.1 i hi h0, h.2 i hi⟩⟩
end Go.Proofs.YtnbddiiedagllaaGreat

/- What the reference reads of a segment that is there. -/
namespace Go.Proofs.YtnbddiiedagllaaGreat
open Go.RowKit Go.Maps Go.Shelf

theorem markAt_split {l t : List Nat} {ls : List (List Nat)} {b : Bool} (hs : Splits l ls t) (hm : MarkAt l b) : b = markOf ls := by
 match ls, hs with
 | [], hs =>
  have e : l = t := by have := hs.eq; rwa [joinL_nil, List.nil_append] at this
  rcases hm with ⟨r, t', hl, hr, _⟩ | ⟨_, rfl⟩
  ·exact absurd (e.symm.trans hl) (hs.no r t' hr)
  ·rfl
 | q :: ls, hs =>
  have e : l = frameL q ++ (joinL ls ++ t) := by have := hs.eq; rwa [joinL_cons, List.append_assoc] at this
  rcases hm with ⟨r, t', hl, hr, rfl⟩ | ⟨hno, _⟩
  ·obtain ⟨rfl, _⟩ := frame_uniq (hl.symm.trans e)
   rfl
  ·exact absurd e (hno q _ (hs.recs q (List.mem_cons_self ..)))

theorem seg_file {M : DM} {ps : List PS} (hA : AllOf M ps) {R : List FR} (hfs : R.map FR.f = M.fs) (hd : M.down = false) {p : PS} (hp : p ∈ ps) :
  ∃ (N : Nat) (y : FR), p.n = (N : Int) ∧ 1 ≤ N ∧ N ≤ 99999999 ∧ findN FR.n (nmB N) R = some y ∧ y ∈ R ∧ y.f.b = joinL p.ls ++ p.t ∧ Splits y.f.b p.ls p.t := by
 obtain ⟨l, hl1, hl2, hl3⟩ := (hA.1.2 p.n).1 (List.mem_map.2 ⟨p, hp, rfl⟩)
 obtain ⟨f, hf, rfl⟩ := List.mem_map.1 hl1
 have hnb := nmB_of_num hl2
 have hle2 := segNum_le (nmL f.n)
 obtain ⟨N, hN⟩ : ∃ N, N = segNum (nmL f.n) := ⟨_, rfl⟩
 rw [← hN] at hl2 hl3 hle2 hnb
 obtain ⟨f', hf'⟩ := findN_have (n := nmB N) ⟨f, hf, hnb.symm⟩
 have hfd : findN F.n (nmB N) M.fs = (findN FR.n (nmB N) R).map FR.f := by rw [← hfs]; exact findN_map FR.n F.n FR.f (fun _ => rfl) (nmB N) R
 rw [hf'] at hfd
 cases hy : findN FR.n (nmB N) R with
 | none => rw [hy] at hfd; cases hfd
 | some y =>
  rw [hy] at hfd
  have hyf : f' = y.f := Option.some.inj hfd
  have hs := hA.2 p hp
  rw [hl3, Int.toNat_natCast, readM_up hd hf', hyf] at hs
  exact ⟨N, y, hl3, by omega, hle2, hy, (findN_some hy).1, hs.eq, hs⟩

theorem allOf_asc {M : DM} {ps : List PS} (hA : AllOf M ps) : Asc (ps.map PS.n) := hA.1.1

theorem allOf_pos {M : DM} {ps : List PS} (hA : AllOf M ps) : ∀ x ∈ ps.map PS.n, 0 < x ∧ x ≤ 99999999 := by
 intro x hx
 obtain ⟨l, _, h1, rfl⟩ := (hA.1.2 x).1 hx
 have := segNum_le l
 omega

theorem allOf_lt {M : DM} {ps : List PS} (hA : AllOf M ps) {i j : Nat} (hi : i < j) (hj : j < ps.length) : (ps[i]'(by omega)).n < ps[j].n := by
 have := (List.pairwise_iff_getElem.1 hA.1.1) i j (by rw [List.length_map]; omega) (by rw [List.length_map]; exact hj) hi
 simpa using this

theorem allOf_lt_iff {M : DM} {ps : List PS} (hA : AllOf M ps) {i j : Nat} (hi : i < ps.length) (hj : j < ps.length) : ps[i].n < ps[j].n ↔ i < j := by
 constructor
 ·intro h
  rcases Nat.lt_trichotomy i j with g | g | g
  ·exact g
  ·subst g; omega
  ·have := allOf_lt hA g hi; omega
 ·exact fun h => allOf_lt hA h hj
end Go.Proofs.YtnbddiiedagllaaGreat

/- Files found by their names: after a removal, a change, a crash. -/
namespace Go.Proofs.YtnbddiiedagllaaGreat
open Go.RowKit Go.Maps

section
variable {α : Type}

theorem fd_del (f : α → List UInt8) (n m : List UInt8) (l : List α) : findN f n (delN f m l) = if n = m then none else findN f n l := by
 unfold findN delN
 rw [List.find?_filter]
 split
 ·next h =>
  subst h
  rw [List.find?_eq_none]
  intro x _ hx
  have hx := of_decide_eq_true hx
  simp only [Bool.not_eq_true'] at hx
  rw [hx.2] at hx
  exact absurd hx.1 (by simp)
 ·next h =>
  congr 1
  funext x
  by_cases e : f x = n
  ·simp [e, h]
  ·simp [e]

theorem fd_ins (f : α → List UInt8) (n : List UInt8) (x : α) : ∀ l : List α, (∀ y ∈ l, f y ≠ f x) → findN f n (insN f x l) = if n = f x then some x else findN f n l
 | [], _ => by
  unfold insN findN
  by_cases e : n = f x
  ·simp [e]
  ·simp [e, Ne.symm e]
 | y :: l, h => by
  have hy := h y (List.mem_cons_self ..)
  have ih := fd_ins f n x l (fun z hz => h z (List.mem_cons_of_mem _ hz))
  unfold insN
  split
  ·unfold findN
   by_cases e : n = f x
   ·simp [e]
   ·simp [e, Ne.symm e]
  ·unfold findN at ih ⊢
   by_cases e : f y = n
   ·have : n ≠ f x := fun e2 => hy (e.trans e2)
    simp [e, this]
   ·rw [List.find?_cons_of_neg (by simpa using e), List.find?_cons_of_neg (by simpa using e)]
    exact ih

theorem fd_put (f : α → List UInt8) (n : List UInt8) (x : α) (l : List α) : findN f n (putN f x l) = if n = f x then some x else findN f n l := by
 unfold putN
 rw [fd_ins f n x _ (fun y hy => by
  unfold delN at hy
  have := (List.mem_filter.1 hy).2
  simpa using this), fd_del]
 split
 ·rfl
 ·rfl

theorem fd_set (f : α → List UInt8) (n : List UInt8) (x : α) : ∀ l : List α, findN f n (setN f x l) = if n = f x then (findN f n l).map (fun _ => x) else findN f n l
 | [] => by unfold setN findN; simp
 | y :: l => by
  have ih := fd_set f n x l
  unfold setN findN at ih ⊢
  rw [List.map_cons]
  by_cases e : f y = f x
  ·rw [if_pos (by simpa using e)]
   by_cases e2 : n = f x
   ·subst e2
    simp [e]
   ·rw [if_neg e2] at ih ⊢
    rw [List.find?_cons_of_neg (by simpa using fun h => e2 h.symm), List.find?_cons_of_neg (by simpa [e] using fun h => e2 h.symm)]
    exact ih
  ·rw [if_neg (by simpa using e)]
   by_cases e3 : f y = n
   ·have : n ≠ f x := fun h => e (e3.trans h)
    rw [if_neg this, List.find?_cons_of_pos (by simpa using e3), List.find?_cons_of_pos (by simpa using e3)]
   ·rw [List.find?_cons_of_neg (by simpa using e3), List.find?_cons_of_neg (by simpa using e3)]
    exact ih
end

def segC (fs : List F) (N : Nat) : Option (List Nat) := (findN F.n (nmB N) fs).map F.b

end Go.Proofs.YtnbddiiedagllaaGreat

