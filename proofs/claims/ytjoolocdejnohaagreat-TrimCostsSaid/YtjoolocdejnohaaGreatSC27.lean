import Derived.Test.YtjoolocdejnohaaGreatSC26
import Derived.Sort.OwnSortedInts
import Derived.Test.YtjoolocdejnohaaGreatSC21
import Derived.Test.YtjoolocdejnohaaGreatSC11
import Derived.Maps.AppendAt
import Derived.Test.YtjoolocdejnohaaGreatSC13
import Derived.Test.YtjoolocdejnohaaGreatSC14
import Derived.Test.YtjoolocdejnohaaGreatSC19
import Derived.Test.YtjoolocdejnohaaGreatSC2
import Derived.Deep.QuietTactic
import Derived.BigQuiet
/- The walk of the code's List of segments. -/
namespace Go.Proofs.YtjoolocdejnohaaGreat
open Go.RowKit

theorem numsOf_next {ls : List (List Nat)} {k : Nat} (hk : k < ls.length) {x : Int} : NumsOf (ls.take (k + 1)) x ↔ NumsOf (ls.take k) x ∨ (0 < segNum (ls.getD k []) ∧ x = ((segNum (ls.getD k []) : Nat) : Int)) := by
  have e : ls.take (k + 1) = ls.take k ++ [ls.getD k []] := by
    rw [List.take_succ_eq_append_getElem hk, List.getD_eq_getElem?_getD, List.getElem?_eq_getElem hk]; rfl
  unfold NumsOf
  rw [e]
  constructor
  · rintro ⟨l, hl, h1, h2⟩
    rcases List.mem_append.1 hl with h | h
    · exact .inl ⟨l, h, h1, h2⟩
    · obtain rfl : l = ls.getD k [] := by simpa using h
      exact .inr ⟨h1, h2⟩
  · rintro (⟨l, hl, h1, h2⟩ | ⟨h1, h2⟩)
    · exact ⟨l, List.mem_append.2 (.inl hl), h1, h2⟩
    · exact ⟨_, List.mem_append.2 (.inr (by simp)), h1, h2⟩

/-- A list of the call's own: the numbers of all segments among some names, in ascending order, each once. -/
def ListEnd (w : World) (ls : List (List Nat)) (e : Ending) (w' : World) : Prop :=
  ∃ (v : Value) (out : List Int), e = .returned v ∧ Asc out ∧ (∀ x, x ∈ out ↔ NumsOf ls x) ∧ out.length ≤ ls.length ∧ w'.ownsRow w.heap.size 3 1 v out.length (intsE out) ∧ Below w.heap.size w w'

def SlRel (w : World) (n : Nat) (ls : List (List Nat)) (v i : Value) (wr : World) : Prop :=
  ∃ (k : Nat) (zs : List Int), k ≤ n ∧ i = .int .i64 (k : Int) ∧ zs.length ≤ k ∧ (∀ x, x ∈ zs ↔ NumsOf (ls.take k) x) ∧ wr.ownsRow w.heap.size 3 1 v zs.length (intsE zs) ∧ Below w.heap.size w wr

set_option maxRecDepth 100000 in
set_option maxHeartbeats 3200000 in
theorem seglist_any (a : Option Addr) (n cap : Nat) (ls : List (List Nat)) (w : World) (hS : Strs w a n cap ls) (hn : n ≤ 1000) :
    Calls Tryz.prog 47 #[.slice a n cap] w (ListEnd w ls) := by
  have HS := Lib.hid hS
  clear hS
  go_enter Tryz.func47, Tryz.ntmps47
  go_wp2
  go_loopw [3, 10] (fun v i wr => SlRel w n ls v i wr) (fun _ i _ => n - (intOf i).toNat)
  case atStart => exact ⟨0, [], Nat.zero_le _, rfl, Nat.le_refl _, fun x => ⟨fun h => (by cases h), fun ⟨l, hl, _⟩ => (by rw [List.take_zero] at hl; cases hl)⟩, World.ownsRow_nil _ _ _ _, Below.refl _ _⟩
  case round =>
    obtain ⟨k, zs, hk, rfl, hzl, hmem, hown, hbel⟩ := hrel
    have Hmem := Lib.hid hmem
    have Hzl := Lib.hid hzl
    have Hown := Lib.hid hown
    have Hbel := Lib.hid hbel
    clear hmem hzl hown hbel
    by_cases hlt : k < n
    · obtain ⟨b, o, rfl, hc0⟩ := (HS.out.grow Hbel.out).cell (by omega)
      have hc := hc0 k hlt
      have Hnx := Lib.hid (fun x => numsOf_next (ls := ls) (k := k) (by rw [HS.out.len]; exact hlt) (x := x))
      obtain ⟨hby, hlen⟩ : (∀ x ∈ ls.getD k [], x < 256) ∧ (ls.getD k []).length ≤ 9223372036854775807 := by
        rw [List.getD_eq_getElem?_getD, List.getElem?_eq_getElem (by rw [HS.out.len]; exact hlt)]
        exact HS.out.byte _ (List.getElem_mem _)
      have HC := Lib.hid (segnum_any (ls.getD k []) wr hby hlen)
      unfold NumEnd at HC
      clear hc0 hby hlen
      generalize ls.getD k [] = l at *
      have Hlt := Lib.hid hlt
      generalize str l = s at *
      by_cases h0 : 0 < segNum l
      · have H0 := Lib.hid h0
        rw [decide_eq_true h0] at HC
        generalize segNum l = m at *
        clear h0
        go_wp2_with fail
        refine HC.out.mono ?_
        rintro e w1 ⟨rfl, hb1⟩
        have Hb1 := Lib.hid hb1
        have Hbw := Lib.hid (Hbel.out.trans (hb1.mono Hbel.out.size))
        clear hb1
        have Hrow := Lib.hid (int_row w1 (m : Int))
        have Hown1 := Lib.hid ((own_below Hown.out Hb1.out).alloc (.cells #[.int .i64 (m : Int)] 3))
        go_wp2_with (at_builtin; refine wpList_append_ints _ rfl _ _ 33 rfl w.heap.size 3 Tryz.underlying33 info_int _ _ _ rfl Hown1.out _ 1 1 [(m : Int)] rfl Hrow.out (by have := Hzl.out; omega) (by simp; have := Hbw.out.size; omega) ?_; intro v' w2 g1 g2)
        go_roundw
        case rel =>
          refine ⟨k + 1, zs ++ [(m : Int)], Hlt.out, by go_num, by have := Hzl.out; simp; omega, fun x => ?_, by simpa using g1, ?_⟩
          · rw [Hnx.out x, List.mem_append, Hmem.out x, List.mem_singleton]
            constructor
            · rintro (h | h)
              · exact .inl h
              · exact .inr ⟨H0.out, h⟩
            · rintro (h | ⟨_, h⟩)
              · exact .inl h
              · exact .inr h
          · have hb : Below w.heap.size w (w1.alloc (.cells #[.int .i64 (m : Int)] 3)) := Hbw.out.alloc Hbw.out.size _
            exact hb.grown g2 hb.size (fun x hx => (Hown.out.lt x hx).1)
        case measure => simp [intOf]; have := Hlt.out; omega
      · have H0 := Lib.hid h0
        rw [decide_eq_false h0] at HC
        generalize segNum l = m at *
        clear h0
        go_wp2_with fail
        refine HC.out.mono ?_
        rintro e w1 ⟨rfl, hb1⟩
        have Hb1 := Lib.hid hb1
        have Hbw := Lib.hid (Hbel.out.trans (hb1.mono Hbel.out.size))
        clear hb1
        go_wp2
        go_roundw
        case rel =>
          refine ⟨k + 1, zs, Hlt.out, by go_num, by have := Hzl.out; omega, fun x => ?_, own_below Hown.out Hb1.out, Hbw.out⟩
          rw [Hnx.out x, Hmem.out x]
          constructor
          · exact .inl
          · rintro (h | ⟨h, _⟩)
            · exact h
            · exact absurd h H0.out
        case measure => simp [intOf]; have := Hlt.out; omega
    · obtain rfl : k = n := by omega
      have Hfull := Lib.hid (show ls.take k = ls from List.take_of_length_le (by rw [HS.out.len]; omega))
      by_cases hz : zs.length = 0
      · obtain rfl : zs = [] := List.length_eq_zero_iff.1 hz
        obtain ⟨p, cp, rfl, _⟩ := own_ints Hown.out
        have H1 := Lib.hid (Tryz.slices_Sort_int_none p cp wr)
        have H2 := Lib.hid (Tryz.slices_Compact_int_empty p cp wr)
        clear hz hlt
        go_wp2_with fail
        refine H1.out.mono ?_
        rintro e w1 ⟨rfl, rfl⟩
        go_wp2_with fail
        refine H2.out.mono ?_
        rintro e w2 ⟨rfl, rfl⟩
        go_wp2
        go_ret
        exact ⟨_, [], rfl, List.Pairwise.nil, fun x => by rw [Hmem.out x, Hfull.out], Nat.zero_le _, Hown.out, Hbel.out⟩
      · obtain ⟨g, cp, rfl, hbg, hgl, hnc, hcm, _, hH⟩ := Lib.holds_of_ownsRow (enc := Value.int .i64) Hown.out (by
          intro e
          have h := Hown.out
          rw [e] at h
          rcases h.2 with ⟨_, h0⟩ | ⟨_, _, _, e2, _⟩
          · omega
          · cases e2)
        obtain ⟨cur, hcur, hcs⟩ : ∃ cur, wr.heap[g]? = some (.cells cur 3 (0, 0)) ∧ cur.size = cp * 1 := by
          rcases Hown.out.2 with ⟨e, _⟩ | ⟨g', cp', cur, e, _, hg, _, _, hs, _⟩
          · cases e
          · cases e; exact ⟨cur, hg, hs⟩
        have H1 := Lib.hid (Tryz.slices_Sort_int g 0 cp zs wr hH hgl (by have := Hzl.out; omega))
        have hml : (zs.mergeSort fun x y => decide (x ≤ y)).length = zs.length := List.length_mergeSort zs
        have Hs := Lib.hid (fun (q : Nat) (os : Array Obj) => ownsRow_sortedI (w := wr) (base := w.heap.size) (n := q) (os := os) hml hbg hcur hnc (by rw [maxLen_nat] at hcm ⊢; exact hcm) hcs)
        have Hg := Lib.hid (fun (q : Nat) (os : Array Obj) => Hbel.out.grown (grownBy_sortedI (w := wr) (g := g) (n := q) (os := os) (zs.mergeSort fun x y => decide (x ≤ y)).toArray) Hbel.out.size (fun x hx => by cases hx; exact hbg))
        obtain ⟨hasc, hmm⟩ := compact_sorted zs
        have Hasc := Lib.hid hasc
        have Hmm := Lib.hid hmm
        clear hasc hmm hH hcur hcs
        generalize hso : zs.mergeSort (fun x y => decide (x ≤ y)) = so at *
        clear hso
        have Hml := Lib.hid hml
        have hz2 : zs.length ≤ 1000 := by have := Hzl.out; omega
        have Hcl := Lib.hid (show (Lib.compact so).length ≤ so.length from by
          unfold Lib.compact Lib.compactUpTo
          rw [List.length_map]
          exact Nat.le_trans (List.length_filter_le _ _) (by rw [List.length_range]; exact Nat.le_refl _))
        have hcap : zs.length ≤ cp := hnc
        clear hml hz hlt
        go_wp2_with fail
        refine H1.out.mono ?_
        rintro e w1 ⟨rfl, q, os, hw1⟩
        have ho := Hs.out q os
        have hb1 := Hg.out q os
        rw [← hw1] at ho hb1
        have Ho := Lib.hid ho
        have Hb1 := Lib.hid hb1
        obtain ⟨g2, cp2, e2, hbg2, _, _, _, _, hH2⟩ := Lib.holds_of_ownsRow (enc := Value.int .i64) (zs := so) ho (by intro e; cases e)
        cases e2
        have H2 := Tryz.slices_Compact_int g 0 cp so w1 hH2 (by rw [Hml.out]; omega) (by rw [Hml.out]; exact hcap)
        rw [Hml.out] at H2
        have H2 := Lib.hid H2
        have Hup := Lib.hid (fun q2 => Lib.ownsRow_putRow (q := q2) (k := (Lib.compact so).length) (ys := Lib.compact so ++ List.replicate (zs.length - (Lib.compact so).length) 0) ho (by have := Hcl.out; have := Hml.out; simp; omega) (by have := Hcl.out; have := Hml.out; omega))
        have Hbl := Lib.hid (fun q2 => Lib.below_putRow (q := q2) (enc := Value.int .i64) (d := (Lib.compact so ++ List.replicate (zs.length - (Lib.compact so).length) 0).toArray) hb1 hbg)
        rw [List.take_left' rfl] at Hup
        clear ho hb1 hw1 hH2
        rename_i H20
        clear H20
        go_wp2_with fail
        refine H2.out.mono ?_
        rintro e w2 ⟨rfl, q2, rfl⟩
        have hu := Lib.hid (Hup.out q2)
        have hb := Lib.hid (Hbl.out q2)
        generalize Go.Sort.putRow (Value.int .i64) (Go.Sort.ahead w1 q2) g 0 (Lib.compact so ++ List.replicate (zs.length - (Lib.compact so).length) 0).toArray = w2 at *
        go_wp2
        go_ret
        exact ⟨_, _, rfl, Hasc.out, fun x => by rw [Hmm.out x, Hmem.out x, Hfull.out], by have := Hcl.out; have := Hml.out; have := HS.out.len; have := Hzl.out; omega, hu.out, hb.out⟩
end Go.Proofs.YtjoolocdejnohaaGreat

/- The walk of the statements' records: the records of the segments of a disk. -/
namespace Go.Proofs.YtjoolocdejnohaaGreat
open Go.RowKit Go.Maps Go.Shelf


theorem PartsZ.trivial {w : World} {base : Nat} {v : Value} {ls : List (List Nat)} (h : OwnParts w base v ls) : PartsZ (fun _ => True) w base v ls := by
  obtain ⟨vs, h1, h2, h3⟩ := h
  refine ⟨vs, h1, h2, fun i hi => ?_⟩
  obtain ⟨a, n, c, h4, h5, h6⟩ := h3 i hi
  exact ⟨a, n, c, h4, h5, fun hn x hx => ⟨h6 hn x hx, True.intro⟩⟩

/-- Where neither the row nor the bytes have been turned. -/
theorem PartsZ.moved {Z : Nat → Prop} {W W' : World} {base : Nat} {v : Value} {ls : List (List Nat)} (h : PartsZ Z W base v ls) (hZ : ∀ b, Z b → b < W.heap.size → W'.heap[b]? = W.heap[b]?) (hr : ∀ k, v.ownBlock = some k → W'.heap[k]? = W.heap[k]?) : PartsZ Z W' base v ls := by
  obtain ⟨vs, h1, h2, h3⟩ := h
  refine ⟨vs, h1, ⟨h2.1, ?_⟩, fun i hi => ?_⟩
  · rcases h2.2 with ⟨rfl, h0⟩ | ⟨g, cap, cur, rfl, hb, hg, hq⟩
    · exact .inl ⟨rfl, h0⟩
    · exact .inr ⟨g, cap, cur, rfl, hb, (hr g rfl).trans hg, hq⟩
  · obtain ⟨a, n, c, h4, h5, h6⟩ := h3 i hi
    exact ⟨a, n, c, h4, h5.off (fun hn x hx hlt => hZ _ (h6 hn x hx).2 hlt), h6⟩

theorem used_mem {l : List F} {f : F} (h : f ∈ l) : f.b.length ≤ usedF l := by
  induction l with
  | nil => cases h
  | cons x r ih =>
    unfold usedF at ih ⊢
    rw [List.map_cons, List.sum_cons]
    rcases List.mem_cons.1 h with rfl | h1
    · omega
    · have := ih h1
      omega

theorem readM_len (n : List UInt8) (M : DM) : (readM n M).1.length ≤ usedF M.fs := by
  unfold readM
  split
  · exact Nat.zero_le _
  · split
    · exact Nat.zero_le _
    · rename_i f hf
      exact used_mem (findN_some hf).1

theorem str_nmL (n : List UInt8) : str (nmL n) = ⟨n.toArray⟩ := by
  unfold str nmL
  rw [List.map_map]
  congr 2
  conv => rhs; rw [← List.map_id n]
  refine List.map_congr_left fun x _ => ?_
  simp

/-- A row of names, as strings. -/
theorem strs_row {w : World} {base : Nat} {e : TypeId} {v : Value} {m : Nat} {ns : List (List UInt8)} (h : w.ownsRow base e 1 v m (ns.map encStr)) (hm : ∀ n ∈ ns, n.length ≤ 9223372036854775807) : ∃ p c, v = .slice p m c ∧ Strs w p m c (ns.map nmL) := by
  have hlen : ns.length = m := by have := h.1; simpa using this
  have hby : ∀ l ∈ ns.map nmL, (∀ x ∈ l, x < 256) ∧ l.length ≤ 9223372036854775807 := by
    intro l hl
    obtain ⟨n, hn, rfl⟩ := List.mem_map.1 hl
    refine ⟨fun x hx => ?_, by unfold nmL; rw [List.length_map]; exact hm n hn⟩
    obtain ⟨c, _, rfl⟩ := List.mem_map.1 hx
    exact c.toNat_lt
  rcases h.2 with ⟨rfl, rfl⟩ | ⟨g, cap, cur, rfl, hbg, hg, hle, hcm, hsz, htake⟩
  · exact ⟨none, 0, rfl, by rw [List.length_map]; exact hlen, Nat.le_refl _, by omega, hby, fun h => absurd h (Nat.lt_irrefl _)⟩
  · rw [maxLen_nat] at hcm
    refine ⟨_, cap, rfl, by rw [List.length_map]; exact hlen, hle, hcm, hby, fun _ => ⟨g, 0, rfl, fun i hi => ?_⟩⟩
    have hi2 : i < ns.length := by omega
    rw [cell_of_row w g (0 + i) cur _ (0, 0) hg, Nat.zero_add]
    have h1 : cur[i]? = (ns.map encStr)[i]? := by
      rw [← htake, List.getElem?_take, if_pos (by omega), Array.getElem?_toList]
    rw [h1, List.getElem?_map, List.getElem?_eq_getElem hi2, List.getD_eq_getElem?_getD, List.getElem?_map, List.getElem?_eq_getElem hi2]
    simp [str_nmL, encStr]
end Go.Proofs.YtjoolocdejnohaaGreat

/- The walk of a log's take, whatever its steps do; a log in memory. -/
namespace Go.Proofs.YtjoolocdejnohaaGreat
open Go.RowKit Go.Maps Go.Shelf

/-- A step: the function that it runs, what this has captured, and where the log goes on. -/
structure StepD where
  k : Nat
  caps : Array Value
  n : Int
  s : Int
  z : Int

def StepD.cells (x : StepD) : Array Value := #[.func (.func x.k) #[] x.caps, .int .i64 x.n, .int .i64 x.s, .int .i64 x.z]

/-- What a step leaves: a code other than 0, or the log's cells to be set. -/
def TakeStep (g B : Nat) (x : StepD) (Q : Ending → World → Prop) (J : World → Prop) (e : Ending) (w : World) : Prop :=
  ∃ code : Int, e = .returned (.int .i64 code) ∧ (code ≠ 0 → Q (.returned (.int .i64 code)) w) ∧
    (code = 0 → w.heap[B]? = some (.cells x.cells 135 (0, 0)) ∧ (∃ cs, w.heap[g]? = some (.cells cs 129 (0, 0)) ∧ cs.size = 5) ∧ J (((w.setCell ⟨g, 0, none⟩ (.int .i64 x.n)).setCell ⟨g, 1, none⟩ (.int .i64 x.s)).setCell ⟨g, 2, none⟩ (.int .i64 x.z)))

set_option maxRecDepth 100000 in
set_option maxHeartbeats 3200000 in
theorem take_any (g sb n cap : Nat) (L : List StepD) (hn : L.length = n) (hm : n ≤ 1000) (J : Nat → World → Prop) (Q : Ending → World → Prop) (w : World)
    (hent : ∀ (j : Nat) (hj : j < L.length) args w, (callFunc L[j].k args).run Tryz.prog w = .ok (.enter L[j].k args) w) (h0 : J 0 w)
    (hrow : ∀ (j : Nat) (hj : j < L.length) w', J j w' → w'.cell? ⟨sb, j * 4, none⟩ = some (.func (.func L[j].k) #[] L[j].caps) ∧ w'.cell? ⟨sb, j * 4 + 1, none⟩ = some (.int .i64 L[j].n) ∧ w'.cell? ⟨sb, j * 4 + 2, none⟩ = some (.int .i64 L[j].s) ∧ w'.cell? ⟨sb, j * 4 + 3, none⟩ = some (.int .i64 L[j].z))
    (hstep : ∀ (j : Nat) (hj : j < L.length) w', J j w' → Calls Tryz.prog L[j].k L[j].caps (w'.alloc (.cells L[j].cells 135)) (TakeStep g w'.heap.size L[j] Q (J (j + 1))))
    (hend : ∀ w', J n w' → Q (.returned (.int .i64 0)) w') :
    Calls Tryz.prog 78 #[.pointer (some ⟨g, 0, none⟩), .slice (some ⟨sb, 0, none⟩) n cap] w Q := by
  have HN := Lib.hid hn
  have HEnt := Lib.hid hent
  have H0 := Lib.hid h0
  have HRow := Lib.hid hrow
  have HStep := Lib.hid hstep
  have HEnd := Lib.hid hend
  clear hn hent h0 hrow hstep hend
  have hst := fun w a k ts caps m => store_func Tryz.prog w a k ts caps m
  go_enter Tryz.func78, Tryz.ntmps78
  go_wp2
  go_loopw [10] (fun i wr => ∃ j : Nat, j ≤ n ∧ i = .int .i64 (j : Int) ∧ J j wr) (fun i _ => n - (intOf i).toNat)
  case atStart => exact ⟨0, Nat.zero_le _, rfl, H0.out⟩
  case round =>
    obtain ⟨j, hj, rfl, hJ⟩ := hrel
    by_cases hlt : j < n
    · have hjl : j < L.length := by rw [HN.out]; exact hlt
      obtain ⟨r0, r1, r2, r3⟩ := HRow.out j hjl wr hJ
      have he := HEnt.out j hjl
      have HS := Lib.hid (HStep.out j hjl wr hJ)
      unfold StepD.cells at HS
      have Hlt := Lib.hid hlt
      have hji : (j : Int) < (n : Int) := by omega
      clear hJ
      generalize hLj : L[j] = x at *
      obtain ⟨k, caps, xn, xs, xz⟩ := x
      simp only at *
      clear hLj
      go_wp2_with fail
      refine HS.out.mono ?_
      rintro e w2 ⟨code, rfl, h1, h2⟩
      by_cases hc : code = 0
      · subst hc
        obtain ⟨hB, ⟨cs, hg, hcs⟩, hJ2⟩ := h2 rfl
        have hb0 : w2.cell? ⟨wr.heap.size, 0, none⟩ = some (.func (.func k) #[] caps) := by rw [cell_of_row _ _ _ _ _ (0, 0) hB]; rfl
        have hb1 : w2.cell? ⟨wr.heap.size, 1, none⟩ = some (.int .i64 xn) := by rw [cell_of_row _ _ _ _ _ (0, 0) hB]; rfl
        have hb2 : w2.cell? ⟨wr.heap.size, 2, none⟩ = some (.int .i64 xs) := by rw [cell_of_row _ _ _ _ _ (0, 0) hB]; rfl
        have hb3 : w2.cell? ⟨wr.heap.size, 3, none⟩ = some (.int .i64 xz) := by rw [cell_of_row _ _ _ _ _ (0, 0) hB]; rfl
        obtain ⟨v0, v1, v2, v3, v4, rfl⟩ : ∃ v0 v1 v2 v3 v4, cs = #[v0, v1, v2, v3, v4] := by
          match cs, hcs with
          | ⟨[v0, v1, v2, v3, v4]⟩, _ => exact ⟨v0, v1, v2, v3, v4, rfl⟩
        have hg0 : w2.cell? ⟨g, 0, none⟩ = some v0 := by rw [cell_of_row _ _ _ _ _ (0, 0) hg]; rfl
        have hg1 : w2.cell? ⟨g, 1, none⟩ = some v1 := by rw [cell_of_row _ _ _ _ _ (0, 0) hg]; rfl
        have hg2 : w2.cell? ⟨g, 2, none⟩ = some v2 := by rw [cell_of_row _ _ _ _ _ (0, 0) hg]; rfl
        have hgf : ∀ i, w2.frozen? ⟨g, i, none⟩ = false := fun i => by simp [World.frozen?, hg]
        have HJ2 := Lib.hid hJ2
        clear h1 h2 hB hg hcs hJ2
        go_wp2
        go_roundw
        case rel => exact ⟨j + 1, Hlt.out, by go_num, HJ2.out⟩
        case measure => simp [intOf]; omega
      · have HQ := Lib.hid (h1 hc)
        have hc1 : (code == 0) = false := by simpa using hc
        have hc2 : (code != 0) = true := by simpa using hc
        clear h1 h2 hc
        go_wp2
        exact HQ.out
    · obtain rfl : j = n := by omega
      have HJ := Lib.hid hJ
      have hji : ¬ (j : Int) < (j : Int) := by omega
      clear hJ
      go_wp2
      exact HEnd.out _ HJ.out
end Go.Proofs.YtjoolocdejnohaaGreat

/- A log in memory on a disk of the call's own; what a step leaves of it. -/
namespace Go.Proofs.YtjoolocdejnohaaGreat
open Go.RowKit Go.Maps Go.Shelf

theorem Own.cellset {w0 : World} {X : Nat → Prop} {w : World} {d : Nat} {M : DM} (h : Own w0 X w d M) {B : Nat} (hB : X B) (h0 : w0.heap.size ≤ B) (i : Nat) (v : Value) : Own w0 X (w.setCell ⟨B, i, none⟩ v) d M := by
  obtain ⟨S, hD, hS, hX, hb⟩ := h
  exact ⟨S, hD.aside (Chg.set (fun b => b = B) w rfl v) (fun b hs e => (hS b hs).2 (by rw [e]; exact hB)), hS, fun b hx => by simp; exact hX b hx, hb.setCell h0 v⟩

theorem Own.sub {w0 : World} {X Y : Nat → Prop} {w : World} {d : Nat} {M : DM} (h : Own w0 X w d M) (hY : ∀ b, Y b → X b) : Own w0 Y w d M := h.more (Below.refl _ _) fun b hb => .inl (hY b hb)

/-- The log at block g on the disk d is W; no block of Y is the disk's. -/
structure LogAt (w0 : World) (Y : Nat → Prop) (w : World) (g d : Nat) (W : WM) : Prop where
  own : Own w0 Y w d W.D
  inY : Y g
  new : w0.heap.size ≤ g
  cells : w.heap[g]? = some (.cells (logC W d) 129 (0, 0))

/-- What a call leaves of a log. -/
def LogEnd (w0 : World) (Y : Nat → Prop) (w : World) (g d : Nat) (W' : WM) (w' : World) : Prop :=
  LogAt w0 Y w' g d W' ∧ (∀ b, Y b → b ≠ g → w'.heap[b]? = w.heap[b]?) ∧ Below w0.heap.size w w' ∧ w.heap.size ≤ w'.heap.size

section
variable {w0 : World} {Y : Nat → Prop} {w : World} {g d : Nat} {W : WM}

theorem LogAt.lt (h : LogAt w0 Y w g d W) : g < w.heap.size := (Array.getElem?_eq_some_iff.1 h.cells).1

/-- Behind new memory, which is kept aside. -/
theorem LogAt.all (h : LogAt w0 Y w g d W) {w1 : World} (hb : Below w.heap.size w w1) : LogAt w0 (fun b => Y b ∨ (w.heap.size ≤ b ∧ b < w1.heap.size)) w1 g d W :=
  ⟨h.own.more hb fun _ hb => hb, .inl h.inY, h.new, (hb.block _ h.lt).trans h.cells⟩

theorem LogAt.below (h : LogAt w0 Y w g d W) {w1 : World} (hb : Below w.heap.size w w1) : LogAt w0 Y w1 g d W :=
  ⟨h.own.below hb, h.inY, h.new, (hb.block _ h.lt).trans h.cells⟩

theorem LogAt.refl (h : LogAt w0 Y w g d W) : LogEnd w0 Y w g d W w := ⟨h, fun _ _ _ => rfl, Below.refl _ _, Nat.le_refl _⟩

theorem LogAt.ended (h : LogAt w0 Y w g d W) {w1 : World} (hb : Below w.heap.size w w1) : LogEnd w0 Y w g d W w1 :=
  ⟨h.below hb, fun b hy _ => hb.block b (h.own.blocks b hy), hb.mono h.own.base.size, hb.size⟩

theorem LogEnd.behind (h : LogAt w0 Y w g d W) {Y1 : Nat → Prop} {w1 w2 : World} {W2 : WM} (hb : Below w.heap.size w w1) (hY : ∀ b, Y b → Y1 b) (he : LogEnd w0 Y1 w1 g d W2 w2) : LogEnd w0 Y w g d W2 w2 := by
  obtain ⟨h1, h2, h3, h4⟩ := he
  exact ⟨⟨h1.own.sub hY, h.inY, h1.new, h1.cells⟩, fun b hy hne => (h2 b (hY b hy) hne).trans (hb.block b (h.own.blocks b hy)), (hb.mono h.own.base.size).trans h3, Nat.le_trans hb.size h4⟩

theorem LogEnd.trans {w1 w2 : World} {W1 W2 : WM} (h1 : LogEnd w0 Y w g d W1 w1) (h2 : LogEnd w0 Y w1 g d W2 w2) : LogEnd w0 Y w g d W2 w2 :=
  ⟨h2.1, fun b hy hne => (h2.2.1 b hy hne).trans (h1.2.1 b hy hne), h1.2.2.1.trans h2.2.2.1, Nat.le_trans h1.2.2.2 h2.2.2.2⟩

theorem step_log (h : LogAt w0 Y w g d W) (x : StepD) (r : DM × Int) (W1 : WM) (hD : W1.D = r.1) (hxn : x.n = (W1.n : Int)) (hxs : x.s = (W1.size : Int)) (hxz : x.z = (W1.wait : Int)) (hm : W1.most = W.most)
    (hdo : ∀ (Z : Nat → Prop) w', (∀ b, Y b → Z b) → Own w0 Z w' d W.D → (∀ b, Y b → w'.heap[b]? = w.heap[b]?) → Calls Tryz.prog x.k x.caps w' (OwnAct w0 Z w' d r)) (Q : Ending → World → Prop) (J : World → Prop)
    (hQ : ∀ w', LogEnd w0 Y w g d { W with D := r.1 } w' → r.2 ≠ 0 → Q (.returned (.int .i64 r.2)) w') (hJ : ∀ w', LogEnd w0 Y w g d W1 w' → r.2 = 0 → J w') :
    Calls Tryz.prog x.k x.caps (w.alloc (.cells x.cells 135)) (TakeStep g w.heap.size x Q J) := by
  have hb : Below w.heap.size w (w.alloc (.cells x.cells 135)) := (Below.refl _ _).alloc (Nat.le_refl _) _
  have hA := h.all hb
  have hYs : ∀ b, Y b → b < w.heap.size := h.own.blocks
  refine (hdo _ _ (fun b hy => .inl hy) hA.own (fun b hy => hb.block b (hYs b hy))).mono ?_
  rintro e w2 ⟨rfl, ho, hk, hbb, hsz⟩
  have hkY : ∀ b, Y b → w2.heap[b]? = w.heap[b]? := fun b hy => (hk b (.inl hy)).trans (hb.block b (hYs b hy))
  have hg2 : w2.heap[g]? = some (.cells (logC W d) 129 (0, 0)) := (hkY g h.inY).trans h.cells
  have hbw : Below w0.heap.size w w2 := (hb.mono h.own.base.size).trans hbb
  refine ⟨r.2, rfl, fun hc => ?_, fun hc => ⟨?_, ⟨_, hg2, rfl⟩, ?_⟩⟩
  · exact hQ _ ⟨⟨ho.sub fun b hy => .inl hy, h.inY, h.new, hg2⟩, fun b hy _ => hkY b hy, hbw, Nat.le_trans hb.size hsz⟩ hc
  · exact (hk _ (.inr ⟨Nat.le_refl _, by simp⟩)).trans (heap_alloc_new _ _)
  · have hoY : Own w0 Y w2 d r.1 := ho.sub fun b hy => .inl hy
    have h1 := set_head (i := 0) hg2 (.int .i64 x.n)
    have h2 := set_head (i := 1) h1 (.int .i64 x.s)
    have h3 := set_head (i := 2) h2 (.int .i64 x.z)
    refine hJ _ ⟨⟨?_, h.inY, h.new, ?_⟩, fun b hy hne => ?_, ?_, ?_⟩ hc
    · rw [hD]
      exact ((hoY.cellset h.inY h.new 0 _).cellset h.inY h.new 1 _).cellset h.inY h.new 2 _
    · rw [h3, hxn, hxs, hxz]
      unfold logC
      rw [hm]
      rfl
    · repeat rw [Below.heap_setCell _ _ _ _ hne]
      exact hkY b hy
    · exact ((hbw.setCell h.new _).setCell h.new _).setCell h.new _
    · simp only [World.size_setCell]
      exact Nat.le_trans hb.size hsz

theorem step_row {x : StepD} {sb : Nat} {L : List StepD} {w' : World} {t : TypeId} (hrow : w'.heap[sb]? = some (.cells (L.flatMap fun x => x.cells.toList).toArray t (0, 0))) (j : Nat) (hj : L[j]? = some x) :
    w'.cell? ⟨sb, j * 4, none⟩ = some (.func (.func x.k) #[] x.caps) ∧ w'.cell? ⟨sb, j * 4 + 1, none⟩ = some (.int .i64 x.n) ∧ w'.cell? ⟨sb, j * 4 + 2, none⟩ = some (.int .i64 x.s) ∧ w'.cell? ⟨sb, j * 4 + 3, none⟩ = some (.int .i64 x.z) := by
  have key : ∀ (L : List StepD) (j : Nat), L[j]? = some x → ∀ i, i < 4 → (L.flatMap fun x => x.cells.toList)[j * 4 + i]? = x.cells.toList[i]? := by
    intro L
    induction L with
    | nil => intro j h; simp at h
    | cons y L ih =>
      intro j h i hi
      rw [List.flatMap_cons]
      have hl : y.cells.toList.length = 4 := rfl
      cases j with
      | zero =>
        have e : y = x := by simpa using h
        subst e
        rw [Nat.zero_mul, Nat.zero_add, List.getElem?_append_left (by omega)]
      | succ j =>
        rw [List.getElem?_append_right (by omega), hl, show (j + 1) * 4 + i - 4 = j * 4 + i by omega]
        exact ih j (by simpa using h) i hi
  have hc : ∀ i, i < 4 → w'.cell? ⟨sb, j * 4 + i, none⟩ = x.cells.toList[i]? := fun i hi => by
    rw [cell_of_row _ _ _ _ _ (0, 0) hrow, List.getElem?_toArray]
    exact key L j hj i hi
  exact ⟨hc 0 (by omega), hc 1 (by omega), hc 2 (by omega), hc 3 (by omega)⟩

/-- One step. -/
theorem take1_any (h : LogAt w0 Y w g d W) (sb cap : Nat) (x : StepD) (hent : ∀ args w, (callFunc x.k args).run Tryz.prog w = .ok (.enter x.k args) w) (r : DM × Int) (W1 : WM) (hD : W1.D = r.1) (hxn : x.n = (W1.n : Int)) (hxs : x.s = (W1.size : Int)) (hxz : x.z = (W1.wait : Int)) (hm : W1.most = W.most)
    (hrow : w.heap[sb]? = some (.cells ([x].flatMap fun x => x.cells.toList).toArray 135 (0, 0)))
    (hdo : ∀ (Z : Nat → Prop) w', (∀ b, Y b → Z b) → Own w0 Z w' d W.D → (∀ b, Y b → w'.heap[b]? = w.heap[b]?) → Calls Tryz.prog x.k x.caps w' (OwnAct w0 Z w' d r)) :
    Calls Tryz.prog 78 #[.pointer (some ⟨g, 0, none⟩), .slice (some ⟨sb, 0, none⟩) 1 cap] w fun e w' => e = .returned (.int .i64 r.2) ∧ LogEnd w0 Y w g d (if r.2 = 0 then W1 else { W with D := r.1 }) w' := by
  refine take_any g sb 1 cap [x] rfl (by omega) (fun j w' => (j = 0 ∧ w' = w) ∨ (j = 1 ∧ LogEnd w0 Y w g d W1 w' ∧ r.2 = 0)) _ w (fun j hj args w => ?_) (.inl ⟨rfl, rfl⟩) (fun j hj w' hJ => ?_) (fun j hj w' hJ => ?_) (fun w' hJ => ?_)
  · obtain rfl : j = 0 := by simp at hj; exact hj
    exact hent args w
  · obtain rfl : j = 0 := by simp at hj; exact hj
    rcases hJ with ⟨_, rfl⟩ | ⟨h1, _⟩
    · exact step_row hrow 0 rfl
    · omega
  · obtain rfl : j = 0 := by simp at hj; exact hj
    rcases hJ with ⟨_, rfl⟩ | ⟨h1, _⟩
    · refine step_log h x r W1 hD hxn hxs hxz hm hdo _ _ (fun w' hq hr => ⟨rfl, by rw [if_neg hr]; exact hq⟩) (fun w' hq hr => .inr ⟨rfl, hq, hr⟩)
    · omega
  · rcases hJ with ⟨h1, _⟩ | ⟨_, hq, hr⟩
    · omega
    · exact ⟨by rw [hr], by rw [if_pos hr]; exact hq⟩

/-- Two steps. -/
theorem take2_any (h : LogAt w0 Y w g d W) (sb cap : Nat) (hsb : Y sb) (hne : sb ≠ g) (x y : StepD) (hent : ∀ args w, (callFunc x.k args).run Tryz.prog w = .ok (.enter x.k args) w) (hent2 : ∀ args w, (callFunc y.k args).run Tryz.prog w = .ok (.enter y.k args) w)
    (r s : DM × Int) (W1 W2 : WM) (hD : W1.D = r.1) (hxn : x.n = (W1.n : Int)) (hxs : x.s = (W1.size : Int)) (hxz : x.z = (W1.wait : Int)) (hm : W1.most = W.most)
    (hD2 : W2.D = s.1) (hyn : y.n = (W2.n : Int)) (hys : y.s = (W2.size : Int)) (hyz : y.z = (W2.wait : Int)) (hm2 : W2.most = W1.most)
    (hrow : w.heap[sb]? = some (.cells ([x, y].flatMap fun x => x.cells.toList).toArray 135 (0, 0)))
    (hdo : ∀ (Z : Nat → Prop) w', (∀ b, Y b → Z b) → Own w0 Z w' d W.D → (∀ b, Y b → w'.heap[b]? = w.heap[b]?) → Calls Tryz.prog x.k x.caps w' (OwnAct w0 Z w' d r))
    (hdo2 : ∀ (Z : Nat → Prop) w1 w', (∀ b, Y b → Z b) → LogEnd w0 Y w g d W1 w1 → Own w0 Z w' d W1.D → (∀ b, Y b → w'.heap[b]? = w1.heap[b]?) → Calls Tryz.prog y.k y.caps w' (OwnAct w0 Z w' d s)) :
    Calls Tryz.prog 78 #[.pointer (some ⟨g, 0, none⟩), .slice (some ⟨sb, 0, none⟩) 2 cap] w fun e w' => e = .returned (.int .i64 (if r.2 = 0 then s.2 else r.2)) ∧ LogEnd w0 Y w g d (if r.2 = 0 then (if s.2 = 0 then W2 else { W1 with D := s.1 }) else { W with D := r.1 }) w' := by
  refine take_any g sb 2 cap [x, y] rfl (by omega) (fun j w' => (j = 0 ∧ w' = w) ∨ (j = 1 ∧ LogEnd w0 Y w g d W1 w' ∧ r.2 = 0) ∨ (j = 2 ∧ LogEnd w0 Y w g d W2 w' ∧ r.2 = 0 ∧ s.2 = 0)) _ w (fun j hj args w => ?_) (.inl ⟨rfl, rfl⟩) (fun j hj w' hJ => ?_) (fun j hj w' hJ => ?_) (fun w' hJ => ?_)
  · rcases (show j = 0 ∨ j = 1 by simp at hj; omega) with rfl | rfl
    · exact hent args w
    · exact hent2 args w
  · rcases (show j = 0 ∨ j = 1 by simp at hj; omega) with rfl | rfl
    · rcases hJ with ⟨_, rfl⟩ | ⟨h1, _⟩ | ⟨h1, _⟩
      · exact step_row hrow 0 rfl
      · omega
      · omega
    · rcases hJ with ⟨h1, _⟩ | ⟨_, hq, _⟩ | ⟨h1, _⟩
      · omega
      · exact step_row (L := [x, y]) ((hq.2.1 sb hsb hne).trans hrow) 1 rfl
      · omega
  · rcases (show j = 0 ∨ j = 1 by simp at hj; omega) with rfl | rfl
    · rcases hJ with ⟨_, rfl⟩ | ⟨h1, _⟩ | ⟨h1, _⟩
      · exact step_log h x r W1 hD hxn hxs hxz hm hdo _ _ (fun w' hq hr => ⟨by rw [if_neg hr], by rw [if_neg hr]; exact hq⟩) (fun w' hq hr => .inr (.inl ⟨rfl, hq, hr⟩))
      · omega
      · omega
    · rcases hJ with ⟨h1, _⟩ | ⟨_, hq, hr⟩ | ⟨h1, _⟩
      · omega
      · exact step_log hq.1 y s W2 hD2 hyn hys hyz hm2 (fun Z w'' hZ ho hk => hdo2 Z w' w'' hZ hq ho hk) _ _ (fun w'' hq2 hs => ⟨by rw [if_pos hr], by rw [if_pos hr, if_neg hs]; exact hq.trans hq2⟩)
          (fun w'' hq2 hs => .inr (.inr ⟨rfl, hq.trans hq2, hr, hs⟩))
      · omega
  · rcases hJ with ⟨h1, _⟩ | ⟨h1, _⟩ | ⟨_, hq, hr, hs⟩
    · omega
    · omega
    · exact ⟨by rw [if_pos hr, hs], by rw [if_pos hr, if_pos hs]; exact hq⟩
end
end Go.Proofs.YtjoolocdejnohaaGreat

/- The walks of a log's goOn, Put, Sync and New. -/
namespace Go.Proofs.YtjoolocdejnohaaGreat
open Go.RowKit Go.Maps Go.Shelf

theorem max_one (b c : Nat) (z : Int) (w : World) (h : w.cell? ⟨b, 0, none⟩ = some (.int .i64 z)) :
    Calls Tryz.prog 128 #[.slice (some ⟨b, 0, none⟩) 1 c] w fun e w' => e = .returned (.int .i64 z) ∧ w = w' := by
  go_enter Tryz.func128, Tryz.ntmps128
  go_wp2
  go_loop [3, 4] (fun m i => m = .int .i64 z ∧ i = .int .i64 1) (fun _ _ => 0)
  case atStart => exact ⟨rfl, rfl⟩
  case round =>
    obtain ⟨rfl, rfl⟩ := hrel
    go_wp2
    go_ret
    exact ⟨rfl, rfl⟩

theorem segnext_one (b c N : Nat) (w : World) (hN : N ≤ 99999999) (h : w.cell? ⟨b, 0, none⟩ = some (.int .i64 (N : Int))) :
    Calls Tryz.prog 83 #[.slice (some ⟨b, 0, none⟩) 1 c] w fun e w' => e = .returned (if N < 99999999 then .tuple #[.int .i64 ((N + 1 : Nat) : Int), .bool true] else .tuple #[.int .i64 0, .bool false]) ∧ w = w' := by
  have HM := Lib.hid (max_one b c (N : Int) w h)
  have HI := Lib.hid (seginrange_any ((N : Int) + 1) w)
  by_cases hlt : N < 99999999
  · rw [decide_eq_true (show 1 ≤ (N : Int) + 1 ∧ (N : Int) + 1 ≤ 99999999 by omega)] at HI
    rw [if_pos hlt]
    clear h
    go_enter Tryz.func83, Tryz.ntmps83
    go_wp2_with fail
    refine HM.out.mono ?_
    rintro e w' ⟨rfl, rfl⟩
    go_wp2_with fail
    refine HI.out.mono ?_
    rintro e w' ⟨rfl, rfl⟩
    go_wp2
    go_ret2
    exact ⟨rfl, rfl⟩
  · rw [decide_eq_false (show ¬ (1 ≤ (N : Int) + 1 ∧ (N : Int) + 1 ≤ 99999999) by omega)] at HI
    rw [if_neg hlt]
    clear h
    go_enter Tryz.func83, Tryz.ntmps83
    go_wp2_with fail
    refine HM.out.mono ?_
    rintro e w' ⟨rfl, rfl⟩
    go_wp2_with fail
    refine HI.out.mono ?_
    rintro e w' ⟨rfl, rfl⟩
    go_wp2
    go_ret2
    exact ⟨rfl, rfl⟩

section
variable {w0 : World} {Y : Nat → Prop} {w : World} {g d : Nat} {W : WM}

theorem LogAt.cell (h : LogAt w0 Y w g d W) : w.cell? ⟨g, 0, none⟩ = some (.int .i64 (W.n : Int)) ∧ w.cell? ⟨g, 1, none⟩ = some (.int .i64 (W.size : Int)) ∧ w.cell? ⟨g, 2, none⟩ = some (.int .i64 (W.wait : Int)) ∧ w.cell? ⟨g, 3, none⟩ = some (.pointer (some ⟨d, 0, none⟩)) ∧ w.cell? ⟨g, 4, none⟩ = some (.int .i64 W.most) := by
  have hc := h.cells
  refine ⟨?_, ?_, ?_, ?_, ?_⟩ <;> (rw [cell_of_row _ _ _ _ _ (0, 0) hc]; rfl)

set_option maxRecDepth 100000 in
set_option maxHeartbeats 6400000 in
theorem goOn_any (h : LogAt w0 Y w g d W) (h1 : 1 ≤ W.n) (hN : W.n ≤ 99999999) (hL : W.D.fs.length < 1000000) :
    Calls Tryz.prog 77 #[.pointer (some ⟨g, 0, none⟩)] w fun e w' => e = .returned (.int .i64 (rotW W).2) ∧ LogEnd w0 Y w g d (rotW W).1 w' := by
  obtain ⟨g0, g1, g2, g3, g4⟩ := h.cell
  have hr0 : (w.alloc (.cells #[.int .i64 (W.n : Int)] 3)).cell? ⟨w.heap.size, 0, none⟩ = some (.int .i64 (W.n : Int)) := by rw [cell_of_row _ _ _ _ _ (0, 0) (heap_alloc_new _ _)]; rfl
  have HX := Lib.hid (segnext_one w.heap.size 1 W.n _ hN hr0)
  have hb1 : Below w.heap.size w (w.alloc (.cells #[.int .i64 (W.n : Int)] 3)) := (Below.refl _ _).alloc (Nat.le_refl _) _
  have H := Lib.hid h
  have H1 := Lib.hid h1
  by_cases hlt : W.n < 99999999
  · have Hlt := Lib.hid hlt
    rw [if_pos hlt] at HX
    have hA := h.all hb1
    obtain ⟨k0, k1, k2, _, _⟩ := hA.cell
    have HS := Lib.hid (syncing_any g W.n (W.size : Int) (W.wait : Int) (W.n : Int) (W.size : Int) (W.wait : Int) _ h1 hN k0 k1 k2)
    unfold placeV at HS
    have Hb1 := Lib.hid hb1
    have HL := Lib.hid hL
    clear h h1 hr0 hA hb1 hL hlt
    go_enter Tryz.func77, Tryz.ntmps77
    go_wp2_with fail
    refine HX.out.mono ?_
    rintro e w' ⟨rfl, rfl⟩
    go_wp2_with fail
    refine HS.out.mono ?_
    rintro e w2 ⟨b1, b2, rfl, c1, c2, hbk1, hbk2, hb2⟩
    have HC := Lib.hid (creating_any g (W.n + 1) w2 (by omega) (by have := Hlt.out; omega))
    have Hb2 := Lib.hid (Hb1.out.trans (hb2.mono Hb1.out.size))
    have C1 := Lib.hid c1
    have C2 := Lib.hid c2
    have Hk1 := Lib.hid (Nat.le_trans Hb1.out.size hbk1)
    have Hk2 := Lib.hid (Nat.le_trans Hb1.out.size hbk2)
    clear hb2 c1 c2 hbk1 hbk2 k0 k1 k2
    unfold stepV
    go_wp2_with fail
    refine HC.out.mono ?_
    rintro e w3 ⟨b3, b4, rfl, c3, c4, hbk3, hbk4, hb3⟩
    have C3 := Lib.hid c3
    have C4 := Lib.hid c4
    have Hk3 := Lib.hid (Nat.le_trans Hb2.out.size hbk3)
    have Hk4 := Lib.hid (Nat.le_trans Hb2.out.size hbk4)
    have Hb3' := Lib.hid hb3
    have Hb3 := Lib.hid (Hb2.out.trans (hb3.mono Hb2.out.size))
    clear hb3 c3 c4 hbk3 hbk4
    unfold stepV
    go_wp2_with fail
    obtain ⟨w4, hw4⟩ : ∃ w4, w4 = w3.alloc (.cells #[.func (.func 125) #[] #[.pointer (some ⟨b1, 0, none⟩), .pointer (some ⟨b2, 0, none⟩)], .int .i64 (W.n : Int), .int .i64 (W.size : Int), .int .i64 (W.wait : Int),
      .func (.func 160) #[] #[.pointer (some ⟨b3, 0, none⟩), .pointer (some ⟨b4, 0, none⟩)], .int .i64 ((W.n : Int) + 1), .int .i64 0, .int .i64 0] 135) := ⟨_, rfl⟩
    rw [← hw4]
    have hrow : w4.heap[w3.heap.size]? = some (.cells ([StepD.mk 125 #[.pointer (some ⟨b1, 0, none⟩), .pointer (some ⟨b2, 0, none⟩)] (W.n : Int) (W.size : Int) (W.wait : Int), StepD.mk 160 #[.pointer (some ⟨b3, 0, none⟩), .pointer (some ⟨b4, 0, none⟩)] ((W.n : Int) + 1) 0 0].flatMap fun x => x.cells.toList).toArray 135 (0, 0)) := by
      rw [hw4]
      exact heap_alloc_new _ _
    have hb34 : Below w3.heap.size w3 w4 := by rw [hw4]; exact (Below.refl _ _).alloc (Nat.le_refl _) _
    have hz4 : w4.heap.size = w3.heap.size + 1 := by rw [hw4]; simp
    have hb4 : Below w.heap.size w w4 := Hb3.out.trans (hb34.mono Hb3.out.size)
    have hA4 := H.out.all hb4
    have hgl := H.out.lt
    have hsz3 := Hb3.out.size
    have hc1 : w4.cell? ⟨b1, 0, none⟩ = some (.pointer (some ⟨g, 0, none⟩)) := cell_below hb34 (Nat.le_refl _) (cell_below Hb3'.out (Nat.le_refl _) C1.out)
    have hc2 : w4.cell? ⟨b2, 0, none⟩ = some (encStr (nmB W.n)) := cell_below hb34 (Nat.le_refl _) (cell_below Hb3'.out (Nat.le_refl _) C2.out)
    have hc3 : w4.cell? ⟨b3, 0, none⟩ = some (.pointer (some ⟨g, 0, none⟩)) := cell_below hb34 (Nat.le_refl _) C3.out
    have hc4 : w4.cell? ⟨b4, 0, none⟩ = some (encStr (nmB (W.n + 1))) := cell_below hb34 (Nat.le_refl _) C4.out
    have hl1 := World.block_lt_of_cell? _ _ hc1
    have hl2 := World.block_lt_of_cell? _ _ hc2
    have hl3 := World.block_lt_of_cell? _ _ hc3
    have hl4 := World.block_lt_of_cell? _ _ hc4
    have hg4 := hA4.cell.2.2.2.1
    have hk1 := Hk1.out
    have hk2 := Hk2.out
    have hk3 := Hk3.out
    have hk4 := Hk4.out
    have HT := take2_any hA4 w3.heap.size 2 (.inr ⟨hsz3, by omega⟩) (by omega) _ _ (enters_of Tryz.func125 (by kernel_rfl) rfl) (enters_of Tryz.func160 (by kernel_rfl) rfl)
      (syncM (nmB W.n) W.D) (createM (nmB (W.n + 1)) (syncM (nmB W.n) W.D).1) { W with D := (syncM (nmB W.n) W.D).1 } { W with D := (createM (nmB (W.n + 1)) (syncM (nmB W.n) W.D).1).1, n := W.n + 1, size := 0, wait := 0 }
      rfl rfl rfl rfl rfl rfl (by show (W.n : Int) + 1 = ((W.n + 1 : Nat) : Int); omega) rfl rfl rfl hrow
      (fun Z w' hZ ho hk => do_sync ho g W.n b1 b2 (by rw [World.cell?_of_block (hk b1 (.inr ⟨hk1, hl1⟩))]; exact hc1) (by rw [World.cell?_of_block (hk b2 (.inr ⟨hk2, hl2⟩))]; exact hc2) (by rw [World.cell?_of_block (hk g (.inl H.out.inY))]; exact hg4))
      (fun Z w1 w' hZ hq ho hk => do_create ho g (W.n + 1) b3 b4 (by rw [World.cell?_of_block ((hk b3 (.inr ⟨hk3, hl3⟩)).trans (hq.2.1 b3 (.inr ⟨hk3, hl3⟩) (by show b3 ≠ g; omega)))]; exact hc3)
        (by rw [World.cell?_of_block ((hk b4 (.inr ⟨hk4, hl4⟩)).trans (hq.2.1 b4 (.inr ⟨hk4, hl4⟩) (by show b4 ≠ g; omega)))]; exact hc4)
        (by rw [World.cell?_of_block (hk g (.inl H.out.inY))]; exact hq.1.cell.2.2.2.1) (by show (syncM (nmB W.n) W.D).1.fs.length < 1000000; rw [syncM_count]; exact HL.out))
    have HT := Lib.hid (HT.mono (fun e w' hq => (show e = .returned (.int .i64 (rotW W).2) ∧ LogEnd w0 Y w g d (rotW W).1 w' from by
      rw [rotW_eq W Hlt.out]
      exact ⟨hq.1, LogEnd.behind H.out hb4 (fun b hy => Or.inl hy) hq.2⟩)))
    clear hrow hb34 hz4 hb4 hA4 hgl hsz3 hc1 hc2 hc3 hc4 hl1 hl2 hl3 hl4 hg4 hk1 hk2 hk3 hk4 hw4
    refine HT.out.mono ?_
    rintro e w5 ⟨rfl, hq⟩
    have Hq := Lib.hid hq
    clear hq
    go_wp2
    go_ret
    exact ⟨rfl, Hq.out⟩
  · rw [if_neg hlt] at HX
    have er : rotW W = (W, 2) := by unfold rotW; rw [if_pos (by omega)]
    rw [er]
    have HE := Lib.hid (fun w' (hb : Below w.heap.size w w') => H.out.ended hb)
    have Hb1 := Lib.hid hb1
    clear h h1 hr0 hb1 hL hlt er
    go_enter Tryz.func77, Tryz.ntmps77
    go_wp2_with fail
    refine HX.out.mono ?_
    rintro e w' ⟨rfl, rfl⟩
    go_wp2
    go_ret
    exact ⟨rfl, HE.out _ Hb1.out⟩
end
end Go.Proofs.YtjoolocdejnohaaGreat

