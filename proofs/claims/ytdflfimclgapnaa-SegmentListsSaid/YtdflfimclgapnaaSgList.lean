/- The walk of the code's List of segments. -/
import Derived.Test.YtdflfimclgapnaaSgInts
import Derived.Test.YtdflfimclgapnaaSgNum
import Derived.Sort.OwnSortedInts
namespace Go.Proofs.Ytdflfimclgapnaa
open Go.RowKit

theorem numsOf_next {ls : List (List Nat)} {k : Nat} (hk : k < ls.length) {x : Int} : NumsOf (ls.take (k + 1)) x ↔ NumsOf (ls.take k) x ∨ (0 < segNum (ls.getD k []) ∧ x = ((segNum (ls.getD k []) : Nat) : Int)) := by
  have e : ls.take (k + 1) = ls.take k ++ [ls.getD k []] := by
    rw [List.take_succ_eq_append_getElem hk, List.getD_eq_getElem?_getD, List.getElem?_eq_getElem hk]; rfl
  unfold NumsOf
  rw [e]
  constructor
  · rintro ⟨l, hl, h1, h2⟩
    rcases List.mem_append.1 hl with h | h
    · exact .inl ⟨l, h, h1, h2⟩
    · obtain rfl : l = ls.getD k [] := by simpa using h
      exact .inr ⟨h1, h2⟩
  · rintro (⟨l, hl, h1, h2⟩ | ⟨h1, h2⟩)
    · exact ⟨l, List.mem_append.2 (.inl hl), h1, h2⟩
    · exact ⟨_, List.mem_append.2 (.inr (by simp)), h1, h2⟩

/-- A list of the call's own: the numbers of all segments among some names, in ascending order, each once. -/
def ListEnd (w : World) (ls : List (List Nat)) (e : Ending) (w' : World) : Prop :=
  ∃ (v : Value) (out : List Int), e = .returned v ∧ Asc out ∧ (∀ x, x ∈ out ↔ NumsOf ls x) ∧ out.length ≤ ls.length ∧ w'.ownsRow w.heap.size 3 1 v out.length (intsE out) ∧ Below w.heap.size w w'

def SlRel (w : World) (n : Nat) (ls : List (List Nat)) (v i : Value) (wr : World) : Prop :=
  ∃ (k : Nat) (zs : List Int), k ≤ n ∧ i = .int .i64 (k : Int) ∧ zs.length ≤ k ∧ (∀ x, x ∈ zs ↔ NumsOf (ls.take k) x) ∧ wr.ownsRow w.heap.size 3 1 v zs.length (intsE zs) ∧ Below w.heap.size w wr

set_option maxRecDepth 100000 in
set_option maxHeartbeats 3200000 in
theorem seglist_any (a : Option Addr) (n cap : Nat) (ls : List (List Nat)) (w : World) (hS : Strs w a n cap ls) (hn : n ≤ 60) :
    Calls Try.prog 12 #[.slice a n cap] w (ListEnd w ls) := by
  have HS := Lib.hid hS
  clear hS
  go_enter Try.func12, Try.ntmps12
  go_wp2
  go_loopw [3, 10] (fun v i wr => SlRel w n ls v i wr) (fun _ i _ => n - (intOf i).toNat)
  case atStart => exact ⟨0, [], Nat.zero_le _, rfl, Nat.le_refl _, fun x => ⟨fun h => (by cases h), fun ⟨l, hl, _⟩ => (by rw [List.take_zero] at hl; cases hl)⟩, World.ownsRow_nil _ _ _ _, Below.refl _ _⟩
  case round =>
    obtain ⟨k, zs, hk, rfl, hzl, hmem, hown, hbel⟩ := hrel
    have Hmem := Lib.hid hmem
    have Hzl := Lib.hid hzl
    have Hown := Lib.hid hown
    have Hbel := Lib.hid hbel
    clear hmem hzl hown hbel
    by_cases hlt : k < n
    · obtain ⟨b, o, rfl, hc0⟩ := (HS.out.grow Hbel.out).cell (by omega)
      have hc := hc0 k hlt
      have Hnx := Lib.hid (fun x => numsOf_next (ls := ls) (k := k) (by rw [HS.out.len]; exact hlt) (x := x))
      obtain ⟨hby, hlen⟩ : (∀ x ∈ ls.getD k [], x < 256) ∧ (ls.getD k []).length ≤ 9223372036854775807 := by
        rw [List.getD_eq_getElem?_getD, List.getElem?_eq_getElem (by rw [HS.out.len]; exact hlt)]
        exact HS.out.byte _ (List.getElem_mem _)
      have HC := Lib.hid (segnum_any (ls.getD k []) wr hby hlen)
      unfold NumEnd at HC
      clear hc0 hby hlen
      generalize ls.getD k [] = l at *
      have Hlt := Lib.hid hlt
      generalize str l = s at *
      by_cases h0 : 0 < segNum l
      · have H0 := Lib.hid h0
        rw [decide_eq_true h0] at HC
        generalize segNum l = m at *
        clear h0
        go_wp2_with fail
        refine HC.out.mono ?_
        rintro e w1 ⟨rfl, hb1⟩
        have Hb1 := Lib.hid hb1
        have Hbw := Lib.hid (Hbel.out.trans (hb1.mono Hbel.out.size))
        clear hb1
        have Hrow := Lib.hid (int_row w1 (m : Int))
        have Hown1 := Lib.hid ((own_below Hown.out Hb1.out).alloc (.cells #[.int .i64 (m : Int)] 3))
        go_wp2_with (at_builtin; refine wpList_append_ints _ rfl _ _ 30 rfl w.heap.size 3 Try.underlying30 info_int _ _ _ rfl Hown1.out _ 1 1 [(m : Int)] rfl Hrow.out (by have := Hzl.out; omega) (by simp; have := Hbw.out.size; omega) ?_; intro v' w2 g1 g2)
        go_roundw
        case rel =>
          refine ⟨k + 1, zs ++ [(m : Int)], Hlt.out, by go_num, by have := Hzl.out; simp; omega, fun x => ?_, by simpa using g1, ?_⟩
          · rw [Hnx.out x, List.mem_append, Hmem.out x, List.mem_singleton]
            constructor
            · rintro (h | h)
              · exact .inl h
              · exact .inr ⟨H0.out, h⟩
            · rintro (h | ⟨_, h⟩)
              · exact .inl h
              · exact .inr h
          · have hb : Below w.heap.size w (w1.alloc (.cells #[.int .i64 (m : Int)] 3)) := Hbw.out.alloc Hbw.out.size _
            exact hb.grown g2 hb.size (fun x hx => (Hown.out.lt x hx).1)
        case measure => simp [intOf]; have := Hlt.out; omega
      · have H0 := Lib.hid h0
        rw [decide_eq_false h0] at HC
        generalize segNum l = m at *
        clear h0
        go_wp2_with fail
        refine HC.out.mono ?_
        rintro e w1 ⟨rfl, hb1⟩
        have Hb1 := Lib.hid hb1
        have Hbw := Lib.hid (Hbel.out.trans (hb1.mono Hbel.out.size))
        clear hb1
        go_wp2
        go_roundw
        case rel =>
          refine ⟨k + 1, zs, Hlt.out, by go_num, by have := Hzl.out; omega, fun x => ?_, own_below Hown.out Hb1.out, Hbw.out⟩
          rw [Hnx.out x, Hmem.out x]
          constructor
          · exact .inl
          · rintro (h | ⟨h, _⟩)
            · exact h
            · exact absurd h H0.out
        case measure => simp [intOf]; have := Hlt.out; omega
    · obtain rfl : k = n := by omega
      have Hfull := Lib.hid (show ls.take k = ls from List.take_of_length_le (by rw [HS.out.len]; omega))
      by_cases hz : zs.length = 0
      · obtain rfl : zs = [] := List.length_eq_zero_iff.1 hz
        obtain ⟨p, cp, rfl, _⟩ := own_ints Hown.out
        have H1 := Lib.hid (Try.slices_Sort_int_none p cp wr)
        have H2 := Lib.hid (Try.slices_Compact_int_empty p cp wr)
        clear hz hlt
        go_wp2_with fail
        refine H1.out.mono ?_
        rintro e w1 ⟨rfl, rfl⟩
        go_wp2_with fail
        refine H2.out.mono ?_
        rintro e w2 ⟨rfl, rfl⟩
        go_wp2
        go_ret
        exact ⟨_, [], rfl, List.Pairwise.nil, fun x => by rw [Hmem.out x, Hfull.out], Nat.zero_le _, Hown.out, Hbel.out⟩
      · obtain ⟨g, cp, rfl, hbg, hgl, hnc, hcm, _, hH⟩ := Lib.holds_of_ownsRow (enc := Value.int .i64) Hown.out (by
          intro e
          have h := Hown.out
          rw [e] at h
          rcases h.2 with ⟨_, h0⟩ | ⟨_, _, _, e2, _⟩
          · omega
          · cases e2)
        obtain ⟨cur, hcur, hcs⟩ : ∃ cur, wr.heap[g]? = some (.cells cur 3 (0, 0)) ∧ cur.size = cp * 1 := by
          rcases Hown.out.2 with ⟨e, _⟩ | ⟨g', cp', cur, e, _, hg, _, _, hs, _⟩
          · cases e
          · cases e; exact ⟨cur, hg, hs⟩
        have H1 := Lib.hid (Try.slices_Sort_int g 0 cp zs wr hH hgl (by have := Hzl.out; omega))
        have hml : (zs.mergeSort fun x y => decide (x ≤ y)).length = zs.length := List.length_mergeSort zs
        have Hs := Lib.hid (fun (q : Nat) (os : Array Obj) => ownsRow_sortedI (w := wr) (base := w.heap.size) (n := q) (os := os) hml hbg hcur hnc (by rw [maxLen_nat] at hcm ⊢; exact hcm) hcs)
        have Hg := Lib.hid (fun (q : Nat) (os : Array Obj) => Hbel.out.grown (grownBy_sortedI (w := wr) (g := g) (n := q) (os := os) (zs.mergeSort fun x y => decide (x ≤ y)).toArray) Hbel.out.size (fun x hx => by cases hx; exact hbg))
        obtain ⟨hasc, hmm⟩ := compact_sorted zs
        have Hasc := Lib.hid hasc
        have Hmm := Lib.hid hmm
        clear hasc hmm hH hcur hcs
        generalize hso : zs.mergeSort (fun x y => decide (x ≤ y)) = so at *
        clear hso
        have Hml := Lib.hid hml
        have hz2 : zs.length ≤ 60 := by have := Hzl.out; omega
        have Hcl := Lib.hid (show (Lib.compact so).length ≤ so.length from by
          unfold Lib.compact Lib.compactUpTo
          rw [List.length_map]
          exact Nat.le_trans (List.length_filter_le _ _) (by rw [List.length_range]; exact Nat.le_refl _))
        have hcap : zs.length ≤ cp := hnc
        clear hml hz hlt
        go_wp2_with fail
        refine H1.out.mono ?_
        rintro e w1 ⟨rfl, q, os, hw1⟩
        have ho := Hs.out q os
        have hb1 := Hg.out q os
        rw [← hw1] at ho hb1
        have Ho := Lib.hid ho
        have Hb1 := Lib.hid hb1
        obtain ⟨g2, cp2, e2, hbg2, _, _, _, _, hH2⟩ := Lib.holds_of_ownsRow (enc := Value.int .i64) (zs := so) ho (by intro e; cases e)
        cases e2
        have H2 := Try.slices_Compact_int g 0 cp so w1 hH2 (by rw [Hml.out]; omega) (by rw [Hml.out]; exact hcap)
        rw [Hml.out] at H2
        have H2 := Lib.hid H2
        have Hup := Lib.hid (fun q2 => Lib.ownsRow_putRow (q := q2) (k := (Lib.compact so).length) (ys := Lib.compact so ++ List.replicate (zs.length - (Lib.compact so).length) 0) ho (by have := Hcl.out; have := Hml.out; simp; omega) (by have := Hcl.out; have := Hml.out; omega))
        have Hbl := Lib.hid (fun q2 => Lib.below_putRow (q := q2) (enc := Value.int .i64) (d := (Lib.compact so ++ List.replicate (zs.length - (Lib.compact so).length) 0).toArray) hb1 hbg)
        rw [List.take_left' rfl] at Hup
        clear ho hb1 hw1 hH2
        rename_i H20
        clear H20
        go_wp2_with fail
        refine H2.out.mono ?_
        rintro e w2 ⟨rfl, q2, rfl⟩
        have hu := Lib.hid (Hup.out q2)
        have hb := Lib.hid (Hbl.out q2)
        generalize Go.Sort.putRow (Value.int .i64) (Go.Sort.ahead w1 q2) g 0 (Lib.compact so ++ List.replicate (zs.length - (Lib.compact so).length) 0).toArray = w2 at *
        go_wp2
        go_ret
        exact ⟨_, _, rfl, Hasc.out, fun x => by rw [Hmm.out x, Hmem.out x, Hfull.out], by have := Hcl.out; have := Hml.out; have := HS.out.len; have := Hzl.out; omega, hu.out, hb.out⟩
end Go.Proofs.Ytdflfimclgapnaa
