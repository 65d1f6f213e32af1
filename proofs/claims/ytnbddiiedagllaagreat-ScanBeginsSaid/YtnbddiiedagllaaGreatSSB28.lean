import Derived.Test.YtnbddiiedagllaaGreatSSB27
import Derived.Sort.OwnSortedInts
import Derived.Test.YtnbddiiedagllaaGreatSSB20
import Derived.Test.YtnbddiiedagllaaGreatSSB7
import Derived.Maps.AppendAt
import Derived.Test.YtnbddiiedagllaaGreatSSB25
import Derived.Test.YtnbddiiedagllaaGreatSSB15
import Derived.Test.YtnbddiiedagllaaGreatSSB22
import Derived.Deep.QuietTactic
import Derived.BigQuiet
import Derived.Test.YtnbddiiedagllaaGreatSSB17
/- The walk of the code's List of segments. -/
namespace Go.Proofs.YtnbddiiedagllaaGreat
open Go.RowKit

theorem numsOf_next {ls : List (List Nat)} {k : Nat} (hk : k < ls.length) {x : Int} : NumsOf (ls.take (k + 1)) x ↔ NumsOf (ls.take k) x ∨ (0 < segNum (ls.getD k []) ∧ x = ((segNum (ls.getD k []) : Nat) : Int)) := by
 have e : ls.take (k + 1) = ls.take k ++ [ls.getD k []] := by
  rw [List.take_succ_eq_append_getElem hk, List.getD_eq_getElem?_getD, List.getElem?_eq_getElem hk]; rfl
 unfold NumsOf
 rw [e]
 constructor
 ·rintro ⟨l, hl, h1, h2⟩
  rcases List.mem_append.1 hl with h | h
  ·exact .inl ⟨l, h, h1, h2⟩
  ·obtain rfl : l = ls.getD k [] := by simpa using h
   exact .inr ⟨h1, h2⟩
 ·rintro (⟨l, hl, h1, h2⟩ | ⟨h1, h2⟩)
  ·exact ⟨l, List.mem_append.2 (.inl hl), h1, h2⟩
  ·exact ⟨_, List.mem_append.2 (.inr (by simp)), h1, h2⟩

def ListEnd (w : World) (ls : List (List Nat)) (e : Ending) (w' : World) : Prop :=
 ∃ (v : Value) (out : List Int), e = .returned v ∧ Asc out ∧ (∀ x, x ∈ out ↔ NumsOf ls x) ∧ out.length ≤ ls.length ∧ w'.ownsRow w.heap.size 3 1 v out.length (intsE out) ∧ Below w.heap.size w w'

def SlRel (w : World) (n : Nat) (ls : List (List Nat)) (v i : Value) (wr : World) : Prop :=
 ∃ (k : Nat) (zs : List Int), k ≤ n ∧ i = .int .i64 (k : Int) ∧ zs.length ≤ k ∧ (∀ x, x ∈ zs ↔ NumsOf (ls.take k) x) ∧ wr.ownsRow w.heap.size 3 1 v zs.length (intsE zs) ∧ Below w.heap.size w wr

set_option maxRecDepth 100000 in
set_option maxHeartbeats 3200000 in
theorem seglist_any (a : Option Addr) (n cap : Nat) (ls : List (List Nat)) (w : World) (hS : Strs w a n cap ls) (hn : n ≤ 1000) :
  Calls Tryz.prog 47 #[.slice a n cap] w (ListEnd w ls) := by
 have HS := Lib.hid hS
 clear hS
 go_enter Tryz.func47, Tryz.ntmps47
 go_wp2
 go_loopw [3, 10] (fun v i wr => SlRel w n ls v i wr) (fun _ i _ => n - (intOf i).toNat)
 case atStart => exact ⟨0, [], Nat.zero_le _, rfl, Nat.le_refl _, fun x => ⟨fun h => (by cases h), fun ⟨l, hl, _⟩ => (by rw [List.take_zero] at hl; cases hl)⟩, World.ownsRow_nil _ _ _ _, Below.refl _ _⟩
 case round =>
  obtain ⟨k, zs, hk, rfl, hzl, hmem, hown, hbel⟩ := hrel
  have Hmem := Lib.hid hmem
  have Hzl := Lib.hid hzl
  have Hown := Lib.hid hown
  have Hbel := Lib.hid hbel
  clear hmem hzl hown hbel
  by_cases hlt : k < n
  ·obtain ⟨b, o, rfl, hc0⟩ := (HS.out.grow Hbel.out).cell (by omega)
   have hc := hc0 k hlt
   have Hnx := Lib.hid (fun x => numsOf_next (ls := ls) (k := k) (by rw [HS.out.len]; exact hlt) (x := x))
   obtain ⟨hby, hlen⟩ : (∀ x ∈ ls.getD k [], x < 256) ∧ (ls.getD k []).length ≤ 9223372036854775807 := by
    rw [List.getD_eq_getElem?_getD, List.getElem?_eq_getElem (by rw [HS.out.len]; exact hlt)]
    exact HS.out.byte _ (List.getElem_mem _)
   have HC := Lib.hid (segnum_any (ls.getD k []) wr hby hlen)
   unfold NumEnd at HC
   clear hc0 hby hlen
   generalize ls.getD k [] = l at *
   have Hlt := Lib.hid hlt
   generalize str l = s at *
   by_cases h0 : 0 < segNum l
   ·have H0 := Lib.hid h0
    rw [decide_eq_true h0] at HC
    generalize segNum l = m at *
    clear h0
    go_wp2_with fail
    refine HC.out.mono ?_
    rintro e w1 ⟨rfl, hb1⟩
    have Hb1 := Lib.hid hb1
    have Hbw := Lib.hid (Hbel.out.trans (hb1.mono Hbel.out.size))
    clear hb1
    have Hrow := Lib.hid (int_row w1 (m : Int))
    have Hown1 := Lib.hid ((own_below Hown.out Hb1.out).alloc (.cells #[.int .i64 (m : Int)] 3))
    go_wp2_with (at_builtin; refine wpList_append_ints _ rfl _ _ 33 rfl w.heap.size 3 Tryz.underlying33 info_int _ _ _ rfl Hown1.out _ 1 1 [(m : Int)] rfl Hrow.out (by have := Hzl.out; omega) (by simp; have := Hbw.out.size; omega) ?_; intro v' w2 g1 g2)
    go_roundw
    case rel =>
     refine ⟨k + 1, zs ++ [(m : Int)], Hlt.out, by go_num, by have := Hzl.out; simp; omega, fun x => ?_, by simpa using g1, ?_⟩
     ·rw [Hnx.out x, List.mem_append, Hmem.out x, List.mem_singleton]
      constructor
      ·rintro (h | h)
       ·exact .inl h
       ·exact .inr ⟨H0.out, h⟩
      ·rintro (h | ⟨_, h⟩)
       ·exact .inl h
       ·exact .inr h
     ·have hb : Below w.heap.size w (w1.alloc (.cells #[.int .i64 (m : Int)] 3)) := Hbw.out.alloc Hbw.out.size _
      exact hb.grown g2 hb.size (fun x hx => (Hown.out.lt x hx).1)
    case measure => simp [intOf]; have := Hlt.out; omega
   ·have H0 := Lib.hid h0
    rw [decide_eq_false h0] at HC
    generalize segNum l = m at *
    clear h0
    go_wp2_with fail
    refine HC.out.mono ?_
    rintro e w1 ⟨rfl, hb1⟩
    have Hb1 := Lib.hid hb1
    have Hbw := Lib.hid (Hbel.out.trans (hb1.mono Hbel.out.size))
    clear hb1
    go_wp2
    go_roundw
    case rel =>
     refine ⟨k + 1, zs, Hlt.out, by go_num, by have := Hzl.out; omega, fun x => ?_, own_below Hown.out Hb1.out, Hbw.out⟩
     rw [Hnx.out x, Hmem.out x]
     constructor
     ·exact .inl
     ·rintro (h | ⟨h, _⟩)
      ·exact h
      ·exact absurd h H0.out
    case measure => simp [intOf]; have := Hlt.out; omega
  ·obtain rfl : k = n := by omega
   have Hfull := Lib.hid (show ls.take k = ls from List.take_of_length_le (by rw [HS.out.len]; omega))
   by_cases hz : zs.length = 0
   ·obtain rfl : zs = [] := List.length_eq_zero_iff.1 hz
    obtain ⟨p, cp, rfl, _⟩ := own_ints Hown.out
    have H1 := Lib.hid (Tryz.slices_Sort_int_none p cp wr)
    have H2 := Lib.hid (Tryz.slices_Compact_int_empty p cp wr)
    clear hz hlt
    go_wp2_with fail
    refine H1.out.mono ?_
    rintro e w1 ⟨rfl, rfl⟩
    go_wp2_with fail
    refine H2.out.mono ?_
    rintro e w2 ⟨rfl, rfl⟩
    go_wp2
    go_ret
    exact ⟨_, [], rfl, List.Pairwise.nil, fun x => by rw [Hmem.out x, Hfull.out], Nat.zero_le _, Hown.out, Hbel.out⟩
   ·obtain ⟨g, cp, rfl, hbg, hgl, hnc, hcm, _, hH⟩ := Lib.holds_of_ownsRow (enc := Value.int .i64) Hown.out (by
     intro e
     have h := Hown.out
     rw [e] at h
     rcases h.2 with ⟨_, h0⟩ | ⟨_, _, _, e2, _⟩
     ·omega
     ·cases e2)
    obtain ⟨cur, hcur, hcs⟩ : ∃ cur, wr.heap[g]? = some (.cells cur 3 (0, 0)) ∧ cur.size = cp * 1 := by
     rcases Hown.out.2 with ⟨e, _⟩ | ⟨g', cp', cur, e, _, hg, _, _, hs, _⟩
     ·cases e
     ·cases e; exact ⟨cur, hg, hs⟩
    have H1 := Lib.hid (Tryz.slices_Sort_int g 0 cp zs wr hH hgl (by have := Hzl.out; omega))
    have hml : (zs.mergeSort fun x y => decide (x ≤ y)).length = zs.length := List.length_mergeSort zs
    have Hs := Lib.hid (fun (q : Nat) (os : Array Obj) => ownsRow_sortedI (w := wr) (base := w.heap.size) (n := q) (os := os) hml hbg hcur hnc (by rw [maxLen_nat] at hcm ⊢; exact hcm) hcs)
    have Hg := Lib.hid (fun (q : Nat) (os : Array Obj) => Hbel.out.grown (grownBy_sortedI (w := wr) (g := g) (n := q) (os := os) (zs.mergeSort fun x y => decide (x ≤ y)).toArray) Hbel.out.size (fun x hx => by cases hx; exact hbg))
    obtain ⟨hasc, hmm⟩ := compact_sorted zs
    have Hasc := Lib.hid hasc
    have Hmm := Lib.hid hmm
    clear hasc hmm hH hcur hcs
    generalize hso : zs.mergeSort (fun x y => decide (x ≤ y)) = so at *
    clear hso
    have Hml := Lib.hid hml
    have hz2 : zs.length ≤ 1000 := by have := Hzl.out; omega
    have Hcl := Lib.hid (show (Lib.compact so).length ≤ so.length from by
     unfold Lib.compact Lib.compactUpTo
     rw [List.length_map]
     exact Nat.le_trans (List.length_filter_le _ _) (by rw [List.length_range]; exact Nat.le_refl _))
    have hcap : zs.length ≤ cp := hnc
    clear hml hz hlt
    go_wp2_with fail
    refine H1.out.mono ?_
    rintro e w1 ⟨rfl, q, os, hw1⟩
    have ho := Hs.out q os
    have hb1 := Hg.out q os
    rw [← hw1] at ho hb1
    have Ho := Lib.hid ho
    have Hb1 := Lib.hid hb1
    obtain ⟨g2, cp2, e2, hbg2, _, _, _, _, hH2⟩ := Lib.holds_of_ownsRow (enc := Value.int .i64) (zs := so) ho (by intro e; cases e)
    cases e2
    have H2 := Tryz.slices_Compact_int g 0 cp so w1 hH2 (by rw [Hml.out]; omega) (by rw [Hml.out]; exact hcap)
    rw [Hml.out] at H2
    have H2 := Lib.hid H2
    have Hup := Lib.hid (fun q2 => Lib.ownsRow_putRow (q := q2) (k := (Lib.compact so).length) (ys := Lib.compact so ++ List.replicate (zs.length - (Lib.compact so).length) 0) ho (by have := Hcl.out; have := Hml.out; simp; omega) (by have := Hcl.out; have := Hml.out; omega))
    have Hbl := Lib.hid (fun q2 => Lib.below_putRow (q := q2) (enc := Value.int .i64) (d := (Lib.compact so ++ List.replicate (zs.length - (Lib.compact so).length) 0).toArray) hb1 hbg)
    rw [List.take_left' rfl] at Hup
    clear ho hb1 hw1 hH2
    rename_i H20
    clear H20
    go_wp2_with fail
    refine H2.out.mono ?_
    rintro e w2 ⟨rfl, q2, rfl⟩
    have hu := Lib.hid (Hup.out q2)
    have hb := Lib.hid (Hbl.out q2)
    generalize Go.Sort.putRow (Value.int .i64) (Go.Sort.ahead w1 q2) g 0 (Lib.compact so ++ List.replicate (zs.length - (Lib.compact so).length) 0).toArray = w2 at *
    go_wp2
    go_ret
    exact ⟨_, _, rfl, Hasc.out, fun x => by rw [Hmm.out x, Hmem.out x, Hfull.out], by have := Hcl.out; have := Hml.out; have := HS.out.len; have := Hzl.out; omega, hu.out, hb.out⟩
end Go.Proofs.YtnbddiiedagllaaGreat

/- The walk of the statements' records: the records of the segments of a disk. -/
namespace Go.Proofs.YtnbddiiedagllaaGreat
open Go.RowKit Go.Maps Go.Shelf


theorem PartsZ.trivial {w : World} {base : Nat} {v : Value} {ls : List (List Nat)} (h : OwnParts w base v ls) : PartsZ (fun _ => True) w base v ls := by
 obtain ⟨vs, h1, h2, h3⟩ := h
 refine ⟨vs, h1, h2, fun i hi => ?_⟩
 obtain ⟨a, n, c, h4, h5, h6⟩ := h3 i hi
 exact ⟨a, n, c, h4, h5, fun hn x hx => ⟨h6 hn x hx, True.intro⟩⟩

theorem PartsZ.moved {Z : Nat → Prop} {W W' : World} {base : Nat} {v : Value} {ls : List (List Nat)} (h : PartsZ Z W base v ls) (hZ : ∀ b, Z b → b < W.heap.size → W'.heap[b]? = W.heap[b]?) (hr : ∀ k, v.ownBlock = some k → W'.heap[k]? = W.heap[k]?) : PartsZ Z W' base v ls := by
 obtain ⟨vs, h1, h2, h3⟩ := h
 refine ⟨vs, h1, ⟨h2.1, ?_⟩, fun i hi => ?_⟩
 ·rcases h2.2 with ⟨rfl, h0⟩ | ⟨g, cap, cur, rfl, hb, hg, hq⟩
  ·exact .inl ⟨rfl, h0⟩
  ·exact .inr ⟨g, cap, cur, rfl, hb, (hr g rfl).trans hg, hq⟩
 ·obtain ⟨a, n, c, h4, h5, h6⟩ := h3 i hi
  exact ⟨a, n, c, h4, h5.off (fun hn x hx hlt => hZ _ (h6 hn x hx).2 hlt), h6⟩

theorem parts_upto {a : Option Addr} {n c k : Nat} (hk : k ≤ n) (hn : n ≤ c) :
  ∃ a', (∀ (w : World) (kl : IntKind), (Instr.slice 29 (.slice a n c) none (some (.int kl (k : Int))) none).run Tryz.prog w = .ok (.slice a' k c) w) ∧ ∀ (w : World) (ls : List (List Nat)), Parts w a n c ls → Parts w a' k c (ls.take k) := by
 obtain ⟨i, hi, _, hsz, _⟩ := info_parts info_rows
 have hT' : Tryz.prog.underlying 29 = some (.slice (Tryz.prog.elem 29)) := by kernel_rfl
 have hE : Tryz.prog.elem 29 = 58 := by kernel_rfl
 have hsize : ∀ w : World, (sizeOf (Tryz.prog.elem 29)).run Tryz.prog w = .ok 1 w := fun w => by rw [hE]; simp [sizeOf, typeInfo, hi, hsz]
 refine ⟨if c = 0 then a else a.map (·.add (0 * 1)), fun w kl => ?_, fun w ls hl => ?_⟩
 ·rw [run_slice_h w 29 a n c hT' kl (k : Int) (by omega) (by omega), hsize]
  rfl
 ·refine ⟨by rw [List.length_take, hl.len]; omega, Nat.le_trans hk hn, hl.capmax, fun hk0 => ?_⟩
  obtain ⟨b, o, rfl, hb, hc⟩ := hl.cell (by omega)
  refine ⟨b, o, ?_, hb, fun j hj => ?_⟩
  ·rw [if_neg (by omega)]
   simp [addr_add]
  ·obtain ⟨a', n', c', h1, h2⟩ := hc j (by omega)
   refine ⟨a', n', c', h1, ?_⟩
   rw [List.getD_eq_getElem?_getD, List.getElem?_take, if_pos hj, ← List.getD_eq_getElem?_getD]
   exact h2

theorem used_mem {l : List F} {f : F} (h : f ∈ l) : f.b.length ≤ usedF l := by
 induction l with
 | nil => cases h
 | cons x r ih =>
  unfold usedF at ih ⊢
  rw [List.map_cons, List.sum_cons]
  rcases List.mem_cons.1 h with rfl | h1
  ·omega
  ·have := ih h1
   omega

theorem readM_len (n : List UInt8) (M : DM) : (readM n M).1.length ≤ usedF M.fs := by
 unfold readM
 split
 ·exact Nat.zero_le _
 ·split
  ·exact Nat.zero_le _
  ·rename_i f hf
   exact used_mem (findN_some hf).1

theorem str_nmL (n : List UInt8) : str (nmL n) = ⟨n.toArray⟩ := by
 unfold str nmL
 rw [List.map_map]
 congr 2
 conv => rhs; rw [← List.map_id n]
 refine List.map_congr_left fun x _ => ?_
 simp

theorem strs_row {w : World} {base : Nat} {e : TypeId} {v : Value} {m : Nat} {ns : List (List UInt8)} (h : w.ownsRow base e 1 v m (ns.map encStr)) (hm : ∀ n ∈ ns, n.length ≤ 9223372036854775807) : ∃ p c, v = .slice p m c ∧ Strs w p m c (ns.map nmL) := by
 have hlen : ns.length = m := by have := h.1; simpa using this
 have hby : ∀ l ∈ ns.map nmL, (∀ x ∈ l, x < 256) ∧ l.length ≤ 9223372036854775807 := by
  intro l hl
  obtain ⟨n, hn, rfl⟩ := List.mem_map.1 hl
  refine ⟨fun x hx => ?_, by unfold nmL; rw [List.length_map]; exact hm n hn⟩
  obtain ⟨c, _, rfl⟩ := List.mem_map.1 hx
  exact c.toNat_lt
 rcases h.2 with ⟨rfl, rfl⟩ | ⟨g, cap, cur, rfl, hbg, hg, hle, hcm, hsz, htake⟩
 ·exact ⟨none, 0, rfl, by rw [List.length_map]; exact hlen, Nat.le_refl _, by omega, hby, fun h => absurd h (Nat.lt_irrefl _)⟩
 ·rw [maxLen_nat] at hcm
  refine ⟨_, cap, rfl, by rw [List.length_map]; exact hlen, hle, hcm, hby, fun _ => ⟨g, 0, rfl, fun i hi => ?_⟩⟩
  have hi2 : i < ns.length := by omega
  rw [cell_of_row w g (0 + i) cur _ (0, 0) hg, Nat.zero_add]
  have h1 : cur[i]? = (ns.map encStr)[i]? := by
   rw [← htake, List.getElem?_take, if_pos (by omega), Array.getElem?_toList]
  rw [h1, List.getElem?_map, List.getElem?_eq_getElem hi2, List.getD_eq_getElem?_getD, List.getElem?_map, List.getElem?_eq_getElem hi2]
  simp [str_nmL, encStr]
end Go.Proofs.YtnbddiiedagllaaGreat

/- The walks of a log's goOn, Put, Sync and New. -/
namespace Go.Proofs.YtnbddiiedagllaaGreat
open Go.RowKit Go.Maps Go.Shelf

theorem max_one (b c : Nat) (z : Int) (w : World) (h : w.cell? ⟨b, 0, none⟩ = some (.int .i64 z)) :
  Calls Tryz.prog 128 #[.slice (some ⟨b, 0, none⟩) 1 c] w fun e w' => e = .returned (.int .i64 z) ∧ w = w' := by
 go_enter Tryz.func128, Tryz.ntmps128
 go_wp2
 go_loop [3, 4] (fun m i => m = .int .i64 z ∧ i = .int .i64 1) (fun _ _ => 0)
 case atStart => exact ⟨rfl, rfl⟩
 case round =>
  obtain ⟨rfl, rfl⟩ := hrel
  go_wp2
  go_ret
  exact ⟨rfl, rfl⟩

theorem segnext_one (b c N : Nat) (w : World) (hN : N ≤ 99999999) (h : w.cell? ⟨b, 0, none⟩ = some (.int .i64 (N : Int))) :
  Calls Tryz.prog 83 #[.slice (some ⟨b, 0, none⟩) 1 c] w fun e w' => e = .returned (if N < 99999999 then .tuple #[.int .i64 ((N + 1 : Nat) : Int), .bool true] else .tuple #[.int .i64 0, .bool false]) ∧ w = w' := by
 have HM := Lib.hid (max_one b c (N : Int) w h)
 have HI := Lib.hid (seginrange_any ((N : Int) + 1) w)
 by_cases hlt : N < 99999999
 ·rw [decide_eq_true (show 1 ≤ (N : Int) + 1 ∧ (N : Int) + 1 ≤ 99999999 by omega)] at HI
  rw [if_pos hlt]
  clear h
  go_enter Tryz.func83, Tryz.ntmps83
  go_wp2_with fail
  refine HM.out.mono ?_
  rintro e w' ⟨rfl, rfl⟩
  go_wp2_with fail
  refine HI.out.mono ?_
  rintro e w' ⟨rfl, rfl⟩
  go_wp2
  go_ret2
  exact ⟨rfl, rfl⟩
 ·rw [decide_eq_false (show ¬ (1 ≤ (N : Int) + 1 ∧ (N : Int) + 1 ≤ 99999999) by omega)] at HI
  rw [if_neg hlt]
  clear h
  go_enter Tryz.func83, Tryz.ntmps83
  go_wp2_with fail
  refine HM.out.mono ?_
  rintro e w' ⟨rfl, rfl⟩
  go_wp2_with fail
  refine HI.out.mono ?_
  rintro e w' ⟨rfl, rfl⟩
  go_wp2
  go_ret2
  exact ⟨rfl, rfl⟩

section
variable {w0 : World} {Y : Nat → Prop} {w : World} {g d : Nat} {W : WM}

theorem LogAt.cell (h : LogAt w0 Y w g d W) : w.cell? ⟨g, 0, none⟩ = some (.int .i64 (W.n : Int)) ∧ w.cell? ⟨g, 1, none⟩ = some (.int .i64 (W.size : Int)) ∧ w.cell? ⟨g, 2, none⟩ = some (.int .i64 (W.wait : Int)) ∧ w.cell? ⟨g, 3, none⟩ = some (.pointer (some ⟨d, 0, none⟩)) ∧ w.cell? ⟨g, 4, none⟩ = some (.int .i64 W.most) := by
 have hc := h.cells
 refine ⟨?_, ?_, ?_, ?_, ?_⟩ <;> (rw [cell_of_row _ _ _ _ _ (0, 0) hc]; rfl)

set_option maxRecDepth 100000 in
set_option maxHeartbeats 6400000 in
theorem goOn_any (h : LogAt w0 Y w g d W) (h1 : 1 ≤ W.n) (hN : W.n ≤ 99999999) (hL : W.D.fs.length < 1000000) :
  Calls Tryz.prog 77 #[.pointer (some ⟨g, 0, none⟩)] w fun e w' => e = .returned (.int .i64 (rotW W).2) ∧ LogEnd w0 Y w g d (rotW W).1 w' := by
 obtain ⟨g0, g1, g2, g3, g4⟩ := h.cell
 have hr0 : (w.alloc (.cells #[.int .i64 (W.n : Int)] 3)).cell? ⟨w.heap.size, 0, none⟩ = some (.int .i64 (W.n : Int)) := by rw [cell_of_row _ _ _ _ _ (0, 0) (heap_alloc_new _ _)]; rfl
 have HX := Lib.hid (segnext_one w.heap.size 1 W.n _ hN hr0)
 have hb1 : Below w.heap.size w (w.alloc (.cells #[.int .i64 (W.n : Int)] 3)) := (Below.refl _ _).alloc (Nat.le_refl _) _
 have H := Lib.hid h
 have H1 := Lib.hid h1
 by_cases hlt : W.n < 99999999
 ·have Hlt := Lib.hid hlt
  rw [if_pos hlt] at HX
  have hA := h.all hb1
  obtain ⟨k0, k1, k2, _, _⟩ := hA.cell
  have HS := Lib.hid (syncing_any g W.n (W.size : Int) (W.wait : Int) (W.n : Int) (W.size : Int) (W.wait : Int) _ h1 hN k0 k1 k2)
  unfold placeV at HS
  have Hb1 := Lib.hid hb1
  have HL := Lib.hid hL
  clear h h1 hr0 hA hb1 hL hlt
  go_enter Tryz.func77, Tryz.ntmps77
  go_wp2_with fail
  refine HX.out.mono ?_
  rintro e w' ⟨rfl, rfl⟩
  go_wp2_with fail
  refine HS.out.mono ?_
  rintro e w2 ⟨b1, b2, rfl, c1, c2, hbk1, hbk2, hb2⟩
  have HC := Lib.hid (creating_any g (W.n + 1) w2 (by omega) (by have := Hlt.out; omega))
  have Hb2 := Lib.hid (Hb1.out.trans (hb2.mono Hb1.out.size))
  have C1 := Lib.hid c1
  have C2 := Lib.hid c2
  have Hk1 := Lib.hid (Nat.le_trans Hb1.out.size hbk1)
  have Hk2 := Lib.hid (Nat.le_trans Hb1.out.size hbk2)
  clear hb2 c1 c2 hbk1 hbk2 k0 k1 k2
  unfold stepV
  go_wp2_with fail
  refine HC.out.mono ?_
  rintro e w3 ⟨b3, b4, rfl, c3, c4, hbk3, hbk4, hb3⟩
  have C3 := Lib.hid c3
  have C4 := Lib.hid c4
  have Hk3 := Lib.hid (Nat.le_trans Hb2.out.size hbk3)
  have Hk4 := Lib.hid (Nat.le_trans Hb2.out.size hbk4)
  have Hb3' := Lib.hid hb3
  have Hb3 := Lib.hid (Hb2.out.trans (hb3.mono Hb2.out.size))
  clear hb3 c3 c4 hbk3 hbk4
  unfold stepV
  go_wp2_with fail
  obtain ⟨w4, hw4⟩ : ∃ w4, w4 = w3.alloc (.cells #[.func (.func 125) #[] #[.pointer (some ⟨b1, 0, none⟩), .pointer (some ⟨b2, 0, none⟩)], .int .i64 (W.n : Int), .int .i64 (W.size : Int), .int .i64 (W.wait : Int),
   .func (.func 160) #[] #[.pointer (some ⟨b3, 0, none⟩), .pointer (some ⟨b4, 0, none⟩)], .int .i64 ((W.n : Int) + 1), .int .i64 0, .int .i64 0] 135) := ⟨_, rfl⟩
  rw [← hw4]
  have hrow : w4.heap[w3.heap.size]? = some (.cells ([StepD.mk 125 #[.pointer (some ⟨b1, 0, none⟩), .pointer (some ⟨b2, 0, none⟩)] (W.n : Int) (W.size : Int) (W.wait : Int), StepD.mk 160 #[.pointer (some ⟨b3, 0, none⟩), .pointer (some ⟨b4, 0, none⟩)] ((W.n : Int) + 1) 0 0].flatMap fun x => x.cells.toList).toArray 135 (0, 0)) := by
   rw [hw4]
   exact heap_alloc_new _ _
  have hb34 : Below w3.heap.size w3 w4 := by rw [hw4]; exact (Below.refl _ _).alloc (Nat.le_refl _) _
  have hz4 : w4.heap.size = w3.heap.size + 1 := by rw [hw4]; simp
  have hb4 : Below w.heap.size w w4 := Hb3.out.trans (hb34.mono Hb3.out.size)
  have hA4 := H.out.all hb4
  have hgl := H.out.lt
  have hsz3 := Hb3.out.size
  have hc1 : w4.cell? ⟨b1, 0, none⟩ = some (.pointer (some ⟨g, 0, none⟩)) := cell_below hb34 (Nat.le_refl _) (cell_below Hb3'.out (Nat.le_refl _) C1.out)
  have hc2 : w4.cell? ⟨b2, 0, none⟩ = some (encStr (nmB W.n)) := cell_below hb34 (Nat.le_refl _) (cell_below Hb3'.out (Nat.le_refl _) C2.out)
  have hc3 : w4.cell? ⟨b3, 0, none⟩ = some (.pointer (some ⟨g, 0, none⟩)) := cell_below hb34 (Nat.le_refl _) C3.out
  have hc4 : w4.cell? ⟨b4, 0, none⟩ = some (encStr (nmB (W.n + 1))) := cell_below hb34 (Nat.le_refl _) C4.out
  have hl1 := World.block_lt_of_cell? _ _ hc1
  have hl2 := World.block_lt_of_cell? _ _ hc2
  have hl3 := World.block_lt_of_cell? _ _ hc3
  have hl4 := World.block_lt_of_cell? _ _ hc4
  have hg4 := hA4.cell.2.2.2.1
  have hk1 := Hk1.out
  have hk2 := Hk2.out
  have hk3 := Hk3.out
  have hk4 := Hk4.out
  have HT := take2_any hA4 w3.heap.size 2 (.inr ⟨hsz3, by omega⟩) (by omega) _ _ (enters_of Tryz.func125 (by kernel_rfl) rfl) (enters_of Tryz.func160 (by kernel_rfl) rfl)
   (syncM (nmB W.n) W.D) (createM (nmB (W.n + 1)) (syncM (nmB W.n) W.D).1) { W with D := (syncM (nmB W.n) W.D).1 } { W with D := (createM (nmB (W.n + 1)) (syncM (nmB W.n) W.D).1).1, n := W.n + 1, size := 0, wait := 0 }
   rfl rfl rfl rfl rfl rfl (by show (W.n : Int) + 1 = ((W.n + 1 : Nat) : Int); omega) rfl rfl rfl hrow
   (fun Z w' hZ ho hk => do_sync ho g W.n b1 b2 (by rw [World.cell?_of_block (hk b1 (.inr ⟨hk1, hl1⟩))]; exact hc1) (by rw [World.cell?_of_block (hk b2 (.inr ⟨hk2, hl2⟩))]; exact hc2) (by rw [World.cell?_of_block (hk g (.inl H.out.inY))]; exact hg4))
   (fun Z w1 w' hZ hq ho hk => do_create ho g (W.n + 1) b3 b4 (by rw [World.cell?_of_block ((hk b3 (.inr ⟨hk3, hl3⟩)).trans (hq.2.1 b3 (.inr ⟨hk3, hl3⟩) (by show b3 ≠ g; omega)))]; exact hc3)
    (by rw [World.cell?_of_block ((hk b4 (.inr ⟨hk4, hl4⟩)).trans (hq.2.1 b4 (.inr ⟨hk4, hl4⟩) (by show b4 ≠ g; omega)))]; exact hc4)
    (by rw [World.cell?_of_block (hk g (.inl H.out.inY))]; exact hq.1.cell.2.2.2.1) (by show (syncM (nmB W.n) W.D).1.fs.length < 1000000; rw [syncM_count]; exact HL.out))
  have HT := Lib.hid (HT.mono (fun e w' hq => (show e = .returned (.int .i64 (rotW W).2) ∧ LogEnd w0 Y w g d (rotW W).1 w' from by
   rw [rotW_eq W Hlt.out]
   exact ⟨hq.1, LogEnd.behind H.out hb4 (fun b hy => Or.inl hy) hq.2⟩)))
  clear hrow hb34 hz4 hb4 hA4 hgl hsz3 hc1 hc2 hc3 hc4 hl1 hl2 hl3 hl4 hg4 hk1 hk2 hk3 hk4 hw4
  refine HT.out.mono ?_
  rintro e w5 ⟨rfl, hq⟩
  have Hq := Lib.hid hq
  clear hq
  go_wp2
  go_ret
  exact ⟨rfl, Hq.out⟩
 ·rw [if_neg hlt] at HX
  have er : rotW W = (W, 2) := by unfold rotW; rw [if_pos (by omega)]
  rw [er]
  have HE := Lib.hid (fun w' (hb : Below w.heap.size w w') => H.out.ended hb)
  have Hb1 := Lib.hid hb1
  clear h h1 hr0 hb1 hL hlt er
  go_enter Tryz.func77, Tryz.ntmps77
  go_wp2_with fail
  refine HX.out.mono ?_
  rintro e w' ⟨rfl, rfl⟩
  go_wp2
  go_ret
  exact ⟨rfl, HE.out _ Hb1.out⟩
end
end Go.Proofs.YtnbddiiedagllaaGreat

/- The walks of a log's Put, Sync and New, and of what tells its state. -/
namespace Go.Proofs.YtnbddiiedagllaaGreat
open Go.RowKit Go.Maps Go.Shelf

section
variable {w0 : World} {Y : Nat → Prop} {w : World} {g d : Nat} {W : WM}

theorem Own.used_le {X : Nat → Prop} {M : DM} (h : Own w0 X w d M) : usedF M.fs ≤ M.room := by
 obtain ⟨S, ⟨mb, p, L, hD⟩, _⟩ := h
 exact hD.used

set_option maxRecDepth 100000 in
theorem put_tail (h : LogAt w0 Y w g d W) (q : Option Addr) (cb : Nat) (l : List Nat) (hB : Bytes w q (l.length + 8) cb (frameL l)) (hq : ∀ a, q = some a → Y a.block ∨ a.block < w0.heap.size) (h1 : 1 ≤ W.n) (hN : W.n ≤ 99999999) (hs : W.size ≤ 1000000000) (hk : W.wait ≤ 1000000000)
  (hl : l.length ≤ 1048576) (hR : W.D.room ≤ 100000000000) :
  Calls Tryz.prog 79 #[.pointer (some ⟨g, 0, none⟩), .slice q (l.length + 8 : Nat) cb] w fun e w1 => ∃ k caps n s z, e = .returned (stepV k caps n s z) ∧
   Calls Tryz.prog 78 #[.pointer (some ⟨g, 0, none⟩), .slice (some ⟨w1.heap.size, 0, none⟩) 1 1] (w1.alloc (.cells #[.func (.func k) #[] caps, .int .i64 n, .int .i64 s, .int .i64 z] 135)) fun e w' => e = .returned (.int .i64 (appW W l).2) ∧ LogEnd w0 Y w g d (appW W l).1 w' := by
 obtain ⟨g0, g1, g2, g3, g4⟩ := h.cell
 refine (appending_any g W.n W.size W.wait q (l.length + 8) cb w h1 hN (by omega) (by omega) g0 g1 g2).mono ?_
 rintro e w1 ⟨b1, b2, b3, rfl, c1, c2, c3, k1, k2, k3, hb⟩
 refine ⟨_, _, _, _, _, rfl, ?_⟩
 obtain ⟨w2, hw2⟩ : ∃ w2, w2 = w1.alloc (.cells #[.func (.func 124) #[] #[.pointer (some ⟨b1, 0, none⟩), .pointer (some ⟨b2, 0, none⟩), .pointer (some ⟨b3, 0, none⟩)], .int .i64 (W.n : Int), .int .i64 ((W.size + (l.length + 8) : Nat) : Int), .int .i64 ((W.wait + 1 : Nat) : Int)] 135) := ⟨_, rfl⟩
 rw [← hw2]
 have hrow : w2.heap[w1.heap.size]? = some (.cells ([StepD.mk 124 #[.pointer (some ⟨b1, 0, none⟩), .pointer (some ⟨b2, 0, none⟩), .pointer (some ⟨b3, 0, none⟩)] (W.n : Int) ((W.size + (l.length + 8) : Nat) : Int) ((W.wait + 1 : Nat) : Int)].flatMap fun x => x.cells.toList).toArray 135 (0, 0)) := by
  rw [hw2]
  exact heap_alloc_new _ _
 have hb12 : Below w1.heap.size w1 w2 := by rw [hw2]; exact (Below.refl _ _).alloc (Nat.le_refl _) _
 have hb2 : Below w.heap.size w w2 := hb.trans (hb12.mono hb.size)
 have hA := h.all hb2
 have d1 := cell_below hb12 (Nat.le_refl _) c1
 have d2 := cell_below hb12 (Nat.le_refl _) c2
 have d3 := cell_below hb12 (Nat.le_refl _) c3
 have l1 := World.block_lt_of_cell? _ _ d1
 have l2 := World.block_lt_of_cell? _ _ d2
 have l3 := World.block_lt_of_cell? _ _ d3
 have hu := h.own.used_le
 have hY := h.own.blocks
 refine (take1_any hA w1.heap.size 1 _ (enters_of Tryz.func124 (by kernel_rfl) rfl) (appendM (nmB W.n) (frameL l) W.D) { W with D := (appendM (nmB W.n) (frameL l) W.D).1, size := W.size + (l.length + 8), wait := W.wait + 1 } rfl rfl rfl rfl rfl hrow
  (fun Z w' hZ ho hkk => do_append ho g W.n b1 b2 b3 q (l.length + 8) cb (frameL l) (by rw [World.cell?_of_block (hkk b1 (.inr ⟨k1, l1⟩))]; exact d1) (by rw [World.cell?_of_block (hkk b2 (.inr ⟨k2, l2⟩))]; exact d2) (by rw [World.cell?_of_block (hkk b3 (.inr ⟨k3, l3⟩))]; exact d3)
   (by rw [World.cell?_of_block (hkk g (.inl h.inY))]; exact hA.cell.2.2.2.1) ?_ (fun _ a ha => (hq a ha).imp (fun hy => hZ _ (.inl hy)) id) (by rw [frameL_len]; omega))).mono ?_
 ·refine (hB.grow hb2).off fun hn a ha hlt => ?_
  rcases hq a ha with hy | hy
  ·exact hkk _ (.inl hy)
  ·exact (ho.base.block _ hy).trans ((hA.own.base.block _ hy).symm)
 ·rintro e w' ⟨rfl, hq2⟩
  rw [appW_eq]
  exact ⟨rfl, LogEnd.behind h hb2 (fun b hy => .inl hy) hq2⟩

set_option maxRecDepth 100000 in
set_option maxHeartbeats 6400000 in
theorem put_any (h : LogAt w0 Y w g d W) (p : Option Addr) (m c : Nat) (l : List Nat) (hB : Bytes w p m c l) (h1 : 1 ≤ W.n) (hN : W.n ≤ 99999999) (hs : W.size ≤ 1000000000) (hk : W.wait ≤ 1000000000) (hm1 : -9223372036854775808 ≤ W.most) (hm2 : W.most ≤ 9223372036854775807)
  (hL : W.D.fs.length < 999999) (hR : W.D.room ≤ 100000000000) :
  Calls Tryz.prog 30 #[.pointer (some ⟨g, 0, none⟩), .slice p m c] w fun e w' => e = .returned (.int .i64 (putW W l).2) ∧ LogEnd w0 Y w g d (putW W l).1 w' := by
 have hlen := hB.len
 have hmax := hB.max
 by_cases hm0 : m = 0
 ·have e : putW W l = (W, 2) := by
   have : l = [] := List.length_eq_zero_iff.1 (by omega)
   unfold putW
   rw [if_pos this]
  rw [e]
  subst hm0
  have HE := Lib.hid h.refl
  clear h hB hlen e
  go_enter Tryz.func30, Tryz.ntmps30
  go_wp2
  go_ret
  exact ⟨rfl, HE.out⟩
 ·have hne : l ≠ [] := by rintro rfl; exact hm0 (by simpa using hlen.symm)
  have hz : ((m : Int) == 0) = false := by rw [beq_eq_false_iff_ne]; omega
  by_cases hbig : 1048576 < m
  ·have e : putW W l = (W, 4) := by
    unfold putW
    rw [if_neg hne, if_pos (.inl (by omega))]
   rw [e]
   have HE := Lib.hid h.refl
   have HM := Lib.hid (make_no p m c w hbig)
   clear h hB hlen e hne
   go_enter Tryz.func30, Tryz.ntmps30
   go_wp2_with fail
   refine HM.out.mono ?_
   rintro e w' ⟨rfl, rfl⟩
   go_wp2
   go_ret
   exact ⟨rfl, HE.out⟩
  ·have HM := Lib.hid (make_yes p m c l w hB (by omega))
   have H := Lib.hid h
   obtain ⟨g0, g1, g2, g3, g4⟩ := h.cell
   have Hne := Lib.hid hne
   have Hlen := Lib.hid hlen
   have G1 := Lib.hid g1
   have G4 := Lib.hid g4
   have HBy := Lib.hid hB.byte
   clear h hB hne hlen g0 g1 g2 g3 g4
   go_enter Tryz.func30, Tryz.ntmps30
   go_wp2_with fail
   refine HM.out.mono ?_
   rintro e w1 ⟨v, rfl, hown, hb⟩
   have hll : l.length ≤ 1048576 := by rw [Hlen.out]; omega
   obtain ⟨q, cb, rfl, hq⟩ := own_slice hown (frameL_byte HBy.out (by omega))
   have hqb : ∀ a, q = some a → w.heap.size ≤ a.block ∧ a.block < w1.heap.size := fun a ha => hown.lt a.block (by rw [ha]; rfl)
   rw [frameL_len] at hq
   rw [frameL_len]
   have HA := Lib.hid (H.out.all hb)
   have HE := Lib.hid (fun W2 w' (hq : LogEnd w0 (fun b => Y b ∨ (w.heap.size ≤ b ∧ b < w1.heap.size)) w1 g d W2 w') => LogEnd.behind H.out hb (fun b hy => Or.inl hy) hq)
   have HQ := Lib.hid hq
   have Hqb := Lib.hid hqb
   have HEn := Lib.hid (H.out.ended hb)
   have k1 := cell_below hb (Nat.le_refl _) G1.out
   have k4 := cell_below hb (Nat.le_refl _) G4.out
   clear hown hb hq hqb
   have hbq : ∀ q, Below w1.heap.size w1 (w1.drewN q) := fun q => below_drewN (Below.refl _ _) q
   have Hbq := Lib.hid hbq
   by_cases hmo : W.most < ((l.length + 8 : Nat) : Int)
   ·have He := Lib.hid (show putW W l = (W, 4) from by
     unfold putW
     rw [if_neg Hne.out, if_pos (.inr hmo)])
    have hmo2 : W.most < (l.length : Int) + 8 := by omega
    clear hbq hmo
    go_wp2
    go_ret
    rw [He.out]
    exact ⟨rfl, HEn.out⟩
   ·have hsub : IntKind.i64.wrap (W.most - ((l.length : Int) + 8)) = W.most - ((l.length : Int) + 8) := IntWalk.i64_in _ (by omega)
    have hmo2 : ¬ W.most < (l.length : Int) + 8 := by omega
    have hmo3 : ¬ (1048576 < l.length ∨ W.most < ((l.length + 8 : Nat) : Int)) := by omega
    have Hmo3 := Lib.hid hmo3
    have Hll := Lib.hid hll
    have HqY := Lib.hid (fun a (ha : q = some a) => (show (Y a.block ∨ (w.heap.size ≤ a.block ∧ a.block < w1.heap.size)) ∨ a.block < w0.heap.size from .inl (.inr (Hqb.out a ha))))
    by_cases hrot : W.most - ((l.length : Int) + 8) < (W.size : Int)
    ·have Hput := Lib.hid (show putW W l = if (rotW W).2 ≠ 0 then rotW W else appW (rotW W).1 l from by
      unfold putW
      rw [if_neg Hne.out, if_neg hmo3, if_pos (by omega)])
     have HG := Lib.hid (fun q => goOn_any (HA.out.below (hbq q)) h1 hN (by omega))
     obtain ⟨f1, f2, f3, f4, f5⟩ := rotW_facts W
     have HF := Lib.hid (And.intro f1 (And.intro f2 f3))
     have HF4 := Lib.hid f4
     generalize hr : rotW W = r at *
     have Hr := Lib.hid hr
     clear hbq hmo hmo3 f1 f2 f3 f4 f5 hll hr
     go_wp2_with fail
     go_quiet (fail)
     go_wp2_with fail
     refine (HG.out _).mono ?_
     rintro e w2 ⟨rfl, hq⟩
     have hq1 := LogEnd.behind HA.out (Hbq.out nq) (fun b hy => hy) hq
     have Hq1 := Lib.hid hq1
     clear hq hq1
     by_cases hc : r.2 = 0
     ·obtain ⟨e1, e2, e3, e4⟩ := HF4.out hc
      have HT := Lib.hid (put_tail Hq1.out.1 q cb l (HQ.out.off fun _ a ha _ => by
        have hb2 := Hqb.out a ha
        have hgl := H.out.lt
        exact Hq1.out.2.1 a.block (.inr hb2) (by omega)) HqY.out (by omega) (by omega) (by omega) (by omega) Hll.out (by rw [HF.out.2.1]; exact hR))
      rw [hc]
      go_wp2_with fail
      refine HT.out.mono ?_
      rintro e w3 ⟨k, caps, n, s, z, rfl, hT⟩
      have HT2 := Lib.hid hT
      clear hT HT
      unfold stepV
      go_wp2_with fail
      refine HT2.out.mono ?_
      rintro e w4 ⟨rfl, hq4⟩
      have Hq4 := Lib.hid (HE.out _ _ (Hq1.out.trans hq4))
      have Hc := Lib.hid hc
      clear hq4 hc
      go_wp2
      go_ret
      rw [Hput.out, if_neg (by rw [Hc.out]; simp)]
      exact ⟨rfl, Hq4.out⟩
     ·have hc1 : (r.2 == 0) = false := by simpa using hc
      have hc2 : (r.2 != 0) = true := by simpa using hc
      have Hc := Lib.hid hc
      have Hq4 := Lib.hid (HE.out _ _ Hq1.out)
      clear hc
      go_wp2
      go_ret
      rw [Hput.out, if_pos Hc.out]
      exact ⟨rfl, Hq4.out⟩
    ·have Hput := Lib.hid (show putW W l = appW W l from by
      unfold putW
      rw [if_neg Hne.out, if_neg hmo3, if_neg (by omega)])
     have HT := Lib.hid (fun z => put_tail (HA.out.below (hbq z)) q cb l (HQ.out.grow (hbq z)) HqY.out h1 hN hs hk Hll.out hR)
     clear hbq hmo hmo3 hll
     go_wp2_with fail
     go_quiet (fail)
     go_wp2_with fail
     refine (HT.out _).mono ?_
     rintro e w3 ⟨k, caps, n, s, z, rfl, hT⟩
     have HT2 := Lib.hid hT
     clear hT HT
     unfold stepV
     go_wp2_with fail
     refine HT2.out.mono ?_
     rintro e w4 ⟨rfl, hq4⟩
     have Hq4 := Lib.hid (HE.out _ _ (LogEnd.behind HA.out (Hbq.out nq) (fun b hy => hy) hq4))
     clear hq4
     go_wp2
     go_ret
     rw [Hput.out]
     exact ⟨rfl, Hq4.out⟩

end
end Go.Proofs.YtnbddiiedagllaaGreat

/- The loop of the statements that puts records into a log, and collects those that are taken. -/
namespace Go.Proofs.YtnbddiiedagllaaGreat
open Go.RowKit Go.Maps Go.Shelf

theorem takeP_len (most : Int) (ls : List (List Nat)) (j : Nat) : (takeP most (ls.take j)).length ≤ ls.length := by
 unfold takeP
 have h1 := List.length_filter_le (okR most) (ls.take j)
 rw [List.length_take] at h1
 omega

end Go.Proofs.YtnbddiiedagllaaGreat

