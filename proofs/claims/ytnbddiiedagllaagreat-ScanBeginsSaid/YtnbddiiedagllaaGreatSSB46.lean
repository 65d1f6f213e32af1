import Derived.Test.YtnbddiiedagllaaGreatSSB42
import Derived.Test.YtnbddiiedagllaaGreatSSB28
import Derived.Deep.RegionHeld
import Derived.Deep.RegionHeld3
import Derived.Deep.DrawnRows
import Derived.Test.YtnbddiiedagllaaGreatSSB26
import Derived.Test.YtnbddiiedagllaaGreatSSB17
import Derived.Maps.AppendAt
import Derived.Lib.AppendZeros
import Derived.Test.YtnbddiiedagllaaGreatSSB43
import Derived.Test.YtnbddiiedagllaaGreatSSB7
import Derived.Test.YtnbddiiedagllaaGreatSSB1
import Derived.OpenShut
/- The example of the chapter on scan. -/
namespace Go.Proofs.YtnbddiiedagllaaGreat
open Go.RowKit Go.Maps Go.Shelf

attribute [local go_sem ↓] Go.wp_at_zero Go.wp_at_succ

theorem create100 : (createM (nmB 1) (newM 100)).2 = 0 := by decide +kernel

set_option maxRecDepth 100000 in
set_option maxHeartbeats 3200000 in
theorem salive_any (w : World) : Calls Tryz.prog 14 #[] w fun e w' => e = .returned (.bool true) ∧ Below w.heap.size w w' := by
 have HN := Lib.hid (own_new 100 w (by decide))
 go_enter Tryz.func14, Tryz.ntmps14
 go_wp2_with fail
 refine HN.out.mono ?_
 rintro e w1 ⟨d, rfl, ho1, _⟩
 have HO := Lib.hid (sopen_empty ho1 rfl rfl create100 50)
 clear ho1
 go_wp2_with fail
 refine HO.out.mono ?_
 rintro e w2 ⟨g, rfl, hL, _⟩
 obtain ⟨g0, g1, g2, g3, g4⟩ := hL.cell
 have Hb := Lib.hid hL.own.base
 clear hL g3 g4
 have H1 := Lib.hid (segment_any g0)
 have H2 := Lib.hid (wsize_any g1)
 clear g0 g1 g2
 go_wp2_with (first
  | (go_at_call 25; refine H1.out.mono ?_; rintro e w' ⟨rfl, rfl⟩)
  | (go_at_call 26; refine H2.out.mono ?_; rintro e w' ⟨rfl, rfl⟩))
 go_ret
 exact ⟨rfl, Hb.out⟩
end Go.Proofs.YtnbddiiedagllaaGreat

/- The walk of a log's Sync. -/
namespace Go.Proofs.YtnbddiiedagllaaGreat
open Go.RowKit Go.Maps Go.Shelf

attribute [local go_sem ↓] Go.wp_at_zero Go.wp_at_succ

section
variable {w0 : World} {Y : Nat → Prop} {w : World} {g d : Nat} {W : WM}

set_option maxRecDepth 100000 in
theorem sync_tail (h : LogAt w0 Y w g d W) {w1 : World} {b1 b2 : Nat} (c1 : w1.cell? ⟨b1, 0, none⟩ = some (.pointer (some ⟨g, 0, none⟩))) (c2 : w1.cell? ⟨b2, 0, none⟩ = some (encStr (nmB W.n))) (k1 : w.heap.size ≤ b1) (k2 : w.heap.size ≤ b2) (hb : Below w.heap.size w w1) :
  Calls Tryz.prog 78 #[.pointer (some ⟨g, 0, none⟩), .slice (some ⟨w1.heap.size, 0, none⟩) 1 1] (w1.alloc (.cells #[.func (.func 125) #[] #[.pointer (some ⟨b1, 0, none⟩), .pointer (some ⟨b2, 0, none⟩)], .int .i64 (W.n : Int), .int .i64 (W.size : Int), .int .i64 0] 135))
   fun e w' => e = .returned (.int .i64 (syncW W).2) ∧ LogEnd w0 Y w g d (syncW W).1 w' := by
 obtain ⟨w2, hw2⟩ : ∃ w2, w2 = w1.alloc (.cells #[.func (.func 125) #[] #[.pointer (some ⟨b1, 0, none⟩), .pointer (some ⟨b2, 0, none⟩)], .int .i64 (W.n : Int), .int .i64 (W.size : Int), .int .i64 0] 135) := ⟨_, rfl⟩
 rw [← hw2]
 have hrow : w2.heap[w1.heap.size]? = some (.cells ([StepD.mk 125 #[.pointer (some ⟨b1, 0, none⟩), .pointer (some ⟨b2, 0, none⟩)] (W.n : Int) (W.size : Int) 0].flatMap fun x => x.cells.toList).toArray 135 (0, 0)) := by
  rw [hw2]
  exact heap_alloc_new _ _
 have hb12 : Below w1.heap.size w1 w2 := by rw [hw2]; exact (Below.refl _ _).alloc (Nat.le_refl _) _
 have hb2 : Below w.heap.size w w2 := hb.trans (hb12.mono hb.size)
 have hA := h.all hb2
 have d1 := cell_below hb12 (Nat.le_refl _) c1
 have d2 := cell_below hb12 (Nat.le_refl _) c2
 have l1 := World.block_lt_of_cell? _ _ d1
 have l2 := World.block_lt_of_cell? _ _ d2
 refine (take1_any hA w1.heap.size 1 _ (enters_of Tryz.func125 (by kernel_rfl) rfl) (syncM (nmB W.n) W.D) { W with D := (syncM (nmB W.n) W.D).1, wait := 0 } rfl rfl rfl rfl rfl hrow
  (fun Z w' hZ ho hkk => do_sync ho g W.n b1 b2 (by rw [World.cell?_of_block (hkk b1 (.inr ⟨k1, l1⟩))]; exact d1) (by rw [World.cell?_of_block (hkk b2 (.inr ⟨k2, l2⟩))]; exact d2)
   (by rw [World.cell?_of_block (hkk g (.inl h.inY))]; exact hA.cell.2.2.2.1))).mono ?_
 rintro e w' ⟨rfl, hq2⟩
 rw [syncW_eq]
 exact ⟨rfl, LogEnd.behind h hb2 (fun b hy => .inl hy) hq2⟩

set_option maxRecDepth 100000 in
set_option maxHeartbeats 6400000 in
theorem wsync_any (h : LogAt w0 Y w g d W) (h1 : 1 ≤ W.n) (hN : W.n ≤ 99999999) :
  Calls Tryz.prog 32 #[.pointer (some ⟨g, 0, none⟩)] w fun e w' => e = .returned (.int .i64 (syncW W).2) ∧ LogEnd w0 Y w g d (syncW W).1 w' := by
 have hbd : Below w.heap.size w w.drew := (Below.refl _ _).drew
 have hA := h.below hbd
 obtain ⟨g0, g1, g2, g3, g4⟩ := hA.cell
 have HS := Lib.hid (syncing_any g W.n (W.size : Int) (W.wait : Int) (W.n : Int) (W.size : Int) 0 _ h1 hN g0 g1 g2)
 unfold placeV at HS
 have HT := Lib.hid (fun w1 b1 b2 c1 c2 k1 k2 hb => sync_tail (W := W) hA (w1 := w1) (b1 := b1) (b2 := b2) c1 c2 k1 k2 hb)
 have HE := Lib.hid (fun W2 w' (hq : LogEnd w0 Y w.drew g d W2 w') => LogEnd.behind h hbd (fun b hy => hy) hq)
 have Hbd := Lib.hid hbd
 clear h hA hbd h1 hN g2 g3 g4
 go_enter Tryz.func32, Tryz.ntmps32
 go_wp2_with fail
 go_region_held3 (fun w' => w'.cell? ⟨g, 0, none⟩ = some (.int .i64 (W.n : Int)) ∧ w'.cell? ⟨g, 1, none⟩ = some (.int .i64 (W.size : Int)))
  (first | exact ⟨g0, g1⟩ | exact ⟨hq.1.cell.1, hq.1.cell.2.1⟩ | exact ⟨cell_below hb2 (Nat.le_refl _) g0, cell_below hb2 (Nat.le_refl _) g1⟩ | exact ⟨cell_below (hb2.alloc hb2.size _) (Nat.le_refl _) g0, cell_below (hb2.alloc hb2.size _) (Nat.le_refl _) g1⟩ | trivial)
  (first
   | (go_at_call 80; refine HS.out.mono ?_; rintro e w2 ⟨b1, b2, rfl, c1, c2, k1, k2, hb2⟩; unfold stepV)
   | (go_at_call 78; refine (HT.out _ _ _ c1 c2 k1 k2 hb2).mono ?_; rintro e w3 ⟨rfl, hq⟩))
 have Hq := Lib.hid (HE.out _ _ hq)
 clear hq
 go_wp2
 go_ret
 exact ⟨rfl, Hq.out⟩
end
end Go.Proofs.YtnbddiiedagllaaGreat

/- The walk of slices.Clone of byte slices: the bytes lie where they lay. -/
namespace Go.Proofs.YtnbddiiedagllaaGreat
open Go.RowKit

section
variable {P : Program}

theorem wpList_append_rowsZ {w1 w : World} {ops : Array Oper} {rest : List Oper} {o : Oper} {a : Act} {Q : Exit → Act → World → Prop} (hgd : o.guard = none) (s x : Operand) (t : TypeId)
  (ho : o.op = .call { callee := .builtin .append, args := #[s, x], argTypes := #[t, t] })
  (ht : P.underlying t = some (.slice 58)) (hinfo : (P.info? 58).map (fun i => (i.zero, i.size, i.bytes)) = some (some (.slice none 0 0), 1, 24))
  {base : Nat} {v : Value} {ls ms : List (List Nat)} (hs : a.eval s = v) (hown : PartsZ (fun b => b < w1.heap.size) w base v ls)
  {p : Option Addr} {m c : Nat} (hx : a.eval x = .slice p m c) (hP : Parts w1 p m c ms) (hb : Below w1.heap.size w1 w) (hbase : w1.heap.size ≤ base) (hbase2 : base ≤ w.heap.size) (hn : ls.length + m ≤ 1000000000)
  (h : ∀ v' w', PartsZ (fun b => b < w1.heap.size) w' base v' (ls ++ ms) → w.grownBy w' v.ownBlock → wpList P ops Q rest (a.put o.dst v') w') : wpList P ops Q (o :: rest) a w := by
 obtain ⟨i, hi, hz, hsz, hby⟩ := info_parts hinfo
 rcases Nat.eq_zero_or_pos m with rfl | hm
 ·have hm0 : ms = [] := List.length_eq_zero_iff.1 hP.len
  obtain ⟨q, k, rfl, hq⟩ := hown.own.parts
  have hr : (Builtin.append_ #[t, t] o.type #[.slice q ls.length k, .slice p 0 c]).run P w = .ok (.slice q ls.length k) w := by
   refine run_append_nothing w t t o.type 58 i ht hi q ls.length k hq.le (.slice p 0 c) ?_
   cases p with
   | none => exact Src.ofNil w ht c
   | some ad => exact Src.ofSlice w ht ad 0 c [] (by simp) (fun j u h => by simp at h) (fun u h => by simp at h)
  refine wpList_plain hgd fun K hK => ?_
  unfold Oper.wp execOp
  simp only [ho, resolve, invoke, builtin, Sem.run_bind, Sem.run_pure, Result.andThen_ok, List.map_toArray, List.map_cons, List.map_nil, hs, hx, hr]
  refine hK _ _ (h _ w ?_ ⟨rfl, rfl, rfl, Nat.le_refl _, fun _ _ _ => rfl⟩)
  rw [hm0, List.append_nil]
  exact hown
 ·obtain ⟨b, off, rfl, hblt, hc⟩ := hP.cell hm
  obtain ⟨vs, hlen, hrow, hel⟩ := hown
  have hadd : ∀ (x y j : Nat), (⟨x, y, none⟩ : Addr).add j = ⟨x, y + j, none⟩ := fun x y j => by unfold Addr.add; split <;> simp_all
  obtain ⟨us, hus⟩ : ∃ us : List Value, us = (List.range m).map fun i => (w1.cell? ⟨b, off + i, none⟩).getD undef := ⟨_, rfl⟩
  have hul : us.length = m := by rw [hus]; simp
  have hu : ∀ i, i < m → ∃ a' n' c', us[i]? = some (.slice a' n' c') ∧ w.cell? ⟨b, off + i, none⟩ = some (.slice a' n' c') ∧ Bytes w1 a' n' c' (ms.getD i []) := by
   intro i hi
   obtain ⟨a', n', c', h1, h2⟩ := hc i hi
   refine ⟨a', n', c', ?_, by rw [hb.cell (p := ⟨b, off + i, none⟩) hblt]; exact h1, h2⟩
   rw [hus, List.getElem?_map, List.getElem?_range hi]
   simp [h1]
  refine wpList_append_own_at w hgd s x t ho base 58 i (.slice none 0 0) 1 24 ht hi hz hsz hby rfl (by decide) v ls.length vs hs hrow ⟨b, off, none⟩ m c us hx (by rw [hul]; omega) ?_ ?_ (by rw [maxLen_nat]; omega) (by omega) hbase2 ?_
  ·intro j u hj
   have hjm : j < m := by rw [← hul]; exact (List.getElem?_eq_some_iff.1 hj).1
   obtain ⟨a', n', c', h1, h2, _⟩ := hu j hjm
   rw [hadd, h2, ← h1, hj]
  ·intro u huu
   obtain ⟨j, hj, rfl⟩ := List.getElem_of_mem huu
   obtain ⟨a', n', c', h1, _, _⟩ := hu j (by rw [← hul]; exact hj)
   rw [List.getElem?_eq_getElem hj] at h1
   rw [Option.some.inj h1]
   rfl
  ·intro v' w' g1 g2 _ g4
   refine h v' w' (PartsZ.app hlen hel (by rw [hul]; exact hP.len.symm) (fun i hi => ?_) (by rw [hP.len]; exact g1) g2 g4) g2
   obtain ⟨a', n', c', h1, _, h3⟩ := hu i (by rw [← hP.len]; exact hi)
   refine ⟨a', n', c', h1, h3.grow hb, fun hn' y hy => ?_⟩
   obtain ⟨b', o', e2, hc'⟩ := h3.cell hn'
   have h5 := World.block_lt_of_cell? _ _ (hc' 0 hn')
   rw [hy] at e2
   cases e2
   simp only at h5
   refine ⟨fun e => ?_, h5⟩
   have h4 := (hrow.lt _ e.symm).1
   simp only at h4
   omega
end

theorem box_cell1 (w : World) (v : Value) (t : TypeId) : (w.alloc (.cells #[v] t)).cell? ⟨w.heap.size, 0, none⟩ = some v := by
 rw [cell_of_row _ _ _ _ _ (0, 0) (heap_alloc_new _ _)]
 rfl

theorem step_append_parts {ops : Array Oper} {o : Oper} {a : Act} {w : World} {K : Act → World → Prop} {Q : Exit → Act → World → Prop} {E : Prop} (hw : Region.wanted o (yielded ops a.tmps) = true) (s x : Operand)
  (ho : o.op = .call { callee := .builtin .append, args := #[s, x], argTypes := #[29, 29] })
  {Z : Nat → Prop} {base : Nat} {v : Value} {ls : List (List Nat)} (hs : a.eval s = v) (hP : PartsZ Z w base v ls)
  {bx ox : Nat} {p : Option Addr} {m c : Nat} {l : List Nat} (hx : a.eval x = .slice (some ⟨bx, ox, none⟩) 1 1) (hcell : w.cell? ⟨bx, ox, none⟩ = some (.slice p m c)) (hB : Bytes w p m c l) (hpb : 0 < m → ∀ x0, p = some x0 → x0.block < base ∧ Z x0.block)
  (hbase : base ≤ w.heap.size) (hn : ls.length ≤ 1000) (h : ∀ q k w', Parts w' q (ls ++ [l]).length k (ls ++ [l]) → Below base w w' → K (a.put o.dst (.slice q (ls ++ [l]).length k)) w') :
  if Region.wanted o (yielded ops a.tmps) = true then Oper.wp Tryz.prog o a w K Q else E := by
 rw [if_pos hw]
 obtain ⟨i, hi, hz, hsz, hby⟩ := info_parts info_rows
 obtain ⟨vs, hlen, hown, hel⟩ := hP
 have hadd : ∀ (x y j : Nat), (⟨x, y, none⟩ : Addr).add j = ⟨x, y + j, none⟩ := fun x y j => by unfold Addr.add; split <;> simp_all
 obtain ⟨v', w', hr, h2, h3, _, h5⟩ := run_append_own_at (P := Tryz.prog) w base 29 o.type 58 i (.slice none 0 0) 1 24 Tryz.underlying29 hi hz hsz hby rfl (by decide) v ls.length vs hown ⟨bx, ox, none⟩ 1 1 [.slice p m c] rfl (fun j u hj => by
  have hj0 : j = 0 := by
   have := (List.getElem?_eq_some_iff.1 hj).1
   simp at this
   exact this
  subst hj0
  rw [hadd, Nat.add_zero, hcell, ← hj]
  rfl) (by simp [Value.oneCell']) (by rw [maxLen_nat]; omega) (by omega) hbase
 have hp : PartsZ Z w' base v' (ls ++ [l]) := PartsZ.snoc hlen hel hB (fun h0 x0 e => by
  obtain ⟨k1, k2⟩ := hpb h0 x0 e
  refine ⟨fun e2 => ?_, k2⟩
  have := (hown.lt _ e2.symm).1
  omega) h2 h3 h5
 obtain ⟨q, k, rfl, hq⟩ := hp.own.parts
 have key := h q k w' hq ((Below.refl base w).grown h3 hbase (fun k hk => (hown.lt k hk).1))
 unfold Oper.wp execOp
 simp only [ho, resolve, invoke, builtin, Sem.run_bind, Sem.run_pure, Result.andThen_ok, List.map_toArray, List.map_cons, List.map_nil, hs, hx, hr]
 exact key

set_option maxRecDepth 100000 in
theorem cloneRows_any {w1 : World} (a : Option Addr) (n cap : Nat) (ls : List (List Nat)) (w : World) (hl : Parts w1 a n cap ls) (hb : Below w1.heap.size w1 w) (hn : n ≤ 1000000) :
  Calls Tryz.prog 34 #[.slice a n cap] w fun e w' => ∃ v, e = .returned v ∧ PartsZ (fun b => b < w1.heap.size) w' w.heap.size v ls ∧ Below w.heap.size w w' := by
 have hq := fun (w : World) (a : Option Addr) (n c : Nat) => Lib.run_eql_slice_nil (P := Tryz.prog) w 29 58 a n c 0 0 Tryz.underlying29
 cases a with
 | none =>
  have h0 : n = 0 := by
   rcases Nat.eq_zero_or_pos n with h | h
   ·exact h
   ·obtain ⟨b, o, e, _⟩ := hl.cell h
    cases e
  subst h0
  have h1 : ls = [] := List.length_eq_zero_iff.1 hl.len
  subst h1
  clear hl
  go_enter Tryz.func34, Tryz.ntmps34
  go_wp2
  go_ret
  exact ⟨_, rfl, PartsZ.nil _ _ _, Below.refl _ _⟩
 | some ad =>
  have hown : PartsZ (fun b => b < w1.heap.size) (w.alloc (.cells #[] 58)) w.heap.size (.slice (some ⟨w.heap.size, 0, none⟩) 0 0) [] :=
   ⟨[], rfl, World.ownsRow_made w #[] 0 (Nat.le_refl _) (Nat.zero_le _) rfl, fun _ h => absurd h (Nat.not_lt_zero _)⟩
  have hbel : Below w.heap.size w (w.alloc (.cells #[] 58)) := (Below.refl _ _).alloc (Nat.le_refl _) _
  have Hl := Lib.hid hl
  have Hown := Lib.hid hown
  have Hbel := Lib.hid hbel
  have Hb := Lib.hid hb
  clear hl hown hbel hb
  go_enter Tryz.func34, Tryz.ntmps34
  go_wp2_with (at_builtin; refine wpList_append_rowsZ rfl _ _ 29 rfl Tryz.underlying29 info_rows rfl Hown.out rfl Hl.out (Hb.out.trans (Hbel.out.mono Hb.out.size)) Hb.out.size Hbel.out.size (by simp; omega) ?_; intro v' w2 g1 g2)
  go_ret
  exact ⟨_, rfl, g1, Hbel.out.grown g2 Hbel.out.size (fun k hk => by
   have := Hown.out.lt k hk
   exact this.1)⟩
end Go.Proofs.YtnbddiiedagllaaGreat

/- The walks of the reference's Same, of bytes and of lists of bytes: true where they are the same. -/
namespace Go.Proofs.YtnbddiiedagllaaGreat
open Go.RowKit Crc

set_option maxRecDepth 100000 in
theorem rsame_yes (a a' : Option Addr) (n cap n' cap' : Nat) (l : List Nat) (w : World) (hl : Bytes w a n cap l) (hl' : Bytes w a' n' cap' l) :
  Calls Tryz.prog 62 #[.slice a n cap, .slice a' n' cap'] w fun e w' => e = .returned (.bool true) ∧ w' = w := by
 have h1 := convert_bytes (P := Tryz.prog) hl 58 5 9 Tryz.underlying58 Tryz.underlying5 Tryz.underlying9
 have h2 := convert_bytes (P := Tryz.prog) hl' 58 5 9 Tryz.underlying58 Tryz.underlying5 Tryz.underlying9
 have he := str_eq l
 clear hl hl'
 generalize str l = s at *
 go_enter Tryz.func62, Tryz.ntmps62
 go_wp2
 go_ret
 exact ⟨rfl, rfl⟩

set_option maxHeartbeats 800000 in
set_option maxRecDepth 100000 in
theorem same_yes (a a' : Option Addr) (n cap cap' : Nat) (ls : List (List Nat)) (w : World) (hl : Parts w a n cap ls) (hl' : Parts w a' n cap' ls) :
  Calls Tryz.prog 17 #[.slice a n cap, .slice a' n cap'] w fun e w' => e = .returned (.bool true) ∧ ∃ q, w' = w.drewN q := by
 have hnb := hl.max
 have hP := Lib.hid hl
 have hP' := Lib.hid hl'
 clear hl hl'
 go_enter Tryz.func17, Tryz.ntmps17
 go_wp2
 go_loopw [5] (fun i wr => ∃ k q : Nat, k ≤ n ∧ i = .int .i64 k ∧ wr = w.drewN q) (fun i _ => n - (intOf i).toNat)
 case atStart => exact ⟨0, 0, Nat.zero_le _, rfl, rfl⟩
 case round =>
  obtain ⟨k, q, hk, rfl, rfl⟩ := hrel
  by_cases hlt : k < n
  ·obtain ⟨b, o, a1, n1, c1, rfl, hc, hB⟩ := bytes_get_all hP.out hlt
   obtain ⟨b', o', a2, n2, c2, rfl, hc', hB'⟩ := bytes_get_all hP'.out hlt
   have hc := fun q => (show (w.drewN q).cell? ⟨b, o + k, none⟩ = _ from hc)
   have hc' := fun q => (show (w.drewN q).cell? ⟨b', o' + k, none⟩ = _ from hc')
   have hc := hc q
   have hc' := hc' q
   have hB := hB.grow (below_drewN (Below.refl w.heap.size w) q)
   have hB' := hB'.grow (below_drewN (Below.refl w.heap.size w) q)
   have hq : ∀ m, (w.drewN q).drewN m = w.drewN (q + m) := fun m => by simp [World.drewN, Nat.add_assoc]
   generalize w.drewN q = wr at *
   have HS := Lib.hid (fun m => (rsame_yes a1 a2 n1 c1 n2 c2 (ls.getD k []) (wr.drewN m) (hB.grow (below_drewN (Below.refl _ _) m)) (hB'.grow (below_drewN (Below.refl _ _) m))).mono (R' := fun e w' => e = .returned (.bool true) ∧ ∃ k, w' = (wr.drewN m).drewN k) (by rintro e w' ⟨h1, rfl⟩; exact ⟨h1, 0, rfl⟩))
   have Hq := Lib.hid hq
   clear hB hB' hq
   go_wp2_with fail
   go_quiet (first | (go_at_call 62; exact Calls.quiet_of (HS.out _)))
   rw [Hq.out]
   go_wp2
   go_roundw
   case rel => exact ⟨k + 1, _, by omega, by go_num, rfl⟩
   case measure => simp [intOf]; omega
  ·obtain rfl : k = n := by omega
   go_wp2
   go_ret
   exact ⟨rfl, q, rfl⟩
end Go.Proofs.YtnbddiiedagllaaGreat

/- Two numbers of 8 bits that came in as an array. -/
namespace Go.Proofs.YtnbddiiedagllaaGreat
open Go.ChangeShapes Go.WideShapes Go.ChangeAt Go.RowKit Go.Deep

section
variable {H : Type} {enc : TypeId × Value → H} {W : World}

theorem cells_y1 : Tryz.prog.cellsOf 5 = 1 := by kernel_rfl
theorem cells_yy2 : Tryz.prog.cellsOf 55 = 2 := by kernel_rfl

set_option maxRecDepth 100000 in
theorem open_pairb {v : Value} {d : DataW H} {p : List MemPlace} {base : Nat} (hv : Value.okWide Tryz.prog W .any base 55 v) (h : DataW.Trod enc Tryz.prog W 0 (fun _ => true) true 55 v d p) :
  ∃ a b : Int, v = .agg #[.int .u8 a, .int .u8 b] ∧ (Lit.int .u8 a).wf = true ∧ (Lit.int .u8 b).wf = true := by
 have hv' : ∃ cs, v = .agg cs ∧ cs.size = 2 := by
  simp only [Value.okWide, Tryz.underlying55] at hv
  obtain ⟨cs, h1, h2, _⟩ := hv
  rw [cells_yy2] at h2
  exact ⟨cs, h1, h2⟩
 obtain ⟨cs, rfl, hsz⟩ := hv'
 obtain ⟨fuel, hf⟩ := h
 obtain ⟨xs, m, rfl, _, _, hxl, hfs⟩ := DataW.trod_array Tryz.underlying55 hf
 match xs, hxl with
 | [y0, y1], _ =>
  have g0 := hfs 0 (by omega)
  have g1 := hfs 1 (by omega)
  rw [cells_y1] at g0 g1
  simp only [List.getElem?_cons_zero, List.getElem?_cons_succ] at g0 g1
  obtain ⟨a, e0, _, ha⟩ := DataW.trod_int Tryz.underlying5 g0
  obtain ⟨b, e1, _, hb⟩ := DataW.trod_int Tryz.underlying5 g1
  refine ⟨a, b, ?_, ha, hb⟩
  congr 1
  obtain ⟨l⟩ := cs
  simp at hsz
  match l, hsz with
  | [u0, u1], _ =>
   simp [Value.cells] at e0 e1
   rw [e0, e1]
end
end Go.Proofs.YtnbddiiedagllaaGreat

