import Derived.Test.YtnbddiiedagllaaGreatSSB40
import Derived.Test.YtnbddiiedagllaaGreatSSB38
import Derived.Test.YtnbddiiedagllaaGreatSSB36
/- The walk of the reference's Open where there is a log. -/
namespace Go.Proofs.YtnbddiiedagllaaGreat
open Go.RowKit Go.Maps Go.Shelf

attribute [local go_sem ↓] Go.wp_at_zero Go.wp_at_succ

def RFindOk (X : Nat → Prop) (ps : List PS) (first : Int) (N size torn : Nat) (recs : List (List Nat)) (W : World) (e : Ending) (w' : World) : Prop :=
 ∃ aa ac va vc, e = .returned (logRV aa ps.length ac first (N : Int) va recs.length vc (size : Int) (torn : Int) 0) ∧ Ints w' aa ps.length ac (ps.map PS.n) ∧ PartsZ (fun b => X b ∨ W.heap.size ≤ b) w' W.heap.size (.slice va recs.length vc) recs ∧ Below W.heap.size W w'

theorem mem_le_sum2 : ∀ (l : List Nat) (x : Nat), x ∈ l → x ≤ l.sum
 | [], _, h => by cases h
 | y :: l, x, h => by
  rw [List.sum_cons]
  rcases List.mem_cons.1 h with rfl | h
  ·omega
  ·have := mem_le_sum2 l x h
   omega

theorem rops_new {G : Nat} {w : World} (hG : G ≤ w.heap.size) (rs : List OQ) (hrs : ∀ q ∈ rs, SOok G w q) (cs : Array Value) (hcs : cs.toList = flatO rs) (hm : rs.length ≤ 1000) :
  ROps G (w.alloc (.cells cs 101)) (.slice (some ⟨w.heap.size, 0, none⟩) rs.length rs.length) (rs.map Prod.fst) := by
 have hb := (Below.refl w.heap.size w).alloc (Nat.le_refl _) (.cells cs 101)
 refine ⟨rs, rfl, ?_, fun q hq => (hrs q hq).grow (hb.mono hG)⟩
 rw [List.length_map]
 refine ⟨flatO_len rs, .inr ⟨w.heap.size, rs.length, cs, rfl, hG, heap_alloc_new _ _, Nat.le_refl _, by rw [maxLen_nat]; omega, ?_, ?_⟩⟩
 ·rw [← Array.length_toList, hcs, flatO_len]
 ·rw [hcs]
  exact List.take_of_length_le (by rw [flatO_len]; exact Nat.le_refl _)

theorem wp_append_rops {o : Oper} {a : Act} {w : World} {K : Act → World → Prop} {Q : Exit → Act → World → Prop} (s x : Operand)
  (ho : o.op = .call { callee := .builtin .append, args := #[s, x], argTypes := #[102, 102] })
  (G : Nat) (v : Value) (l : List SO) (hs : a.eval s = v) (hv : ROps G w v l) (u : Value) (m : List SO) (hx : a.eval x = u) (hu : ROps G w u m) (hlm : l.length + m.length ≤ 1000000) (hG : G ≤ w.heap.size)
  (h : ∀ v' w', ROps G w' v' (l ++ m) → Below G w w' → K (a.put o.dst v') w') : Oper.wp Tryz.prog o a w K Q := by
 obtain ⟨i, hi, hz, hsz, hby⟩ := info_parts info_op
 obtain ⟨qs, h1, h2, h3⟩ := hv
 obtain ⟨rs, k1, k2, k3⟩ := hu
 have hrl : rs.length = m.length := by rw [← k1, List.length_map]
 rcases k2.2 with ⟨rfl, h0⟩ | ⟨g, cap, cur, rfl, hb, hg, hle, hcm, hsz2, htk⟩
 ·have hm0 : m = [] := List.length_eq_zero_iff.1 h0
  subst hm0
  have hrun := run_append_owned_none (P := Tryz.prog) (w := w) G 102 o.type 101 i 4 Tryz.underlying102 hi v l.length (flatO qs) h2
  unfold Oper.wp
  have hh := h v w (by rw [List.append_nil]; exact ⟨qs, h1, h2, h3⟩) (Below.refl _ _)
  simp [execOp, ho, resolve, invoke, builtin, hs, hx, hrun, Result.andThen]
  rw [Oper.upon_value]
  simpa using hh
 ·have hlt := own_ge5 h2
  refine wp_append_own w s x 102 ho G 101 i _ 4 64 Tryz.underlying102 hi hz hsz hby rfl (by decide) v l.length (flatO qs) hs h2 ⟨g, 0, none⟩ m.length cap (flatO rs) hx (by rw [flatO_len, hrl]) (fun j z hj => ?_) (flatO_one rs) (by rw [maxLen_nat]; omega) (by omega) hG (fun v' w' g1 g2 _ => ?_)
  ·rw [addr_add, Nat.zero_add, cell_of_row w g j cur _ (0, 0) hg, ← Array.getElem?_toList]
   rw [← htk, List.getElem?_take] at hj
   split at hj
   ·exact hj
   ·cases hj
  ·have hbg : Below G w w' := (Below.refl _ _).grown g2 hG (fun k e => hlt k e)
   exact h v' w' (ROps.app h1 h3 k1 k3 g1 hbg) hbg

theorem step_append_rops {ops : Array Oper} {o : Oper} {a : Act} {w : World} {K : Act → World → Prop} {Q : Exit → Act → World → Prop} {E : Prop} (hgd : o.guard = none) (s x : Operand)
  (ho : o.op = .call { callee := .builtin .append, args := #[s, x], argTypes := #[102, 102] })
  (G : Nat) (v : Value) (l : List SO) (hs : a.eval s = v) (hv : ROps G w v l) (u : Value) (m : List SO) (hx : a.eval x = u) (hu : ROps G w u m) (hlm : l.length + m.length ≤ 1000000) (hG : G ≤ w.heap.size)
  (h : ∀ v' w', ROps G w' v' (l ++ m) → Below G w w' → K (a.put o.dst v') w') : if Region.wanted o (yielded ops a.tmps) = true then Oper.wp Tryz.prog o a w K Q else E := by
 rw [if_pos (by simp [Region.wanted, hgd])]
 exact wp_append_rops s x ho G v l hs hv u m hx hu hlm hG h

theorem wpList_append_rops {ops : Array Oper} {rest : List Oper} {o : Oper} {a : Act} {w : World} {Q : Exit → Act → World → Prop} (hgd : o.guard = none) (s x : Operand)
  (ho : o.op = .call { callee := .builtin .append, args := #[s, x], argTypes := #[102, 102] })
  (G : Nat) (v : Value) (l : List SO) (hs : a.eval s = v) (hv : ROps G w v l) (u : Value) (m : List SO) (hx : a.eval x = u) (hu : ROps G w u m) (hlm : l.length + m.length ≤ 1000000) (hG : G ≤ w.heap.size)
  (h : ∀ v' w', ROps G w' v' (l ++ m) → Below G w w' → wpList Tryz.prog ops Q rest (a.put o.dst v') w') : wpList Tryz.prog ops Q (o :: rest) a w := by
 refine wpList_plain hgd fun K hK => ?_
 exact wp_append_rops s x ho G v l hs hv u m hx hu hlm hG (fun v' w' h1 h2 => hK _ _ (h v' w' h1 h2))

def Off (B N : Nat) (w0 w : World) : Prop := ∀ b, b ≠ B → b < N → w.heap[b]? = w0.heap[b]?
theorem Off.refl (B N : Nat) (w : World) : Off B N w w := fun _ _ _ => rfl
theorem Off.drew {B N : Nat} {w0 w : World} (h : Off B N w0 w) : Off B N w0 w.drew := h
theorem Off.setCell {B N i : Nat} {w0 w : World} {v : Value} (h : Off B N w0 w) : Off B N w0 (w.setCell ⟨B, i, none⟩ v) := fun b hb hn => by
 rw [Below.heap_setCell _ _ _ _ hb]
 exact h b hb hn

theorem kept_any2 {Z : Nat → Prop} {w W : World} {B : Nat} {a : Option Addr} {n c : Nat} {ls : List (List Nat)} (h : PartsZ Z w B (.slice a n c) ls) (key : ∀ b, (B ≤ b ∨ Z b) → b < w.heap.size → W.heap[b]? = w.heap[b]?) : Parts W a n c ls := by
 obtain ⟨vs, h1, h2, h3⟩ := h
 have hO : OwnParts W B (.slice a n c) ls := ⟨vs, h1, own_same5 h2 (fun k e => key k (.inl (own_ge5 h2 k e)) (own_lt5 h2 k e)), fun i hi => by
  obtain ⟨a', n', c', g1, g2, g3⟩ := h3 i hi
  exact ⟨a', n', c', g1, g2.moved (fun h0 x hx => key _ (.inr (g3 h0 x hx).2) (bytes_lt g2 h0 x hx)), fun h0 x hx => (g3 h0 x hx).1⟩⟩
 obtain ⟨a6, c6, e6, hp⟩ := hO.parts
 injection e6 with e7 e8 e9
 rw [e7, e8, e9]
 exact hp

theorem row8_other (w : World) {B b : Nat} (h : b ≠ B) (v0 v1 v2 v3 v4 v5 v6 v7 : Value) : ((((((((w.setCell ⟨B, 0, none⟩ v0).setCell ⟨B, 1, none⟩ v1).setCell ⟨B, 2, none⟩ v2).setCell ⟨B, 3, none⟩ v3).setCell ⟨B, 4, none⟩ v4).setCell ⟨B, 5, none⟩ v5).setCell ⟨B, 6, none⟩ v6).setCell ⟨B, 7, none⟩ v7).heap[b]? = w.heap[b]? := by
 repeat rw [Below.heap_setCell _ _ _ _ h]

def DCut (X : Nat → Prop) (w w4 : World) (rr : DM × Int) (t : Value) (wx : World) : Prop :=
 ∃ a n c R, t = .int .i64 rr.2 ∧ wx.heap[w.heap.size]? = some (.cells #[.int .i64 (rr.1.room : Int), .slice a n c, .int .i64 (rr.1.plan : Int), .bool rr.1.down] 25 (0, 0)) ∧ RowF (fun b => (X b ∨ w4.heap.size ≤ b) ∧ b < wx.heap.size) wx a n c R ∧ R.map FR.f = rr.1.fs ∧
  (∀ b, b ≠ w.heap.size → b < w4.heap.size → wx.heap[b]? = w4.heap[b]?) ∧ Below w.heap.size w wx ∧ w4.heap.size ≤ wx.heap.size

theorem dcut {X : Nat → Prop} {w w4 w7 : World} {rr : DM × Int} {v0 v1 v2 v3 : Value} {a : Option Addr} {n c N : Nat} {R : List FR} (h04 : Below w.heap.size w w4) (hlt : w.heap.size < w4.heap.size) (hX : ∀ b, X b → b < w.heap.size) (hb : Below w4.heap.size w4 w7) (hq : w7.heap[w.heap.size]? = some (.cells #[v0, v1, v2, v3] 25 (0, 0))) (hN : w4.heap.size ≤ N) (hR : RowF (fun b => (X b ∨ N ≤ b) ∧ b < w7.heap.size) w7 a n c R) (hf : R.map FR.f = rr.1.fs) :
  DCut X w w4 rr (.int .i64 rr.2) ((((w7.setCell ⟨w.heap.size, 0, none⟩ (.int .i64 (rr.1.room : Int))).setCell ⟨w.heap.size, 1, none⟩ (.slice a n c)).setCell ⟨w.heap.size, 2, none⟩ (.int .i64 (rr.1.plan : Int))).setCell ⟨w.heap.size, 3, none⟩ (.bool rr.1.down)) := by
 have hsz : ((((w7.setCell ⟨w.heap.size, 0, none⟩ (.int .i64 (rr.1.room : Int))).setCell ⟨w.heap.size, 1, none⟩ (.slice a n c)).setCell ⟨w.heap.size, 2, none⟩ (.int .i64 (rr.1.plan : Int))).setCell ⟨w.heap.size, 3, none⟩ (.bool rr.1.down)).heap.size = w7.heap.size := by simp only [World.size_setCell]
 have ho : ∀ b, b ≠ w.heap.size → ((((w7.setCell ⟨w.heap.size, 0, none⟩ (.int .i64 (rr.1.room : Int))).setCell ⟨w.heap.size, 1, none⟩ (.slice a n c)).setCell ⟨w.heap.size, 2, none⟩ (.int .i64 (rr.1.plan : Int))).setCell ⟨w.heap.size, 3, none⟩ (.bool rr.1.down)).heap[b]? = w7.heap[b]? := fun b hb => by
  repeat rw [Below.heap_setCell _ _ _ _ hb]
 have h07 := h04.trans (hb.mono h04.size)
 refine ⟨a, n, c, R, rfl, boxD_set hq _ _ _ _, hR.mono (fun b h => ho b ?_) (fun b h => ⟨h.1.imp id (fun h1 => Nat.le_trans hN h1), by rw [hsz]; exact h.2⟩), hf, fun b hne hlt => (ho b hne).trans (hb.block b hlt), ?_, by rw [hsz]; exact hb.size⟩
 ·rcases h.1 with h1 | h1
  ·have := hX b h1; omega
  ·omega
 ·exact (((h07.setCell (Nat.le_refl _) _).setCell (Nat.le_refl _) _).setCell (Nat.le_refl _) _).setCell (Nat.le_refl _) _

theorem older_take {M : DM} {ps : List PS} (hA : AllOf M ps) {k : Nat} (hk : k < ps.length) : (ps.map PS.n).filter (fun x => decide (x < ps[k].n)) = (ps.take k).map PS.n := by
 have h1 : ((ps.take k).map PS.n).filter (fun x => decide (x < ps[k].n)) = (ps.take k).map PS.n := by
  rw [List.filter_eq_self]
  intro x hx
  obtain ⟨q, hq, rfl⟩ := List.mem_map.1 hx
  obtain ⟨i, hi, rfl⟩ := List.getElem_of_mem hq
  rw [List.length_take] at hi
  rw [List.getElem_take]
  exact decide_eq_true (allOf_lt hA (by omega) hk)
 have h2 : ((ps.drop k).map PS.n).filter (fun x => decide (x < ps[k].n)) = [] := by
  rw [List.filter_eq_nil_iff]
  intro x hx
  obtain ⟨q, hq, rfl⟩ := List.mem_map.1 hx
  obtain ⟨i, hi, rfl⟩ := List.getElem_of_mem hq
  rw [List.length_drop] at hi
  rw [List.getElem_drop]
  intro h
  have := (allOf_lt_iff hA (show k + i < ps.length by omega) hk).1 (of_decide_eq_true h)
  omega
 generalize ps[k].n = z at h1 h2 ⊢
 have e : ps.map PS.n = (ps.take k).map PS.n ++ (ps.drop k).map PS.n := by rw [← List.map_append, List.take_append_drop]
 rw [e, List.filter_append, h1, h2, List.append_nil]

theorem older_clean {M : DM} {ps : List PS} (hA : AllOf M ps) {k : Nat} (hk : k < ps.length) : cleanM (olderL (ps.map PS.n) ps[k].n) M = ((ps.take k).map PS.n).map fun n => ⟨5, nmB n.toNat, [], []⟩ := by
 unfold olderL
 rw [older_take hA hk]
 unfold cleanM
 rw [List.filter_eq_self.2 ?_, List.map_map]
 ·rfl
 ·intro x hx
  obtain ⟨z, hz, rfl⟩ := List.mem_map.1 hx
  obtain ⟨q, hq, rfl⟩ := List.mem_map.1 hz
  obtain ⟨l, hl, h0, e⟩ := (hA.1.2 q.n).1 (List.mem_map.2 ⟨q, List.mem_of_mem_take hq, rfl⟩)
  obtain ⟨f, hf, rfl⟩ := List.mem_map.1 hl
  refine decide_eq_true (List.mem_map.2 ⟨f, hf, ?_⟩)
  rw [e, Int.toNat_natCast, nmB_of_num h0]

theorem asc_sub2 : ∀ (xs ys : List Int), xs.Pairwise (· < ·) → (∀ x ∈ xs, x ∈ ys) → xs.length ≤ ys.length
 | [], _, _, _ => Nat.zero_le _
 | x :: xs, ys, hp, hs => by
  obtain ⟨h1, h2⟩ := List.pairwise_cons.1 hp
  have hx := hs x (List.mem_cons_self ..)
  have ih := asc_sub2 xs (ys.erase x) h2 (fun y hy => by
   have hne : y ≠ x := fun e => by have := h1 y hy; omega
   exact (List.mem_erase_of_ne hne).2 (hs y (List.mem_cons_of_mem _ hy)))
  rw [List.length_erase_of_mem hx] at ih
  have : 0 < ys.length := List.length_pos_of_mem hx
  rw [List.length_cons]
  omega

theorem segs_many' {M : DM} {ps : List PS} (hA : AllOf M ps) : ps.length ≤ M.fs.length := by
 have h1 := asc_sub2 (ps.map PS.n) (M.fs.map fun f => ((segNum (nmL f.n) : Nat) : Int)) hA.1.1 (fun x hx => by
  obtain ⟨l, hl, _, rfl⟩ := (hA.1.2 x).1 hx
  obtain ⟨f, hf, rfl⟩ := List.mem_map.1 hl
  exact List.mem_map.2 ⟨f, hf, rfl⟩)
 rw [List.length_map, List.length_map] at h1
 exact h1

theorem roend_drew {X : Nat → Prop} {w W : World} {most : Int} {r : OR} {e : Ending} (h : ROEnd X w most r e W) : ROEnd X w most r e W.drew := by
 obtain ⟨a, n, c, R, h1, h2, h3, h4⟩ := h
 refine ⟨a, n, c, R, h1.mono (fun _ _ => rfl) (fun _ h => h), h2, h3.drew, ?_⟩
 rcases h4 with h | ⟨hz, va, vc, he, hp⟩
 ·exact .inl h
 ·exact .inr ⟨hz, va, vc, he, hp⟩

set_option maxRecDepth 100000 in
set_option maxHeartbeats 12800000 in
theorem ropen_good {X : Nat → Prop} {w : World} {M : DM} {a : Option Addr} {n c : Nat} {R : List FR} (hR : RowF X w a n c R) (hX : ∀ b, X b → b < w.heap.size) (hfs : R.map FR.f = M.fs) (hn : n ≤ 1000000) {U : Nat} (hnt : Neat M 900 U) (hU : U ≤ 9000) (hd : M.down = false) (most : Int)
  (ps : List PS) (hA : AllOf M ps) (k : Nat) (hp : 0 < ps.length) (hk : k < ps.length) (N : Nat) (hN : (lastP ps hp).n = (N : Int)) (recs : List (List Nat))
  (hF : ∀ W, Below w.heap.size w W → Calls Tryz.prog 16 #[refV (M.room : Int) a n c (M.plan : Int) M.down] W (RFindOk X ps ps[k].n N (joinL (lastP ps hp).ls).length (lastP ps hp).t.length recs W)) :
  Calls Tryz.prog 22 #[refV (M.room : Int) a n c (M.plan : Int) M.down, .int .i64 most] w (ROEnd X w most ⟨(stepsM (repOps M ((ps.take k).map PS.n) N (joinL (lastP ps hp).ls) (lastP ps hp).t.length) M).2, (stepsM (repOps M ((ps.take k).map PS.n) N (joinL (lastP ps hp).ls) (lastP ps hp).t.length) M).1, N, (joinL (lastP ps hp).ls).length, recs⟩) := by
 obtain ⟨hb1, hz1, hB0, hB1⟩ := startO_facts w (M.room : Int) a n c (M.plan : Int) M.down
 unfold startO at hb1 hz1 hB0 hB1
 have hRW := fun W (h : Below w.heap.size w W) => hR.below hX h
 have hXW := fun W (h : Below w.heap.size w W) b (hb : X b) => Nat.lt_of_lt_of_le (hX b hb) h.size
 have HCl := Lib.hid (fun W (h : Below w.heap.size w W) p m k nms hN => rclean_any (hRW W h) (hXW W h) hfs p m k nms hN)
 have HSt := Lib.hid (fun W (h : Below w.heap.size w W) p n' c' l hl hN' hT hub => rsteps_any (X := X) (w := W) (v := refV (M.room : Int) a n c (M.plan : Int) M.down) (M := M) ⟨a, n, c, R, rfl, hRW W h, hfs, hn⟩ (hXW W h) p n' c' l hl hnt (T := 9000) hN' hT hub)
 have hlm : lastP ps hp ∈ ps := List.getElem_mem _
 obtain ⟨N', y, hN', hn1, hn2, hyf, hyR, hyb, hys⟩ := seg_file hA hfs hd hlm
 obtain rfl : N' = N := by rw [hN] at hN'; omega
 have hyB := fun W (h : Below w.heap.size w W) => ((hRW W h).files y hyR).bytes
 have hyX := fun (h0 : 0 < y.f.b.length) x (hx : y.pa = some x) => (hR.files y hyR).blk h0 x hx
 have HBt := Lib.hid (fun W (h : Below w.heap.size w W) => rbytes_any (M := M) (hRW W h) (hXW W h) N' hn1 hn2 y hyf)
 have HOl := Lib.hid (fun p m k l first W hI hm hl => rolder_any p m k l first W hI hm hl)
 have HNm := Lib.hid (fun W => rsegname_yes N' W hn1 hn2)
 obtain ⟨i0, hi, hz0, hz1', hz2⟩ := info_parts info_op
 obtain ⟨OPS, hOPS⟩ : ∃ OPS, OPS = repOps M ((ps.take k).map PS.n) N' (joinL (lastP ps hp).ls) (lastP ps hp).t.length := ⟨_, rfl⟩
 rw [← hOPS]
 have hOP2 : OPS = cleanM [cutB, newB] M ++ (if (lastP ps hp).t.length = 0 then [] else cutOps (nmB N') (joinL (lastP ps hp).ls)) ++ cleanM (olderL (ps.map PS.n) ps[k].n) M ++ [⟨3, nmB N', [], []⟩] := by rw [older_clean hA hk]; exact hOPS
 clear hOPS
 generalize hll : joinL (lastP ps hp).ls = L at *
 generalize htt : (lastP ps hp).t.length = T at *
 have hpos := allOf_pos hA
 have hyl : y.f.b.length = L.length + T := by rw [hyb, List.length_append, htt]
 have hytk : y.f.b.take L.length = L := by rw [hyb, List.take_left]
 have hyfm := (hR.files y hyR).form
 have hyle := (hR.files y hyR).bytes.le
 have hL9 : L.length ≤ 9000 := by
  have h1 := hnt.small.used
  have h2 : y.f.b.length ≤ usedF M.fs := by
   unfold usedF
   exact mem_le_sum2 (M.fs.map fun f => f.b.length) _ (List.mem_map.2 ⟨y.f, by rw [← hfs]; exact List.mem_map.2 ⟨y, hyR, rfl⟩, rfl⟩)
  omega
 have hplen : ps.length ≤ 900 := by
  have h1 := segs_many' hA
  have := hnt.small.files
  omega
 unfold refV at *
 obtain ⟨w1, hw1⟩ : ∃ w1, w1 = (w.alloc (.cells #[.int .i64 (M.room : Int), .slice a n c, .int .i64 (M.plan : Int), .bool M.down] 25)).alloc (.cells #[.int .i64 0, .slice none 0 0, .int .i64 0, .bool false, .int .i64 0, .int .i64 0, .int .i64 0, .int .i64 0] 47) := ⟨_, rfl⟩
 rw [← hw1] at hb1 hz1 hB0 hB1
 have HF := Lib.hid (hF w1 hb1)
 have HX := Lib.hid hX
 have Hb1 := Lib.hid hb1
 have HB0 := Lib.hid hB0
 have HB1 := Lib.hid hB1
 have HyB := Lib.hid hyB
 have HyX := Lib.hid hyX
 have Hyb := Lib.hid hyb
 have Hpos := Lib.hid hpos
 have HOP := Lib.hid hOP2
 clear hOP2 hd hll htt
 clear hF hR hX hfs hb1 hB0 hB1 hn hnt hRW hXW hyB hyX hyb hys hyf hyR hN' hlm hpos hA
 generalize ps[k].n = first at *
 clear hk hN
 go_enter Tryz.func22, Tryz.ntmps22
 go_wp2_with fail
 rw [← hw1]
 clear hw1
 refine HF.out.mono ?_
 rintro e w2 ⟨aa, ac, va, vc, rfl, hI2, hP2, hb2⟩
 unfold logRV
 have hb23 := (Below.refl w2.heap.size w2).alloc (Nat.le_refl _) (.cells #[.slice aa ps.length ac, .int .i64 first, .int .i64 (N' : Int), .slice va recs.length vc, .int .i64 (L.length : Int), .int .i64 (T : Int), .int .i64 0] 35)
 have hBL := heap_alloc_new w2 (.cells #[.slice aa ps.length ac, .int .i64 first, .int .i64 (N' : Int), .slice va recs.length vc, .int .i64 (L.length : Int), .int .i64 (T : Int), .int .i64 0] 35)
 have hb13 := hb2.trans (hb23.mono hb2.size)
 have hB0 := (hb13.block _ (Array.getElem?_eq_some_iff.1 HB0.out).1).trans HB0.out
 obtain ⟨g0, g1, g2, g3, g4, g5, g6, gf⟩ := box7 hBL
 obtain ⟨c0, c1, c2, c3, cf⟩ := box4c hB0
 go_wp2_with fail
 have hb4 := (hb13.mono (Nat.le_refl _)).alloc hb13.size (.cells #[.string ⟨#[99, 117, 116]⟩, .string ⟨#[110, 101, 119]⟩] 9)
 have hN2 := names_two (w2.alloc (.cells #[.slice aa ps.length ac, .int .i64 first, .int .i64 (N' : Int), .slice va recs.length vc, .int .i64 (L.length : Int), .int .i64 (T : Int), .int .i64 0] 35))
 rw [World.size_alloc] at hN2
 refine (HCl.out _ (Hb1.out.trans (hb4.mono Hb1.out.size)) _ 2 2 _ hN2).mono ?_
 rintro e w5 ⟨v5, rfl, hops, hb5⟩
 obtain ⟨w4, hw4⟩ : ∃ w4, w4 = (w2.alloc (.cells #[.slice aa ps.length ac, .int .i64 first, .int .i64 (N' : Int), .slice va recs.length vc, .int .i64 (L.length : Int), .int .i64 (T : Int), .int .i64 0] 35)).alloc (.cells #[.string ⟨#[99, 117, 116]⟩, .string ⟨#[110, 101, 119]⟩] 9) := ⟨_, rfl⟩
 have hz4 : w4.heap.size = w2.heap.size + 2 := by rw [hw4]; simp
 have hBL4 := (Below.heap_alloc (w2.alloc (.cells #[.slice aa ps.length ac, .int .i64 first, .int .i64 (N' : Int), .slice va recs.length vc, .int .i64 (L.length : Int), .int .i64 (T : Int), .int .i64 0] 35)) (.cells #[.string ⟨#[99, 117, 116]⟩, .string ⟨#[110, 101, 119]⟩] 9) w2.heap.size (by rw [World.size_alloc]; omega)).trans hBL
 have hb24 := hb23.alloc hb23.size (.cells #[.string ⟨#[99, 117, 116]⟩, .string ⟨#[110, 101, 119]⟩] 9)
 rw [← hw4] at hops hb5 hb4 hBL4 hb24
 have hs12 := hb2.size
 have hs04 : w.heap.size ≤ w4.heap.size := by have := Hb1.out.size; omega
 have hB04 := (hb4.block _ (Array.getElem?_eq_some_iff.1 HB0.out).1).trans HB0.out
 have HB04 := Lib.hid hB04
 have HBL4 := Lib.hid hBL4
 have hlt04 : w.heap.size < w4.heap.size := by have := Hb1.out.size; omega
 have HB14 := Lib.hid ((hb4.block _ (Array.getElem?_eq_some_iff.1 HB1.out).1).trans HB1.out)
 have HX4 := Lib.hid (fun b (hb : X b) => Nat.lt_of_lt_of_le (HX.out b hb) hs04)
 have H04 := Lib.hid (Hb1.out.trans (hb4.mono Hb1.out.size))
 have HBX := Lib.hid (fun (W : World) (hW : Below w4.heap.size w4 W) => (show (W.cell? ⟨w.heap.size, 0, none⟩ = some (.int .i64 (M.room : Int)) ∧ W.cell? ⟨w.heap.size, 1, none⟩ = some (.slice a n c) ∧ W.cell? ⟨w.heap.size, 2, none⟩ = some (.int .i64 (M.plan : Int)) ∧ W.cell? ⟨w.heap.size, 3, none⟩ = some (.bool M.down)) ∧ (W.cell? ⟨w2.heap.size, 0, none⟩ = some (.slice aa ps.length ac) ∧ W.cell? ⟨w2.heap.size, 1, none⟩ = some (.int .i64 first) ∧ W.cell? ⟨w2.heap.size, 2, none⟩ = some (.int .i64 (N' : Int)) ∧ W.cell? ⟨w2.heap.size, 3, none⟩ = some (.slice va recs.length vc) ∧ W.cell? ⟨w2.heap.size, 4, none⟩ = some (.int .i64 (L.length : Int)) ∧ W.cell? ⟨w2.heap.size, 5, none⟩ = some (.int .i64 (T : Int))) from by
  obtain ⟨c0, c1, c2, c3, _⟩ := box4c ((hW.block w.heap.size (by omega)).trans hB04)
  obtain ⟨g0, g1, g2, g3, g4, g5, g6, _⟩ := box7 ((hW.block w2.heap.size (by omega)).trans hBL4)
  exact ⟨⟨c0, c1, c2, c3⟩, g0, g1, g2, g3, g4, g5⟩))
 have HI := Lib.hid (fun W (hW : Below w4.heap.size w4 W) => hI2.grow (hb24.trans (hW.mono (by omega))))
 have HP := Lib.hid (hP2.grow hb24)
 have Hops := Lib.hid hops
 have Hb5 := Lib.hid hb5
 have hs5 := hb5.size
 obtain ⟨⟨c0, c1, c2, c3⟩, g0, g1, g2, g3, g4, g5⟩ := HBX.out w5 hb5
 clear hb4 hb5 hw4 hops hI2 hP2 hb2 hb23 hb13 hBL4 hb24 hB04 hB0 hBL hN2
 have hpz : ((ps.length : Int) == 0) = false := by rw [beq_eq_false_iff_ne]; omega
 have hcl := cleanM_len [cutB, newB] M
 simp only [List.length_cons, List.length_nil] at hcl
 have hsB : ∀ (W : World) (l : List Nat), Bytes W y.pa y.f.b.length y.k l → Bytes W y.pa L.length y.k (l.take L.length) := fun W l h => h.takeTo (by omega) (by omega) (Nat.le_refl _)
 have HsB := Lib.hid (fun W (hW : Below w4.heap.size w4 W) => (show Bytes W y.pa L.length y.k L from by
  have h := hsB W _ (HyB.out W (H04.out.trans (hW.mono hs04)))
  rw [hytk] at h
  exact h))
 have hsB0 := hsB w _ (HyB.out w (Below.refl _ _))
 have HsX := Lib.hid (fun (h0 : 0 < L.length) z (hz : y.pa = some z) => Nat.lt_of_lt_of_le (bytes_lt hsB0 h0 z hz) hs04)
 have hyk : L.length ≤ y.k := by omega
 have hyk2 : (L.length : Int) ≤ (y.k : Int) := by omega
 clear hsB hsB0 hytk hyfm hyle
 go_wp2_with fail
 refine (HNm.out _).mono ?_
 rintro e w6 ⟨rfl, rfl⟩
 obtain ⟨pre, hpre⟩ : ∃ pre, pre = cleanM [cutB, newB] M ++ (if T = 0 then [] else cutOps (nmB N') L) := ⟨_, rfl⟩
 rcases Nat.eq_zero_or_pos T with rfl | hT
 case' inl =>
  have HR6 := Lib.hid (show ROps w4.heap.size w5 v5 pre ∧ Below w4.heap.size w4 w5 from ⟨by rw [hpre, if_pos rfl, List.append_nil]; exact Hops.out, Hb5.out⟩)
  go_wp2_with fail
 case' inr =>
  have hTp : (0 : Int) < (T : Int) := by omega
  go_wp2_with fail
  refine (HBt.out w5 (H04.out.trans (Hb5.out.mono hs04))).mono ?_
  rintro e w6 ⟨rfl, hb6⟩
  have hb46 := Hb5.out.trans (hb6.mono hs5)
  obtain ⟨⟨c0, c1, c2, c3⟩, g0, g1, g2, g3, g4, g5⟩ := HBX.out w6 hb46
  have hs6 := hb6.size
  have hrn := rops_new (G := w4.heap.size) (w := w6) (by omega) [(⟨1, cutB, [], []⟩, (none, 0)), (⟨2, cutB, [], L⟩, (y.pa, y.k)), (⟨3, cutB, [], []⟩, (none, 0)), (⟨4, cutB, nmB N', []⟩, (none, 0))] (fun q hq => by
    simp only [List.mem_cons, List.not_mem_nil, or_false] at hq
    rcases hq with rfl | rfl | rfl | rfl
    ·exact sook_nil (by decide) (by decide) (by decide)
    ·exact ⟨HsB.out w6 hb46, HsX.out, (by show (1 : Int) ≤ 2 ∧ (2 : Int) ≤ 5; decide), (by show cutB.length ≤ _; decide), (by show ([] : List UInt8).length ≤ _; decide)⟩
    ·exact sook_nil (by decide) (by decide) (by decide)
    ·exact sook_nil (by decide) (by decide) (by rw [nmB_length]; decide))
   #[.int .i64 1, .string ⟨#[99, 117, 116]⟩, .string ⟨#[]⟩, .slice none 0 0, .int .i64 2, .string ⟨#[99, 117, 116]⟩, .string ⟨#[]⟩, .slice y.pa L.length y.k, .int .i64 3, .string ⟨#[99, 117, 116]⟩, .string ⟨#[]⟩, .slice none 0 0, .int .i64 4, .string ⟨#[99, 117, 116]⟩, .string (str (nameL N')), .slice none 0 0] rfl (by show 4 ≤ 1000; decide)
  have Hrn := Lib.hid hrn
  have Hb46 := Lib.hid hb46
  have Hop6 := Lib.hid (Hops.out.grow hs5 hb6)
  clear hrn hb46 hb6
  go_wp2_with (at_builtin; go_loud (refine wpList_append_rops rfl _ _ rfl w4.heap.size _ _ rfl (Hop6.out.grow (by omega) ((Below.refl _ _).alloc (Nat.le_refl _) _)) _ _ rfl Hrn.out (by show (cleanM [cutB, newB] M).length + 4 ≤ _; omega) (by rw [World.size_alloc]; omega) ?_; intro v' w7 hro hb67; have HR6 := Lib.hid (show ROps w4.heap.size w7 v' pre ∧ Below w4.heap.size w4 w7 from ⟨by rw [hpre, if_neg (Nat.ne_of_gt hT)]; exact hro, (Hb46.out.alloc Hb46.out.size _).trans hb67⟩)))
 all_goals
  obtain ⟨hr6, hb46⟩ := HR6.out
  have HR6 := Lib.hid hr6
  have hs6 := hb46.size
  have hpl6 : pre.length ≤ 6 := by
   rw [hpre, List.length_append]
   split
   ·simp only [List.length_nil]; omega
   ·simp only [cutOps, List.length_cons, List.length_nil]; omega
  have hol := olderL_len (ps.map PS.n) first
  rw [List.length_map] at hol
  have hcl2 := cleanM_len (olderL (ps.map PS.n) first) M
  have HS6 := Lib.hid (fun (W : World) (hW : Below w4.heap.size w4 W) => (show W.cell? ⟨w.heap.size, 0, none⟩ = some (.int .i64 (M.room : Int)) ∧ W.cell? ⟨w.heap.size, 1, none⟩ = some (.slice a n c) ∧ W.cell? ⟨w.heap.size, 2, none⟩ = some (.int .i64 (M.plan : Int)) ∧ W.cell? ⟨w.heap.size, 3, none⟩ = some (.bool M.down) ∧ W.cell? ⟨w2.heap.size, 0, none⟩ = some (.slice aa ps.length ac) ∧ W.cell? ⟨w2.heap.size, 1, none⟩ = some (.int .i64 first) from by
   obtain ⟨⟨c0, c1, c2, c3⟩, g0, g1, _⟩ := HBX.out W hW
   exact ⟨c0, c1, c2, c3, g0, g1⟩))
  clear hr6
  go_region_held3 (fun W => W.cell? ⟨w.heap.size, 0, none⟩ = some (.int .i64 (M.room : Int)) ∧ W.cell? ⟨w.heap.size, 1, none⟩ = some (.slice a n c) ∧ W.cell? ⟨w.heap.size, 2, none⟩ = some (.int .i64 (M.plan : Int)) ∧ W.cell? ⟨w.heap.size, 3, none⟩ = some (.bool M.down) ∧ W.cell? ⟨w2.heap.size, 0, none⟩ = some (.slice aa ps.length ac) ∧ W.cell? ⟨w2.heap.size, 1, none⟩ = some (.int .i64 first))
   (first | exact HS6.out _ (by (repeat (first | assumption | exact Below.refl _ _ | refine Below.drew ?_ | refine Below.alloc ?_ (by (first | exact Nat.le_refl _ | (simp; done) | (simp; omega) | omega)) _ | refine Below.setCell ?_ (by (first | exact Nat.le_refl _ | (show _ ≤ _; omega) | (simp; done) | (simp; omega))) _))))
   (first
    | (go_at_call 70; (with_reducible refine (HOl.out aa ps.length ac (ps.map PS.n) first _ (HI.out _ (by (repeat (first | assumption | exact Below.refl _ _ | refine Below.drew ?_ | refine Below.alloc ?_ (by (first | exact Nat.le_refl _ | (simp; done) | (simp; omega) | omega)) _ | refine Below.setCell ?_ (by (first | exact Nat.le_refl _ | (show _ ≤ _; omega) | (simp; done) | (simp; omega))) _)))) (by omega) (fun x hx => by have := Hpos.out x hx; omega)).mono ?_); rintro e w20 ⟨ao, co, rfl, hNm, hb20⟩; have hb420 : Below w4.heap.size w4 w20 := Below.trans (by (repeat (first | assumption | exact Below.refl _ _ | refine Below.drew ?_ | refine Below.alloc ?_ (by (first | exact Nat.le_refl _ | (simp; done) | (simp; omega) | omega)) _ | refine Below.setCell ?_ (by (first | exact Nat.le_refl _ | (show _ ≤ _; omega) | (simp; done) | (simp; omega))) _))) (hb20.mono (by first | exact hs6 | omega)); have hs20 := hb20.size; have hr620 := HR6.out.grow hs6 (Below.trans (by (repeat (first | assumption | exact Below.refl _ _ | refine Below.drew ?_ | refine Below.alloc ?_ (by (first | exact Nat.le_refl _ | (simp; done) | (simp; omega) | omega)) _ | refine Below.setCell ?_ (by (first | exact Nat.le_refl _ | (show _ ≤ _; omega) | (simp; done) | (simp; omega))) _))) hb20))
    | (go_at_call 68; (with_reducible refine (HCl.out w20 (H04.out.trans (hb420.mono hs04)) ao _ co _ hNm).mono ?_); rintro e w21 ⟨v21, rfl, hrc, hb21⟩; have hs420 := hb420.size; have hb421 : Below w4.heap.size w4 w21 := hb420.trans (hb21.mono hs420); have hs21 := hb21.size; have hrc4 := hrc.base hs420 (cleanM_bs _ M); have hr621 := hr620.grow hs420 hb21; clear hrc hNm)
    | (refine step_append_rops rfl (.tmp 69) (.tmp 76) rfl w4.heap.size _ pre (by first | rfl | (simp [Act.eval]; done)) hr621 _ (cleanM (olderL (ps.map PS.n) first) M) (by first | rfl | (simp [Act.eval]; done)) hrc4 (by omega) (by omega) ?_; intro v22 w22 hro22 hb2122; have hb422 := hb421.trans hb2122))
  have hs22 := hb422.size
  obtain ⟨⟨c0, c1, c2, c3⟩, g0, g1, g2, g3, g4, g5⟩ := HBX.out w22 hb422
  have Hro22 := Lib.hid hro22
  have Hb422 := Lib.hid hb422
  have hOPSe : OPS = (pre ++ cleanM (olderL (ps.map PS.n) first) M) ++ [⟨3, nmB N', [], []⟩] := by rw [HOP.out, hpre]
  have hopl : OPS.length ≤ 1000 := by
   rw [hOPSe, List.length_append, List.length_append]
   simp only [List.length_cons, List.length_nil]
   omega
  have Hopb := Lib.hid (show ∀ x ∈ OPS, x.bs.length ≤ 9000 from fun x hx => by
   rw [hOPSe] at hx
   rcases List.mem_append.1 hx with h | h
   ·rcases List.mem_append.1 h with h | h
    ·rw [hpre] at h
     rcases List.mem_append.1 h with h | h
     ·rw [cleanM_bs _ M x h]; exact Nat.zero_le _
     ·split at h
      ·cases h
      ·unfold cutOps at h
       simp only [List.mem_cons, List.not_mem_nil, or_false] at h
       rcases h with rfl | rfl | rfl | rfl
       ·exact Nat.zero_le _
       ·exact hL9
       ·exact Nat.zero_le _
       ·exact Nat.zero_le _
    ·rw [cleanM_bs _ M x h]; exact Nat.zero_le _
   ·rw [List.mem_singleton.1 h]; exact Nat.zero_le _)
  have HOPSe := Lib.hid hOPSe
  have hB22 := (hb422.block w.heap.size (by omega)).trans HB04.out
  have e0 := fun o => row_alloc' hB22 o 0
  have e1 := fun o => row_alloc' hB22 o 1
  have e2 := fun o => row_alloc' hB22 o 2
  have e3 := fun o => row_alloc' hB22 o 3
  simp only [List.getElem?_toArray, List.getElem?_cons_zero, List.getElem?_cons_succ] at e0 e1 e2 e3
  clear hB22
  have hlen22 : (pre ++ cleanM (olderL (ps.map PS.n) first) M).length ≤ 906 := by rw [List.length_append]; omega
  have Hrn := Lib.hid (rops_new (G := w4.heap.size) (w := w22) hs22 [(⟨3, nmB N', [], []⟩, (none, 0))] (fun q hq => by rw [List.mem_singleton.1 hq]; exact sook_nil (by decide) (by rw [nmB_length]; decide) (by decide)) #[.int .i64 3, .string (str (nameL N')), .string ⟨#[]⟩, .slice none 0 0] rfl (by show 1 ≤ 1000; decide))
  clear hro22 hb20 hs20 hb21 hs21 hb420 hb421 hs420 hb2122 hrc4 hr620 hr621 hb422 hOPSe
  go_upto_region 13 with fail
  generalize hrr : stepsM OPS M = rr at *
  go_cut [14] (fun t wx => DCut X w w4 rr t wx)
  case first =>
   go_region_law
    (first
     | (refine step_append_rops rfl (.tmp 80) (.tmp 83) rfl w4.heap.size _ (pre ++ cleanM (olderL (ps.map PS.n) first) M) (by first | rfl | (simp [Act.eval]; done)) (Hro22.out.grow hs22 (by (repeat (first | assumption | exact Below.refl _ _ | refine Below.drew ?_ | refine Below.alloc ?_ (by (first | exact Nat.le_refl _ | (simp; done) | (simp; omega) | omega)) _ | refine Below.setCell ?_ (by (first | exact Nat.le_refl _ | (show _ ≤ _; omega) | (simp; done) | (simp; omega))) _)))) _ [⟨3, nmB N', [], []⟩] (by first | rfl | (simp [Act.eval]; done)) (Hrn.out.grow (by rw [World.size_alloc]; omega) (by (repeat (first | assumption | exact Below.refl _ _ | refine Below.drew ?_ | refine Below.alloc ?_ (by (first | exact Nat.le_refl _ | (simp; done) | (simp; omega) | omega)) _ | refine Below.setCell ?_ (by (first | exact Nat.le_refl _ | (show _ ≤ _; omega) | (simp; done) | (simp; omega))) _)))) (by show (pre ++ cleanM (olderL (ps.map PS.n) first) M).length + 1 ≤ _; omega) (by first | (rw [World.size_alloc]; omega) | (show _ ≤ (World.alloc _ _).heap.size; rw [World.size_alloc]; omega)) ?_; intro v24 w24 hro24 hb24; rw [← HOPSe.out] at hro24; obtain ⟨a24, c24, rfl⟩ := hro24.form; have hb2224 : Below w4.heap.size w22 w24 := Below.trans (by (repeat (first | assumption | exact Below.refl _ _ | refine Below.drew ?_ | refine Below.alloc ?_ (by (first | exact Nat.le_refl _ | (simp; done) | (simp; omega) | omega)) _ | refine Below.setCell ?_ (by (first | exact Nat.le_refl _ | (show _ ≤ _; omega) | (simp; done) | (simp; omega))) _))) hb24; have hb424 := Hb422.out.trans hb2224; have hs424 := hb424.size; have hq24 := (hb424.block w.heap.size (by omega)).trans HB04.out; obtain ⟨y0, y1, y2, y3, yf⟩ := box4c hq24)
     | (go_simp; go_at_call 54; (with_reducible refine (HSt.out _ (H04.out.trans (hb424.mono hs04)) _ _ _ _ (ROps.sos hro24 (by omega) rfl) (by omega) Hopb.out (by omega)).mono ?_); rintro e w7 ⟨a7, n7, c7, R7, rfl, hR7, hf7, hb7⟩; rw [hrr] at hf7; simp only [hrr]; unfold refV; have hb47 := hb424.trans (hb7.mono hs424); have hq7 := (hb47.block w.heap.size (by omega)).trans HB04.out; obtain ⟨q0, q1, q2, q3, qf⟩ := box4c hq7))
   all_goals go_wp2_with fail
   all_goals go_meet
   all_goals exact dcut H04.out hlt04 HX.out hb47 hq7 hs424 hR7 hf7
  case rest =>
   obtain ⟨a7, n7, c7, R7, rfl, hBx, hR7, hf7, hoth, hb7, hs7⟩ := hcut
   obtain ⟨x0, x1, x2, x3, xf⟩ := box4c hBx
   obtain ⟨z0, z1, z2, z3, z4, z5, z6, z7, zf⟩ := box8 ((hoth (w.heap.size + 1) (by omega) (by omega)).trans HB14.out)
   obtain ⟨g0, g1, g2, g3, g4, g5, g6, gf⟩ := box7 ((hoth w2.heap.size (by omega) (by omega)).trans HBL4.out)
   have hne1 : ¬ w2.heap.size = w.heap.size + 1 := by omega
   have hne2 : ¬ w.heap.size + 1 = w2.heap.size := by omega
   have hne3 : ¬ w.heap.size = w.heap.size + 1 := by omega
   have HR7 := Lib.hid hR7
   have Hf7 := Lib.hid hf7
   have Hb7 := Lib.hid hb7
   have Hs7 := Lib.hid hs7
   have Hoth := Lib.hid hoth
   clear hR7 hf7 hb7 hBx hs7 hoth
   by_cases hr : rr.2 = 0
   ·rw [hr]
    have HS8 := Lib.hid (fun (W : World) (hW : Off (w.heap.size + 1) w4.heap.size wc W) => (show (W.cell? ⟨w.heap.size, 0, none⟩ = some (.int .i64 (rr.1.room : Int)) ∧ W.cell? ⟨w.heap.size, 1, none⟩ = some (.slice a7 n7 c7) ∧ W.cell? ⟨w.heap.size, 2, none⟩ = some (.int .i64 (rr.1.plan : Int)) ∧ W.cell? ⟨w.heap.size, 3, none⟩ = some (.bool rr.1.down)) ∧ W.cell? ⟨w2.heap.size, 2, none⟩ = some (.int .i64 (N' : Int)) ∧ W.cell? ⟨w2.heap.size, 3, none⟩ = some (.slice va recs.length vc) ∧ W.cell? ⟨w2.heap.size, 4, none⟩ = some (.int .i64 (L.length : Int)) from
     ⟨⟨(World.cell?_of_block (a := ⟨w.heap.size, 0, none⟩) (hW w.heap.size (by omega) (by omega))).trans x0, (World.cell?_of_block (a := ⟨w.heap.size, 1, none⟩) (hW w.heap.size (by omega) (by omega))).trans x1, (World.cell?_of_block (a := ⟨w.heap.size, 2, none⟩) (hW w.heap.size (by omega) (by omega))).trans x2, (World.cell?_of_block (a := ⟨w.heap.size, 3, none⟩) (hW w.heap.size (by omega) (by omega))).trans x3⟩, (World.cell?_of_block (a := ⟨w2.heap.size, 2, none⟩) (hW w2.heap.size (by omega) (by omega))).trans g2, (World.cell?_of_block (a := ⟨w2.heap.size, 3, none⟩) (hW w2.heap.size (by omega) (by omega))).trans g3, (World.cell?_of_block (a := ⟨w2.heap.size, 4, none⟩) (hW w2.heap.size (by omega) (by omega))).trans g4⟩))
    go_wp2_with fail
    clear c0 c1 c2 c3 e0 e1 e2 e3 x0 x1 x2 x3 g0 g1 g2 g3 g4 g5 g6 gf
    go_region_held3 (fun W => (W.cell? ⟨w.heap.size, 0, none⟩ = some (.int .i64 (rr.1.room : Int)) ∧ W.cell? ⟨w.heap.size, 1, none⟩ = some (.slice a7 n7 c7) ∧ W.cell? ⟨w.heap.size, 2, none⟩ = some (.int .i64 (rr.1.plan : Int)) ∧ W.cell? ⟨w.heap.size, 3, none⟩ = some (.bool rr.1.down)) ∧ W.cell? ⟨w2.heap.size, 2, none⟩ = some (.int .i64 (N' : Int)) ∧ W.cell? ⟨w2.heap.size, 3, none⟩ = some (.slice va recs.length vc) ∧ W.cell? ⟨w2.heap.size, 4, none⟩ = some (.int .i64 (L.length : Int)))
     (first | (refine HS8.out _ ?_; (repeat (first | with_reducible exact Off.refl _ _ _ | with_reducible refine Off.drew ?_ | with_reducible refine Off.setCell ?_))))
     (fail)
    go_wp2
    have hbF := fill8 (B := w.heap.size + 1) Hb7.out (Nat.le_succ _) (.int .i64 (rr.1.room : Int)) (.slice a7 n7 c7) (.int .i64 (rr.1.plan : Int)) (.bool rr.1.down) (.int .i64 most) (.int .i64 (N' : Int)) (.int .i64 (L.length : Int)) (.int .i64 0)
    have hrF := row_fill (B := w.heap.size + 1) (Z' := fun b => (X b ∨ w.heap.size ≤ b) ∧ b < wc.heap.size) HR7.out (fun b hb => by
     rcases hb.1 with h | h
     ·have := HX.out b h; omega
     ·omega) (fun b hb => ⟨hb.1.imp id (fun h => Nat.le_trans hs04 h), hb.2⟩) (.int .i64 (rr.1.room : Int)) (.slice a7 n7 c7) (.int .i64 (rr.1.plan : Int)) (.bool rr.1.down) (.int .i64 most) (.int .i64 (N' : Int)) (.int .i64 (L.length : Int)) (.int .i64 0)
    refine bodyPost_ret (v := .tuple #[logV (rr.1.room : Int) a7 n7 c7 (rr.1.plan : Int) rr.1.down most (N' : Int) (L.length : Int) 0, .slice va recs.length vc, .int .i64 0]) ?_ rfl (roend_drew ⟨a7, n7, c7, R7, hrF.mono (fun _ _ => rfl) (fun b hb => ⟨hb.1, ?_⟩), Hf7.out, hbF, .inr ⟨hr, va, vc, rfl, fun WW hWW => kept_any2 HP.out (fun b hb hlt => ?_)⟩⟩)
    ·rw [results_ctt rfl]
     go_simp
     rfl
    ·simp only [World.size_setCell]
     exact hb.2
    ·have hne : b ≠ w.heap.size + 1 ∧ b ≠ w.heap.size := by
      rcases hb with h | h | h
      ·omega
      ·have := HX.out b h; omega
      ·omega
     have h8 := row8_other wc (B := w.heap.size + 1) hne.1 (.int .i64 (rr.1.room : Int)) (.slice a7 n7 c7) (.int .i64 (rr.1.plan : Int)) (.bool rr.1.down) (.int .i64 most) (.int .i64 (N' : Int)) (.int .i64 (L.length : Int)) (.int .i64 0)
     have hwc : b < wc.heap.size := (Array.getElem?_eq_some_iff.1 ((Hoth.out b hne.2 hlt).trans (Array.getElem?_eq_getElem hlt))).1
     refine (hWW b ⟨?_, by simp only [World.size_setCell]; exact hwc⟩).trans (h8.trans (Hoth.out b hne.2 hlt))
     rcases hb with h | h | h
     ·exact .inr (by omega)
     ·exact .inl h
     ·exact .inr (by omega)
   ·have hr1 : (rr.2 != 0) = true := by simp [hr]
    have hr2 : (rr.2 == 0) = false := by simp [hr]
    go_wp2
    have hbF := fill8 (B := w.heap.size + 1) Hb7.out (Nat.le_succ _) (.int .i64 (rr.1.room : Int)) (.slice a7 n7 c7) (.int .i64 (rr.1.plan : Int)) (.bool rr.1.down) (.int .i64 0) (.int .i64 0) (.int .i64 0) (.int .i64 0)
    have hrF := row_fill (B := w.heap.size + 1) (Z' := fun b => (X b ∨ w.heap.size ≤ b) ∧ b < wc.heap.size) HR7.out (fun b hb => by
     rcases hb.1 with h | h
     ·have := HX.out b h; omega
     ·omega) (fun b hb => ⟨hb.1.imp id (fun h => Nat.le_trans hs04 h), hb.2⟩) (.int .i64 (rr.1.room : Int)) (.slice a7 n7 c7) (.int .i64 (rr.1.plan : Int)) (.bool rr.1.down) (.int .i64 0) (.int .i64 0) (.int .i64 0) (.int .i64 0)
    refine bodyPost_ret (v := .tuple #[logV (rr.1.room : Int) a7 n7 c7 (rr.1.plan : Int) rr.1.down 0 0 0 0, .slice none 0 0, .int .i64 rr.2]) ?_ rfl ⟨a7, n7, c7, R7, hrF.mono (fun _ _ => rfl) (fun b hb => ⟨hb.1, ?_⟩), Hf7.out, hbF, .inl ⟨hr, 0, 0, 0, rfl⟩⟩
    ·rw [results_ctt rfl]
     go_simp
     rfl
    ·simp only [World.size_setCell]
     exact hb.2
end Go.Proofs.YtnbddiiedagllaaGreat

/- The walk of the reference's Open, whole. -/
namespace Go.Proofs.YtnbddiiedagllaaGreat
open Go.RowKit Go.Maps Go.Shelf

theorem rfind_ok {X : Nat → Prop} {w w' : World} {ps : List PS} {e : Ending} {k : Nat} (hk : FirstAt ps k) (hg : Good (ps.drop k)) (hp : 0 < ps.length) {N : Nat} (hN : (lastP ps hp).n = (N : Int)) (h : RFindEnd X w ps e w') :
  RFindOk X ps (ps[k]'hk.1).n N (joinL (lastP ps hp).ls).length (lastP ps hp).t.length (recsL (ps.drop k)) w e w' := by
 obtain ⟨h, hb⟩ := h
 rcases h with ⟨rfl, _⟩ | ⟨k', hk', ⟨hg', _⟩ | ⟨hg', aa, ac, va, vn, vc, hlt, rfl, hI, hP⟩⟩
 ·exact absurd hp (by simp)
 ·obtain rfl := firstAt_uniq hk hk'
  exact absurd hg hg'
 ·obtain rfl := firstAt_uniq hk hk'
  obtain ⟨a, c, e⟩ := hP.form
  injection e with e1 e2 e3
  subst e2
  refine ⟨aa, ac, va, vc, ?_, hI, hP, hb⟩
  rw [joinL_len]
  unfold lastP at hN ⊢
  rw [hN]

theorem rsopen_any {X : Nat → Prop} {w : World} {M : DM} {a : Option Addr} {n c : Nat} {R : List FR} (hR : RowF X w a n c R) (hX : ∀ b, X b → b < w.heap.size) (hfs : R.map FR.f = M.fs) (hn : n ≤ 1000000) {U : Nat} (hnt : Neat M 900 U) (hU : U ≤ 9000) (hd : M.down = false) (hnm : Named M) (most : Int) (ps : List PS) (hA : AllOf M ps) :
  Calls Tryz.prog 22 #[refV (M.room : Int) a n c (M.plan : Int) M.down, .int .i64 most] w fun e w' => ∃ r, IsOpen M ps r ∧ ROEnd X w most r e w' := by
 have hus := hnt.small.used
 have hfl := hnt.small.files
 have hF := fun W (h : Below w.heap.size w W) => rfind9_any (X := X) (w := W) (v := refV (M.room : Int) a n c (M.plan : Int) M.down) (M := M) ⟨a, n, c, R, rfl, hR.below hX h, hfs, hn⟩ (fun b hb => Nat.lt_of_lt_of_le (hX b hb) h.size) hd (by omega) (by omega) hnm ps hA
 by_cases h0 : ps = []
 ·subst h0
  refine (ropen_none hR hX hfs hn hnt hU most (fun W h => (hF W h).mono fun e w' hq => ?_)).mono fun e w' h => ⟨_, .inr ⟨_, _, _, _, .inl ⟨rfl, rfl, rfl, rfl, rfl⟩, rfl⟩, h⟩
  obtain ⟨⟨_, rfl⟩ | ⟨k, ⟨hk, _⟩, _⟩, hb⟩ := hq
  ·exact ⟨rfl, hb⟩
  ·exact absurd hk (by simp)
 ·have hp : 0 < ps.length := List.length_pos_iff.2 h0
  obtain ⟨k, hk⟩ := first_ex ps hp
  by_cases hg : Good (ps.drop k)
  ·obtain ⟨hN0, _⟩ := allOf_pos hA (lastP ps hp).n (List.mem_map.2 ⟨_, List.getElem_mem _, rfl⟩)
   obtain ⟨N, hN⟩ : ∃ N : Nat, (lastP ps hp).n = (N : Int) := ⟨(lastP ps hp).n.toNat, by omega⟩
   exact (ropen_good hR hX hfs hn hnt hU hd most ps hA k hp hk.1 N hN (recsL (ps.drop k)) (fun W h => (hF W h).mono fun e w' hq => rfind_ok hk hg hp hN hq)).mono fun e w' h => ⟨_, .inr ⟨_, _, _, _, .inr ⟨k, hp, hk, hg, hN, rfl, rfl, rfl⟩, rfl⟩, h⟩
  ·refine (ropen_broken hR hX hfs most (fun W h => (hF W h).mono fun e w' hq => ?_)).mono fun e w' h => ⟨_, .inl ⟨⟨k, hk, hg⟩, rfl⟩, h⟩
   obtain ⟨⟨h1, _⟩ | ⟨k', hk', ⟨_, rfl⟩ | ⟨hg', _⟩⟩, hb⟩ := hq
   ·exact absurd h1 h0
   ·exact ⟨rfl, hb⟩
   ·obtain rfl := firstAt_uniq hk hk'
    exact absurd hg' hg
end Go.Proofs.YtnbddiiedagllaaGreat

