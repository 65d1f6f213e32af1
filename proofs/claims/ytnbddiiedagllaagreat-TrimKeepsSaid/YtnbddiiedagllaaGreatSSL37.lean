import Derived.Test.YtnbddiiedagllaaGreatSSL36
import Derived.Test.YtnbddiiedagllaaGreatSSL26
import Derived.Test.YtnbddiiedagllaaGreatSSL17
import Derived.Maps.AppendAt
import Derived.Lib.AppendZeros
import Derived.Test.YtnbddiiedagllaaGreatSSL13
/- The walk of a compaction: its steps up to the first that fails. -/
namespace Go.Proofs.YtnbddiiedagllaaGreat
open Go.RowKit Go.Maps Go.Shelf

attribute [local go_sem ↓] Go.wp_at_zero Go.wp_at_succ

def stOps (M : DM) (n : Nat) (b : List Nat) (j : Nat) : List SO := if j = 0 then [] else cleanM [newB] M ++ (fillOps n b).take (j - 1)

theorem stOps_sum (M : DM) (n : Nat) (b : List Nat) (j : Nat) (hj : j ≤ 5) : ((stOps M n b j).map fun x => x.bs.length).sum ≤ b.length ∧ (stOps M n b j).length ≤ 5 ∧ ∀ x ∈ stOps M n b j, x.nm.length ≤ 9223372036854775807 ∧ x.tt.length ≤ 9223372036854775807 := by
 have hc : ((cleanM [newB] M).map fun x => x.bs.length).sum = 0 ∧ (cleanM [newB] M).length ≤ 1 ∧ ∀ x ∈ cleanM [newB] M, x.nm.length ≤ 9223372036854775807 ∧ x.tt.length ≤ 9223372036854775807 := by
  have e := cleanM_snoc [] newB M
  have e2 : cleanM [newB] M = if newB ∈ M.fs.map F.n then [⟨5, newB, [], []⟩] else [] := e
  rw [e2]
  split
  ·exact ⟨rfl, Nat.le_refl _, fun x hx => by rw [List.mem_singleton.1 hx]; exact ⟨by show newB.length ≤ _; decide, Nat.zero_le _⟩⟩
  ·exact ⟨rfl, Nat.zero_le _, fun x hx => by cases hx⟩
 obtain ⟨c1, c2, c3⟩ := hc
 have hb : (nmB n).length ≤ 9223372036854775807 := by rw [nmB_length]; decide
 have hw : newB.length ≤ 9223372036854775807 := by decide
 unfold stOps
 match j, hj with
 | 0, _ => exact ⟨Nat.zero_le _, Nat.zero_le _, fun x hx => by cases hx⟩
 | 1, _ =>
  simp only [Nat.succ_ne_zero, if_false, Nat.sub_self, List.take_zero, List.append_nil]
  exact ⟨by omega, by omega, c3⟩
 | j + 2, hj =>
  simp only [Nat.succ_ne_zero, if_false]
  have h4 : ∀ k, (((fillOps n b).take k).map fun x => x.bs.length).sum ≤ b.length ∧ ((fillOps n b).take k).length ≤ 4 := by
   intro k
   match k with
   | 0 => exact ⟨Nat.zero_le _, Nat.zero_le _⟩
   | 1 => exact ⟨Nat.zero_le _, by show 1 ≤ 4; omega⟩
   | 2 => exact ⟨by simp [fillOps], by show 2 ≤ 4; omega⟩
   | 3 => exact ⟨by simp [fillOps], by show 3 ≤ 4; omega⟩
   | k + 4 => exact ⟨by simp [fillOps], by simp [fillOps]⟩
  obtain ⟨g1, g2⟩ := h4 (j + 2 - 1)
  refine ⟨by rw [List.map_append, List.sum_append, c1]; omega, by rw [List.length_append]; omega, fun x hx => ?_⟩
  rcases List.mem_append.1 hx with h | h
  ·exact c3 x h
  ·have h := List.mem_of_mem_take h
   unfold fillOps at h
   simp only [List.mem_cons, List.not_mem_nil, or_false] at h
   rcases h with rfl | rfl | rfl | rfl
   ·exact ⟨hw, Nat.zero_le _⟩
   ·exact ⟨hw, Nat.zero_le _⟩
   ·exact ⟨hw, Nat.zero_le _⟩
   ·exact ⟨hw, hb⟩

theorem st_facts {M M' : DM} {n U : Nat} {b : List Nat} {j : Nat} (hnt : Neat M 900 U) (hnm : Named M) (hj : j ≤ 5) (h : stepsM (stOps M n b j) M = (M', 0)) : M'.fs.length ≤ 905 ∧ usedF M'.fs ≤ U + b.length ∧ Named M' := by
 obtain ⟨h1, h2, h3⟩ := stOps_sum M n b j hj
 have k1 := stepsM_neat' (stOps M n b j) hnt
 have k2 := named_steps (stOps M n b j) hnm h3
 rw [h] at k1 k2
 have g1 : M'.fs.length ≤ 900 + (stOps M n b j).length := k1.small.files
 have g2 : usedF M'.fs ≤ U + ((stOps M n b j).map fun x => x.bs.length).sum := k1.small.used
 exact ⟨by omega, by omega, k2⟩

theorem st_comp (M : DM) (out : List Int) (n : Nat) (b : List Nat) (j : Nat) : ∃ rest, compOps M out n b = stOps M n b j ++ rest := by
 unfold compOps stOps
 split
 ·exact ⟨_, rfl⟩
 ·refine ⟨(fillOps n b).drop (j - 1) ++ oldOps out n, ?_⟩
  have := List.take_append_drop (j - 1) (fillOps n b)
  conv => lhs; rw [← this]
  simp only [List.append_assoc]

theorem st_fail {M : DM} {n : Nat} {b : List Nat} {j : Nat} {r : DM × Int} (h : stepsM (stOps M n b j) M = r) (hz : r.2 ≠ 0) : IsComp M n b r := by
 obtain ⟨out, ho⟩ := segs_ex M
 obtain ⟨rest, e⟩ := st_comp M out n b j
 exact ⟨out, ho, by rw [e, stepsM_prefix (by rw [h]; exact hz), h]⟩

theorem st_one (M : DM) (n : Nat) (b : List Nat) : stOps M n b 1 = cleanM [newB] M := by
 unfold stOps
 simp

theorem st_next {M M' : DM} {n : Nat} {b : List Nat} {j : Nat} {x : SO} (h1 : 1 ≤ j) (hx : (fillOps n b)[j - 1]? = some x) (h : stepsM (stOps M n b j) M = (M', 0)) : stepsM (stOps M n b (j + 1)) M = soM x M' := by
 have e : stOps M n b (j + 1) = stOps M n b j ++ [x] := by
  unfold stOps
  rw [if_neg (by omega), if_neg (by omega), List.append_assoc]
  congr 1
  obtain ⟨hl, hx⟩ := List.getElem?_eq_some_iff.1 hx
  rw [← hx, ← List.take_succ_eq_append_getElem hl]
  congr 1
  omega
 rw [e, stepsM_next h, stepsM_one]

theorem st_last {M M' : DM} {n : Nat} {b : List Nat} {out : List Int} (hn : n ≤ 99999999) (h : stepsM (stOps M n b 5) M = (M', 0)) (ho : SegsOf M' out) {r : DM × Int} (hr : r = stepsM (oldOps out n) M') : IsComp M n b r := by
 obtain ⟨o, h1⟩ := segs_ex M
 have e5 : stOps M n b 5 = cleanM [newB] M ++ fillOps n b := by
  unfold stOps
  rw [if_neg (by omega)]
  congr 1
 rw [e5] at h
 have hc : (stepsM (cleanM [newB] M) M).2 = 0 := by
  by_cases hz : (stepsM (cleanM [newB] M) M).2 = 0
  ·exact hz
  ·rw [stepsM_prefix hz] at h
   rw [h]
 refine isComp_steps hn (r1 := stepsM (cleanM [newB] M) M) (r2 := (M', 0)) rfl ?_ h1 ho (by rw [if_pos rfl]; exact hr)
 rw [if_pos hc]
 rw [stepsM_append, if_pos hc] at h
 exact h.symm

def TakeRel (w0 : World) (Y : Nat → Prop) (d : Nat) (w : World) (M : DM) (n : Nat) (b : List Nat) (i : Value) (wr : World) : Prop :=
 ∃ M', OwnEnd w0 Y w d M' wr ∧ ((i = .int .i64 0 ∧ M = M') ∨ (i = .int .i64 1 ∧ stepsM (stOps M n b 1) M = (M', 0)) ∨ (i = .int .i64 2 ∧ stepsM (stOps M n b 2) M = (M', 0)) ∨ (i = .int .i64 3 ∧ stepsM (stOps M n b 3) M = (M', 0)) ∨ (i = .int .i64 4 ∧ stepsM (stOps M n b 4) M = (M', 0)) ∨ (i = .int .i64 5 ∧ stepsM (stOps M n b 5) M = (M', 0)) ∨ (i = .int .i64 6 ∧ IsComp M n b (M', 0)))

def stepFn (v : Value) (k : Nat) : Value := [.func (.func 130) #[v] #[], .func (.func 131) #[v] #[], .func (.func 132) #[v] #[], .func (.func 133) #[v] #[], .func (.func 134) #[v] #[], .func (.func 135) #[v] #[]].getD k undef

theorem step_at (v : Value) (w : World) (k : Nat) (hk : k < 6) :
  (Instr.index 189 (.agg #[.func (.func 130) #[v] #[], .func (.func 131) #[v] #[], .func (.func 132) #[v] #[], .func (.func 133) #[v] #[], .func (.func 134) #[v] #[], .func (.func 135) #[v] #[]]) (.int .i64 (k : Int))).run Tryz.prog w = .ok (stepFn v k) w := by
 rcases (show k = 0 ∨ k = 1 ∨ k = 2 ∨ k = 3 ∨ k = 4 ∨ k = 5 by omega) with rfl | rfl | rfl | rfl | rfl | rfl
 ·kernel_rfl
 ·kernel_rfl
 ·kernel_rfl
 ·kernel_rfl
 ·kernel_rfl
 ·kernel_rfl

section
variable {w0 : World} {X : Nat → Prop} {w : World} {d : Nat} {M : DM}

def TakeEnd (w0 : World) (X : Nat → Prop) (w : World) (d : Nat) (M : DM) (n : Nat) (b : List Nat) (e : Ending) (w' : World) : Prop := ∃ r, IsComp M n b r ∧ OwnAct w0 X w d r e w'

set_option maxRecDepth 100000 in
set_option maxHeartbeats 6400000 in
theorem t_take (h : Own w0 X w d M) {U : Nat} (hnt : Neat M 900 U) (hU : U ≤ 10000000) (hnm : Named M) (N : Nat) (h1 : 1 ≤ N) (hN : N ≤ 99999999) (p : Option Addr) (m c : Nat) (b : List Nat) (hb : b.length ≤ 10000000) (hB : Bytes w p m c b) (hp : 0 < m → ∀ a, p = some a → X a.block) :
  Calls Tryz.prog 88 #[compV d (N : Int) p m c] w (TakeEnd w0 X w d M N b) := by
 obtain ⟨w1, hw1, hb1, hz1, _, hB1⟩ := comp_box h (N : Int) p m c
 unfold compO at hw1 hB1
 obtain ⟨k0, k1, k2, kf⟩ := box3c hB1
 have Hw1 := Lib.hid hw1
 have hO1 := h.below hb1
 have hk1 := Lib.hid (fun M' w2 (hb2 : Below w1.heap.size w1 w2) w' (hE : OwnEnd w0 X w2 d M' w') => OwnEnd.past (w' := w') h.blocks h.base.size (hb1.trans (hb2.mono hb1.size)) (fun _ hx => hx) hE)
 have HX := Lib.hid (fun w2 (hb2 : Below w1.heap.size w1 w2) => (show Own w0 X w2 d M ∧ (∀ b, X b → w2.heap[b]? = w.heap[b]?) from ⟨hO1.below hb2, fun b hx => (hb1.trans (hb2.mono hb1.size)).block b (h.blocks b hx)⟩))
 have Hnt := Lib.hid hnt
 have Hnm := Lib.hid hnm
 have HB := Lib.hid (fun (W : World) (hW : ∀ b, X b → W.heap[b]? = w.heap[b]?) => hB.moved (fun h0 x hx => hW _ (hp h0 x hx)))
 have Hp := Lib.hid hp
 have Hb1 := Lib.hid hb1
 have Hb := Lib.hid hb
 have HN := Lib.hid (And.intro h1 hN)
 have HU := Lib.hid hU
 clear h hw1 hb1 hz1 hB1 hO1 hnt hnm hB hp hb h1 hN hU
 unfold compV
 go_enter Tryz.func88, Tryz.ntmps88
 go_wp2_with fail
 rw [← Hw1.out]
 go_wp2_with fail
 obtain ⟨w2, hw2⟩ : ∃ w2, w2 = w1.alloc (.cells #[.func (.func 130) #[.agg #[.pointer (some ⟨d, 0, none⟩), .int .i64 (N : Int), .slice p m c]] #[], .func (.func 131) #[.agg #[.pointer (some ⟨d, 0, none⟩), .int .i64 (N : Int), .slice p m c]] #[], .func (.func 132) #[.agg #[.pointer (some ⟨d, 0, none⟩), .int .i64 (N : Int), .slice p m c]] #[], .func (.func 133) #[.agg #[.pointer (some ⟨d, 0, none⟩), .int .i64 (N : Int), .slice p m c]] #[], .func (.func 134) #[.agg #[.pointer (some ⟨d, 0, none⟩), .int .i64 (N : Int), .slice p m c]] #[], .func (.func 135) #[.agg #[.pointer (some ⟨d, 0, none⟩), .int .i64 (N : Int), .slice p m c]] #[]] 189) := ⟨_, rfl⟩
 rw [← hw2]
 have hb2 : Below w1.heap.size w1 w2 := by rw [hw2]; exact (Below.refl _ _).alloc (Nat.le_refl _) _
 have HO2 := Lib.hid (HX.out w2 hb2).1
 have Hk2 := Lib.hid (HX.out w2 hb2).2
 have HEnd := Lib.hid (fun M' w' hE => hk1.out M' w2 hb2 w' hE)
 clear hw2 hb2 HX hk1 k0 k1 k2 kf Hw1
 go_loopw [21] (fun i wr => TakeRel w0 X d w2 M N b i wr) (fun i _ => 6 - (intOf i).toNat)
 case atStart => exact ⟨M, ⟨HO2.out, fun _ _ => rfl, Below.refl _ _, Nat.le_refl _⟩, .inl ⟨rfl, rfl⟩⟩
 case round =>
  obtain ⟨M', hE, ⟨rfl, rfl⟩ | ⟨rfl, hst⟩ | ⟨rfl, hst⟩ | ⟨rfl, hst⟩ | ⟨rfl, hst⟩ | ⟨rfl, hst⟩ | ⟨rfl, hst⟩⟩ := hrel
  ·have h900 := Hnt.out.small.files
   obtain ⟨r, hr⟩ : ∃ r, r = stepsM (cleanM [newB] M) M := ⟨_, rfl⟩
   have HC := Lib.hid (t_clear hE.1 (by have := Hnt.out.small.files; omega) (by have := Hnt.out.small.files; omega) (N : Int) p m c)
   rw [← hr] at HC
   unfold compV at HC
   have hnx : stepsM (stOps M N b 1) M = r := by rw [st_one, hr]
   have HNx := Lib.hid (fun (hz : r.2 = 0) => (show stepsM (stOps M N b 1) M = (r.1, 0) from by rw [hnx, ← hz]))
   have HFx := Lib.hid (fun (hz : r.2 ≠ 0) => st_fail (j := 1) hnx hz)
   clear hnx
   have Hq2 := Lib.hid (fun w5 (q : OwnEnd w0 X wr d r.1 w5) => hE.then q)
   clear hE hr
   have hix := fun w => step_at (.agg #[.pointer (some ⟨d, 0, none⟩), .int .i64 (N : Int), .slice p m c]) w 0 (by omega)
   rw [show ((0 : Nat) : Int) = 0 from rfl, show stepFn (.agg #[.pointer (some ⟨d, 0, none⟩), .int .i64 (N : Int), .slice p m c]) 0 = .func (.func 130) #[.agg #[.pointer (some ⟨d, 0, none⟩), .int .i64 (N : Int), .slice p m c]] #[] from rfl] at hix
   go_wp2_with fail
   clear hix
   refine HC.out.mono ?_
   rintro e w5 ⟨rfl, hq⟩
   have Hq := Lib.hid (Hq2.out w5 hq)
   clear hq
   by_cases hz : r.2 = 0
   ·have hz1 : (r.2 != 0) = false := by simp [hz]
    have HN2 := Lib.hid (HNx.out hz)
    clear hz
    go_wp2
    go_roundw
    case rel => exact ⟨r.1, Hq.out, .inr (.inl ⟨by first | rfl | go_num, HN2.out⟩)⟩
    case measure => simp [intOf]
   ·have hz1 : (r.2 != 0) = true := by simp [hz]
    have HF2 := Lib.hid (HFx.out hz)
    clear hz
    go_wp2
    go_ret
    exact ⟨r, HF2.out, rfl, HEnd.out _ _ Hq.out⟩
  ·obtain ⟨f1, f2, f3⟩ := st_facts Hnt.out Hnm.out (by decide) hst
   have Hf3 := Lib.hid f3
   clear f3
   have hUU := HU.out
   have hbb := Hb.out
   obtain ⟨r, hr⟩ : ∃ r, r = createM newB M' := ⟨_, rfl⟩
   have HC := Lib.hid (t_create hE.1 (by omega) (N : Int) p m c)
   rw [← hr] at HC
   unfold compV at HC
   have hnx : stepsM (stOps M N b 2) M = r := by rw [st_next (j := 1) (by decide) rfl hst, hr]; rfl
   have HNx := Lib.hid (fun (hz : r.2 = 0) => (show stepsM (stOps M N b 2) M = (r.1, 0) from by rw [hnx, ← hz]))
   have HFx := Lib.hid (fun (hz : r.2 ≠ 0) => st_fail (j := 2) hnx hz)
   clear hnx
   have Hq2 := Lib.hid (fun w5 (q : OwnEnd w0 X wr d r.1 w5) => hE.then q)
   clear hE hr hst
   have hix := fun w => step_at (.agg #[.pointer (some ⟨d, 0, none⟩), .int .i64 (N : Int), .slice p m c]) w 1 (by omega)
   rw [show ((1 : Nat) : Int) = 1 from rfl, show stepFn (.agg #[.pointer (some ⟨d, 0, none⟩), .int .i64 (N : Int), .slice p m c]) 1 = .func (.func 131) #[.agg #[.pointer (some ⟨d, 0, none⟩), .int .i64 (N : Int), .slice p m c]] #[] from rfl] at hix
   go_wp2_with fail
   clear hix
   refine HC.out.mono ?_
   rintro e w5 ⟨rfl, hq⟩
   have Hq := Lib.hid (Hq2.out w5 hq)
   clear hq
   by_cases hz : r.2 = 0
   ·have hz1 : (r.2 != 0) = false := by simp [hz]
    have HN2 := Lib.hid (HNx.out hz)
    clear hz
    go_wp2
    go_roundw
    case rel => exact ⟨r.1, Hq.out, .inr (.inr (.inl ⟨by first | rfl | go_num, HN2.out⟩))⟩
    case measure => simp [intOf]
   ·have hz1 : (r.2 != 0) = true := by simp [hz]
    have HF2 := Lib.hid (HFx.out hz)
    clear hz
    go_wp2
    go_ret
    exact ⟨r, HF2.out, rfl, HEnd.out _ _ Hq.out⟩
  ·obtain ⟨f1, f2, f3⟩ := st_facts Hnt.out Hnm.out (by decide) hst
   have Hf3 := Lib.hid f3
   clear f3
   have hUU := HU.out
   have hbb := Hb.out
   obtain ⟨r, hr⟩ : ∃ r, r = appendM newB b M' := ⟨_, rfl⟩
   have HC := Lib.hid (t_fill hE.1 (N : Int) p m c b (HB.out wr (fun x hx => (hE.2.1 x hx).trans (Hk2.out x hx))) Hp.out (by omega))
   rw [← hr] at HC
   unfold compV at HC
   have hnx : stepsM (stOps M N b 3) M = r := by rw [st_next (j := 2) (by decide) rfl hst, hr]; rfl
   have HNx := Lib.hid (fun (hz : r.2 = 0) => (show stepsM (stOps M N b 3) M = (r.1, 0) from by rw [hnx, ← hz]))
   have HFx := Lib.hid (fun (hz : r.2 ≠ 0) => st_fail (j := 3) hnx hz)
   clear hnx
   have Hq2 := Lib.hid (fun w5 (q : OwnEnd w0 X wr d r.1 w5) => hE.then q)
   clear hE hr hst
   have hix := fun w => step_at (.agg #[.pointer (some ⟨d, 0, none⟩), .int .i64 (N : Int), .slice p m c]) w 2 (by omega)
   rw [show ((2 : Nat) : Int) = 2 from rfl, show stepFn (.agg #[.pointer (some ⟨d, 0, none⟩), .int .i64 (N : Int), .slice p m c]) 2 = .func (.func 132) #[.agg #[.pointer (some ⟨d, 0, none⟩), .int .i64 (N : Int), .slice p m c]] #[] from rfl] at hix
   go_wp2_with fail
   clear hix
   refine HC.out.mono ?_
   rintro e w5 ⟨rfl, hq⟩
   have Hq := Lib.hid (Hq2.out w5 hq)
   clear hq
   by_cases hz : r.2 = 0
   ·have hz1 : (r.2 != 0) = false := by simp [hz]
    have HN2 := Lib.hid (HNx.out hz)
    clear hz
    go_wp2
    go_roundw
    case rel => exact ⟨r.1, Hq.out, .inr (.inr (.inr (.inl ⟨by first | rfl | go_num, HN2.out⟩)))⟩
    case measure => simp [intOf]
   ·have hz1 : (r.2 != 0) = true := by simp [hz]
    have HF2 := Lib.hid (HFx.out hz)
    clear hz
    go_wp2
    go_ret
    exact ⟨r, HF2.out, rfl, HEnd.out _ _ Hq.out⟩
  ·obtain ⟨f1, f2, f3⟩ := st_facts Hnt.out Hnm.out (by decide) hst
   have Hf3 := Lib.hid f3
   clear f3
   have hUU := HU.out
   have hbb := Hb.out
   obtain ⟨r, hr⟩ : ∃ r, r = syncM newB M' := ⟨_, rfl⟩
   have HC := Lib.hid (t_sync hE.1 (N : Int) p m c)
   rw [← hr] at HC
   unfold compV at HC
   have hnx : stepsM (stOps M N b 4) M = r := by rw [st_next (j := 3) (by decide) rfl hst, hr]; rfl
   have HNx := Lib.hid (fun (hz : r.2 = 0) => (show stepsM (stOps M N b 4) M = (r.1, 0) from by rw [hnx, ← hz]))
   have HFx := Lib.hid (fun (hz : r.2 ≠ 0) => st_fail (j := 4) hnx hz)
   clear hnx
   have Hq2 := Lib.hid (fun w5 (q : OwnEnd w0 X wr d r.1 w5) => hE.then q)
   clear hE hr hst
   have hix := fun w => step_at (.agg #[.pointer (some ⟨d, 0, none⟩), .int .i64 (N : Int), .slice p m c]) w 3 (by omega)
   rw [show ((3 : Nat) : Int) = 3 from rfl, show stepFn (.agg #[.pointer (some ⟨d, 0, none⟩), .int .i64 (N : Int), .slice p m c]) 3 = .func (.func 133) #[.agg #[.pointer (some ⟨d, 0, none⟩), .int .i64 (N : Int), .slice p m c]] #[] from rfl] at hix
   go_wp2_with fail
   clear hix
   refine HC.out.mono ?_
   rintro e w5 ⟨rfl, hq⟩
   have Hq := Lib.hid (Hq2.out w5 hq)
   clear hq
   by_cases hz : r.2 = 0
   ·have hz1 : (r.2 != 0) = false := by simp [hz]
    have HN2 := Lib.hid (HNx.out hz)
    clear hz
    go_wp2
    go_roundw
    case rel => exact ⟨r.1, Hq.out, .inr (.inr (.inr (.inr (.inl ⟨by first | rfl | go_num, HN2.out⟩))))⟩
    case measure => simp [intOf]
   ·have hz1 : (r.2 != 0) = true := by simp [hz]
    have HF2 := Lib.hid (HFx.out hz)
    clear hz
    go_wp2
    go_ret
    exact ⟨r, HF2.out, rfl, HEnd.out _ _ Hq.out⟩
  ·obtain ⟨f1, f2, f3⟩ := st_facts Hnt.out Hnm.out (by decide) hst
   have Hf3 := Lib.hid f3
   clear f3
   have hUU := HU.out
   have hbb := Hb.out
   obtain ⟨r, hr⟩ : ∃ r, r = renameM newB (nmB N) M' := ⟨_, rfl⟩
   have HC := Lib.hid (t_number hE.1 (by omega) N HN.out.1 HN.out.2 p m c)
   rw [← hr] at HC
   unfold compV at HC
   have hnx : stepsM (stOps M N b 5) M = r := by rw [st_next (j := 4) (by decide) rfl hst, hr]; rfl
   have HNx := Lib.hid (fun (hz : r.2 = 0) => (show stepsM (stOps M N b 5) M = (r.1, 0) from by rw [hnx, ← hz]))
   have HFx := Lib.hid (fun (hz : r.2 ≠ 0) => st_fail (j := 5) hnx hz)
   clear hnx
   have Hq2 := Lib.hid (fun w5 (q : OwnEnd w0 X wr d r.1 w5) => hE.then q)
   clear hE hr hst
   have hix := fun w => step_at (.agg #[.pointer (some ⟨d, 0, none⟩), .int .i64 (N : Int), .slice p m c]) w 4 (by omega)
   rw [show ((4 : Nat) : Int) = 4 from rfl, show stepFn (.agg #[.pointer (some ⟨d, 0, none⟩), .int .i64 (N : Int), .slice p m c]) 4 = .func (.func 134) #[.agg #[.pointer (some ⟨d, 0, none⟩), .int .i64 (N : Int), .slice p m c]] #[] from rfl] at hix
   go_wp2_with fail
   clear hix
   refine HC.out.mono ?_
   rintro e w5 ⟨rfl, hq⟩
   have Hq := Lib.hid (Hq2.out w5 hq)
   clear hq
   by_cases hz : r.2 = 0
   ·have hz1 : (r.2 != 0) = false := by simp [hz]
    have HN2 := Lib.hid (HNx.out hz)
    clear hz
    go_wp2
    go_roundw
    case rel => exact ⟨r.1, Hq.out, .inr (.inr (.inr (.inr (.inr (.inl ⟨by first | rfl | go_num, HN2.out⟩)))))⟩
    case measure => simp [intOf]
   ·have hz1 : (r.2 != 0) = true := by simp [hz]
    have HF2 := Lib.hid (HFx.out hz)
    clear hz
    go_wp2
    go_ret
    exact ⟨r, HF2.out, rfl, HEnd.out _ _ Hq.out⟩
  ·obtain ⟨f1, f2, f3⟩ := st_facts Hnt.out Hnm.out (by decide) hst
   have Hf3 := Lib.hid f3
   clear f3
   have hUU := HU.out
   have hbb := Hb.out
   obtain ⟨out', ho'⟩ := segs_ex M'
   obtain ⟨r, hr⟩ : ∃ r, r = stepsM (oldOps out' N) M' := ⟨_, rfl⟩
   have HC := Lib.hid (t_old hE.1 (by omega) Hf3.out ho' N p m c)
   rw [← hr] at HC
   unfold compV at HC
   have hcomp := st_last HN.out.2 hst ho' hr
   have HNx := Lib.hid (fun (hz : r.2 = 0) => (show IsComp M N b (r.1, 0) from by rw [← hz]; exact hcomp))
   have HFx := Lib.hid (fun (_ : r.2 ≠ 0) => hcomp)
   clear hcomp ho'
   have Hq2 := Lib.hid (fun w5 (q : OwnEnd w0 X wr d r.1 w5) => hE.then q)
   clear hE hr hst
   have hix := fun w => step_at (.agg #[.pointer (some ⟨d, 0, none⟩), .int .i64 (N : Int), .slice p m c]) w 5 (by omega)
   rw [show ((5 : Nat) : Int) = 5 from rfl, show stepFn (.agg #[.pointer (some ⟨d, 0, none⟩), .int .i64 (N : Int), .slice p m c]) 5 = .func (.func 135) #[.agg #[.pointer (some ⟨d, 0, none⟩), .int .i64 (N : Int), .slice p m c]] #[] from rfl] at hix
   go_wp2_with fail
   clear hix
   refine HC.out.mono ?_
   rintro e w5 ⟨rfl, hq⟩
   have Hq := Lib.hid (Hq2.out w5 hq)
   clear hq
   by_cases hz : r.2 = 0
   ·have hz1 : (r.2 != 0) = false := by simp [hz]
    have HN2 := Lib.hid (HNx.out hz)
    clear hz
    go_wp2
    go_roundw
    case rel => exact ⟨r.1, Hq.out, .inr (.inr (.inr (.inr (.inr (.inr (⟨by first | rfl | go_num, HN2.out⟩))))))⟩
    case measure => simp [intOf]
   ·have hz1 : (r.2 != 0) = true := by simp [hz]
    have HF2 := Lib.hid (HFx.out hz)
    clear hz
    go_wp2
    go_ret
    exact ⟨r, HF2.out, rfl, HEnd.out _ _ Hq.out⟩
  ·have HE := Lib.hid hE
   have Hst := Lib.hid hst
   clear hE hst
   go_wp2
   go_ret
   exact ⟨(M', 0), Hst.out, rfl, HEnd.out _ _ HE.out⟩
end
end Go.Proofs.YtnbddiiedagllaaGreat

/- The walks of slices.Grow of no slice and of slices.Concat of two slices, of byte slices. -/
namespace Go.Proofs.YtnbddiiedagllaaGreat
open Go.RowKit

section
variable {P : Program}

theorem wpList_append_rows {w : World} {ops : Array Oper} {rest : List Oper} {o : Oper} {a : Act} {Q : Exit → Act → World → Prop} (hgd : o.guard = none) (s x : Operand) (t : TypeId)
  (ho : o.op = .call { callee := .builtin .append, args := #[s, x], argTypes := #[t, t] })
  (ht : P.underlying t = some (.slice 58)) (hinfo : (P.info? 58).map (fun i => (i.zero, i.size, i.bytes)) = some (some (.slice none 0 0), 1, 24))
  {w0 : World} {v : Value} {ls ms : List (List Nat)} (hs : a.eval s = v) (hown : OwnParts w w0.heap.size v ls)
  {p : Option Addr} {m c : Nat} (hx : a.eval x = .slice p m c) (hP : Parts w0 p m c ms) (hb : Below w0.heap.size w0 w) (hn : ls.length + m ≤ 1000000000)
  (h : ∀ v' w', OwnParts w' w0.heap.size v' (ls ++ ms) → Below w0.heap.size w0 w' → wpList P ops Q rest (a.put o.dst v') w') : wpList P ops Q (o :: rest) a w := by
 obtain ⟨i, hi, hz, hsz, hby⟩ := info_parts hinfo
 rcases Nat.eq_zero_or_pos m with rfl | hm
 ·have hm0 : ms = [] := List.length_eq_zero_iff.1 hP.len
  obtain ⟨q, k, rfl, hq⟩ := hown.parts
  have hr : (Builtin.append_ #[t, t] o.type #[.slice q ls.length k, .slice p 0 c]).run P w = .ok (.slice q ls.length k) w := by
   refine run_append_nothing w t t o.type 58 i ht hi q ls.length k hq.le (.slice p 0 c) ?_
   cases p with
   | none => exact Src.ofNil w ht c
   | some ad => exact Src.ofSlice w ht ad 0 c [] (by simp) (fun j u h => by simp at h) (fun u h => by simp at h)
  refine wpList_plain hgd fun K hK => ?_
  unfold Oper.wp execOp
  simp only [ho, resolve, invoke, builtin, Sem.run_bind, Sem.run_pure, Result.andThen_ok, List.map_toArray, List.map_cons, List.map_nil, hs, hx, hr]
  refine hK _ _ (h _ w ?_ hb)
  rw [hm0, List.append_nil]
  exact hown
 ·obtain ⟨b, off, rfl, hblt, hc⟩ := hP.cell hm
  obtain ⟨vs, hlen, hrow, hel⟩ := hown
  have hadd : ∀ (x y j : Nat), (⟨x, y, none⟩ : Addr).add j = ⟨x, y + j, none⟩ := fun x y j => by unfold Addr.add; split <;> simp_all
  obtain ⟨us, hus⟩ : ∃ us : List Value, us = (List.range m).map fun i => (w0.cell? ⟨b, off + i, none⟩).getD undef := ⟨_, rfl⟩
  have hul : us.length = m := by rw [hus]; simp
  have hu : ∀ i, i < m → ∃ a' n' c', us[i]? = some (.slice a' n' c') ∧ w.cell? ⟨b, off + i, none⟩ = some (.slice a' n' c') ∧ Bytes w0 a' n' c' (ms.getD i []) := by
   intro i hi
   obtain ⟨a', n', c', h1, h2⟩ := hc i hi
   refine ⟨a', n', c', ?_, by rw [hb.cell (p := ⟨b, off + i, none⟩) hblt]; exact h1, h2⟩
   rw [hus, List.getElem?_map, List.getElem?_range hi]
   simp [h1]
  refine wpList_append_own_at w hgd s x t ho w0.heap.size 58 i (.slice none 0 0) 1 24 ht hi hz hsz hby rfl (by decide) v ls.length vs hs hrow ⟨b, off, none⟩ m c us hx (by rw [hul]; omega) ?_ ?_ (by rw [maxLen_nat]; omega) (by omega) hb.size ?_
  ·intro j u hj
   have hjm : j < m := by rw [← hul]; exact (List.getElem?_eq_some_iff.1 hj).1
   obtain ⟨a', n', c', h1, h2, _⟩ := hu j hjm
   rw [hadd, h2, ← h1, hj]
  ·intro u huu
   obtain ⟨j, hj, rfl⟩ := List.getElem_of_mem huu
   obtain ⟨a', n', c', h1, _, _⟩ := hu j (by rw [← hul]; exact hj)
   rw [List.getElem?_eq_getElem hj] at h1
   rw [Option.some.inj h1]
   rfl
  ·intro v' w' g1 g2 _ g4
   refine h v' w' (OwnParts.app hlen hel (by rw [hul]; exact hP.len.symm) (fun i hi => ?_) (by rw [hP.len]; exact g1) g2 g4) (hb.grown g2 hb.size (fun k hk => (hrow.lt k hk).1))
   obtain ⟨a', n', c', h1, _, h3⟩ := hu i (by rw [← hP.len]; exact hi)
   refine ⟨a', n', c', h1, h3.grow hb, fun hn' y hy e => ?_⟩
   have h4 := (hrow.lt y.block e.symm).1
   obtain ⟨b', o', e2, hc'⟩ := h3.cell hn'
   have h5 := World.block_lt_of_cell? _ _ (hc' 0 hn')
   rw [hy] at e2
   cases e2
   simp only at h4 h5
   omega
end

end Go.Proofs.YtnbddiiedagllaaGreat

/- The walks of Join, of the code and of the reference. -/
namespace Go.Proofs.YtnbddiiedagllaaGreat
open Go.RowKit Crc

def JoinRel (w : World) (ls : List (List Nat)) (v i : Value) (wr : World) : Prop :=
 ∃ k : Nat, k ≤ ls.length ∧ i = .int .i64 k ∧ wr.ownsRow w.heap.size 5 1 v (joinL (ls.take k)).length (u8s (joinL (ls.take k))) ∧ Below w.heap.size w wr

theorem joinL_take {ls : List (List Nat)} {k : Nat} (h : k < ls.length) : joinL (ls.take (k + 1)) = joinL (ls.take k) ++ frameL (ls.getD k []) := by
 rw [List.take_succ_eq_append_getElem h, joinL_snoc, List.getD_eq_getElem?_getD, List.getElem?_eq_getElem h]
 rfl

theorem joinL_take_le {ls : List (List Nat)} {k : Nat} : (joinL (ls.take k)).length ≤ (joinL ls).length := by
 conv => rhs; rw [← List.take_append_drop k ls, joinL_append, List.length_append]
 omega

theorem joinRel_step {w wr w1 : World} {ls : List (List Nat)} {v v' : Value} {k n' : Nat} {l : List Nat} (hk : k < ls.length) (hl : ls.getD k [] = l) (hn : (frameL l).length = n')
  (hown : wr.ownsRow w.heap.size 5 1 v (joinL (ls.take k)).length (u8s (joinL (ls.take k)))) (hbel : Below w.heap.size w wr)
  (g1 : w1.ownsRow w.heap.size 5 1 v' ((joinL (ls.take k)).length + n') (u8s (joinL (ls.take k) ++ frameL l))) (g2 : wr.grownBy w1 v.ownBlock) : JoinRel w ls v' (.int .i64 ((k : Int) + 1)) w1 := by
 subst hl
 subst hn
 refine ⟨k + 1, hk, by go_num, ?_, hbel.grown g2 hbel.size (fun x hx => (hown.lt x hx).1)⟩
 rw [joinL_take hk, List.length_append]
 exact g1

def JoinEnd (w : World) (ls : List (List Nat)) (e : Ending) (w' : World) : Prop :=
 ∃ v, e = .returned (.tuple #[v, .bool true]) ∧ OwnBytes w w' v (joinL ls)

theorem rec_at {ls : List (List Nat)} {k : Nat} (h : ∀ r ∈ ls, r.length ≤ 1048576) : (ls.getD k []).length ≤ 1048576 := by
 rw [List.getD_eq_getElem?_getD]
 by_cases hk : k < ls.length
 ·rw [List.getElem?_eq_getElem hk]
  exact h _ (List.getElem_mem _)
 ·rw [List.getElem?_eq_none (by omega)]
  exact Nat.zero_le _

set_option maxHeartbeats 800000 in
theorem join_any (a : Option Addr) (n cap : Nat) (ls : List (List Nat)) (w : World) (hl : Parts w a n cap ls) (hr : ∀ r ∈ ls, r.length ≤ 1048576) (hm : (joinL ls).length ≤ 100000000000000) :
  Calls Tryz.prog 86 #[.slice a n cap] w (JoinEnd w ls) := by
 have hls := Lib.hid hl.len
 have hnb := hl.max
 have hP := Lib.hid hl
 have Hr := Lib.hid hr
 clear hl hr
 go_enter Tryz.func86, Tryz.ntmps86
 go_wp2
 go_loopw [4, 11] (fun v i wr => JoinRel w ls v i wr) (fun _ i _ => n - (intOf i).toNat)
 case atStart => exact ⟨0, Nat.zero_le _, rfl, World.ownsRow_nil _ _ _ _, Below.refl _ _⟩
 case round =>
  obtain ⟨k, hk, rfl, hown, hbel⟩ := hrel
  by_cases hlt : k < n
  ·obtain ⟨b, o, a', n', c', rfl, hc, hB⟩ := bytes_get_all (hP.out.grow hbel) hlt
   have h1 := joinL_take_le (ls := ls) (k := k + 1)
   rw [joinL_take (by rw [hls.out]; exact hlt), List.length_append, frameL_len, hB.len] at h1
   have hc5 : (joinL (ls.take k)).length + (n' + 8) ≤ 140737488355328 := by omega
   have hn' : n' ≤ 1048576 := by rw [← hB.len]; exact rec_at Hr.out
   have HB := Lib.hid hB
   generalize hgl : ls.getD k [] = l at HB
   have Hgl := Lib.hid hgl
   have Hown := Lib.hid hown
   have HM := Lib.hid (make_yes a' n' c' l wr HB.out hn')
   have Hfl : (frameL l).length = n' + 8 := by rw [frameL_len, HB.out.len]
   have Hfl := Lib.hid Hfl
   clear hB hgl h1 hown
   go_wp2_with fail
   refine HM.out.mono ?_
   rintro e w1 ⟨v2, rfl, hown2, hb2⟩
   obtain ⟨p, cp, rfl, hC⟩ := own_slice hown2 (frameL_byte HB.out.byte (by rw [HB.out.len]; omega))
   have hown1 := own_below Hown.out hb2
   have hb1 := hbel.trans (hb2.mono hbel.size)
   rw [Hfl.out] at hC ⊢
   have HC := Lib.hid hC
   have Hown1 := Lib.hid hown1
   clear hown2 hC hown1 HM
   go_wp2_with (at_builtin; refine wpList_append_bytes _ rfl _ _ 58 rfl w.heap.size 5 Tryz.underlying58 info_u8 _ _ _ rfl Hown1.out p (n' + 8) cp (frameL l) rfl HC.out hc5 hb1.size ?_; intro v' w3 g1 g2)
   go_roundw
   case rel => exact joinRel_step (by rw [hls.out]; exact hlt) Hgl.out Hfl.out Hown1.out hb1 g1 g2
   case measure => simp [intOf]; omega
  ·have hkn : k = ls.length := by have := hls.out; omega
   have ht : ls.take k = ls := by rw [hkn, List.take_length]
   rw [ht] at hown
   have Hown := Lib.hid hown
   clear ht hkn hown
   go_wp2
   go_ret2
   exact ⟨_, rfl, Hown.out, hbel⟩

set_option maxHeartbeats 800000 in
theorem rjoin_any (a : Option Addr) (n cap : Nat) (ls : List (List Nat)) (w : World) (hl : Parts w a n cap ls) (hr : ∀ r ∈ ls, r.length ≤ 1048576) (hm : (joinL ls).length ≤ 100000000000000) :
  Calls Tryz.prog 91 #[.slice a n cap] w (JoinEnd w ls) := by
 have hls := Lib.hid hl.len
 have hnb := hl.max
 have hP := Lib.hid hl
 have Hr := Lib.hid hr
 clear hl hr
 go_enter Tryz.func91, Tryz.ntmps91
 go_wp2
 go_loopw [4, 5] (fun v i wr => JoinRel w ls v i wr) (fun _ i _ => n - (intOf i).toNat)
 case atStart => exact ⟨0, Nat.zero_le _, rfl, World.ownsRow_nil _ _ _ _, Below.refl _ _⟩
 case round =>
  obtain ⟨k, hk, rfl, hown, hbel⟩ := hrel
  by_cases hlt : k < n
  ·obtain ⟨b, o, a', n', c', rfl, hc, hB⟩ := bytes_get_all (hP.out.grow hbel) hlt
   have h1 := joinL_take_le (ls := ls) (k := k + 1)
   rw [joinL_take (by rw [hls.out]; exact hlt), List.length_append, frameL_len, hB.len] at h1
   have hc5 : (joinL (ls.take k)).length + (n' + 8) ≤ 140737488355328 := by omega
   have hn' : n' ≤ 1048576 := by rw [← hB.len]; exact rec_at Hr.out
   have HB := Lib.hid hB
   generalize hgl : ls.getD k [] = l at HB
   have Hgl := Lib.hid hgl
   have Hown := Lib.hid hown
   have HM := Lib.hid (rmake_yes a' n' c' l wr HB.out hn')
   have Hfl : (frameL l).length = n' + 8 := by rw [frameL_len, HB.out.len]
   have Hfl := Lib.hid Hfl
   clear hB hgl h1 hown
   go_wp2_with fail
   refine HM.out.mono ?_
   rintro e w1 ⟨v2, rfl, hown2, hb2⟩
   obtain ⟨p, cp, rfl, hC⟩ := own_slice hown2 (frameL_byte HB.out.byte (by rw [HB.out.len]; omega))
   have hown1 := own_below Hown.out hb2
   have hb1 := hbel.trans (hb2.mono hbel.size)
   rw [Hfl.out] at hC ⊢
   have HC := Lib.hid hC
   have Hown1 := Lib.hid hown1
   clear hown2 hC hown1 HM
   go_wp2_with (at_builtin; refine wpList_append_bytes _ rfl _ _ 58 rfl w.heap.size 5 Tryz.underlying58 info_u8 _ _ _ rfl Hown1.out p (n' + 8) cp (frameL l) rfl HC.out hc5 hb1.size ?_; intro v' w3 g1 g2)
   go_roundw
   case rel => exact joinRel_step (by rw [hls.out]; exact hlt) Hgl.out Hfl.out Hown1.out hb1 g1 g2
   case measure => simp [intOf]; omega
  ·have hkn : k = ls.length := by have := hls.out; omega
   have ht : ls.take k = ls := by rw [hkn, List.take_length]
   rw [ht] at hown
   have Hown := Lib.hid hown
   clear ht hkn hown
   go_wp2
   go_ret2
   exact ⟨_, rfl, Hown.out, hbel⟩
end Go.Proofs.YtnbddiiedagllaaGreat

/- The walks of what Compact asks of the records: whether one is a mark, the records behind a mark, their size. -/
namespace Go.Proofs.YtnbddiiedagllaaGreat
open Go.RowKit

theorem tismark_any (a : Option Addr) (n c : Nat) (w : World) : Calls Tryz.prog 85 #[.slice a n c] w fun e w' => e = .returned (.bool (decide (n = 0))) ∧ w = w' := by
 have h9 : ((n : Int) == 0) = decide (n = 0) := by
  by_cases e : n = 0
  ·subst e; rfl
  ·rw [decide_eq_false e, beq_eq_false_iff_ne]
   omega
 go_enter Tryz.func85, Tryz.ntmps85
 go_wp2
 go_ret
 exact ⟨by first | rfl | rw [← h9], rfl⟩

def markV : Value := .func (.func 85) #[] #[]

def IdxEnd (ls : List (List Nat)) (e : Ending) : Prop := ∃ z : Int, e = .returned (.int .i64 z) ∧ (0 ≤ z ↔ [] ∈ ls) ∧ -1 ≤ z ∧ z ≤ 9223372036854775807

set_option maxRecDepth 100000 in
theorem indexMark_any (a : Option Addr) (n cap : Nat) (ls : List (List Nat)) (w : World) (hl : Parts w a n cap ls) :
  Calls Tryz.prog 129 #[.slice a n cap, markV] w fun e w' => IdxEnd ls e ∧ w = w' := by
 have hls := Lib.hid hl.len
 have hnb := hl.max
 have hP := Lib.hid hl
 clear hl
 unfold markV
 go_enter Tryz.func129, Tryz.ntmps129
 go_wp2
 go_loop [8] (fun i => ∃ k : Nat, k ≤ n ∧ i = .int .i64 k ∧ [] ∉ ls.take k) (fun i => n - (intOf i).toNat)
 case atStart => exact ⟨0, Nat.zero_le _, rfl, by simp⟩
 case round =>
  obtain ⟨k, hk, rfl, hno⟩ := hrel
  by_cases hlt : k < n
  ·obtain ⟨b, o, a', n', c', rfl, hc, hB⟩ := bytes_get_all hP.out hlt
   have hkl : k < ls.length := by rw [hls.out]; exact hlt
   have hts := List.take_succ_eq_append_getElem hkl
   have hgd : ls.getD k [] = ls[k] := by rw [List.getD_eq_getElem?_getD, List.getElem?_eq_getElem hkl]; rfl
   rw [hgd] at hB
   have hln := hB.len
   have hin := List.getElem_mem hkl
   generalize ls[k] = l at *
   have HM := Lib.hid (fun W => tismark_any a' n' c' W)
   by_cases h0 : n' = 0
   ·have hl0 : l = [] := List.length_eq_zero_iff.1 (by omega)
    have Hin := Lib.hid (show ([] : List Nat) ∈ ls from by rw [← hl0]; exact hin)
    have hd : decide (n' = 0) = true := decide_eq_true h0
    rw [hd] at HM
    clear hts hgd hB hln hin hno hl0 h0 hd hkl
    go_wp2_with fail
    refine (HM.out _).mono ?_
    rintro e w' ⟨rfl, rfl⟩
    go_wp2
    go_ret
    exact ⟨⟨(k : Int), rfl, ⟨fun _ => Hin.out, fun _ => by omega⟩, by omega, by omega⟩, rfl⟩
   ·have hd : decide (n' = 0) = false := decide_eq_false h0
    rw [hd] at HM
    have Hno := Lib.hid (show ([] : List Nat) ∉ ls.take (k + 1) from by
     rw [hts]
     intro h
     rcases List.mem_append.1 h with h | h
     ·exact hno h
     ·have := List.mem_singleton.1 h
      rw [← this] at hln
      exact h0 hln.symm)
    clear hts hgd hB hln hin hno h0 hd hkl
    go_wp2_with fail
    refine (HM.out _).mono ?_
    rintro e w' ⟨rfl, rfl⟩
    go_wp2
    go_round
    case rel => exact ⟨k + 1, by omega, by go_num, Hno.out⟩
    case measure => simp [intOf]; omega
  ·obtain rfl : k = n := by omega
   have Hno := Lib.hid (show ([] : List Nat) ∉ ls from by rw [← hls.out, List.take_length] at hno; exact hno)
   clear hno hlt
   go_wp2
   go_ret
   exact ⟨⟨-1, rfl, ⟨fun h => by omega, fun h => absurd h Hno.out⟩, by omega, by omega⟩, rfl⟩

set_option maxRecDepth 100000 in
theorem hasMark_any (a : Option Addr) (n cap : Nat) (ls : List (List Nat)) (w : World) (hl : Parts w a n cap ls) :
  Calls Tryz.prog 84 #[.slice a n cap, markV] w fun e w' => e = .returned (.bool (decide ([] ∈ ls))) ∧ w = w' := by
 have HI := Lib.hid (indexMark_any a n cap ls w hl)
 unfold markV at *
 clear hl
 go_enter Tryz.func84, Tryz.ntmps84
 go_wp2_with fail
 refine HI.out.mono ?_
 rintro e w' ⟨⟨z, rfl, hz, h1, h2⟩, rfl⟩
 by_cases h0 : 0 ≤ z
 ·have hd := Lib.hid (decide_eq_true (hz.1 h0))
  clear hz
  go_wp2
  go_ret
  rw [hd.out]
  exact ⟨rfl, rfl⟩
 ·have hd := Lib.hid (decide_eq_false (fun h => h0 (hz.2 h)))
  have hz0 : decide (0 ≤ z) = false := decide_eq_false h0
  clear hz
  go_wp2
  go_ret
  rw [hd.out]
  exact ⟨by first | rfl | rw [hz0], rfl⟩

theorem ownRow_one (w : World) : OwnParts (w.alloc (.cells #[.slice none 0 0] 58)) w.heap.size (.slice (some ⟨w.heap.size, 0, none⟩) 1 1) [[]] := by
 refine ⟨[.slice none 0 0], rfl, ⟨rfl, .inr ⟨w.heap.size, 1, _, rfl, Nat.le_refl _, heap_alloc_new _ _, Nat.le_refl _, by rw [maxLen_nat]; omega, rfl, rfl⟩⟩, fun i hi => ?_⟩
 obtain rfl : i = 0 := by simpa using hi
 exact ⟨none, 0, 0, rfl, ⟨rfl, Nat.le_refl _, Nat.zero_le _, (fun _ h => by cases h), fun _ => rfl, fun h => absurd h (Nat.lt_irrefl _)⟩, fun h => absurd h (Nat.lt_irrefl _)⟩

set_option maxRecDepth 100000 in
theorem marked_any (a : Option Addr) (n cap : Nat) (ls : List (List Nat)) (w : World) (hl : Parts w a n cap ls) (hn : n ≤ 1000000) :
  Calls Tryz.prog 87 #[.slice a n cap] w fun e w' => ∃ a' c', e = .returned (.slice a' (n + 1) c') ∧ Parts w' a' (n + 1) c' ([] :: ls) ∧ Below w.heap.size w w' := by
 have hP := Lib.hid hl
 have hls := Lib.hid hl.len
 have Ho := Lib.hid (ownRow_one w)
 have Hb := Lib.hid ((Below.refl w.heap.size w).alloc (Nat.le_refl _) (.cells #[.slice none 0 0] 58))
 clear hl
 go_enter Tryz.func87, Tryz.ntmps87
 go_wp2_with (at_builtin; refine wpList_append_rows rfl _ _ 29 rfl Tryz.underlying29 info_rows rfl Ho.out rfl hP.out Hb.out (by show 1 + n ≤ 1000000000; omega) ?_; intro v' w' h1 h2)
 obtain ⟨a', c', rfl, hQ⟩ := h1.parts
 have HQ := Lib.hid hQ
 have Hb2 := Lib.hid h2
 have hl2 : ([[]] ++ ls).length = n + 1 := by rw [List.length_append, hls.out]; show 1 + n = n + 1; omega
 rw [hl2] at HQ ⊢
 clear h1 h2 hQ hl2
 go_wp2
 go_ret
 exact ⟨_, _, rfl, HQ.out, Hb2.out⟩

theorem sizeL_mark (ls : List (List Nat)) : sizeL ([] :: ls) = sizeL ls + 8 := by rw [sizeL_cons]; simp; omega

end Go.Proofs.YtnbddiiedagllaaGreat

