import Derived.Test.YtnbddiiedagllaaGreatSSB33
import Derived.Test.YtnbddiiedagllaaGreatSSB36
import Derived.Deep.RegionHeld3
import Derived.WalkMore
import Derived.Deep.DeepCutAuto
import Derived.Deep.CutBlock
/- The walk of the reference's Find, on a disk that is up. -/
namespace Go.Proofs.YtnbddiiedagllaaGreat
open Go.RowKit Go.Maps Go.Shelf

attribute [local go_sem ↓] Go.wp_at_zero Go.wp_at_succ

def logRV (aa : Option Addr) (an ac : Nat) (first last : Int) (va : Option Addr) (vn vc : Nat) (size torn code : Int) : Value := .agg #[.slice aa an ac, .int .i64 first, .int .i64 last, .slice va vn vc, .int .i64 size, .int .i64 torn, .int .i64 code]

def RFindEnd (X : Nat → Prop) (w : World) (ps : List PS) (e : Ending) (w' : World) : Prop :=
 ((ps = [] ∧ e = .returned (logRV none 0 0 0 0 none 0 0 0 0 0)) ∨ ∃ k, FirstAt ps k ∧ ((¬ Good (ps.drop k) ∧ e = .returned (logRV none 0 0 0 0 none 0 0 0 0 11)) ∨
  (Good (ps.drop k) ∧ ∃ aa ac va vn vc, ∃ h : k < ps.length, e = .returned (logRV aa ps.length ac ps[k].n (ps[ps.length - 1]'(by omega)).n va vn vc (sizeL (ps[ps.length - 1]'(by omega)).ls : Nat) ((ps[ps.length - 1]'(by omega)).t.length : Nat) 0) ∧
   Ints w' aa ps.length ac (ps.map PS.n) ∧ PartsZ (fun b => X b ∨ w.heap.size ≤ b) w' w.heap.size (.slice va vn vc) (recsL (ps.drop k))))) ∧ Below w.heap.size w w'

theorem box7 {w : World} {B : Nat} {v0 v1 v2 v3 v4 v5 v6 : Value} {t : TypeId} (h : w.heap[B]? = some (.cells #[v0, v1, v2, v3, v4, v5, v6] t (0, 0))) :
  w.cell? ⟨B, 0, none⟩ = some v0 ∧ w.cell? ⟨B, 1, none⟩ = some v1 ∧ w.cell? ⟨B, 2, none⟩ = some v2 ∧ w.cell? ⟨B, 3, none⟩ = some v3 ∧ w.cell? ⟨B, 4, none⟩ = some v4 ∧ w.cell? ⟨B, 5, none⟩ = some v5 ∧ w.cell? ⟨B, 6, none⟩ = some v6 ∧ ∀ i, w.frozen? ⟨B, i, none⟩ = false := by
 refine ⟨?_, ?_, ?_, ?_, ?_, ?_, ?_, fun i => by simp [World.frozen?, h]⟩ <;> (rw [cell_of_row _ _ _ _ _ (0, 0) h]; rfl)

def LogBox (B : Nat) (p3 : Option Addr) (n3 k3 : Nat) (first last : Int) (va : Option Addr) (vn vc : Nat) (size torn : Int) (w : World) : Prop :=
 w.heap[B]? = some (.cells #[.slice p3 n3 k3, .int .i64 first, .int .i64 last, .slice va vn vc, .int .i64 size, .int .i64 torn, .int .i64 0] 35 (0, 0))

theorem rest_filter {ls : List (List Nat)} (h : ∀ i (hi : i < ls.length), ls[i] = [] → i = 0) : [] ∉ restOf ls ∧ ls.filter (fun r => decide (r ≠ [])) = restOf ls := by
 match ls with
 | [] => exact ⟨by simp [restOf, markOf], by simp [restOf, markOf]⟩
 | r :: ls =>
  have ht : ∀ x ∈ ls, x ≠ [] := by
   intro x hx e
   obtain ⟨i, hi, rfl⟩ := List.getElem_of_mem hx
   have := h (i + 1) (by simp; omega) (by simpa using e)
   omega
  have hf : ls.filter (fun r => decide (r ≠ [])) = ls := List.filter_eq_self.2 (fun x hx => by simpa using ht x hx)
  by_cases hr : r = []
  ·subst hr
   have e : restOf ([] :: ls) = ls := rfl
   rw [e]
   exact ⟨fun hm => ht _ hm rfl, by rw [List.filter_cons_of_neg (by simp), hf]⟩
  ·have hm : markOf (r :: ls) = false := decide_eq_false hr
   have e : restOf (r :: ls) = r :: ls := by unfold restOf; rw [hm]; rfl
   rw [e]
   refine ⟨fun hm => ?_, by rw [List.filter_cons_of_pos (by simpa using hr), hf]⟩
   rcases List.mem_cons.1 hm with h1 | h1
   ·exact hr h1.symm
   ·exact ht _ h1 rfl

theorem mem_rest {ls : List (List Nat)} {m : Nat} (hm : m < ls.length) (he : ls[m] = []) (h : 0 < m ∨ markOf ls = false) : [] ∈ restOf ls := by
 unfold restOf
 by_cases hk : markOf ls = true
 ·rw [if_pos hk]
  have h0 : 0 < m := by
   rcases h with h | h
   ·exact h
   ·rw [hk] at h; cases h
  rw [← he]
  have : ls[m] = ls.tail[m - 1]'(by rw [List.length_tail]; omega) := by rw [List.getElem_tail]; congr 1; omega
  rw [this]
  exact List.getElem_mem _
 ·rw [if_neg hk, ← he]
  exact List.getElem_mem hm

def GoodP (ps : List PS) (k i : Nat) (h : i < ps.length) : Prop := (∀ h0 : k < i, ps[i].n = (ps[i - 1]'(by omega)).n + 1) ∧ (i + 1 < ps.length → ps[i].t = []) ∧ [] ∉ ps[i].recs

theorem good_drop {ps : List PS} {k : Nat} : Good (ps.drop k) ↔ ∀ i (h : i < ps.length), k ≤ i → GoodP ps k i h := by
 have hl : (ps.drop k).length = ps.length - k := List.length_drop
 constructor
 ·intro hg i hi hk
  obtain ⟨h1, h2, h3⟩ := hg (i - k) (by omega)
  have e : (ps.drop k)[i - k]'(by omega) = ps[i] := by rw [List.getElem_drop]; congr 1; omega
  rw [e] at h1 h2 h3
  refine ⟨fun h0 => ?_, fun h => h2 (by omega), h3⟩
  have h4 := h1 (by omega)
  have e2 : (ps.drop k)[i - k - 1]'(by omega) = ps[i - 1]'(by omega) := by rw [List.getElem_drop]; congr 1; omega
  rw [e2] at h4
  exact h4
 ·intro hg i hi
  obtain ⟨h1, h2, h3⟩ := hg (k + i) (by omega) (by omega)
  unfold GoodAt
  rw [List.getElem_drop]
  refine ⟨fun h0 => ?_, fun h => h2 (by omega), h3⟩
  have h4 := h1 (by omega)
  rw [List.getElem_drop]
  have e2 : ps[k + i - 1]'(by omega) = ps[k + (i - 1)]'(by omega) := by congr 1; omega
  rw [← e2]
  exact h4

theorem step_append_one {ops : Array Oper} {o : Oper} {a : Act} {w : World} {K : Act → World → Prop} {Q : Exit → Act → World → Prop} {E : Prop} (hgd : o.guard = none) (s x : Operand)
  (ho : o.op = .call { callee := .builtin .append, args := #[s, x], argTypes := #[29, 29] })
  (base : Nat) (v : Value) (n : Nat) (vs : List Value) (hs : a.eval s = v) (hown : w.ownsRow base 58 1 v n vs)
  (g : Nat) (u : Value) (hx : a.eval x = .slice (some ⟨g, 0, none⟩) 1 1) (hu : w.cell? ⟨g, 0, none⟩ = some u) (h1 : u.oneCell' = true)
  (hn : n ≤ 20000000) (hbase : base ≤ w.heap.size)
  (h : ∀ v' w', w'.ownsRow base 58 1 v' (n + 1) (vs ++ [u]) → w.grownBy w' v.ownBlock → (v'.ownBlock = v.ownBlock ∨ v'.ownBlock = some w.heap.size) → K (a.put o.dst v') w') :
  if Region.wanted o (yielded ops a.tmps) = true then Oper.wp Tryz.prog o a w K Q else E := by
 obtain ⟨i, hi, hz, hsz, hby⟩ := info_parts info_rows
 obtain ⟨v', w', hr, h2, h3, _, h5⟩ := run_append_own_at (P := Tryz.prog) w base 29 o.type 58 i (.slice none 0 0) 1 24 Tryz.underlying29 hi hz hsz hby rfl (by decide) v n vs hown ⟨g, 0, none⟩ 1 1 [u] rfl (fun j u' hu' => by
  match j with
  | 0 => cases hu'; rw [addr_add]; exact hu
  | j + 1 => simp at hu') (by simpa using h1) (by rw [maxLen_nat]; omega) (by omega) hbase
 rw [if_pos (by simp [Region.wanted, hgd])]
 unfold Oper.wp execOp
 simp only [ho, resolve, invoke, builtin, Sem.run_bind, Sem.run_pure, Result.andThen_ok, List.map_toArray, List.map_cons, List.map_nil, hs, hx, hr]
 exact h v' w' h2 h3 h5

theorem filter_next {ls : List (List Nat)} {m : Nat} {q : List Nat} (h : ls[m]? = some q) : (ls.take (m + 1)).filter (fun r => decide (r ≠ [])) = (ls.take m).filter (fun r => decide (r ≠ [])) ++ (if q = [] then [] else [q]) := by
 obtain ⟨hm, rfl⟩ := List.getElem?_eq_some_iff.1 h
 rw [List.take_succ_eq_append_getElem hm, List.filter_append]
 congr 1
 by_cases e : ls[m] = []
 ·rw [if_pos e, List.filter_cons_of_neg (by simp [e])]; rfl
 ·rw [if_neg e, List.filter_cons_of_pos (by simp [e])]; rfl

theorem mem_rest' {ls : List (List Nat)} {m : Nat} {q : List Nat} (hm : ls[m]? = some q) (he : q = []) (h : 0 < m ∨ markOf ls = false) : [] ∈ restOf ls := by
 obtain ⟨hlt, rfl⟩ := List.getElem?_eq_some_iff.1 hm
 exact mem_rest hlt he h

theorem rf_append {B s0 s5 s6 : Nat} {w3 wc w8 : World} {ob : Obj} {p3 ua xa a1 : Option Addr} {n3 k3 un uc xn xc n1 c1 g' cap' : Nat} {first last size torn : Int} {acc ls : List (List Nat)} {qv : List Nat} {vs : List Value} {P : Nat → Prop} (hP0 : ∀ b, P b → b < s0) (h03 : s0 + 1 ≤ B) (h35 : B + 1 ≤ s5) (h6 : s6 ≤ wc.heap.size)
  (hL : LogBox B p3 n3 k3 first last ua un uc size torn wc) (hO : ∀ q, (Value.slice ua un uc).ownBlock = some q → B + 1 ≤ q ∧ (q < s5 ∨ s6 ≤ q))
  (hR : RecsZ (fun b => (s5 ≤ b ∧ b < s6) ∨ P b) wc xa xn xc ls) (hb : Below B w3 wc) (hBy : Bytes wc a1 n1 c1 qv) (hBz : 0 < n1 → ∀ x, a1 = some x → ((s5 ≤ x.block ∧ x.block < s6) ∨ P x.block))
  (hlen : vs.length = acc.length) (hel : ∀ i, i < acc.length → ∃ a n c, vs[i]? = some (.slice a n c) ∧ Bytes (wc.alloc ob) a n c (acc.getD i []) ∧ (0 < n → ∀ x, a = some x → some x.block ≠ (Value.slice ua un uc).ownBlock ∧ ((x.block ≠ B ∧ x.block ≠ s0 + 1) ∧ (P x.block ∨ s0 ≤ x.block))))
  (hown : w8.ownsRow (B + 1) 58 1 (.slice (some ⟨g', 0, none⟩) (acc.length + 1) cap') (acc.length + 1) (vs ++ [.slice a1 n1 c1]))
  (hg : (wc.alloc ob).drew.grownBy w8 (Value.slice ua un uc).ownBlock) (hblk : (Value.slice (some ⟨g', 0, none⟩) (acc.length + 1) cap').ownBlock = (Value.slice ua un uc).ownBlock ∨ (Value.slice (some ⟨g', 0, none⟩) (acc.length + 1) cap').ownBlock = some (wc.alloc ob).drew.heap.size) :
  LogBox B p3 n3 k3 first last (some ⟨g', 0, none⟩) (acc.length + 1) cap' size torn (w8.setCell ⟨B, 3, none⟩ (.slice (some ⟨g', 0, none⟩) (acc.length + 1) cap')) ∧
   PartsZ (fun b => (b ≠ B ∧ b ≠ s0 + 1) ∧ (P b ∨ s0 ≤ b)) (w8.setCell ⟨B, 3, none⟩ (.slice (some ⟨g', 0, none⟩) (acc.length + 1) cap')) (B + 1) (.slice (some ⟨g', 0, none⟩) (acc.length + 1) cap') (acc ++ [qv]) ∧
   (∀ q, (Value.slice (some ⟨g', 0, none⟩) (acc.length + 1) cap').ownBlock = some q → B + 1 ≤ q ∧ (q < s5 ∨ s6 ≤ q)) ∧
   RecsZ (fun b => (s5 ≤ b ∧ b < s6) ∨ P b) (w8.setCell ⟨B, 3, none⟩ (.slice (some ⟨g', 0, none⟩) (acc.length + 1) cap')) xa xn xc ls ∧
   Below B w3 (w8.setCell ⟨B, 3, none⟩ (.slice (some ⟨g', 0, none⟩) (acc.length + 1) cap')) ∧ s6 ≤ (w8.setCell ⟨B, 3, none⟩ (.slice (some ⟨g', 0, none⟩) (acc.length + 1) cap')).heap.size := by
 have hza : (wc.alloc ob).drew.heap.size = wc.heap.size + 1 := World.size_alloc _ _
 have hba : Below wc.heap.size wc (wc.alloc ob).drew := ((Below.refl _ _).alloc (Nat.le_refl _) _).drew
 have hBl : B < wc.heap.size := (Array.getElem?_eq_some_iff.1 hL).1
 have hzg := hg.size
 have hmv : ∀ b, b ≠ B → b < wc.heap.size → (∀ q, (Value.slice ua un uc).ownBlock = some q → b ≠ q) → (w8.setCell ⟨B, 3, none⟩ (.slice (some ⟨g', 0, none⟩) (acc.length + 1) cap')).heap[b]? = wc.heap[b]? := fun b h1 h2 h3 =>
  (Below.heap_setCell w8 ⟨B, 3, none⟩ _ b h1).trans ((hg.block b (by omega) (fun e => h3 b e.symm rfl)).trans (hba.block b h2))
 have hZ3 : ∀ b, ((s5 ≤ b ∧ b < s6) ∨ P b) → ((b ≠ B ∧ b ≠ s0 + 1) ∧ (P b ∨ s0 ≤ b)) ∧ (∀ q, (Value.slice ua un uc).ownBlock = some q → b ≠ q) := fun b h => by
  rcases h with h | h
  ·exact ⟨⟨by omega, .inr (by omega)⟩, fun q hq => by have := hO q hq; omega⟩
  ·have h0 := hP0 b h
   exact ⟨⟨by omega, .inl h⟩, fun q hq => by have := hO q hq; omega⟩
 refine ⟨?_, ?_, ?_, ?_, ?_, ?_⟩
 ·have h8 := (hg.block B (by omega) (fun e => by have := (hO B e.symm).1; omega)).trans ((hba.block B hBl).trans hL)
  have h := set_head (i := 3) h8 (.slice (some ⟨g', 0, none⟩) (acc.length + 1) cap')
  unfold LogBox
  simpa using h
 ·have hs := PartsZ.snoc (w := (wc.alloc ob).drew) (Z := fun b => (b ≠ B ∧ b ≠ s0 + 1) ∧ (P b ∨ s0 ≤ b)) hlen (fun i hi => by obtain ⟨a, n, c, e1, e2, e3⟩ := hel i hi; exact ⟨a, n, c, e1, e2.grow (Below.drew (Below.refl _ _)), e3⟩) (hBy.grow hba) (fun h0 x hx => ⟨fun e => (hZ3 _ (hBz h0 x hx)).2 _ e.symm rfl, (hZ3 _ (hBz h0 x hx)).1⟩) hown hg hblk
  exact hs.same (fun b hb' => Below.heap_setCell w8 ⟨B, 3, none⟩ _ b (by show b ≠ B; omega)) (fun b hb' => Below.heap_setCell w8 ⟨B, 3, none⟩ _ b hb'.1.1) (fun _ h => h)
 ·intro q hq
  rcases hblk with e | e
  ·exact hO q (e.symm.trans hq)
  ·rw [e] at hq
   have := Option.some.inj hq
   omega
 ·have hl := hR.lt
  exact hl.moved (fun b hb' => hmv b (hZ3 b hb'.1).1.1.1 hb'.2 (hZ3 b hb'.1).2) (by simp only [World.size_setCell]; omega) (fun b hb' => hb'.1)
 ·exact ((hb.trans (hba.mono (by omega))).grown hg (by omega) (fun q hq => by have := (hO q hq).1; omega)).setCell (Nat.le_refl _) _
 ·simp only [World.size_setCell]; omega

theorem Ints.same {w w' : World} {a : Option Addr} {n c : Nat} {l : List Int} (h : Ints w a n c l) (hk : ∀ x, a = some x → w'.heap[x.block]? = w.heap[x.block]?) : Ints w' a n c l := by
 refine ⟨h.len, h.le, h.capmax, h.nil, fun hn => ?_⟩
 obtain ⟨b, o, rfl, hc⟩ := h.cell hn
 exact ⟨b, o, rfl, fun i hi => (World.cell?_of_block (a := ⟨b, o + i, none⟩) (hk ⟨b, o, none⟩ rfl)).trans (hc i hi)⟩

def put7 (w : World) (B : Nat) (v0 v1 v2 v3 v4 v5 v6 : Value) : World :=
 (((((((w.setCell ⟨B, 0, none⟩ v0).setCell ⟨B, 1, none⟩ v1).setCell ⟨B, 2, none⟩ v2).setCell ⟨B, 3, none⟩ v3).setCell ⟨B, 4, none⟩ v4).setCell ⟨B, 5, none⟩ v5).setCell ⟨B, 6, none⟩ v6)

theorem put7_other (w : World) {B b : Nat} (h : b ≠ B) (v0 v1 v2 v3 v4 v5 v6 : Value) : (put7 w B v0 v1 v2 v3 v4 v5 v6).heap[b]? = w.heap[b]? := by
 unfold put7
 rw [Below.heap_setCell _ _ _ _ h, Below.heap_setCell _ _ _ _ h, Below.heap_setCell _ _ _ _ h, Below.heap_setCell _ _ _ _ h, Below.heap_setCell _ _ _ _ h, Below.heap_setCell _ _ _ _ h, Below.heap_setCell _ _ _ _ h]

theorem put7_below {n : Nat} {w0 w : World} {B : Nat} (h : Below n w0 w) (hn : n ≤ B) (v0 v1 v2 v3 v4 v5 v6 : Value) : Below n w0 (put7 w B v0 v1 v2 v3 v4 v5 v6) :=
 ((((((h.setCell hn _).setCell hn _).setCell hn _).setCell hn _).setCell hn _).setCell hn _).setCell hn _

theorem take_drop_next {ps : List PS} {k j : Nat} (hj : j < ps.length) (hk : k ≤ j) : (ps.take (j + 1)).drop k = (ps.take j).drop k ++ [ps[j]] := by
 rw [List.take_succ_eq_append_getElem hj, List.drop_append_of_le_length (by rw [List.length_take]; omega)]

set_option maxRecDepth 100000 in
set_option maxHeartbeats 6400000 in
theorem rfind9_any {X : Nat → Prop} {w : World} {v : Value} {M : DM} (h : RefAt X w v M) (hX : ∀ b, X b → b < w.heap.size) (hd : M.down = false) (hl : M.fs.length ≤ 1000) (hu : usedF M.fs ≤ 10000) (hnm : ∀ f ∈ M.fs, f.n.length ≤ 9223372036854775807) (ps : List PS) (hA : AllOf M ps) :
  Calls Tryz.prog 16 #[v] w (RFindEnd X w ps) := by
 obtain ⟨a, n, c, R, rfl, hR, hfs, hn⟩ := h
 obtain ⟨w1, hw1⟩ : ∃ w1, w1 = (w.alloc (.cells #[.int .i64 (M.room : Int), .slice a n c, .int .i64 (M.plan : Int), .bool M.down] 25)).alloc (.cells #[.slice none 0 0, .int .i64 0, .int .i64 0, .slice none 0 0, .int .i64 0, .int .i64 0, .int .i64 0] 35) := ⟨_, rfl⟩
 have hb1 : Below w.heap.size w w1 := by rw [hw1]; exact ((Below.refl _ _).alloc (Nat.le_refl _) _).alloc (by simp) _
 have hz1 : w1.heap.size = w.heap.size + 2 := by rw [hw1]; simp
 have hd1 : w1.heap[w.heap.size]? = some (.cells #[.int .i64 (M.room : Int), .slice a n c, .int .i64 (M.plan : Int), .bool M.down] 25 (0, 0)) := by rw [hw1]; exact (Below.heap_alloc _ _ _ (by simp)).trans (heap_alloc_new _ _)
 have hr1 : w1.heap[w.heap.size + 1]? = some (.cells #[.slice none 0 0, .int .i64 0, .int .i64 0, .slice none 0 0, .int .i64 0, .int .i64 0, .int .i64 0] 35 (0, 0)) := by
  have h2 := heap_alloc_new (w.alloc (.cells #[.int .i64 (M.room : Int), .slice a n c, .int .i64 (M.plan : Int), .bool M.down] 25)) (.cells #[.slice none 0 0, .int .i64 0, .int .i64 0, .slice none 0 0, .int .i64 0, .int .i64 0, .int .i64 0] 35)
  rw [World.size_alloc] at h2
  rw [hw1]; exact h2
 have hR1 := hR.below hX hb1
 have hX1 : ∀ b, X b → b < w1.heap.size := fun b h => Nat.lt_of_lt_of_le (hX b h) hb1.size
 have HNm := Lib.hid (rnames_any (M := M) (w := w1) ⟨a, n, c, R, rfl, hR1, hfs, hn⟩ hX1)
 have HBy := Lib.hid (fun W (hW : Below w1.heap.size w1 W) => rbytes_any (M := M) (hR1.below hX1 hW) (fun b hb => Nat.lt_of_lt_of_le (hX1 b hb) hW.size))
 have HR := Lib.hid (fun W (hW : Below w1.heap.size w1 W) => hR1.below hX1 hW)
 have HX := Lib.hid hX
 have HSF := Lib.hid (fun p (hp : p ∈ ps) => seg_file hA hfs hd hp)
 have HA := Lib.hid hA
 have Hb1 := Lib.hid hb1
 have Hr1 := Lib.hid hr1
 have Hd1 := Lib.hid hd1
 have Hl := Lib.hid hl
 have Hu := Lib.hid hu
 have Hnm := Lib.hid hnm
 obtain ⟨e0, e1, e2, e3, ef⟩ := box4c hd1
 have Hmany := Lib.hid (allOf_many hA hu)
 obtain ⟨i0, hi, hz0, hz1, hz2⟩ := info_parts info_rows
 unfold refV at *
 have hdn := hd
 rw [hd] at e3 hw1 HBy Hd1 HNm
 have Hz1 := Lib.hid hz1
 clear hR hR1 hX hX1 hfs hl hu hnm hb1 hr1 hd1 hA hd hz1
 generalize (M.plan : Int) = pl at *
 generalize (M.room : Int) = ro at *
 rw [hdn]
 clear hdn
 go_enter Tryz.func16, Tryz.ntmps16
 go_wp2_with fail
 rw [← hw1]
 clear hw1
 refine HNm.out.mono ?_
 rintro e w2 ⟨v2, rfl, hown2, hb2⟩
 obtain ⟨p2, k2, rfl, hS2⟩ := strs_row hown2 (fun n hn => by obtain ⟨f, hf, rfl⟩ := List.mem_map.1 hn; exact Hnm.out f hf)
 have HSl := Lib.hid (rseglist_any p2 M.fs.length k2 _ w2 hS2 Hl.out)
 have Hb2 := Lib.hid hb2
 clear hown2 hS2 hb2
 go_wp2_with fail
 refine HSl.out.mono ?_
 rintro e w3 ⟨v3, out, rfl, hasc, hmem, hol, hown3, hb3⟩
 have hmap : (M.fs.map F.n).map nmL = M.fs.map fun f => nmL f.n := by rw [List.map_map]; rfl
 rw [hmap] at hmem
 obtain rfl : out = ps.map PS.n := segsOf_uniq ⟨hasc, hmem⟩ HA.out.1
 obtain ⟨p3, k3, rfl, hI⟩ := own_ints hown3
 have hpn : ps.length ≤ 1000 := by have := Hl.out; simp only [List.length_map] at hol; omega
 rw [List.length_map] at hI
 have HI := Lib.hid hI
 have Hge3 := Lib.hid (own_ge5 hown3)
 have Hb3 := Lib.hid (Hb2.out.trans (hb3.mono Hb2.out.size))
 have hr3 := (Hb3.out.block _ (Array.getElem?_eq_some_iff.1 Hr1.out).1).trans Hr1.out
 have Hr3 := Lib.hid hr3
 rw [List.length_map]
 clear hasc hmem hown3 hb3 hmap hol
 by_cases hp0 : ps = []
 ·subst hp0
  obtain ⟨c0, c1, c2, c3, c4, c5, c6, cf⟩ := box7 hr3
  clear hI hr3
  go_wp2
  refine bodyPost_ret (v := logRV none 0 0 0 0 none 0 0 0 0 0) ?_ rfl ⟨.inl ⟨rfl, rfl⟩, ?_⟩
  ·rw [resultsN_one rfl]
   go_simp
   rfl
  ·have hb := Hb1.out.trans (Hb3.out.mono Hb1.out.size)
   exact ((((((hb.setCell (Nat.le_succ _) _).setCell (Nat.le_succ _) _).setCell (Nat.le_succ _) _).setCell (Nat.le_succ _) _).setCell (Nat.le_succ _) _).setCell (Nat.le_succ _) _).setCell (Nat.le_succ _) _
 have hplen : 0 < ps.length := List.length_pos_iff.2 hp0
 have hpz : ((ps.length : Int) == 0) = false := by rw [beq_eq_false_iff_ne]; omega
 obtain ⟨q, hq⟩ : ∃ q, q = ps.length - 1 := ⟨_, rfl⟩
 have hqi : (ps.length : Int) - 1 = (q : Int) := by omega
 have hqm : (q : Int) < (ps.length : Int) := by omega
 obtain ⟨b, o, rfl, hc0⟩ := hI.cell hplen
 have hcn : ∀ i (h : i < ps.length), w3.cell? ⟨b, o + i, none⟩ = some (.int .i64 ps[i].n) := fun i h => by
  rw [hc0 i h, List.getD_eq_getElem?_getD, List.getElem?_map, List.getElem?_eq_getElem h]; rfl
 have k0 := hcn 0 hplen
 rw [Nat.add_zero] at k0
 obtain ⟨z0, hz0⟩ : ∃ z, z = ps[0].n := ⟨_, rfl⟩
 have hql : q < ps.length := by omega
 obtain ⟨zq, hzq⟩ : ∃ z, z = (ps[q]'hql).n := ⟨_, rfl⟩
 rw [← hz0] at k0
 have kq := hcn q hql
 rw [← hzq] at kq
 have Hz0 := Lib.hid hz0
 have Hzq := Lib.hid hzq
 have Hcn := Lib.hid hcn
 have hl0 : (0 : Int) < (ps.length : Int) := by omega
 have Hq := Lib.hid (show ps.length - 1 = q from hq.symm)
 clear hI hr3 hc0 hcn hp0 hz0 hzq
 clear hq
 go_wp2_with fail
 have k0o := fun ob => cell_keep ((Below.refl w3.heap.size w3).alloc (Nat.le_refl _) ob) k0
 have kqo := fun ob => cell_keep ((Below.refl w3.heap.size w3).alloc (Nat.le_refl _) ob) kq
 have hq1 : q ≤ 1000 := by omega
 go_region
 go_wp2_with fail
 clear k0o kqo
 have HK := Lib.hid (fun W (hW : Below w1.heap.size w1 W) => (show W.cell? ⟨w.heap.size, 0, none⟩ = some (.int .i64 ro) ∧ W.cell? ⟨w.heap.size, 1, none⟩ = some (.slice a n c) ∧ W.cell? ⟨w.heap.size, 2, none⟩ = some (.int .i64 pl) ∧ W.cell? ⟨w.heap.size, 3, none⟩ = some (.bool false) from
  ⟨cell_keep hW e0, cell_keep hW e1, cell_keep hW e2, cell_keep hW e3⟩))
 clear e0 e1 e2 e3 ef k0 kq
 go_loopw [5] (fun i wr => ∃ (j k : Nat), j ≤ ps.length ∧ i = .int .i64 (j : Int) ∧ (∃ hk : k < ps.length, (∀ i (h : i < ps.length), k < i → i < j → ps[i].mark = false) ∧ (k = 0 ∨ ps[k].mark = true) ∧ k ≤ j ∧ LogBox w3.heap.size (some ⟨b, o, none⟩) ps.length k3 ps[k].n zq none 0 0 0 0 wr) ∧ Below w3.heap.size w3 wr) (fun i _ => ps.length - (intOf i).toNat)
 case atStart =>
  refine ⟨0, 0, Nat.zero_le _, rfl, ⟨hplen, fun i h h1 h2 => absurd h2 (Nat.not_lt_zero _), .inl rfl, Nat.le_refl _, ?_⟩, ((Below.refl _ _).alloc (Nat.le_refl _) _).drew⟩
  rw [← Hz0.out]
  exact heap_alloc_new _ _
 case round =>
  obtain ⟨j, k, hj, rfl, ⟨hk, hun, hmk, hkj, hLB⟩, hb⟩ := hrel
  by_cases hlt : j < ps.length
  ·obtain ⟨N, y, hnN, hN1, hN2, hy, hyR, hyb, hys⟩ := HSF.out ps[j] (List.getElem_mem hlt)
   have hcj := cell_keep hb (Hcn.out j hlt)
   rw [hnN] at hcj
   have hbw1 := Hb3.out.trans (hb.mono Hb3.out.size)
   have HBW := Lib.hid hbw1
   obtain ⟨d0, d1, d2, d3⟩ := HK.out _ hbw1
   have Hby := Lib.hid (fun W (hW : Below w1.heap.size w1 W) => HBy.out W hW N hN1 hN2 y hy)
   have HfB := Lib.hid (fun W (hW : Below w1.heap.size w1 W) => ((HR.out W hW).files y hyR).bytes)
   have Hmk := Lib.hid (fun bb (h : MarkAt y.f.b bb) => markAt_split hys h)
   have hji : (j : Int) < (ps.length : Int) := by omega
   have Hun := Lib.hid hun
   have Hmk0 := Lib.hid hmk
   have HLB := Lib.hid hLB
   have Hb := Lib.hid hb
   clear hbw1 hy hyR hys hun hmk hb
   have HS := Lib.hid (fun W (hW : Below wr.heap.size wr W) => And.intro (cell_keep hW d0) (And.intro (cell_keep hW d1) (And.intro (cell_keep hW d2) (And.intro (cell_keep hW d3) (cell_keep hW hcj)))))
   have Hfl := Lib.hid (show y.f.b.length ≤ 100000000000000 from by
    have h1 := readM_len (nmB N) M
    have h2 := congrArg List.length (HA.out.2 ps[j] (List.getElem_mem hlt)).eq
    have h3 := congrArg List.length hyb
    have h4 := Hu.out
    rw [hnN, Int.toNat_natCast] at h2
    omega)
   clear d0 d1 d2 d3 hcj hyb
   generalize y.pa = ypa at *
   generalize hyl : y.f.b.length = yl at *
   generalize y.k = yk at *
   generalize y.f.b = yb at *
   clear hyl
   have Hlt := Lib.hid hlt
   go_wp2_with fail
   go_region_held3 (fun w' => w'.cell? ⟨w.heap.size, 0, none⟩ = some (.int .i64 ro) ∧ w'.cell? ⟨w.heap.size, 1, none⟩ = some (.slice a n c) ∧ w'.cell? ⟨w.heap.size, 2, none⟩ = some (.int .i64 pl) ∧ w'.cell? ⟨w.heap.size, 3, none⟩ = some (.bool false) ∧ w'.cell? ⟨b, o + j, none⟩ = some (.int .i64 (N : Int)))
    (first | exact HS.out _ hb5r | exact HS.out _ hb6r | exact HS.out _ (Below.drew (Below.refl _ _)))
    (first
     | (go_at_call 60; (with_reducible refine (Hby.out _ (Below.drew HBW.out)).mono ?_); rintro e w5 ⟨rfl, hb5⟩; have hb5r : Below wr.heap.size wr w5 := (Below.drew (Below.refl _ _)).trans hb5; have hb5w : Below w1.heap.size w1 w5 := HBW.out.trans (hb5r.mono HBW.out.size); have HM5 := Lib.hid (rmarked_any ypa yl yk yb w5 (HfB.out w5 hb5w) Hfl.out); clear hb5)
     | (go_at_call 59; (with_reducible refine HM5.out.mono ?_); rintro e w6 ⟨bb, rfl, hmb, hb6⟩; have hb6r : Below wr.heap.size wr w6 := hb5r.trans (hb6.mono hb5r.size); clear hb6))
   obtain rfl := Hmk.out bb hmb
   have hbr := hb6r
   have HLB6 := Lib.hid (show LogBox w3.heap.size (some ⟨b, o, none⟩) ps.length k3 ps[k].n zq none 0 0 0 0 w6 from (hb6r.block _ (Array.getElem?_eq_some_iff.1 HLB.out).1).trans HLB.out)
   have Hb6 := Lib.hid (Hb.out.trans (hb6r.mono Hb.out.size))
   obtain ⟨_, _, _, _, hcj⟩ := HS.out _ hb6r
   clear hb6r hmb hb5r hb5w hbr
   cases hmm : markOf ps[j].ls with
   | false =>
    have Hmm := Lib.hid (show ps[j].mark = false from hmm)
    clear hmm
    go_wp2
    go_roundw
    case rel =>
     refine ⟨j + 1, k, Hlt.out, by go_num, ⟨hk, fun i hi h1 h2 => ?_, Hmk0.out, by omega, HLB6.out⟩, Hb6.out⟩
     by_cases e : i = j
     ·subst e; exact Hmm.out
     ·exact Hun.out i hi h1 (by omega)
    case measure => simp [intOf]; have := Hlt.out; omega
   | true =>
    have Hmm := Lib.hid (show ps[j].mark = true from hmm)
    clear hmm
    obtain ⟨l0, l1, l2, l3, l4, l5, l6, lf⟩ := box7 HLB6.out
    go_wp2
    go_roundw
    case rel =>
     refine ⟨j + 1, j, Hlt.out, by go_num, ⟨Hlt.out, fun i hi h1 h2 => by omega, .inr Hmm.out, by omega, ?_⟩, Hb6.out.setCell (Nat.le_refl _) _⟩
     have h := set_head (i := 1) HLB6.out (.int .i64 (N : Int))
     rw [hnN]
     unfold LogBox
     simpa using h
    case measure => simp [intOf]; have := Hlt.out; omega
  ·obtain rfl : j = ps.length := by omega
   have hF : FirstAt ps k := ⟨hk, fun i hi h => hun i hi h hi, hmk⟩
   have hji : ¬ (ps.length : Int) < (ps.length : Int) := by omega
   have HF := Lib.hid hF
   have HLB := Lib.hid hLB
   have Hb := Lib.hid hb
   obtain ⟨wq, hwq⟩ : ∃ wq, wq = wr := ⟨_, rfl⟩
   subst hwq
   clear hun hmk hF hLB hb hkj
   go_wp2_with fail
   go_loopw [6] (fun i wr => ∃ (j : Nat) (va : Option Addr) (vn vc : Nat) (size torn : Int), j ≤ ps.length ∧ i = .int .i64 (j : Int) ∧ LogBox w3.heap.size (some ⟨b, o, none⟩) ps.length k3 ps[k].n zq va vn vc size torn wr ∧
    PartsZ (fun b => (b ≠ w3.heap.size ∧ b ≠ w.heap.size + 1) ∧ (X b ∨ w.heap.size ≤ b)) wr (w3.heap.size + 1) (.slice va vn vc) (recsL ((ps.take j).drop k)) ∧ (recsL ((ps.take j).drop k)).length ≤ j * 10000 ∧ (∀ i (h : i < ps.length), k ≤ i → i < j → GoodP ps k i h) ∧
    (k < j → ∃ h : j - 1 < ps.length, size = (sizeL (ps[j - 1]'h).ls : Nat) ∧ torn = ((ps[j - 1]'h).t.length : Nat)) ∧ Below w3.heap.size w3 wr ∧ w3.heap.size + 1 ≤ wr.heap.size) (fun i _ => ps.length - (intOf i).toNat)
   case atStart =>
    refine ⟨0, none, 0, 0, 0, 0, Nat.zero_le _, rfl, HLB.out, by simpa [recsL] using PartsZ.nil _ _ _, by simp [recsL], fun i h h1 h2 => absurd h2 (Nat.not_lt_zero _), fun h => absurd h (Nat.not_lt_zero _), Hb.out, (Array.getElem?_eq_some_iff.1 HLB.out).1⟩
   case round =>
    obtain ⟨j, va, vn, vc, size, torn, hj, rfl, hLB, hP, hPl, hgood, hst, hb, hbz⟩ := hrel
    by_cases hlt : j < ps.length
    ·have hcj := cell_keep hb (Hcn.out j hlt)
     have hji : (j : Int) < (ps.length : Int) := by omega
     have hkn := allOf_lt_iff HA.out hlt hk
     by_cases hjk : j < k
     ·have hlk : ps[j].n < ps[k].n := hkn.2 hjk
      obtain ⟨l0, l1, l2, l3, l4, l5, l6, lf⟩ := box7 hLB
      have HLB2 := Lib.hid hLB
      have HP := Lib.hid hP
      have Hb2 := Lib.hid hb
      have e1 : (ps.take (j + 1)).drop k = [] := List.drop_eq_nil_of_le (by rw [List.length_take]; omega)
      have e2 : (ps.take j).drop k = [] := List.drop_eq_nil_of_le (by rw [List.length_take]; omega)
      rw [e2] at HP
      have He1 := Lib.hid e1
      have Hlt := Lib.hid hlt
      have Hjk := Lib.hid hjk
      clear hLB hP hPl hgood hst hb e1 e2 hjk hkn
      generalize ps[j].n = nj at *
      go_wp2_with fail
      exact ⟨⟨j + 1, va, vn, vc, size, torn, Hlt.out, by go_num, HLB2.out, by rw [He1.out]; exact HP.out, by rw [He1.out]; simp [recsL], fun i _ h1 h2 => by have := Hjk.out; omega, fun h => by have := Hjk.out; omega, Hb2.out, hbz⟩, by simp [intOf]; have := Hlt.out; omega⟩
     ·have hkj : k ≤ j := by omega
      have hjk2 : ¬ ps[j].n < ps[k].n := fun h => hjk (hkn.1 h)
      obtain ⟨N, y, hnN, hN1, hN2, hy, hyR, hyb, hys⟩ := HSF.out ps[j] (List.getElem_mem hlt)
      have hyl1 : y.f.b.length ≤ 10000 := by
       have h1 := readM_len (nmB N) M
       have h2 := congrArg List.length (HA.out.2 ps[j] (List.getElem_mem hlt)).eq
       have h3 := congrArg List.length hyb
       have h4 := Hu.out
       rw [hnN, Int.toNat_natCast] at h2
       omega
      have hbw1 := Hb3.out.trans (hb.mono Hb3.out.size)
      have HBW := Lib.hid hbw1
      obtain ⟨l0, l1, l2, l3, l4, l5, l6, lf⟩ := box7 hLB
      have HLB2 := Lib.hid hLB
      have HP := Lib.hid hP
      have Hb2 := Lib.hid hb
      have HPl := Lib.hid hPl
      have Hgood := Lib.hid hgood
      have Hlt := Lib.hid hlt
      have Hkj := Lib.hid hkj
      have hkn2 := allOf_lt_iff HA.out hk hlt
      have hprev : ∀ h : k < j, wr.cell? ⟨b, o + (j - 1), none⟩ = some (.int .i64 (ps[j - 1]'(by omega)).n) := fun h => cell_keep hb (Hcn.out (j - 1) (by omega))
      have Hby := Lib.hid (fun W (hW : Below w1.heap.size w1 W) => HBy.out W hW N hN1 hN2 y hy)
      have HfB := Lib.hid (fun W (hW : Below w1.heap.size w1 W) => And.intro ((HR.out W hW).files y hyR).bytes ((HR.out W hW).files y hyR).form)
      have Hblk := Lib.hid (show ∀ z, y.pa = some z → 0 < y.f.b.length → X z.block from fun z hz h0 => ((HR.out w1 (Below.refl _ _)).files y hyR).blk h0 z hz)
      have Hnn := Lib.hid hnN
      rw [hnN] at hcj hjk2 hkn2
      clear hLB hP hPl hgood hst hb hjk hkn hbw1 hkj hy hyR
      go_upto_region 17 with fail
      go_cut [78] (fun t wx => t = .bool (decide (k < j ∧ (N : Int) ≠ (ps[j - 1]'(by have := Hlt.out; omega)).n + 1)) ∧ Below wr.heap.size wr wx)
      case first =>
       by_cases h : k < j
       ·have hlt2 : ps[k].n < (N : Int) := hkn2.2 h
        have hp := hprev h
        generalize (ps[j - 1]'(by have := Hlt.out; omega)).n = np at *
        generalize ps[k].n = fk at *
        have hjm : (j : Int) - 1 = ((j - 1 : Nat) : Int) := by omega
        have hjl : ((j - 1 : Nat) : Int) < (ps.length : Int) := by omega
        have hj1 : j - 1 ≤ 1000 := by omega
        have hN3 : (N : Int) ≤ 99999999 := by omega
        obtain ⟨jm, hjme⟩ : ∃ jm, jm = j - 1 := ⟨_, rfl⟩
        rw [← hjme] at hjm hjl hp hj1
        have Hh := Lib.hid h
        clear hprev hkn2 hjk2 hjme h
        go_wp2_with fail
        go_meet
        refine ⟨?_, Below.refl _ _⟩
        congr 1
        rw [Bool.eq_iff_iff]
        have := Hh.out
        simp only [bne_iff_ne, ne_eq, decide_eq_true_eq]
        omega
       ·have hlt2 : ¬ ps[k].n < (N : Int) := fun q => h (hkn2.1 q)
        generalize ps[k].n = fk at *
        have Hh := Lib.hid h
        clear hprev hkn2 hjk2 h
        go_wp2_with fail
        go_meet
        exact ⟨by rw [decide_eq_false (fun q => Hh.out q.1)], Below.refl _ _⟩
      case rest =>
       obtain ⟨rfl, hbx⟩ := hcut
       have hbcw := HBW.out.trans (hbx.mono HBW.out.size)
       have HBC := Lib.hid hbcw
       have Hb3c := Lib.hid (Hb2.out.trans (hbx.mono Hb2.out.size))
       have HLBc := Lib.hid (show LogBox w3.heap.size (some ⟨b, o, none⟩) ps.length k3 ps[k].n zq va vn vc size torn wc from (hbx.block _ (Array.getElem?_eq_some_iff.1 HLB2.out).1).trans HLB2.out)
       have HPc := Lib.hid (HP.out.grow hbx)
       have Hrc := Lib.hid ((hbcw.block _ (Array.getElem?_eq_some_iff.1 Hr1.out).1).trans Hr1.out)
       obtain ⟨d0, d1, d2, d3⟩ := HK.out _ hbcw
       have Hszc := Lib.hid (Nat.le_trans hbz hbx.size)
       clear hbx hbcw hprev hkn2 hjk2 l0 l1 l2 l3 l4 l5 l6 lf hcj hbz
       by_cases hbad : k < j ∧ (N : Int) ≠ (ps[j - 1]'(by have := Hlt.out; omega)).n + 1
       ·have HBad := Lib.hid (show ¬ Good (ps.drop k) from fun h => by
         have h1 := (good_drop.1 h j Hlt.out Hkj.out).1 hbad.1
         rw [Hnn.out] at h1
         exact hbad.2 h1)
        rw [decide_eq_true hbad]
        obtain ⟨r0, r1, r2, r3, r4, r5, r6, rf⟩ := box7 Hrc.out
        clear hbad
        go_wp2_with fail
        refine bodyPost_ret (v := logRV none 0 0 0 0 none 0 0 0 0 11) ?_ rfl ⟨.inr ⟨k, HF.out, .inl ⟨HBad.out, rfl⟩⟩, ?_⟩
        ·rw [resultsN_one rfl]
         go_simp
         rfl
        ·have hb := Hb1.out.trans (HBC.out.mono Hb1.out.size)
         exact ((((((hb.setCell (Nat.le_succ _) _).setCell (Nat.le_succ _) _).setCell (Nat.le_succ _) _).setCell (Nat.le_succ _) _).setCell (Nat.le_succ _) _).setCell (Nat.le_succ _) _).setCell (Nat.le_succ _) _
       ·rw [decide_eq_false hbad]
        have Hnb := Lib.hid hbad
        clear hbad
        have HfB2 := Lib.hid (fun W hW => (HfB.out W hW).1)
        have Hyb := Lib.hid hyb
        have Hys := Lib.hid hys
        clear hyb hys
        generalize y.pa = ypa at *
        generalize hyl : y.f.b.length = yl at *
        generalize y.k = yk at *
        generalize y.f.b = yb at *
        have Hyl := Lib.hid hyl
        clear hyl
        go_wp2_with fail
        refine (Hby.out _ HBC.out).mono ?_
        rintro e w5 ⟨rfl, hb5⟩
        have Hb5 := Lib.hid hb5
        have hb15 := HBC.out.trans (hb5.mono HBC.out.size)
        have HS5 := Lib.hid (rsplitZ_any ypa yl yk yb w5 (HfB2.out w5 hb15) (HfB.out w5 hb15).2 (by omega))
        have Hb15 := Lib.hid hb15
        clear hb5 hb15
        go_wp2_with fail
        refine HS5.out.mono ?_
        rintro e w6 ⟨ls, t, v6, hsp, rfl, hP6, hb6⟩
        obtain ⟨rfl, rfl⟩ := splits_uniq hsp Hys.out
        have hylt : yl = sizeL ps[j].ls + ps[j].t.length := by
         have h2 := congrArg List.length Hyb.out
         rw [List.length_append, joinL_len, Hyl.out] at h2
         exact h2
        have hZ6 : PartsZ (fun b => w5.heap.size ≤ b ∨ X b) w6 w5.heap.size v6 ps[j].ls := by
         rcases Nat.eq_zero_or_pos yl with e0 | e0
         ·obtain ⟨vs, g1, g2, g3⟩ := hP6
          have h0 : ps[j].ls.length = 0 := by
           have := joinL_many ps[j].ls
           rw [joinL_len] at this
           omega
          exact ⟨vs, g1, g2, fun i hi => absurd hi (by omega)⟩
         ·exact hP6.imp (fun b ⟨z, hz, e⟩ => .inr (by rw [e]; exact Hblk.out z hz e0))
        obtain ⟨xa, xc, rfl, hrec⟩ := hZ6.recs (fun _ h => .inl h)
        have hrl := hrec.lt
        have Hb6c := Lib.hid (Hb5.out.trans (hb6.mono Hb5.out.size))
        have hb6c := Hb6c.out
        have Hb36 := Lib.hid (Hb3c.out.trans (hb6c.mono Hb3c.out.size))
        have HLB6 := Lib.hid (show LogBox w3.heap.size (some ⟨b, o, none⟩) ps.length k3 ps[k].n zq va vn vc size torn w6 from (hb6c.block _ (Array.getElem?_eq_some_iff.1 HLBc.out).1).trans HLBc.out)
        have HP6 := Lib.hid (HPc.out.grow hb6c)
        have Hr6 := Lib.hid ((hb6c.block _ (Array.getElem?_eq_some_iff.1 Hrc.out).1).trans Hrc.out)
        have Hrec := Lib.hid (show RecsZ (fun b => (w5.heap.size ≤ b ∧ b < w6.heap.size) ∨ X b) w6 xa ps[j].ls.length xc ps[j].ls from hrl.moved (fun _ _ => rfl) (Nat.le_refl _) (fun b hb => hb.1.imp (fun h => ⟨h, hb.2⟩) id))
        have Hown6 := Lib.hid (HPc.out.lt)
        have hzc5 := Hb5.out.size
        have hz56 := hb6.size
        have Hml := Lib.hid (Hmany.out ps[j] (List.getElem_mem Hlt.out))
        obtain ⟨l0, l1, l2, l3, l4, l5, l6, lf⟩ := box7 HLB6.out
        have Hylt := Lib.hid hylt
        clear hsp hP6 hb6 hZ6 hrec hrl hb6c d0 d1 d2 d3 HS5 Hby hylt
        generalize hls : ps[j].ls = ls at Hrec Hylt Hml
        have Hls := Lib.hid hls
        clear hls
        go_upto_region 21 with fail
        go_cut [97] (fun t wx => t = .bool (decide (sizeL ls < yl ∧ (N : Int) < zq)) ∧ Below w6.heap.size w6 wx)
        case first =>
         by_cases h1 : sizeL ls < yl
         ·have h1i : ((sizeL ls : Nat) : Int) < (yl : Int) := by omega
          by_cases h2 : (N : Int) < zq
          ·go_wp2_with fail
           go_meet
           exact ⟨by rw [decide_eq_true (And.intro h1 h2)], Below.refl _ _⟩
          ·go_wp2_with fail
           go_meet
           exact ⟨by rw [decide_eq_false (by omega)], Below.refl _ _⟩
         ·have h1i : ¬ ((sizeL ls : Nat) : Int) < (yl : Int) := by omega
          go_wp2_with fail
          go_meet
          exact ⟨by rw [decide_eq_false (by omega)], Below.refl _ _⟩
        case rest =>
         obtain ⟨rfl, hbx⟩ := hcut
         obtain ⟨w7, hw7⟩ : ∃ w7, w7 = wc := ⟨_, rfl⟩
         subst hw7
         have Hb37 := Lib.hid (Hb36.out.trans (hbx.mono Hb36.out.size))
         have HLB7 := Lib.hid (show LogBox w3.heap.size (some ⟨b, o, none⟩) ps.length k3 ps[k].n zq va vn vc size torn w7 from (hbx.block _ (Array.getElem?_eq_some_iff.1 HLB6.out).1).trans HLB6.out)
         have HP7 := Lib.hid (HP6.out.grow hbx)
         have Hr7 := Lib.hid ((hbx.block _ (Array.getElem?_eq_some_iff.1 Hr6.out).1).trans Hr6.out)
         have Hrec7 := Lib.hid (Hrec.out.grow hbx)
         have hz67 := hbx.size
         clear hbx l0 l1 l2 l3 l4 l5 l6 lf
         by_cases hbad : sizeL ls < yl ∧ (N : Int) < zq
         ·have HBad := Lib.hid (show ¬ Good (ps.drop k) from fun h => by
           have h1 := (good_drop.1 h j Hlt.out Hkj.out).2.1
           have h2 : j < q := (allOf_lt_iff HA.out Hlt.out hql).1 (by rw [show ps[j].n = (N : Int) from Hnn.out, ← Hzq.out]; exact hbad.2)
           have h3 := h1 (by omega)
           have h4 : yl = sizeL ls + 0 := Hylt.out.trans (congrArg (sizeL ls + ·) (congrArg List.length h3))
           have := hbad.1
           omega)
          rw [decide_eq_true hbad]
          obtain ⟨r0, r1, r2, r3, r4, r5, r6, rf⟩ := box7 Hr7.out
          clear hbad
          go_wp2_with fail
          refine bodyPost_ret (v := logRV none 0 0 0 0 none 0 0 0 0 11) ?_ rfl ⟨.inr ⟨k, HF.out, .inl ⟨HBad.out, rfl⟩⟩, ?_⟩
          ·rw [resultsN_one rfl]
           go_simp
           rfl
          ·have hb := Hb1.out.trans ((Hb3.out.trans (Hb37.out.mono Hb3.out.size)).mono Hb1.out.size)
           exact ((((((hb.setCell (Nat.le_succ _) _).setCell (Nat.le_succ _) _).setCell (Nat.le_succ _) _).setCell (Nat.le_succ _) _).setCell (Nat.le_succ _) _).setCell (Nat.le_succ _) _).setCell (Nat.le_succ _) _
         ·rw [decide_eq_false hbad]
          have Hnb2 := Lib.hid hbad
          clear hbad
          have hlsl : ls.length ≤ 10000 := Hml.out
          have hown0 : ∀ qq, (Value.slice va vn vc).ownBlock = some qq → w3.heap.size + 1 ≤ qq ∧ (qq < w5.heap.size ∨ w6.heap.size ≤ qq) := fun qq hq => by
           have h1 := Hown6.out qq hq
           exact ⟨h1.1, .inl (by omega)⟩
          have Hown0 := Lib.hid hown0
          clear hown0
          go_wp2_with fail
          go_loopw [11] (fun i wr => ∃ (m : Nat) (va : Option Addr) (vn vc : Nat), m ≤ ls.length ∧ i = .int .i64 (m : Int) ∧ LogBox w3.heap.size (some ⟨b, o, none⟩) ps.length k3 ps[k].n zq va vn vc size torn wr ∧
           PartsZ (fun b => (b ≠ w3.heap.size ∧ b ≠ w.heap.size + 1) ∧ (X b ∨ w.heap.size ≤ b)) wr (w3.heap.size + 1) (.slice va vn vc) (recsL ((ps.take j).drop k) ++ (ls.take m).filter (fun r => decide (r ≠ []))) ∧ (∀ i (h : i < ls.length), i < m → ls[i] = [] → i = 0 ∧ j = k) ∧
           (∀ qq, (Value.slice va vn vc).ownBlock = some qq → w3.heap.size + 1 ≤ qq ∧ (qq < w5.heap.size ∨ w6.heap.size ≤ qq)) ∧ RecsZ (fun b => (w5.heap.size ≤ b ∧ b < w6.heap.size) ∨ X b) wr xa ls.length xc ls ∧ Below w3.heap.size w3 wr ∧ w6.heap.size ≤ wr.heap.size) (fun i _ => ls.length - (intOf i).toNat)
          case atStart => exact ⟨0, va, vn, vc, Nat.zero_le _, rfl, HLB7.out, by simpa using HP7.out, fun i h h1 => absurd h1 (Nat.not_lt_zero _), Hown0.out, Hrec7.out, Hb37.out, hz67⟩
          case round =>
           obtain ⟨m, ua, un, uc, hm, rfl, hLBm, hPm, hno, hownm, hrecm, hbm, hszm⟩ := hrel
           by_cases hml : m < ls.length
           ·obtain ⟨bx, ox, rfl, hbxl, hcx⟩ := hrecm.cell (by omega)
            obtain ⟨a1, n1, c1, g1, g2, g3⟩ := hcx m hml
            obtain ⟨qv, hqv⟩ : ∃ qv, ls[m]? = some qv := ⟨_, List.getElem?_eq_getElem hml⟩
            have hgm : ls.getD m [] = qv := by rw [List.getD_eq_getElem?_getD, hqv]; rfl
            rw [hgm] at g2
            have Hqv := Lib.hid hqv
            obtain ⟨l0, l1, l2, l3, l4, l5, l6, lf⟩ := box7 hLBm
            have HLBm := Lib.hid hLBm
            generalize hac : recsL ((ps.take j).drop k) ++ (ls.take m).filter (fun r => decide (r ≠ [])) = acc at hPm
            have Hac := Lib.hid hac
            have HPm := Lib.hid hPm
            clear hac
            have Hno := Lib.hid hno
            have Hownm := Lib.hid hownm
            have Hrecm := Lib.hid hrecm
            have Hbm := Lib.hid hbm
            have Hg2 := Lib.hid g2
            have Hg3 := Lib.hid g3
            have Hbxl := Lib.hid hbxl
            have Hml2 := Lib.hid hml
            have hmi : (m : Int) < (ls.length : Int) := by omega
            have hn1e : n1 = 0 ↔ qv = [] := by rw [← g2.len]; exact List.length_eq_zero_iff
            have hn1c : n1 ≤ 9223372036854775807 := Nat.le_trans g2.le g2.capmax
            have Hn1e := Lib.hid hn1e
            clear hLBm hPm hno hownm hrecm hbm g2 g3 hbxl hcx hgm hn1e hqv
            go_upto_region 26 with fail
            go_cut [120] (fun t wx => t = .bool (decide (n1 = 0 ∧ (0 < m ∨ ps[k].n < (N : Int)))) ∧ wx = wr)
            case first =>
             generalize ps[k].n = fk at *
             by_cases h1 : n1 = 0
             ·have h1b : ((n1 : Int) == 0) = true := by simp [h1]
              by_cases h2 : 0 < m
              ·have h2i : (0 : Int) < (m : Int) := by omega
               go_wp2_with fail
               go_meet
               exact ⟨by rw [decide_eq_true (And.intro h1 (Or.inl h2))], rfl⟩
              ·have h2i : ¬ (0 : Int) < (m : Int) := by omega
               by_cases h3 : fk < (N : Int)
               ·go_wp2_with fail
                go_meet
                exact ⟨by rw [decide_eq_true (And.intro h1 (Or.inr h3))], rfl⟩
               ·go_wp2_with fail
                go_meet
                exact ⟨by rw [decide_eq_false (by omega)], rfl⟩
             ·have h1b : ((n1 : Int) == 0) = false := by simp [h1]
              go_wp2_with fail
              go_meet
              exact ⟨by rw [decide_eq_false (by omega)], rfl⟩
            case rest =>
             obtain ⟨rfl, rfl⟩ := hcut
             have hfn := filter_next Hqv.out
             by_cases hbad : n1 = 0 ∧ (0 < m ∨ ps[k].n < (N : Int))
             ·have HBad := Lib.hid (show ¬ Good (ps.drop k) from fun h => by
               refine (good_drop.1 h j Hlt.out Hkj.out).2.2 ?_
               have hl2 : (ps[j]'Hlt.out).ls = ls := Hls.out
               have hn2 : (ps[j]'Hlt.out).n = (N : Int) := Hnn.out
               show [] ∈ restOf (ps[j]'Hlt.out).ls
               rw [hl2]
               refine mem_rest' Hqv.out (Hn1e.out.1 hbad.1) (hbad.2.imp id fun h2 => ?_)
               have h3 : k < j := (allOf_lt_iff HA.out hk Hlt.out).1 (by rw [hn2]; exact h2)
               have h4 := HF.out.2.1 j Hlt.out h3
               have h5 : markOf (ps[j]'Hlt.out).ls = false := h4
               rwa [hl2] at h5)
              rw [decide_eq_true hbad]
              have hrr : wc.heap[w.heap.size + 1]? = _ := (Hbm.out.block _ (Nat.lt_of_lt_of_le (Array.getElem?_eq_some_iff.1 Hr1.out).1 Hb3.out.size)).trans Hr3.out
              obtain ⟨r0, r1, r2, r3, r4, r5, r6, rf⟩ := box7 hrr
              clear hbad hrr hfn
              go_wp2_with fail
              refine bodyPost_ret (v := logRV none 0 0 0 0 none 0 0 0 0 11) ?_ rfl ⟨.inr ⟨k, HF.out, .inl ⟨HBad.out, rfl⟩⟩, ?_⟩
              ·rw [resultsN_one rfl]
               go_simp
               rfl
              ·have hb := Hb1.out.trans ((Hb3.out.trans (Hbm.out.mono Hb3.out.size)).mono Hb1.out.size)
               exact ((((((hb.setCell (Nat.le_succ _) _).setCell (Nat.le_succ _) _).setCell (Nat.le_succ _) _).setCell (Nat.le_succ _) _).setCell (Nat.le_succ _) _).setCell (Nat.le_succ _) _).setCell (Nat.le_succ _) _
             ·rw [decide_eq_false hbad]
              have Hnb3 := Lib.hid hbad
              clear hbad
              by_cases h1 : n1 = 0
              ·have h1i : ¬ (0 : Int) < (n1 : Int) := by omega
               have Hq0 := Lib.hid (Hn1e.out.1 h1)
               rw [if_pos Hq0.out, List.append_nil] at hfn
               have Hfn := Lib.hid hfn
               have Hjk := Lib.hid (show m = 0 ∧ j = k from by
                have h2 := Hnb3.out
                refine ⟨by omega, ?_⟩
                rcases Nat.lt_or_ge k j with h3 | h3
                ·exact absurd ⟨h1, Or.inr (by rw [← show (ps[j]'Hlt.out).n = (N : Int) from Hnn.out]; exact (allOf_lt_iff HA.out hk Hlt.out).2 h3)⟩ h2
                ·have := Hkj.out; omega)
               clear hfn h1 l0 l1 l2 l3 l4 l5 l6 lf
               go_wp2_with fail
               exact ⟨⟨m + 1, ua, un, uc, Hml2.out, by go_num, HLBm.out, by rw [Hfn.out, Hac.out]; exact HPm.out, fun i hi hlt he => by
                by_cases e : i = m
                ·subst e; exact Hjk.out
                ·exact Hno.out i hi (by omega) he, Hownm.out, Hrecm.out, Hbm.out, hszm⟩, by simp [intOf]; have := Hml2.out; omega⟩
              ·have h1i : (0 : Int) < (n1 : Int) := by omega
               have hq0 : qv ≠ [] := fun e => h1 (Hn1e.out.2 e)
               rw [if_neg hq0] at hfn
               have Hfn := Lib.hid hfn
               have Hq0 := Lib.hid hq0
               have hb3 : Below wc.heap.size wc (wc.alloc (.cells #[.slice a1 n1 c1] 58)) := (Below.refl _ _).alloc (Nat.le_refl _) _
               obtain ⟨vs, hlen, hown, hel⟩ := HPm.out.grow hb3
               have Hel := Lib.hid hel
               have Hown := Lib.hid hown
               have Hlen := Lib.hid hlen
               have HX2 := Lib.hid (Hg2.out.grow hb3)
               have Hb3a := Lib.hid hb3
               have hLa := (hb3.block _ (Array.getElem?_eq_some_iff.1 HLBm.out).1).trans HLBm.out
               have HLa := Lib.hid hLa
               have hal : acc.length ≤ 11000000 := by
                rw [← Hac.out, List.length_append]
                have e1 := HPl.out
                have e2 := List.length_filter_le (fun r => decide (r ≠ [])) (ls.take m)
                rw [List.length_take] at e2
                have e3 : j * 10000 ≤ 1000 * 10000 := Nat.mul_le_mul_right 10000 (by omega)
                omega
               have Hal := Lib.hid hal
               have hbase : w3.heap.size + 1 ≤ (wc.alloc (.cells #[.slice a1 n1 c1] 58)).heap.size := by rw [World.size_alloc]; have := Hszc.out; omega
               have hza : (wc.alloc (.cells #[.slice a1 n1 c1] 58)).heap.size = wc.heap.size + 1 := World.size_alloc _ _
               have Hza := Lib.hid hza
               have hnew := cell_one_new wc (.slice a1 n1 c1) 58
               have hls3 : w3.heap.size < (wc.alloc (.cells #[.slice a1 n1 c1] 58)).heap.size := by omega
               clear hfn h1 hel hown hlen hb3 hLa hal hza hq0
               have l3o := fun ob => cell_keep ((Below.refl wc.heap.size wc).alloc (Nat.le_refl _) ob) l3
               have hnew0 : (wc.alloc (.cells #[.slice a1 n1 c1] 58)).cell? ⟨wc.heap.size, 0, none⟩ = some (.slice a1 n1 c1) := by rw [cell_of_row _ _ _ _ _ (0, 0) (heap_alloc_new _ _)]; rfl
               have Hlts := Lib.hid (show w.heap.size + 1 ≤ w3.heap.size ∧ w3.heap.size + 1 ≤ w5.heap.size from ⟨by have h1 := Hz1.out; have h2 := Hb3.out.size; omega, Nat.le_trans Hszc.out hzc5⟩)
               go_wp2_with fail
               go_region_law (first
                | (refine step_append_one rfl (.tmp 129) (.tmp 134) rfl (w3.heap.size + 1) (.slice ua un uc) _ vs (by simp [Act.eval]) Hown.out wc.heap.size (.slice a1 n1 c1) (by simp [Act.eval]) hnew0 rfl (by have := Hal.out; omega) hbase ?_; intro v' w8 hown' hgrow hblk; obtain ⟨g', cap', rfl⟩ := ownsRow_succ hown'; have hL8 := (hgrow.block _ hls3 (fun e => by have := (Hownm.out _ e.symm).1; omega)).trans HLa.out; obtain ⟨s0, s1, s2, s3, s4, s5, s6, sf⟩ := box7 hL8; have Hend := Lib.hid (rf_append HX.out Hlts.out.1 Hlts.out.2 hszm HLBm.out Hownm.out Hrecm.out Hbm.out Hg2.out Hg3.out Hlen.out Hel.out hown' hgrow hblk); clear hown' hgrow hblk hL8))
               all_goals go_wp2_with fail
               all_goals
                obtain ⟨f1, f2, f3, f4, f5, f6⟩ := Hend.out
                exact ⟨⟨m + 1, _, _, _, Hml2.out, by go_num, f1, by rw [Hfn.out, ← List.append_assoc, Hac.out]; exact f2, fun i hi hlt he => by
                 by_cases e : i = m
                 ·subst e
                  have h5 := Hqv.out
                  rw [List.getElem?_eq_getElem hi] at h5
                  exact absurd ((Option.some.inj h5).symm.trans he) Hq0.out
                 ·exact Hno.out i hi (by omega) he, f3, f4, f5, f6⟩, by simp [intOf]; have := Hml2.out; omega⟩
           ·obtain rfl : m = ls.length := by omega
            have hmi : ¬ (ls.length : Int) < (ls.length : Int) := by omega
            obtain ⟨l0, l1, l2, l3, l4, l5, l6, lf⟩ := box7 hLBm
            have hrf := rest_filter (ls := ls) (fun i hi he => (hno i hi hi he).1)
            rw [List.take_of_length_le (Nat.le_refl _), hrf.2] at hPm
            obtain ⟨T, hT⟩ : ∃ T, T = (ps[j]'Hlt.out).t.length := ⟨_, rfl⟩
            have hyt : (yl : Int) - ((sizeL ls : Nat) : Int) = (T : Int) := by
             have h : yl = sizeL ls + (ps[j]'Hlt.out).t.length := Hylt.out
             rw [← hT] at h
             omega
            have hrl2 := recs_le ls
            have HLBm := Lib.hid hLBm
            have HPm := Lib.hid hPm
            have Hbm := Lib.hid hbm
            have Hrf := Lib.hid hrf.1
            have HT := Lib.hid hT
            have Hrl2 := Lib.hid hrl2
            have HLs2 := Lib.hid (show (ps[j]'Hlt.out).recs = restOf ls by show restOf (ps[j]'Hlt.out).ls = _; rw [show (ps[j]'Hlt.out).ls = ls from Hls.out])
            clear hLBm hPm hno hownm hrecm hbm hrf hT hrl2 hml
            go_wp2_with fail
            have htd := take_drop_next Hlt.out Hkj.out
            refine ⟨⟨j + 1, ua, un, uc, (sizeL ls : Nat), (T : Int), Hlt.out, by go_num, ?_, ?_, ?_, fun i hi hki hij => ?_, fun _ => ⟨by have := Hlt.out; omega, ?_, ?_⟩, (Hbm.out.setCell (Nat.le_refl _) _).setCell (Nat.le_refl _) _, ?_⟩, by simp [intOf]; have := Hlt.out; omega⟩
            ·have h := set_head (i := 5) (set_head (i := 4) HLBm.out (.int .i64 ((sizeL ls : Nat) : Int))) (.int .i64 (T : Int))
             unfold LogBox
             simpa using h
            ·rw [htd, recsL_snoc, HLs2.out]
             refine HPm.out.same (fun b hb' => ?_) (fun b hb' => ?_) (fun _ h => h)
             ·exact (Below.heap_setCell _ ⟨w3.heap.size, 5, none⟩ _ b (by show b ≠ w3.heap.size; omega)).trans (Below.heap_setCell _ ⟨w3.heap.size, 4, none⟩ _ b (by show b ≠ w3.heap.size; omega))
             ·exact (Below.heap_setCell _ ⟨w3.heap.size, 5, none⟩ _ b hb'.1.1).trans (Below.heap_setCell _ ⟨w3.heap.size, 4, none⟩ _ b hb'.1.1)
            ·rw [htd, recsL_snoc, List.length_append, HLs2.out, Nat.succ_mul]
             have h1 := HPl.out
             have h2 := Hrl2.out
             have h3 := Hml.out
             omega
            ·by_cases e : i = j
             ·subst e
              have hn2 : (ps[i]'Hlt.out).n = (N : Int) := Hnn.out
              refine ⟨fun h0 => ?_, fun h1 => ?_, ?_⟩
              ·have h2 := Hnb.out
               rw [hn2]
               by_cases h3 : (N : Int) = (ps[i - 1]'(by omega)).n + 1
               ·exact h3
               ·exact absurd ⟨h0, h3⟩ h2
              ·have h2 := Hnb2.out
               have h3 : (N : Int) < zq := by
                rw [← hn2, Hzq.out]
                exact (allOf_lt_iff HA.out Hlt.out hql).2 (by have := Hq.out; omega)
               have h4 : yl = sizeL ls + (ps[i]'Hlt.out).t.length := Hylt.out
               refine List.length_eq_zero_iff.1 ?_
               show (ps[i]'Hlt.out).t.length = 0
               omega
              ·show [] ∉ (ps[i]'Hlt.out).recs
               rw [HLs2.out]
               exact Hrf.out
             ·exact Hgood.out i hi hki (by omega)
            ·show ((sizeL ls : Nat) : Int) = ((sizeL (ps[j]'Hlt.out).ls : Nat) : Int)
             rw [show (ps[j]'Hlt.out).ls = ls from Hls.out]
            ·show (T : Int) = (((ps[j]'Hlt.out).t.length : Nat) : Int)
             rw [HT.out]
            ·simp only [World.size_setCell]
             exact Nat.le_trans Hszc.out (by omega)
    ·obtain rfl : j = ps.length := by omega
     have hji : ¬ (ps.length : Int) < (ps.length : Int) := by omega
     obtain ⟨l0, l1, l2, l3, l4, l5, l6, lf⟩ := box7 hLB
     obtain ⟨hh, rfl, rfl⟩ := hst hk
     have hz3 : w.heap.size + 2 ≤ w3.heap.size := by have h1 := Hz1.out; have h2 := Hb3.out.size; omega
     have hrr : wr.heap[w.heap.size + 1]? = _ := (hb.block _ (by omega)).trans Hr3.out
     obtain ⟨r0, r1, r2, r3, r4, r5, r6, rf⟩ := box7 hrr
     have HGood := Lib.hid (good_drop.2 fun i hi hki => hgood i hi hki hi)
     rw [List.take_of_length_le (Nat.le_refl _)] at hP
     have HP := Lib.hid hP
     have Hb := Lib.hid hb
     have Hz3 := Lib.hid hz3
     have hzq2 : zq = (ps[ps.length - 1]'hh).n := by
      rw [Hzq.out]
      congr 2
      exact Hq.out.symm
     have HZq := Lib.hid hzq2
     have hbge : w.heap.size + 2 ≤ b := by
      have h1 := Hge3.out b rfl
      have h2 := Hz1.out
      have h3 := Hb2.out.size
      omega
     have Hbge := Lib.hid hbge
     generalize hS : ((sizeL (ps[ps.length - 1]'hh).ls : Nat) : Int) = S at *
     generalize hT : (((ps[ps.length - 1]'hh).t.length : Nat) : Int) = T at *
     have HS := Lib.hid hS
     have HT := Lib.hid hT
     clear hLB hP hPl hgood hst hb hrr hz3 hzq2 hbge hS hT
     go_wp2_with fail
     refine bodyPost_ret (v := logRV (some ⟨b, o, none⟩) ps.length k3 ps[k].n zq va vn vc S T 0) ?_ rfl ⟨.inr ⟨k, HF.out, .inr ⟨HGood.out, some ⟨b, o, none⟩, k3, va, vn, vc, hk, ?_, ?_, ?_⟩⟩, ?_⟩
     ·rw [resultsN_one rfl]
      go_simp
      rfl
     ·rw [HS.out, HT.out, ← HZq.out]
     ·refine (HI.out.grow Hb.out).same (fun x hx => ?_)
      cases hx
      exact put7_other wr (show b ≠ w.heap.size + 1 by have := Hbge.out; omega) _ _ _ _ _ _ _
     ·refine (HP.out.same (Z' := fun b => X b ∨ w.heap.size ≤ b) (fun b' hb' => ?_) (fun b' hb' => ?_) (fun _ hh => hh.2)).base (by have := Hz3.out; omega)
      ·exact put7_other wr (show b' ≠ w.heap.size + 1 by have := Hz3.out; omega) _ _ _ _ _ _ _
      ·exact put7_other wr hb'.1.2 _ _ _ _ _ _ _
     ·have hb := Hb1.out.trans ((Hb3.out.trans (Hb.out.mono Hb3.out.size)).mono Hb1.out.size)
      exact put7_below hb (Nat.le_succ _) _ _ _ _ _ _ _
end Go.Proofs.YtnbddiiedagllaaGreat

