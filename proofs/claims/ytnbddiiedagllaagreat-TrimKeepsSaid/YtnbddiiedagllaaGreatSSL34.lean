import Derived.Test.YtnbddiiedagllaaGreatSSL7
import Derived.Test.YtnbddiiedagllaaGreatSSL1
import Derived.OpenShut
import Derived.Test.YtnbddiiedagllaaGreatSSL9
import Derived.Test.YtnbddiiedagllaaGreatSSL32
import Derived.Maps.AppendAt
import Derived.Test.YtnbddiiedagllaaGreatSSL29
import Derived.Test.YtnbddiiedagllaaGreatSSL25
/- Two slices of byte slices that came in as an array. -/
namespace Go.Proofs.YtnbddiiedagllaaGreat
open Go.ChangeShapes Go.WideShapes Go.ChangeAt Go.RowKit Go.Deep

section
variable {H : Type} {enc : TypeId × Value → H} {W : World}

theorem cells_b2 : Tryz.prog.cellsOf 5 = 1 := by kernel_rfl
theorem cells_p2 : Tryz.prog.cellsOf 58 = 1 := by kernel_rfl
theorem cells_pp2 : Tryz.prog.cellsOf 29 = 1 := by kernel_rfl
theorem cells_a2 : Tryz.prog.cellsOf 71 = 2 := by kernel_rfl

theorem trod_parts {fuel : Nat} {cs : List Value} {x : DataW H × List MemPlace} (h : DataW.trod enc Tryz.prog W 0 (fun _ => true) true fuel 29 cs = some x) : ∃ a n cap ls, cs = [.slice a n cap] ∧ Parts W a n cap ls := by
 rcases open_int_rows Tryz.underlying29 Tryz.underlying58 Tryz.underlying5 cells_p2 cells_b2 h with ⟨hcs, _⟩ | ⟨a, len, cap, A, L, C, Z, hcs, _, hl, hm, _, hrows⟩
 ·exact ⟨none, 0, 0, [], hcs, rfl, Nat.le_refl _, by omega, fun h => absurd h (Nat.lt_irrefl _)⟩
 ·refine ⟨some a, len, cap, (List.range len).map fun r => ((Z r).take (L r)).map Int.toNat, hcs, by simp, hl, hm, fun hn => ?_⟩
  obtain ⟨b, o, spot⟩ := a
  have hspot : spot = none := by simpa [Addr.add] using World.cell?_spot (hrows 0 (by omega)).1
  subst hspot
  have hc0 := (hrows 0 (by omega)).1
  rw [add_plain] at hc0
  refine ⟨b, o, rfl, World.block_lt_of_cell? _ _ hc0, fun i hi => ?_⟩
  obtain ⟨h1, h2, h3, h4, h5, h6, h7⟩ := hrows i (by omega)
  rw [add_plain] at h1
  refine ⟨A i, L i, C i, h1, ?_⟩
  have e1 : ((List.range len).map fun r => ((Z r).take (L r)).map Int.toNat).getD i [] = ((Z i).take (L i)).map Int.toNat := by
   rw [List.getD_eq_getElem?_getD, List.getElem?_map, List.getElem?_range hi]; rfl
  rw [e1]
  exact bytes_of_ints h2 h3 h4 h6 (fun a' ha' c hc => (h7 a' ha').2 c hc) h5

set_option maxRecDepth 100000 in
theorem open_pair {v : Value} {d : DataW H} {p : List MemPlace} {base : Nat} (hv : Value.okWide Tryz.prog W .any base 71 v) (h : DataW.Trod enc Tryz.prog W 0 (fun _ => true) true 71 v d p) :
  ∃ a n c ls a' n' c' ms, v = .agg #[.slice a n c, .slice a' n' c'] ∧ Parts W a n c ls ∧ Parts W a' n' c' ms := by
 have hv' : ∃ cs, v = .agg cs ∧ cs.size = 2 := by
  simp only [Value.okWide, Tryz.underlying71] at hv
  obtain ⟨cs, h1, h2, _⟩ := hv
  rw [cells_a2] at h2
  exact ⟨cs, h1, h2⟩
 obtain ⟨cs, rfl, hsz⟩ := hv'
 obtain ⟨fuel, hf⟩ := h
 obtain ⟨xs, m, rfl, _, _, hxl, hfs⟩ := DataW.trod_array Tryz.underlying71 hf
 match xs, hxl with
 | [y0, y1], _ =>
  have g0 := hfs 0 (by omega)
  have g1 := hfs 1 (by omega)
  rw [cells_pp2] at g0 g1
  simp only [List.getElem?_cons_zero, List.getElem?_cons_succ] at g0 g1
  obtain ⟨a, n, c, ls, e0, hP⟩ := trod_parts g0
  obtain ⟨a', n', c', ms, e1, hQ⟩ := trod_parts g1
  refine ⟨a, n, c, ls, a', n', c', ms, ?_, hP, hQ⟩
  congr 1
  obtain ⟨l⟩ := cs
  simp at hsz
  match l, hsz with
  | [u0, u1], _ =>
   simp [Value.cells] at e0 e1
   rw [e0, e1]
end
end Go.Proofs.YtnbddiiedagllaaGreat

/- Files that come in, read as plain data. -/
namespace Go.Proofs.YtnbddiiedagllaaGreat
open Go.ChangeShapes Go.WideShapes Go.ChangeAt Go.RowKit Go.Deep

structure FI where
 nm : List UInt8
 bs : List Nat
 z : Int

structure FIAt (w : World) (b o : Nat) (x : FI) (pb : Option Addr) (cb : Nat) : Prop where
 k0 : w.cell? ⟨b, o, none⟩ = some (.string ⟨x.nm.toArray⟩)
 k1 : w.cell? ⟨b, o + 1, none⟩ = some (.slice pb x.bs.length cb)
 k2 : w.cell? ⟨b, o + 2, none⟩ = some (.int .i64 x.z)
 bytes : Bytes w pb x.bs.length cb x.bs
 wn : x.nm.length ≤ 9223372036854775807

structure FIs (w : World) (a : Option Addr) (n c : Nat) (l : List FI) : Prop where
 len : l.length = n
 le : n ≤ c
 max : c ≤ 9223372036854775807
 cell : 0 < n → ∃ b o, a = some ⟨b, o, none⟩ ∧ ∀ i (hi : i < l.length), ∃ pb cb, FIAt w b (o + i * 3) l[i] pb cb

theorem FIAt.grow {w w' : World} {b o : Nat} {x : FI} {pb : Option Addr} {cb : Nat} (h : FIAt w b o x pb cb) (hb : Below w.heap.size w w') : FIAt w' b o x pb cb :=
 ⟨cell_keep hb h.k0, cell_keep hb h.k1, cell_keep hb h.k2, h.bytes.grow hb, h.wn⟩

theorem FIs.grow {w w' : World} {a : Option Addr} {n c : Nat} {l : List FI} (h : FIs w a n c l) (hb : Below w.heap.size w w') : FIs w' a n c l := by
 refine ⟨h.len, h.le, h.max, fun hn => ?_⟩
 obtain ⟨b, o, e, hc⟩ := h.cell hn
 exact ⟨b, o, e, fun i hi => by obtain ⟨pb, cb, hx⟩ := hc i hi; exact ⟨pb, cb, hx.grow hb⟩⟩

end Go.Proofs.YtnbddiiedagllaaGreat

/- The walk of slices.Reverse at segments as they were read. -/
namespace Go.Proofs.YtnbddiiedagllaaGreat
open Go.RowKit Go.Maps Go.Shelf

attribute [local go_sem ↓] Go.wp_at_zero Go.wp_at_succ

def Five (cur : Array Value) (o : Nat) (x : PD) : Prop :=
 cur[o]? = some (.int .i64 x.n) ∧ cur[o + 1]? = some (.bool x.mark) ∧ cur[o + 2]? = some (.slice x.pa x.pn x.pc) ∧ cur[o + 3]? = some (.slice x.wa x.wn x.wc) ∧ cur[o + 4]? = some (.int .i64 x.tn)

def put5 (cur : Array Value) (o : Nat) (x : PD) : Array Value :=
 ((((cur.setIfInBounds o (.int .i64 x.n)).setIfInBounds (o + 1) (.bool x.mark)).setIfInBounds (o + 2) (.slice x.pa x.pn x.pc)).setIfInBounds (o + 3) (.slice x.wa x.wn x.wc)).setIfInBounds (o + 4) (.int .i64 x.tn)

theorem put5_size (cur : Array Value) (o : Nat) (x : PD) : (put5 cur o x).size = cur.size := by
 unfold put5
 simp only [Array.size_setIfInBounds]

theorem five_put {cur : Array Value} {o : Nat} (x : PD) (h : o + 5 ≤ cur.size) : Five (put5 cur o x) o x := by
 unfold Five put5
 refine ⟨?_, ?_, ?_, ?_, ?_⟩ <;>
 ·simp only [Array.getElem?_setIfInBounds, Array.size_setIfInBounds]
  (repeat' split) <;> first | rfl | (exfalso; omega) | simp_all | (simp_all; omega)

theorem five_other {cur : Array Value} {o o' : Nat} {x y : PD} (h : Five cur o' y) (hd : o' + 5 ≤ o ∨ o + 5 ≤ o') : Five (put5 cur o x) o' y := by
 obtain ⟨h0, h1, h2, h3, h4⟩ := h
 unfold Five put5
 simp only [Array.getElem?_setIfInBounds, Array.size_setIfInBounds]
 refine ⟨?_, ?_, ?_, ?_, ?_⟩ <;>
 ·(repeat' split) <;> first | assumption | (exfalso; omega)

def revAt (n k i : Nat) : Nat := if i < k ∨ n ≤ i + k then n - 1 - i else i

def setPD (w : World) (g o : Nat) (x : PD) : World :=
 ((((w.setCell ⟨g, o, none⟩ (.int .i64 x.n)).setCell ⟨g, o + 1, none⟩ (.bool x.mark)).setCell ⟨g, o + 2, none⟩ (.slice x.pa x.pn x.pc)).setCell ⟨g, o + 3, none⟩ (.slice x.wa x.wn x.wc)).setCell ⟨g, o + 4, none⟩ (.int .i64 x.tn)

theorem setPD_heap {w : World} {g o : Nat} {cs : Array Value} {t : TypeId} {m : Nat × Nat} (h : w.heap[g]? = some (.cells cs t m)) (x : PD) : (setPD w g o x).heap[g]? = some (.cells (put5 cs o x) t m) := by
 unfold setPD put5
 exact set_head (set_head (set_head (set_head (set_head h _) _) _) _) _

structure RevAt (w : World) (g o n : Nat) (t : TypeId) (L : List PD) (k : Nat) (wr : World) : Prop where
 cells : ∃ cur, wr.heap[g]? = some (.cells cur t (0, 0)) ∧ o + n * 5 ≤ cur.size ∧ ∀ i x, i < n → L[revAt n k i]? = some x → Five cur (o + i * 5) x
 other : ∀ b, b ≠ g → b < w.heap.size → wr.heap[b]? = w.heap[b]?
 base : Below g w wr

theorem RevAt.next {w : World} {g o n : Nat} {t : TypeId} {L : List PD} {k q : Nat} {wr : World} {x y : PD} (h : RevAt w g o n t L k wr) (hk : q + k + 1 = n) (hkq : k < q) (hx : L[k]? = some x) (hy : L[q]? = some y) :
  RevAt w g o n t L (k + 1) (setPD (setPD wr g (o + k * 5) y) g (o + q * 5) x) := by
 obtain ⟨⟨cur, hc, hs, hf⟩, ho, hb⟩ := h
 refine ⟨⟨_, setPD_heap (setPD_heap hc _) _, by rw [put5_size, put5_size]; exact hs, fun i z hi hr => ?_⟩, fun b hbg hlt => ?_, ?_⟩
 ·by_cases e : i = q
  ·subst e
   have hr2 : revAt n (k + 1) i = k := by unfold revAt; rw [if_pos (by omega)]; omega
   rw [hr2, hx] at hr
   cases hr
   exact five_put _ (by rw [put5_size]; have : (i + 1) * 5 ≤ n * 5 := Nat.mul_le_mul_right 5 (by omega); omega)
  ·refine five_other ?_ (by omega)
   by_cases e2 : i = k
   ·subst e2
    have hr2 : revAt n (i + 1) i = q := by unfold revAt; rw [if_pos (by omega)]; omega
    rw [hr2, hy] at hr
    cases hr
    exact five_put _ (by have : (i + 1) * 5 ≤ n * 5 := Nat.mul_le_mul_right 5 (by omega); omega)
   ·refine five_other ?_ (by omega)
    have hr2 : revAt n (k + 1) i = revAt n k i := by
     unfold revAt
     by_cases h1 : i < k ∨ n ≤ i + k
     ·rw [if_pos h1, if_pos (by omega)]
     ·rw [if_neg h1, if_neg (by omega)]
    rw [hr2] at hr
    exact hf i z hi hr
 ·unfold setPD
  rw [Below.heap_setCell _ _ _ _ hbg, Below.heap_setCell _ _ _ _ hbg, Below.heap_setCell _ _ _ _ hbg, Below.heap_setCell _ _ _ _ hbg, Below.heap_setCell _ _ _ _ hbg, Below.heap_setCell _ _ _ _ hbg, Below.heap_setCell _ _ _ _ hbg, Below.heap_setCell _ _ _ _ hbg, Below.heap_setCell _ _ _ _ hbg, Below.heap_setCell _ _ _ _ hbg]
  exact ho b hbg hlt
 ·unfold setPD
  exact (((((((((hb.setCell (Nat.le_refl _) _).setCell (Nat.le_refl _) _).setCell (Nat.le_refl _) _).setCell (Nat.le_refl _) _).setCell (Nat.le_refl _) _).setCell (Nat.le_refl _) _).setCell (Nat.le_refl _) _).setCell (Nat.le_refl _) _).setCell (Nat.le_refl _) _).setCell (Nat.le_refl _) _

theorem RevAt.drew {w : World} {g o n : Nat} {t : TypeId} {L : List PD} {k : Nat} {wr : World} (h : RevAt w g o n t L k wr) : RevAt w g o n t L k wr.drew := ⟨h.cells, h.other, h.base.drew⟩

set_option maxRecDepth 100000 in
set_option maxHeartbeats 3200000 in
theorem reverse_parts (g o n c : Nat) (t : TypeId) (L : List PD) (w : World) (hL : L.length = n) (hn : 0 < n) (hm : n ≤ 1000000) (h0 : RevAt w g o n t L 0 w) :
  Calls Tryz.prog 145 #[.slice (some ⟨g, o, none⟩) n c] w fun e w' => (∃ v, e = .returned v) ∧ ∃ k, n ≤ 2 * k + 1 ∧ 2 * k ≤ n ∧ RevAt w g o n t L k w' := by
 have H0 := Lib.hid h0
 have HL := Lib.hid hL
 clear h0 hL
 go_enter Tryz.func145, Tryz.ntmps145
 go_wp2
 go_loopw [2, 3] (fun i j wr => ∃ (k q : Nat), i = .int .i64 (k : Int) ∧ j = .int .i64 (q : Int) ∧ q + k + 1 = n ∧ k ≤ q + 1 ∧ RevAt w g o n t L k wr) (fun i _ _ => n - (intOf i).toNat)
 case atStart => exact ⟨0, n - 1, rfl, by congr 1; omega, by omega, by omega, H0.out⟩
 case round =>
  obtain ⟨k, q, rfl, rfl, hkq, hkq1, hR⟩ := hrel
  have hR0 := hR
  obtain ⟨⟨cur, hc, hs, hf⟩, _, _⟩ := hR
  by_cases hlt : k < q
  ·have hli : (k : Int) < (q : Int) := by omega
   have hr1 : revAt n k k = k := by unfold revAt; rw [if_neg (by omega)]
   have hr2 : revAt n k q = q := by unfold revAt; rw [if_neg (by omega)]
   have hl := HL.out
   have hLk : L[k]? = some (L[k]'(by omega)) := List.getElem?_eq_getElem _
   have hLq : L[q]? = some (L[q]'(by omega)) := List.getElem?_eq_getElem _
   generalize (L[k]'(by omega)) = x at hLk
   generalize (L[q]'(by omega)) = y at hLq
   have f1 := hf k x (by omega) (by rw [hr1]; exact hLk)
   have f2 := hf q y (by omega) (by rw [hr2]; exact hLq)
   have Hn := Lib.hid (hR0.next hkq hlt hLk hLq).drew
   obtain ⟨a0, a1, a2, a3, a4⟩ := f1
   obtain ⟨b0, b1, b2, b3, b4⟩ := f2
   have k0 := (cell_of_row wr g (o + k * 5) cur t (0, 0) hc).trans a0
   have k1 := (cell_of_row wr g (o + k * 5 + 1) cur t (0, 0) hc).trans a1
   have k2 := (cell_of_row wr g (o + k * 5 + 2) cur t (0, 0) hc).trans a2
   have k3 := (cell_of_row wr g (o + k * 5 + 3) cur t (0, 0) hc).trans a3
   have k4 := (cell_of_row wr g (o + k * 5 + 4) cur t (0, 0) hc).trans a4
   have q0 := (cell_of_row wr g (o + q * 5) cur t (0, 0) hc).trans b0
   have q1 := (cell_of_row wr g (o + q * 5 + 1) cur t (0, 0) hc).trans b1
   have q2 := (cell_of_row wr g (o + q * 5 + 2) cur t (0, 0) hc).trans b2
   have q3 := (cell_of_row wr g (o + q * 5 + 3) cur t (0, 0) hc).trans b3
   have q4 := (cell_of_row wr g (o + q * 5 + 4) cur t (0, 0) hc).trans b4
   have fz := fun i => frozen_of_row wr g i cur t hc
   have Hlt := Lib.hid hlt
   have Hkq := Lib.hid hkq
   have hqn : (q : Int) < (n : Int) := by omega
   have hkn : (k : Int) < (n : Int) := by omega
   clear hf hR0 hl hr1 hr2 hLk hLq a0 a1 a2 a3 a4 b0 b1 b2 b3 b4 hlt hc hs hkq1 hkq
   unfold setPD at Hn
   obtain ⟨xn, xm, xpa, xpn, xpc, xwa, xwn, xwc, xtn⟩ := x
   obtain ⟨yn, ym, ypa, ypn, ypc, ywa, ywn, ywc, ytn⟩ := y
   simp only at *
   go_wp2
   go_region
   go_wp2
   go_roundw
   case rel => exact ⟨k + 1, q - 1, by go_num, by have := Hlt.out; congr 1; omega, by have := Hlt.out; have := Hkq.out; omega, by have := Hlt.out; omega, Hn.out⟩
   case measure => simp [intOf]; have := Hlt.out; have := Hkq.out; omega
  ·have hli : ¬ (k : Int) < (q : Int) := by omega
   have HR := Lib.hid hR0
   clear hf hR0 hc hs
   go_wp2
   go_end0
   exact ⟨⟨_, rfl⟩, k, by omega, by omega, HR.out⟩
end Go.Proofs.YtnbddiiedagllaaGreat

/- Segments as they were read, in a row of the call's own. -/
namespace Go.Proofs.YtnbddiiedagllaaGreat
open Go.RowKit Go.Maps Go.Shelf

structure PartAt (Z : Nat → Prop) (w : World) (x : PD) (p : PS) : Prop where
 n : x.n = p.n
 mark : x.mark = p.mark
 recs : RecsZ Z w x.pa x.pn x.pc p.recs
 whole : Bytes w x.wa x.wn x.wc (joinL p.ls)
 blk : ∀ y, x.wa = some y → 0 < x.wn → Z y.block
 torn : x.tn = (p.t.length : Int)

theorem bytes_lt {w : World} {a : Option Addr} {n c : Nat} {l : List Nat} (h : Bytes w a n c l) (hn : 0 < n) : ∀ y, a = some y → y.block < w.heap.size := by
 intro y hy
 obtain ⟨b, o, e, hc⟩ := h.cell hn
 rw [hy] at e
 cases e
 exact World.block_lt_of_cell? _ _ (hc 0 hn)

theorem RecsZ.lt {Z : Nat → Prop} {w : World} {a : Option Addr} {n c : Nat} {ls : List (List Nat)} (h : RecsZ Z w a n c ls) : RecsZ (fun b => Z b ∧ b < w.heap.size) w a n c ls := by
 obtain ⟨h1, h2, h3, h4⟩ := h
 refine ⟨h1, h2, h3, fun hn => ?_⟩
 obtain ⟨b, o, e, hb, hc⟩ := h4 hn
 refine ⟨b, o, e, ⟨hb.1, hb.2, hb.1⟩, fun i hi => ?_⟩
 obtain ⟨a', n', c', g1, g2, g3⟩ := hc i hi
 exact ⟨a', n', c', g1, g2, fun h0 x hx => ⟨g3 h0 x hx, bytes_lt g2 h0 x hx⟩⟩

theorem PartAt.lt {Z : Nat → Prop} {w : World} {x : PD} {p : PS} (h : PartAt Z w x p) : PartAt (fun b => Z b ∧ b < w.heap.size) w x p :=
 ⟨h.n, h.mark, h.recs.lt, h.whole, fun y hy h0 => ⟨h.blk y hy h0, bytes_lt h.whole h0 y hy⟩, h.torn⟩

theorem PartAt.moved {Z Z' : Nat → Prop} {w w' : World} {x : PD} {p : PS} (h : PartAt Z w x p) (hk : ∀ b, Z b → b < w.heap.size → w'.heap[b]? = w.heap[b]?) (hs : w.heap.size ≤ w'.heap.size) (hZ : ∀ b, Z b → b < w.heap.size → Z' b) : PartAt Z' w' x p := by
 have g := h.lt
 exact ⟨g.n, g.mark, g.recs.moved (fun b hb => hk b hb.1 hb.2) hs (fun b hb => hZ b hb.1 hb.2), g.whole.moved (fun h0 y hy => hk _ (g.blk y hy h0).1 (g.blk y hy h0).2), fun y hy h0 => hZ _ (g.blk y hy h0).1 (g.blk y hy h0).2, g.torn⟩

theorem PartAt.grow {Z : Nat → Prop} {w w' : World} {x : PD} {p : PS} (h : PartAt Z w x p) (hb : Below w.heap.size w w') : PartAt Z w' x p :=
 h.moved (fun b _ hlt => hb.block b hlt) hb.size (fun _ h _ => h)

def cellsP (x : PD) : List Value := [.int .i64 x.n, .bool x.mark, .slice x.pa x.pn x.pc, .slice x.wa x.wn x.wc, .int .i64 x.tn]
def flatP (xs : List PD) : List Value := (xs.map cellsP).flatten

theorem flatP_snoc (xs : List PD) (x : PD) : flatP (xs ++ [x]) = flatP xs ++ cellsP x := by
 unfold flatP
 rw [List.map_append, List.flatten_append, List.map_cons, List.map_nil, List.flatten_cons, List.flatten_nil, List.append_nil]

theorem flatP_at : ∀ (xs : List PD) (i r : Nat) (h : i < xs.length), r < 5 → (flatP xs)[i * 5 + r]? = (cellsP xs[i])[r]?
 | [], i, r, h, _ => absurd h (by simp)
 | x :: xs, i, r, h, hr => by
  show (cellsP x ++ flatP xs)[i * 5 + r]? = _
  match i with
  | 0 =>
   rw [List.getElem?_append_left (by show _ < 5; omega)]
   simp
  | i + 1 =>
   rw [List.getElem?_append_right (by show 5 ≤ _; omega)]
   have := flatP_at xs i r (by simpa using h) hr
   have e : (i + 1) * 5 + r - (cellsP x).length = i * 5 + r := by show (i + 1) * 5 + r - 5 = _; omega
   rw [e, this]
   simp

theorem flatP_one (xs : List PD) : ∀ u ∈ flatP xs, u.oneCell' = true := by
 intro u hu
 obtain ⟨l, hl, hu⟩ := List.mem_flatten.1 hu
 obtain ⟨x, _, rfl⟩ := List.mem_map.1 hl
 unfold cellsP at hu
 simp only [List.mem_cons, List.not_mem_nil, or_false] at hu
 rcases hu with rfl | rfl | rfl | rfl | rfl <;> rfl

theorem info_part : (Tryz.prog.info? 105).map (fun i => (i.zero, i.size, i.bytes)) = some (some (.agg #[.int .i64 0, .bool false, .slice none 0 0, .slice none 0 0, .int .i64 0]), 5, 72) := by kernel_rfl

structure OwnParts5 (base : Nat) (w : World) (v : Value) (xs : List PD) (qs : List PS) : Prop where
 len : xs.length = qs.length
 own : w.ownsRow base 105 5 v xs.length (flatP xs)
 part : ∀ i (h : i < xs.length) (h' : i < qs.length), PartAt (fun b => base ≤ b ∧ v.ownBlock ≠ some b) w xs[i] qs[i]

theorem OwnParts5.nil (base : Nat) (w : World) : OwnParts5 base w (.slice none 0 0) [] [] :=
 ⟨rfl, World.ownsRow_nil _ _ _ _, fun i h => absurd h (by simp)⟩

theorem OwnParts5.grow {base : Nat} {w w' : World} {v : Value} {xs : List PD} {qs : List PS} (h : OwnParts5 base w v xs qs) (hb : Below w.heap.size w w') : OwnParts5 base w' v xs qs :=
 ⟨h.len, own_belowF h.own hb, fun i g g' => (h.part i g g').grow hb⟩

theorem putObj_cells {w : World} {l : Nat} {o o' : Obj} (hl : w.heap[l]? = some o) (ho : o.isCells = false) : ∀ b, (∃ j u, w.cell? ⟨b, j, none⟩ = some u) → (w.putObj l o').heap[b]? = w.heap[b]? := by
 rintro b ⟨j, u, hu⟩
 refine World.putObj_heap_other fun e => ?_
 subst e
 unfold World.cell? at hu
 simp only at hu
 rw [hl] at hu
 cases o <;> simp_all [Obj.isCells]

theorem PartAt.putObj {Z : Nat → Prop} {w : World} {x : PD} {p : PS} (h : PartAt Z w x p) {l : Nat} {o o' : Obj} (hl : w.heap[l]? = some o) (ho : o.isCells = false) : PartAt Z (w.putObj l o') x p := by
 have key := putObj_cells (o' := o') hl ho
 obtain ⟨h1, h2, ⟨r1, r2, r3, r4⟩, h4, h5, h6⟩ := h
 have bm : ∀ {a n c l'}, Bytes w a n c l' → Bytes (w.putObj l o') a n c l' := fun {a n c l'} hB => hB.moved (fun h0 y hy => by
  obtain ⟨b, o2, e, hc⟩ := hB.cell h0
  rw [hy] at e
  cases e
  exact key _ ⟨_, _, hc 0 h0⟩)
 refine ⟨h1, h2, ⟨r1, r2, r3, fun hn => ?_⟩, bm h4, h5, h6⟩
 obtain ⟨b, o2, e, hb, hc⟩ := r4 hn
 refine ⟨b, o2, e, ⟨by simpa using hb.1, hb.2⟩, fun i hi => ?_⟩
 obtain ⟨a', n', c', g1, g2, g3⟩ := hc i hi
 exact ⟨a', n', c', (World.cell?_of_block (a := ⟨b, o2 + i, none⟩) (key b ⟨_, _, g1⟩)).trans g1, bm g2, g3⟩

theorem OwnParts5.putObj {base : Nat} {w : World} {v : Value} {xs : List PD} {qs : List PS} (h : OwnParts5 base w v xs qs) {l : Nat} {o o' : Obj} (hl : w.heap[l]? = some o) (ho : o.isCells = false) : OwnParts5 base (w.putObj l o') v xs qs :=
 ⟨h.len, ownsRow_putObj h.own o' hl ho, fun i g g' => (h.part i g g').putObj hl ho⟩

theorem OwnParts5.snoc {base : Nat} {w w' : World} {v v' : Value} {xs : List PD} {qs : List PS} {x : PD} {q : PS} (h : OwnParts5 base w v xs qs) (hx : PartAt (fun b => base ≤ b ∧ v.ownBlock ≠ some b) w x q)
  (hown : w'.ownsRow base 105 5 v' (xs.length + 1) (flatP xs ++ cellsP x)) (hg : w.grownBy w' v.ownBlock) (hv : v'.ownBlock = v.ownBlock ∨ v'.ownBlock = some w.heap.size) : OwnParts5 base w' v' (xs ++ [x]) (qs ++ [q]) := by
 have mv : ∀ {x q}, PartAt (fun b => base ≤ b ∧ v.ownBlock ≠ some b) w x q → PartAt (fun b => base ≤ b ∧ v'.ownBlock ≠ some b) w' x q := fun {x q} hp => hp.moved (fun b hb hlt => hg.block b hlt (fun e => hb.2 e.symm)) hg.size (fun b hb hlt => ⟨hb.1, fun e => by
  rcases hv with hv | hv
  ·exact hb.2 (hv.symm.trans e)
  ·rw [hv] at e
   have := Option.some.inj e
   omega⟩)
 refine ⟨by rw [List.length_append, List.length_append, h.len]; rfl, by rw [List.length_append, flatP_snoc]; exact hown, fun i g g' => ?_⟩
 by_cases e : i < xs.length
 ·rw [List.getElem_append_left e, List.getElem_append_left (by rw [← h.len]; exact e)]
  exact mv (h.part i e (by rw [← h.len]; exact e))
 ·have e1 : i = xs.length := by rw [List.length_append] at g; simp at g; omega
  subst e1
  rw [List.getElem_append_right (Nat.le_refl _), List.getElem_append_right (by rw [h.len]; exact Nat.le_refl _)]
  simp only [Nat.sub_self, List.getElem_cons_zero, h.len]
  exact mv hx

theorem OwnParts5.setCell {base B : Nat} {w : World} {v u : Value} {xs : List PD} {qs : List PS} (h : OwnParts5 base w v xs qs) (ha : B < base) : OwnParts5 base (w.setCell ⟨B, 0, none⟩ u) v xs qs := by
 refine ⟨h.len, ownsRow_setCell_below h.own (a := ⟨B, 0, none⟩) ha u, fun i g g' => (h.part i g g').moved (fun b hb _ => ?_) (by simp) (fun _ hb _ => hb)⟩
 have : b ≠ B := by have := hb.1; omega
 exact Below.heap_setCell w ⟨B, 0, none⟩ u b this

theorem cells_new (w : World) (cs : Array Value) (t : TypeId) : ∀ j u, cs.toList[j]? = some u → (w.alloc (.cells cs t)).cell? ((⟨w.heap.size, 0, none⟩ : Addr).add j) = some u := by
 intro j u hu
 rw [addr_add, Nat.zero_add, cell_of_row _ _ _ _ _ (0, 0) (heap_alloc_new _ _)]
 simpa using hu

structure Row5 (Z : Nat → Prop) (w : World) (a : Option Addr) (n c : Nat) (xs : List PD) (qs : List PS) : Prop where
 len : xs.length = n
 lenq : qs.length = n
 cap : n ≤ c
 cell : 0 < n → ∃ b o, a = some ⟨b, o, none⟩ ∧ b < w.heap.size ∧ ∀ i (hi : i < xs.length),
  w.cell? ⟨b, o + i * 5, none⟩ = some (.int .i64 xs[i].n) ∧ w.cell? ⟨b, o + i * 5 + 1, none⟩ = some (.bool xs[i].mark) ∧ w.cell? ⟨b, o + i * 5 + 2, none⟩ = some (.slice xs[i].pa xs[i].pn xs[i].pc) ∧ w.cell? ⟨b, o + i * 5 + 3, none⟩ = some (.slice xs[i].wa xs[i].wn xs[i].wc) ∧ w.cell? ⟨b, o + i * 5 + 4, none⟩ = some (.int .i64 xs[i].tn)
 part : ∀ i (h : i < xs.length) (h' : i < qs.length), PartAt Z w xs[i] qs[i]

theorem Row5.putObj {Z : Nat → Prop} {w : World} {a : Option Addr} {n c : Nat} {xs : List PD} {qs : List PS} (h : Row5 Z w a n c xs qs) {l : Nat} {o o' : Obj} (hl : w.heap[l]? = some o) (ho : o.isCells = false) : Row5 Z (w.putObj l o') a n c xs qs := by
 refine ⟨h.len, h.lenq, h.cap, fun hn => ?_, fun i g g' => (h.part i g g').putObj hl ho⟩
 obtain ⟨b, off, e, hb, hc⟩ := h.cell hn
 refine ⟨b, off, e, by simpa using hb, fun i hi => ?_⟩
 obtain ⟨c0, c1, c2, c3, c4⟩ := hc i hi
 have key := putObj_cells (o' := o') hl ho b ⟨_, _, c0⟩
 exact ⟨(World.cell?_of_block (a := ⟨b, _, none⟩) key).trans c0, (World.cell?_of_block (a := ⟨b, _, none⟩) key).trans c1, (World.cell?_of_block (a := ⟨b, _, none⟩) key).trans c2, (World.cell?_of_block (a := ⟨b, _, none⟩) key).trans c3, (World.cell?_of_block (a := ⟨b, _, none⟩) key).trans c4⟩

theorem Row5.grow {Z : Nat → Prop} {w w' : World} {a : Option Addr} {n c : Nat} {xs : List PD} {qs : List PS} (h : Row5 Z w a n c xs qs) (hb : Below w.heap.size w w') : Row5 Z w' a n c xs qs := by
 refine ⟨h.len, h.lenq, h.cap, fun hn => ?_, fun i g g' => (h.part i g g').grow hb⟩
 obtain ⟨b, off, e, hlt, hc⟩ := h.cell hn
 refine ⟨b, off, e, Nat.lt_of_lt_of_le hlt hb.size, fun i hi => ?_⟩
 obtain ⟨c0, c1, c2, c3, c4⟩ := hc i hi
 exact ⟨cell_keep hb c0, cell_keep hb c1, cell_keep hb c2, cell_keep hb c3, cell_keep hb c4⟩

theorem rev_row {base : Nat} {w : World} {v : Value} {xs : List PD} {qs : List PS} (h : OwnParts5 base w v xs qs.reverse) (h0 : 0 < qs.length) (hm : qs.length ≤ 1000000) : ∃ g cap, v = .slice (some ⟨g, 0, none⟩) qs.length cap ∧ base ≤ g ∧ g < w.heap.size ∧ (∃ cur t, w.heap[g]? = some (.cells cur t (0, 0))) ∧
  Calls Tryz.prog 145 #[.slice (some ⟨g, 0, none⟩) qs.length cap] w fun e w' => (∃ u, e = .returned u) ∧ Row5 (fun b => base ≤ b) w' (some ⟨g, 0, none⟩) qs.length cap xs.reverse qs ∧ (∀ b, b ≠ g → b < w.heap.size → w'.heap[b]? = w.heap[b]?) ∧ Below g w w' := by
 have hl := h.len
 rw [List.length_reverse] at hl
 rcases h.own.2 with ⟨rfl, hz⟩ | ⟨g, cap, cur, rfl, hbg, hg, hle, hcm, hsz, htake⟩
 ·omega
 have hcur : ∀ i x, i < qs.length → xs[i]? = some x → Five cur (0 + i * 5) x := by
  intro i x hi hx
  obtain ⟨hix, hxe⟩ := List.getElem?_eq_some_iff.1 hx
  have key : ∀ r, r < 5 → cur[0 + i * 5 + r]? = (cellsP x)[r]? := by
   intro r hr
   rw [← hxe, ← flatP_at xs i r hix hr, ← htake, List.getElem?_take, if_pos (by omega), Array.getElem?_toList, Nat.zero_add]
  exact ⟨key 0 (by omega), key 1 (by omega), key 2 (by omega), key 3 (by omega), key 4 (by omega)⟩
 have hR0 : RevAt w g 0 qs.length 105 xs 0 w := by
  refine ⟨⟨cur, hg, by rw [hsz]; have : qs.length * 5 ≤ cap * 5 := Nat.mul_le_mul_right 5 (by omega); omega, fun i x hi hx => ?_⟩, fun _ _ _ => rfl, Below.refl _ _⟩
  have e : revAt qs.length 0 i = i := by unfold revAt; rw [if_neg (by omega)]
  rw [e] at hx
  exact hcur i x hi hx
 have hlt := (Array.getElem?_eq_some_iff.1 hg).1
 rw [hl]
 refine ⟨g, cap, rfl, hbg, hlt, ⟨cur, _, hg⟩, ?_⟩
 refine (reverse_parts g 0 qs.length cap 105 xs w hl h0 hm hR0).mono ?_
 rintro e w' ⟨hv, k, hk1, hk2, ⟨⟨cur', hg', hs', hf'⟩, ho, hb⟩⟩
 have hrl : xs.reverse.length = qs.length := by rw [List.length_reverse, hl]
 refine ⟨hv, ⟨hrl, rfl, by omega, fun _ => ⟨g, 0, rfl, (Array.getElem?_eq_some_iff.1 hg').1, fun i hi => ?_⟩, fun i hi hi' => ?_⟩, ho, hb⟩
 ·have e : revAt qs.length k i = qs.length - 1 - i := by
   unfold revAt
   by_cases h1 : i < k ∨ qs.length ≤ i + k
   ·rw [if_pos h1]
   ·rw [if_neg h1]; omega
  obtain ⟨c0, c1, c2, c3, c4⟩ := hf' i xs.reverse[i] (by omega) (by rw [e, List.getElem_reverse, List.getElem?_eq_getElem (by omega)]; congr 2; omega)
  have key := fun j => cell_of_row w' g j cur' _ (0, 0) hg'
  exact ⟨(key _).trans c0, (key _).trans c1, (key _).trans c2, (key _).trans c3, (key _).trans c4⟩
 ·have hj : qs.length - 1 - i < xs.length := by omega
  have hj' : qs.length - 1 - i < qs.reverse.length := by rw [List.length_reverse]; omega
  have hp := h.part (qs.length - 1 - i) hj hj'
  have e1 : xs.reverse[i] = xs[qs.length - 1 - i] := by rw [List.getElem_reverse]; congr 1; omega
  have e2 : qs.reverse[qs.length - 1 - i] = qs[i] := by rw [List.getElem_reverse]; congr 1; omega
  rw [e2] at hp
  rw [e1]
  refine hp.moved (fun b hb hlt => ho b (fun e => hb.2 (by rw [e]; rfl)) hlt) ?_ (fun b hb _ => hb.1)
  exact hb.size

def backL (ps : List PS) (j : Nat) : List PS := (ps.drop (ps.length - j)).reverse

theorem backL_next {ps : List PS} {j x : Nat} (hx : x + j + 1 = ps.length) : backL ps (j + 1) = backL ps j ++ [ps[x]'(by omega)] := by
 unfold backL
 have e1 : ps.length - (j + 1) = x := by omega
 have e2 : ps.length - j = x + 1 := by omega
 rw [e1, e2, List.drop_eq_getElem_cons (by omega), List.reverse_cons]
end Go.Proofs.YtnbddiiedagllaaGreat

/- A range over a function whose rounds may leave the loop (by 'break'), and whose rounds are told which element comes: each round is handed an element x together with a fact 'At pre x' on it. -/
namespace Go.Proofs.YtnbddiiedagllaaGreat
open Go.RowKit

structure StandsL {α : Type} (B : Nat) (I : List α → Nat → World → Prop) (Ix : Code → World → Prop) : Prop where
 grow : ∀ s N W W', I s N W → Below W.heap.size W W' → I s N W'
 more : ∀ s N W, I s N W → I s W.heap.size W
 put : ∀ s N W l o o', I s N W → B ≤ l → W.heap[l]? = some o → o.isCells = false → I s N (W.putObj l o')
 growX : ∀ c W W', Ix c W → Below W.heap.size W W' → Ix c W'
 putX : ∀ c W l o o', Ix c W → B ≤ l → W.heap[l]? = some o → o.isCells = false → Ix c (W.putObj l o')

def ToldL {α : Type} (n : Nat) (P : Program) (gf : Nat) (lb : Array Value) (encs : α → Array Value) (I : List α → Nat → World → Prop) (At : List α → α → Prop) (Fin : List α → Prop) (M : Nat) : Prop :=
 ∀ (l : Nat) (J : List α → Nat → World → Prop) (Jx : World → Prop) (W : World) (N : Nat), (∀ s N W W', J s N W → Below W.heap.size W W' → J s N W') → (∀ s N W, J s N W → J s W.heap.size W) → (∀ s N W, J s N W → I s N W) →
  (∀ W W', Jx W → Below W.heap.size W W' → Jx W') →
  (∀ pre x N W1, J pre N W1 → At pre x → pre.length < M → YieldAt Fence.wide (n - 1) P l (encs x) W1 fun e W' => (e = .returned (.bool true) ∧ ∃ N', J (pre ++ [x]) N' W') ∨ (e = .returned (.bool false) ∧ Jx W')) →
  J [] N W → CallsIn Fence.wide n P gf (#[.func (.yield l) #[] #[]] ++ lb) W fun e W' => (∃ v, e = .returned v) ∧ ((∃ xs N', J xs N' W' ∧ Fin xs) ∨ Jx W')

def roundPostL {α : Type} (B : Nat) (I : List α → Nat → World → Prop) (Ix : Code → World → Prop) (s : List α) (W : World) : Exit → Act → World → Prop
 | .normal, _, W' => KeepsFrom B W W' ∧ ∃ N', I s N' W'
 | .exit id, _, W' => KeepsFrom B W W' ∧ Ix (.exit id) W'
 | _, _, _ => False

theorem range_toldL {P : Program} {n : Nat} {α : Type} {g : Operand} {ps : Array Tmp} {assign body : Code} {Q : Exit → Act → World → Prop} {a : Act} {w : World} {gf : Nat} {lb : Array Value}
  (h1 : 1 ≤ n) (hg : a.eval g = .func (.func gf) #[] lb) (eg : ∀ args w, (callFunc gf args).run P w = .ok (.enter gf args) w)
  {encs : α → Array Value} (hps : ∀ x, (encs x).size = ps.size) {I : List α → Nat → World → Prop} {Ix : Code → World → Prop} {At : List α → α → Prop} {Fin : List α → Prop} {M : Nat}
  (hS : StandsL w.heap.size I Ix) (hseq : ToldL (n - 1) P gf lb encs I At Fin M) (N0 : Nat) (h0 : I [] N0 w) (a1 : α → Act)
  (hassign : ∀ (l : Nat) (x : α) (W : World) (K : Act → World → Prop), K (a1 x) W →
   assign.wpIn (Fence.wide.inRound l) (n - 1 - 1) P (Exit.then K (fun _ _ _ => False)) { tmps := (ps.zip (encs x)).foldl (fun t (p, v) => t.setIfInBounds p v) a.tmps, defers := [] } W)
  (hbody : ∀ (l : Nat) (pre : List α) (x : α) (N : Nat) (W : World), I pre N W → At pre x → pre.length < M →
   body.wpIn (Fence.wide.inRound l) (n - 1 - 1) P (roundPostL w.heap.size I Ix (pre ++ [x]) W) (a1 x) W)
  (hdone : ∀ (D : Nat) (xs : List α) (N : Nat) (W : World), w.heap.size ≤ D → Fin xs → I xs N W → W.heap[D]? = some (.deferred (some [])) → Q .normal { a with defers := { target := .collected D, args := #[] } :: a.defers } W)
  (hstop : ∀ (D : Nat) (c : Code) (W : World), w.heap.size ≤ D → Ix c W → W.heap[D]? = some (.deferred (some [])) → c.wpIn Fence.wide n P Q { a with defers := { target := .collected D, args := #[] } :: a.defers } W) :
  (Code.rangeFunc g ps assign body).wpIn Fence.wide n P Q a w := by
 refine wpIn_rangeFunc fun fn hfn => ?_
 -- the loop's record, in each of its states
 let rec_ : LoopState → Option Code → Loop := fun st pe => { state := st, pending := pe, fn, tmps := a.tmps, params := ps, assign, body, defers := w.heap.size }
 have hz : (w.alloc (.deferred (some []))).heap.size = w.heap.size + 1 := by simp
 have hL0 : ((w.alloc (.deferred (some []))).alloc (.loop (rec_ .ready none))).heap[w.heap.size + 1]? = some (.loop (rec_ .ready none)) := by
  rw [← hz]; exact heap_alloc_new _ _
 have hD0 : ((w.alloc (.deferred (some []))).alloc (.loop (rec_ .ready none))).heap[w.heap.size]? = some (.deferred (some [])) :=
  (Below.heap_alloc _ _ _ (by omega)).trans (heap_alloc_new _ _)
 have hI0 : I [] N0 ((w.alloc (.deferred (some []))).alloc (.loop (rec_ .ready none))) :=
  hS.grow _ _ _ _ (hS.grow _ _ _ _ h0 ((Below.refl _ _).alloc (Nat.le_refl _) _)) ((Below.refl _ _).alloc (Nat.le_refl _) _)
 have hE := run_enterLoop_outer (P := P) (w := w) fn a.tmps ps assign body
 generalize hW : (w.alloc (.deferred (some []))).alloc (.loop (rec_ .ready none)) = W1 at hL0 hD0 hI0
 have hE2 : (Instr.enterLoop fn a.tmps ps assign body none).run P w = .ok (w.heap.size + 1, [{ target := .collected w.heap.size, args := #[] }]) W1 := by rw [← hW]; exact hE
 refine ⟨w.heap.size + 1, [{ target := .collected w.heap.size, args := #[] }], W1, { target := .fn (.func gf) lb, args := #[.func (.yield (w.heap.size + 1)) #[] #[]] }, W1, gf, #[.func (.yield (w.heap.size + 1)) #[] #[]] ++ lb, W1,
  hE2, ?_, fun _ _ => trivial, ?_, fun _ => h1, ?_⟩
 ·simp only [resolve, hg]
  simp [go_sem]
 ·simp [invoke, go_sem, eg]
 refine (hseq (w.heap.size + 1) (fun s N W => I s N W ∧ W.heap[w.heap.size + 1]? = some (.loop (rec_ .ready none)) ∧ W.heap[w.heap.size]? = some (.deferred (some [])))
  (fun W => ∃ c, Ix c W ∧ W.heap[w.heap.size + 1]? = some (.loop (rec_ .done (some c))) ∧ W.heap[w.heap.size]? = some (.deferred (some []))) W1 N0 ?_ ?_ (fun _ _ _ h => h.1) ?_ ?_ ⟨hI0, hL0, hD0⟩).mono ?_
 ·rintro s N W W' ⟨hi, hl, hd⟩ hb
  exact ⟨hS.grow _ _ _ _ hi hb, (hb.block _ (Array.getElem?_eq_some_iff.1 hl).1).trans hl, (hb.block _ (Array.getElem?_eq_some_iff.1 hd).1).trans hd⟩
 ·rintro s N W ⟨hi, hl, hd⟩
  exact ⟨hS.more _ _ _ hi, hl, hd⟩
 ·rintro W W' ⟨c, hi, hl, hd⟩ hb
  exact ⟨c, hS.growX _ _ _ hi hb, (hb.block _ (Array.getElem?_eq_some_iff.1 hl).1).trans hl, (hb.block _ (Array.getElem?_eq_some_iff.1 hd).1).trans hd⟩
 ·rintro pre x N W ⟨hi, hl, hd⟩ hat hM
  have hlt : w.heap.size + 1 < W.heap.size := (Array.getElem?_eq_some_iff.1 hl).1
  refine ⟨fn, _, assign, body, run_yield (P := P) (args := encs x) hl (hps x), roundIn_of_wpIn hfn (hassign _ x W _ ⟨_, run_beginRound hl rfl, ?_⟩)⟩
  have hl2 : (W.putObj (w.heap.size + 1) (.loop (rec_ .busy none))).heap[w.heap.size + 1]? = some (.loop (rec_ .busy none)) := World.putObj_heap_same hlt
  have hd2 : (W.putObj (w.heap.size + 1) (.loop (rec_ .busy none))).heap[w.heap.size]? = some (.deferred (some [])) := (World.putObj_heap_other (by omega)).trans hd
  refine wpIn_mono (hbody _ pre x N _ (hS.put _ _ _ _ _ _ hi (by omega) hl rfl) hat hM) ?_
  rintro e a3 W3 hp
  cases e with
  | normal =>
   obtain ⟨hk, N', hi3⟩ := hp
   have hl3 := hk.same _ _ (by omega) hl2 rfl
   have hd3 := hk.same _ _ (Nat.le_refl _) hd2 rfl
   exact ⟨_, _, run_endRound (P := P) none hl3, .inl ⟨rfl, N', hS.put _ _ _ _ _ _ hi3 (by omega) hl3 rfl, World.putObj_heap_same (Array.getElem?_eq_some_iff.1 hl3).1, (World.putObj_heap_other (by omega)).trans hd3⟩⟩
  | exit id =>
   obtain ⟨hk, hi3⟩ := hp
   have hl3 := hk.same _ _ (by omega) hl2 rfl
   have hd3 := hk.same _ _ (Nat.le_refl _) hd2 rfl
   exact ⟨_, _, run_endRound (P := P) (some (.exit id)) hl3, .inr ⟨rfl, .exit id, hS.putX _ _ _ _ _ hi3 (by omega) hl3 rfl, World.putObj_heap_same (Array.getElem?_eq_some_iff.1 hl3).1, (World.putObj_heap_other (by omega)).trans hd3⟩⟩
  | ret => exact hp.elim
  | goto t => exact hp.elim
  | panic c => exact hp.elim
  | outgrown => exact hp.elim
 ·rintro e W2 ⟨⟨v, rfl⟩, ⟨xs, N', ⟨hi, hl, hd⟩, hF⟩ | ⟨c, hi, hl, hd⟩⟩
  ·exact ⟨none, _, run_endLoop (P := P) hl (by simp [rec_]), hdone _ xs N' _ (Nat.le_refl _) hF (hS.put _ _ _ _ _ _ hi (by omega) hl rfl) ((World.putObj_heap_other (by omega)).trans hd)⟩
  ·exact ⟨some c, _, run_endLoop (P := P) hl (by simp [rec_]), hstop _ c _ (Nat.le_refl _) (hS.putX _ _ _ _ _ hi (by omega) hl rfl) ((World.putObj_heap_other (by omega)).trans hd)⟩
end Go.Proofs.YtnbddiiedagllaaGreat

