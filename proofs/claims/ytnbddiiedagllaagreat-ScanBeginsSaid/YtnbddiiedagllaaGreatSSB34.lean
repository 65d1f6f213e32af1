import Derived.Test.YtnbddiiedagllaaGreatSSB33
import Derived.Test.YtnbddiiedagllaaGreatSSB31
import Derived.Test.YtnbddiiedagllaaGreatSSB7
import Derived.Test.YtnbddiiedagllaaGreatSSB1
import Derived.OpenShut
import Derived.Test.YtnbddiiedagllaaGreatSSB9
import Derived.Test.YtnbddiiedagllaaGreatSSB32
import Derived.Maps.AppendAt
import Derived.Test.YtnbddiiedagllaaGreatSSB29
/- The segments of a disk by what each number's file has; what removals and cuts make of them. -/
namespace Go.Proofs.YtnbddiiedagllaaGreat
open Go.RowKit Go.Maps

def SegsC (fs : List F) (ps : List PS) : Prop :=
 Asc (ps.map PS.n) ∧ (∀ p ∈ ps, ∃ (N : Nat) (b : List Nat), p.n = (N : Int) ∧ 1 ≤ N ∧ N ≤ 99999999 ∧ segC fs N = some b ∧ Splits b p.ls p.t) ∧ ∀ N : Nat, 1 ≤ N → N ≤ 99999999 → segC fs N ≠ none → (N : Int) ∈ ps.map PS.n

theorem segC_some {fs : List F} {N : Nat} {b : List Nat} (h : segC fs N = some b) : ∃ f, findN F.n (nmB N) fs = some f ∧ f.b = b := by
 unfold segC at h
 cases hf : findN F.n (nmB N) fs with
 | none => rw [hf] at h; cases h
 | some f => rw [hf] at h; exact ⟨f, rfl, Option.some.inj h⟩

theorem allOf_segs {M : DM} (hd : M.down = false) {ps : List PS} : AllOf M ps ↔ SegsC M.fs ps := by
 constructor
 ·intro hA
  refine ⟨hA.1.1, fun p hp => ?_, fun N h1 h2 h3 => ?_⟩
  ·obtain ⟨l, hl1, hl2, hl3⟩ := (hA.1.2 p.n).1 (List.mem_map.2 ⟨p, hp, rfl⟩)
   obtain ⟨f, hf, rfl⟩ := List.mem_map.1 hl1
   have hnb := nmB_of_num hl2
   have hle := segNum_le (nmL f.n)
   obtain ⟨f', hf'⟩ := findN_have (n := nmB (segNum (nmL f.n))) ⟨f, hf, hnb.symm⟩
   have hs := hA.2 p hp
   rw [hl3, Int.toNat_natCast, readM_up hd hf'] at hs
   exact ⟨_, f'.b, hl3, hl2, hle, by unfold segC; rw [hf']; rfl, hs⟩
  ·cases hs : segC M.fs N with
   | none => exact absurd hs h3
   | some b =>
    obtain ⟨f, hf, _⟩ := segC_some hs
    obtain ⟨hm, hn⟩ := findN_some hf
    refine (hA.1.2 _).2 ⟨nmL f.n, List.mem_map.2 ⟨f, hm, rfl⟩, ?_, ?_⟩ <;> rw [hn, nmL_nmB, segNum_name h2]
    omega
 ·rintro ⟨h1, h2, h3⟩
  refine ⟨⟨h1, fun x => ⟨fun hx => ?_, fun hx => ?_⟩⟩, fun p hp => ?_⟩
  ·obtain ⟨p, hp, rfl⟩ := List.mem_map.1 hx
   obtain ⟨N, b, e, g1, g2, g3, _⟩ := h2 p hp
   obtain ⟨f, hf, _⟩ := segC_some g3
   obtain ⟨hm, hn⟩ := findN_some hf
   refine ⟨nmL f.n, List.mem_map.2 ⟨f, hm, rfl⟩, ?_, ?_⟩ <;> rw [hn, nmL_nmB, segNum_name g2]
   ·omega
   ·exact e
  ·obtain ⟨l, hl1, hl2, rfl⟩ := hx
   obtain ⟨f, hf, rfl⟩ := List.mem_map.1 hl1
   have hnb := nmB_of_num hl2
   obtain ⟨f', hf'⟩ := findN_have (n := nmB (segNum (nmL f.n))) ⟨f, hf, hnb.symm⟩
   refine h3 _ hl2 (segNum_le _) ?_
   unfold segC
   rw [hf']
   simp
  ·obtain ⟨N, b, e, g1, g2, g3, g4⟩ := h2 p hp
   obtain ⟨f, hf, hb⟩ := segC_some g3
   rw [e, Int.toNat_natCast, readM_up hd hf, hb]
   exact g4

theorem SegsC.same {fs fs' : List F} {ps : List PS} (h : SegsC fs ps) (he : ∀ N : Nat, 1 ≤ N → N ≤ 99999999 → segC fs' N = segC fs N) : SegsC fs' ps := by
 obtain ⟨h1, h2, h3⟩ := h
 refine ⟨h1, fun p hp => ?_, fun N g1 g2 g3 => h3 N g1 g2 (by rwa [he N g1 g2] at g3)⟩
 obtain ⟨N, b, e, g1, g2, g3, g4⟩ := h2 p hp
 exact ⟨N, b, e, g1, g2, by rw [he N g1 g2]; exact g3, g4⟩

theorem SegsC.tail {fs fs' : List F} {p : PS} {ps : List PS} (h : SegsC fs (p :: ps)) (he : ∀ N : Nat, 1 ≤ N → N ≤ 99999999 → segC fs' N = if (N : Int) = p.n then none else segC fs N) : SegsC fs' ps := by
 obtain ⟨h1, h2, h3⟩ := h
 rw [List.map_cons] at h1
 have hlt := (List.pairwise_cons.1 h1).1
 refine ⟨(List.pairwise_cons.1 h1).2, fun q hq => ?_, fun N g1 g2 g3 => ?_⟩
 ·obtain ⟨N, b, e, g1, g2, g3, g4⟩ := h2 q (List.mem_cons_of_mem _ hq)
  refine ⟨N, b, e, g1, g2, ?_, g4⟩
  rw [he N g1 g2, if_neg ?_]
  ·exact g3
  ·intro h
   have := hlt q.n (List.mem_map.2 ⟨q, hq, rfl⟩)
   omega
 ·rw [he N g1 g2] at g3
  by_cases hN : (N : Int) = p.n
  ·rw [if_pos hN] at g3
   exact absurd rfl g3
  ·rw [if_neg hN] at g3
   have := h3 N g1 g2 g3
   rw [List.map_cons] at this
   rcases List.mem_cons.1 this with h | h
   ·exact absurd h hN
   ·exact h

theorem SegsC.cut {fs fs' : List F} {p : PS} {qs : List PS} (h : SegsC fs (qs ++ [p])) (he : ∀ N : Nat, 1 ≤ N → N ≤ 99999999 → segC fs' N = if (N : Int) = p.n then some (joinL p.ls) else segC fs N) : SegsC fs' (qs ++ [⟨p.n, p.ls, []⟩]) := by
 obtain ⟨h1, h2, h3⟩ := h
 have hm : (qs ++ [(⟨p.n, p.ls, []⟩ : PS)]).map PS.n = (qs ++ [p]).map PS.n := by simp
 refine ⟨by rw [hm]; exact h1, fun q hq => ?_, fun N g1 g2 g3 => ?_⟩
 ·rcases List.mem_append.1 hq with hq | hq
  ·obtain ⟨N, b, e, g1, g2, g3, g4⟩ := h2 q (List.mem_append.2 (.inl hq))
   refine ⟨N, b, e, g1, g2, ?_, g4⟩
   rw [he N g1 g2, if_neg ?_]
   ·exact g3
   ·intro h
    unfold Asc at h1
    rw [List.map_append, List.pairwise_append] at h1
    have := h1.2.2 q.n (List.mem_map.2 ⟨q, hq, rfl⟩) p.n (by simp)
    omega
  ·obtain rfl := List.mem_singleton.1 hq
   obtain ⟨N, b, e, g1, g2, g3, g4⟩ := h2 p (by simp)
   refine ⟨N, joinL p.ls, e, g1, g2, ?_, splits_all _ g4.recs⟩
   rw [he N g1 g2, if_pos e.symm]
 ·rw [hm]
  rw [he N g1 g2] at g3
  by_cases hN : (N : Int) = p.n
  ·rw [hN]; simp
  ·rw [if_neg hN] at g3
   exact h3 N g1 g2 g3

def SegSync (fs : List F) : Prop := ∀ (N : Nat) (f : F), 1 ≤ N → N ≤ 99999999 → findN F.n (nmB N) fs = some f → f.d = f.b.length

end Go.Proofs.YtnbddiiedagllaaGreat

/- What Open makes of a log, as plain data. -/
namespace Go.Proofs.YtnbddiiedagllaaGreat
open Go.RowKit Go.Maps

def lastP (ps : List PS) (h : 0 < ps.length) : PS := ps[ps.length - 1]'(by omega)

def BrokenAt (ps : List PS) : Prop := ∃ k, FirstAt ps k ∧ ¬ Good (ps.drop k)

def RepOf (M : DM) (ps : List PS) (ops : List SO) (N size : Nat) (recs : List (List Nat)) : Prop :=
 (ps = [] ∧ ops = repNone M ∧ N = 1 ∧ size = 0 ∧ recs = []) ∨
 ∃ (k : Nat) (h : 0 < ps.length), FirstAt ps k ∧ Good (ps.drop k) ∧ (lastP ps h).n = (N : Int) ∧ size = (joinL (lastP ps h).ls).length ∧ recs = recsL (ps.drop k) ∧ ops = repOps M ((ps.take k).map PS.n) N (joinL (lastP ps h).ls) (lastP ps h).t.length

theorem repOf_uniq {M : DM} {ps : List PS} {ops ops' : List SO} {N N' size size' : Nat} {recs recs' : List (List Nat)} (h : RepOf M ps ops N size recs) (h' : RepOf M ps ops' N' size' recs') : ops = ops' ∧ N = N' ∧ size = size' ∧ recs = recs' := by
 rcases h with ⟨h0, rfl, rfl, rfl, rfl⟩ | ⟨k, hp, hk, hg, hn, rfl, rfl, rfl⟩
 ·rcases h' with ⟨_, rfl, rfl, rfl, rfl⟩ | ⟨k', hp', _⟩
  ·exact ⟨rfl, rfl, rfl, rfl⟩
  ·rw [h0] at hp'; exact absurd hp' (Nat.lt_irrefl _)
 ·rcases h' with ⟨h0, _⟩ | ⟨k', hp', hk', hg', hn', rfl, rfl, rfl⟩
  ·rw [h0] at hp; exact absurd hp (Nat.lt_irrefl _)
  ·obtain rfl := firstAt_uniq hk hk'
   obtain rfl : N = N' := by rw [hn] at hn'; omega
   exact ⟨rfl, rfl, rfl, rfl⟩

theorem broken_rep {M : DM} {ps : List PS} {ops : List SO} {N size : Nat} {recs : List (List Nat)} (h : BrokenAt ps) (h' : RepOf M ps ops N size recs) : False := by
 obtain ⟨k, hk, hg⟩ := h
 rcases h' with ⟨h0, _⟩ | ⟨k', _, hk', hg', _⟩
 ·subst h0
  obtain ⟨h, _⟩ := hk
  exact absurd h (by simp)
 ·obtain rfl := firstAt_uniq hk hk'
  exact hg hg'

structure OR where
 z : Int
 M : DM
 N : Nat
 size : Nat
 recs : List (List Nat)

def IsOpen (M : DM) (ps : List PS) (r : OR) : Prop := (BrokenAt ps ∧ r = ⟨11, M, 0, 0, []⟩) ∨ ∃ ops N size recs, RepOf M ps ops N size recs ∧ r = ⟨(stepsM ops M).2, (stepsM ops M).1, N, size, recs⟩

theorem isOpen_uniq {M : DM} {ps : List PS} {r r' : OR} (h : IsOpen M ps r) (h' : IsOpen M ps r') : r = r' := by
 rcases h with ⟨hb, rfl⟩ | ⟨ops, N, size, recs, hr, rfl⟩
 ·rcases h' with ⟨_, rfl⟩ | ⟨ops, N, size, recs, hr, rfl⟩
  ·rfl
  ·exact (broken_rep hb hr).elim
 ·rcases h' with ⟨hb, rfl⟩ | ⟨ops', N', size', recs', hr', rfl⟩
  ·exact (broken_rep hb hr).elim
  ·obtain ⟨rfl, rfl, rfl, rfl⟩ := repOf_uniq hr hr'
   rfl

theorem first_ex (ps : List PS) (h : 0 < ps.length) : ∃ k, FirstAt ps k := by
 have key : ∀ j, j ≤ ps.length → (∃ k, FirstAt ps k) ∨ ∀ i (h : i < ps.length), ps.length - j ≤ i → ps[i].mark = false := by
  intro j
  induction j with
  | zero => exact fun _ => .inr fun i hi h => by omega
  | succ j ih =>
   intro hj
   rcases ih (by omega) with h1 | h1
   ·exact .inl h1
   ·have hx : ps.length - (j + 1) < ps.length := by omega
    by_cases hm : ps[ps.length - (j + 1)].mark = true
    ·exact .inl ⟨_, hx, fun i hi hlt => h1 i hi (by omega), .inr hm⟩
    ·refine .inr fun i hi hle => ?_
     by_cases e : i = ps.length - (j + 1)
     ·subst e
      simpa using hm
     ·exact h1 i hi (by omega)
 rcases key ps.length (Nat.le_refl _) with h1 | h1
 ·exact h1
 ·exact ⟨0, h, fun i hi _ => h1 i hi (by omega), .inl rfl⟩
end Go.Proofs.YtnbddiiedagllaaGreat

/- Files that come in, read as plain data. -/
namespace Go.Proofs.YtnbddiiedagllaaGreat
open Go.ChangeShapes Go.WideShapes Go.ChangeAt Go.RowKit Go.Deep

structure FI where
 nm : List UInt8
 bs : List Nat
 z : Int

structure FIAt (w : World) (b o : Nat) (x : FI) (pb : Option Addr) (cb : Nat) : Prop where
 k0 : w.cell? ⟨b, o, none⟩ = some (.string ⟨x.nm.toArray⟩)
 k1 : w.cell? ⟨b, o + 1, none⟩ = some (.slice pb x.bs.length cb)
 k2 : w.cell? ⟨b, o + 2, none⟩ = some (.int .i64 x.z)
 bytes : Bytes w pb x.bs.length cb x.bs
 wn : x.nm.length ≤ 9223372036854775807

structure FIs (w : World) (a : Option Addr) (n c : Nat) (l : List FI) : Prop where
 len : l.length = n
 le : n ≤ c
 max : c ≤ 9223372036854775807
 cell : 0 < n → ∃ b o, a = some ⟨b, o, none⟩ ∧ ∀ i (hi : i < l.length), ∃ pb cb, FIAt w b (o + i * 3) l[i] pb cb

theorem FIAt.grow {w w' : World} {b o : Nat} {x : FI} {pb : Option Addr} {cb : Nat} (h : FIAt w b o x pb cb) (hb : Below w.heap.size w w') : FIAt w' b o x pb cb :=
 ⟨cell_keep hb h.k0, cell_keep hb h.k1, cell_keep hb h.k2, h.bytes.grow hb, h.wn⟩

theorem FIs.grow {w w' : World} {a : Option Addr} {n c : Nat} {l : List FI} (h : FIs w a n c l) (hb : Below w.heap.size w w') : FIs w' a n c l := by
 refine ⟨h.len, h.le, h.max, fun hn => ?_⟩
 obtain ⟨b, o, e, hc⟩ := h.cell hn
 exact ⟨b, o, e, fun i hi => by obtain ⟨pb, cb, hx⟩ := hc i hi; exact ⟨pb, cb, hx.grow hb⟩⟩

end Go.Proofs.YtnbddiiedagllaaGreat

/- The walk of slices.Reverse at segments as they were read. -/
namespace Go.Proofs.YtnbddiiedagllaaGreat
open Go.RowKit Go.Maps Go.Shelf

attribute [local go_sem ↓] Go.wp_at_zero Go.wp_at_succ

def Five (cur : Array Value) (o : Nat) (x : PD) : Prop :=
 cur[o]? = some (.int .i64 x.n) ∧ cur[o + 1]? = some (.bool x.mark) ∧ cur[o + 2]? = some (.slice x.pa x.pn x.pc) ∧ cur[o + 3]? = some (.slice x.wa x.wn x.wc) ∧ cur[o + 4]? = some (.int .i64 x.tn)

def put5 (cur : Array Value) (o : Nat) (x : PD) : Array Value :=
 ((((cur.setIfInBounds o (.int .i64 x.n)).setIfInBounds (o + 1) (.bool x.mark)).setIfInBounds (o + 2) (.slice x.pa x.pn x.pc)).setIfInBounds (o + 3) (.slice x.wa x.wn x.wc)).setIfInBounds (o + 4) (.int .i64 x.tn)

theorem put5_size (cur : Array Value) (o : Nat) (x : PD) : (put5 cur o x).size = cur.size := by
 unfold put5
 simp only [Array.size_setIfInBounds]

theorem five_put {cur : Array Value} {o : Nat} (x : PD) (h : o + 5 ≤ cur.size) : Five (put5 cur o x) o x := by
 unfold Five put5
 refine ⟨?_, ?_, ?_, ?_, ?_⟩ <;>
 ·simp only [Array.getElem?_setIfInBounds, Array.size_setIfInBounds]
  (repeat' split) <;> first | rfl | (exfalso; omega) | simp_all | (simp_all; omega)

theorem five_other {cur : Array Value} {o o' : Nat} {x y : PD} (h : Five cur o' y) (hd : o' + 5 ≤ o ∨ o + 5 ≤ o') : Five (put5 cur o x) o' y := by
 obtain ⟨h0, h1, h2, h3, h4⟩ := h
 unfold Five put5
 simp only [Array.getElem?_setIfInBounds, Array.size_setIfInBounds]
 refine ⟨?_, ?_, ?_, ?_, ?_⟩ <;>
 ·(repeat' split) <;> first | assumption | (exfalso; omega)

def revAt (n k i : Nat) : Nat := if i < k ∨ n ≤ i + k then n - 1 - i else i

def setPD (w : World) (g o : Nat) (x : PD) : World :=
 ((((w.setCell ⟨g, o, none⟩ (.int .i64 x.n)).setCell ⟨g, o + 1, none⟩ (.bool x.mark)).setCell ⟨g, o + 2, none⟩ (.slice x.pa x.pn x.pc)).setCell ⟨g, o + 3, none⟩ (.slice x.wa x.wn x.wc)).setCell ⟨g, o + 4, none⟩ (.int .i64 x.tn)

theorem setPD_heap {w : World} {g o : Nat} {cs : Array Value} {t : TypeId} {m : Nat × Nat} (h : w.heap[g]? = some (.cells cs t m)) (x : PD) : (setPD w g o x).heap[g]? = some (.cells (put5 cs o x) t m) := by
 unfold setPD put5
 exact set_head (set_head (set_head (set_head (set_head h _) _) _) _) _

structure RevAt (w : World) (g o n : Nat) (t : TypeId) (L : List PD) (k : Nat) (wr : World) : Prop where
 cells : ∃ cur, wr.heap[g]? = some (.cells cur t (0, 0)) ∧ o + n * 5 ≤ cur.size ∧ ∀ i x, i < n → L[revAt n k i]? = some x → Five cur (o + i * 5) x
 other : ∀ b, b ≠ g → b < w.heap.size → wr.heap[b]? = w.heap[b]?
 base : Below g w wr

theorem RevAt.next {w : World} {g o n : Nat} {t : TypeId} {L : List PD} {k q : Nat} {wr : World} {x y : PD} (h : RevAt w g o n t L k wr) (hk : q + k + 1 = n) (hkq : k < q) (hx : L[k]? = some x) (hy : L[q]? = some y) :
  RevAt w g o n t L (k + 1) (setPD (setPD wr g (o + k * 5) y) g (o + q * 5) x) := by
 obtain ⟨⟨cur, hc, hs, hf⟩, ho, hb⟩ := h
 refine ⟨⟨_, setPD_heap (setPD_heap hc _) _, by rw [put5_size, put5_size]; exact hs, fun i z hi hr => ?_⟩, fun b hbg hlt => ?_, ?_⟩
 ·by_cases e : i = q
  ·subst e
   have hr2 : revAt n (k + 1) i = k := by unfold revAt; rw [if_pos (by omega)]; omega
   rw [hr2, hx] at hr
   cases hr
   exact five_put _ (by rw [put5_size]; have : (i + 1) * 5 ≤ n * 5 := Nat.mul_le_mul_right 5 (by omega); omega)
  ·refine five_other ?_ (by omega)
   by_cases e2 : i = k
   ·subst e2
    have hr2 : revAt n (i + 1) i = q := by unfold revAt; rw [if_pos (by omega)]; omega
    rw [hr2, hy] at hr
    cases hr
    exact five_put _ (by have : (i + 1) * 5 ≤ n * 5 := Nat.mul_le_mul_right 5 (by omega); omega)
   ·refine five_other ?_ (by omega)
    have hr2 : revAt n (k + 1) i = revAt n k i := by
     unfold revAt
     by_cases h1 : i < k ∨ n ≤ i + k
     ·rw [if_pos h1, if_pos (by omega)]
     ·rw [if_neg h1, if_neg (by omega)]
    rw [hr2] at hr
    exact hf i z hi hr
 ·unfold setPD
  rw [Below.heap_setCell _ _ _ _ hbg, Below.heap_setCell _ _ _ _ hbg, Below.heap_setCell _ _ _ _ hbg, Below.heap_setCell _ _ _ _ hbg, Below.heap_setCell _ _ _ _ hbg, Below.heap_setCell _ _ _ _ hbg, Below.heap_setCell _ _ _ _ hbg, Below.heap_setCell _ _ _ _ hbg, Below.heap_setCell _ _ _ _ hbg, Below.heap_setCell _ _ _ _ hbg]
  exact ho b hbg hlt
 ·unfold setPD
  exact (((((((((hb.setCell (Nat.le_refl _) _).setCell (Nat.le_refl _) _).setCell (Nat.le_refl _) _).setCell (Nat.le_refl _) _).setCell (Nat.le_refl _) _).setCell (Nat.le_refl _) _).setCell (Nat.le_refl _) _).setCell (Nat.le_refl _) _).setCell (Nat.le_refl _) _).setCell (Nat.le_refl _) _

theorem RevAt.drew {w : World} {g o n : Nat} {t : TypeId} {L : List PD} {k : Nat} {wr : World} (h : RevAt w g o n t L k wr) : RevAt w g o n t L k wr.drew := ⟨h.cells, h.other, h.base.drew⟩

set_option maxRecDepth 100000 in
set_option maxHeartbeats 3200000 in
theorem reverse_parts (g o n c : Nat) (t : TypeId) (L : List PD) (w : World) (hL : L.length = n) (hn : 0 < n) (hm : n ≤ 1000000) (h0 : RevAt w g o n t L 0 w) :
  Calls Tryz.prog 145 #[.slice (some ⟨g, o, none⟩) n c] w fun e w' => (∃ v, e = .returned v) ∧ ∃ k, n ≤ 2 * k + 1 ∧ 2 * k ≤ n ∧ RevAt w g o n t L k w' := by
 have H0 := Lib.hid h0
 have HL := Lib.hid hL
 clear h0 hL
 go_enter Tryz.func145, Tryz.ntmps145
 go_wp2
 go_loopw [2, 3] (fun i j wr => ∃ (k q : Nat), i = .int .i64 (k : Int) ∧ j = .int .i64 (q : Int) ∧ q + k + 1 = n ∧ k ≤ q + 1 ∧ RevAt w g o n t L k wr) (fun i _ _ => n - (intOf i).toNat)
 case atStart => exact ⟨0, n - 1, rfl, by congr 1; omega, by omega, by omega, H0.out⟩
 case round =>
  obtain ⟨k, q, rfl, rfl, hkq, hkq1, hR⟩ := hrel
  have hR0 := hR
  obtain ⟨⟨cur, hc, hs, hf⟩, _, _⟩ := hR
  by_cases hlt : k < q
  ·have hli : (k : Int) < (q : Int) := by omega
   have hr1 : revAt n k k = k := by unfold revAt; rw [if_neg (by omega)]
   have hr2 : revAt n k q = q := by unfold revAt; rw [if_neg (by omega)]
   have hl := HL.out
   have hLk : L[k]? = some (L[k]'(by omega)) := List.getElem?_eq_getElem _
   have hLq : L[q]? = some (L[q]'(by omega)) := List.getElem?_eq_getElem _
   generalize (L[k]'(by omega)) = x at hLk
   generalize (L[q]'(by omega)) = y at hLq
   have f1 := hf k x (by omega) (by rw [hr1]; exact hLk)
   have f2 := hf q y (by omega) (by rw [hr2]; exact hLq)
   have Hn := Lib.hid (hR0.next hkq hlt hLk hLq).drew
   obtain ⟨a0, a1, a2, a3, a4⟩ := f1
   obtain ⟨b0, b1, b2, b3, b4⟩ := f2
   have k0 := (cell_of_row wr g (o + k * 5) cur t (0, 0) hc).trans a0
   have k1 := (cell_of_row wr g (o + k * 5 + 1) cur t (0, 0) hc).trans a1
   have k2 := (cell_of_row wr g (o + k * 5 + 2) cur t (0, 0) hc).trans a2
   have k3 := (cell_of_row wr g (o + k * 5 + 3) cur t (0, 0) hc).trans a3
   have k4 := (cell_of_row wr g (o + k * 5 + 4) cur t (0, 0) hc).trans a4
   have q0 := (cell_of_row wr g (o + q * 5) cur t (0, 0) hc).trans b0
   have q1 := (cell_of_row wr g (o + q * 5 + 1) cur t (0, 0) hc).trans b1
   have q2 := (cell_of_row wr g (o + q * 5 + 2) cur t (0, 0) hc).trans b2
   have q3 := (cell_of_row wr g (o + q * 5 + 3) cur t (0, 0) hc).trans b3
   have q4 := (cell_of_row wr g (o + q * 5 + 4) cur t (0, 0) hc).trans b4
   have fz := fun i => frozen_of_row wr g i cur t hc
   have Hlt := Lib.hid hlt
   have Hkq := Lib.hid hkq
   have hqn : (q : Int) < (n : Int) := by omega
   have hkn : (k : Int) < (n : Int) := by omega
   clear hf hR0 hl hr1 hr2 hLk hLq a0 a1 a2 a3 a4 b0 b1 b2 b3 b4 hlt hc hs hkq1 hkq
   unfold setPD at Hn
   obtain ⟨xn, xm, xpa, xpn, xpc, xwa, xwn, xwc, xtn⟩ := x
   obtain ⟨yn, ym, ypa, ypn, ypc, ywa, ywn, ywc, ytn⟩ := y
   simp only at *
   go_wp2
   go_region
   go_wp2
   go_roundw
   case rel => exact ⟨k + 1, q - 1, by go_num, by have := Hlt.out; congr 1; omega, by have := Hlt.out; have := Hkq.out; omega, by have := Hlt.out; omega, Hn.out⟩
   case measure => simp [intOf]; have := Hlt.out; have := Hkq.out; omega
  ·have hli : ¬ (k : Int) < (q : Int) := by omega
   have HR := Lib.hid hR0
   clear hf hR0 hc hs
   go_wp2
   go_end0
   exact ⟨⟨_, rfl⟩, k, by omega, by omega, HR.out⟩
end Go.Proofs.YtnbddiiedagllaaGreat

/- Segments as they were read, in a row of the call's own. -/
namespace Go.Proofs.YtnbddiiedagllaaGreat
open Go.RowKit Go.Maps Go.Shelf

structure PartAt (Z : Nat → Prop) (w : World) (x : PD) (p : PS) : Prop where
 n : x.n = p.n
 mark : x.mark = p.mark
 recs : RecsZ Z w x.pa x.pn x.pc p.recs
 whole : Bytes w x.wa x.wn x.wc (joinL p.ls)
 blk : ∀ y, x.wa = some y → 0 < x.wn → Z y.block
 torn : x.tn = (p.t.length : Int)

theorem bytes_lt {w : World} {a : Option Addr} {n c : Nat} {l : List Nat} (h : Bytes w a n c l) (hn : 0 < n) : ∀ y, a = some y → y.block < w.heap.size := by
 intro y hy
 obtain ⟨b, o, e, hc⟩ := h.cell hn
 rw [hy] at e
 cases e
 exact World.block_lt_of_cell? _ _ (hc 0 hn)

theorem RecsZ.lt {Z : Nat → Prop} {w : World} {a : Option Addr} {n c : Nat} {ls : List (List Nat)} (h : RecsZ Z w a n c ls) : RecsZ (fun b => Z b ∧ b < w.heap.size) w a n c ls := by
 obtain ⟨h1, h2, h3, h4⟩ := h
 refine ⟨h1, h2, h3, fun hn => ?_⟩
 obtain ⟨b, o, e, hb, hc⟩ := h4 hn
 refine ⟨b, o, e, ⟨hb.1, hb.2, hb.1⟩, fun i hi => ?_⟩
 obtain ⟨a', n', c', g1, g2, g3⟩ := hc i hi
 exact ⟨a', n', c', g1, g2, fun h0 x hx => ⟨g3 h0 x hx, bytes_lt g2 h0 x hx⟩⟩

theorem PartAt.lt {Z : Nat → Prop} {w : World} {x : PD} {p : PS} (h : PartAt Z w x p) : PartAt (fun b => Z b ∧ b < w.heap.size) w x p :=
 ⟨h.n, h.mark, h.recs.lt, h.whole, fun y hy h0 => ⟨h.blk y hy h0, bytes_lt h.whole h0 y hy⟩, h.torn⟩

theorem PartAt.moved {Z Z' : Nat → Prop} {w w' : World} {x : PD} {p : PS} (h : PartAt Z w x p) (hk : ∀ b, Z b → b < w.heap.size → w'.heap[b]? = w.heap[b]?) (hs : w.heap.size ≤ w'.heap.size) (hZ : ∀ b, Z b → b < w.heap.size → Z' b) : PartAt Z' w' x p := by
 have g := h.lt
 exact ⟨g.n, g.mark, g.recs.moved (fun b hb => hk b hb.1 hb.2) hs (fun b hb => hZ b hb.1 hb.2), g.whole.moved (fun h0 y hy => hk _ (g.blk y hy h0).1 (g.blk y hy h0).2), fun y hy h0 => hZ _ (g.blk y hy h0).1 (g.blk y hy h0).2, g.torn⟩

theorem PartAt.grow {Z : Nat → Prop} {w w' : World} {x : PD} {p : PS} (h : PartAt Z w x p) (hb : Below w.heap.size w w') : PartAt Z w' x p :=
 h.moved (fun b _ hlt => hb.block b hlt) hb.size (fun _ h _ => h)

def cellsP (x : PD) : List Value := [.int .i64 x.n, .bool x.mark, .slice x.pa x.pn x.pc, .slice x.wa x.wn x.wc, .int .i64 x.tn]
def flatP (xs : List PD) : List Value := (xs.map cellsP).flatten

theorem flatP_snoc (xs : List PD) (x : PD) : flatP (xs ++ [x]) = flatP xs ++ cellsP x := by
 unfold flatP
 rw [List.map_append, List.flatten_append, List.map_cons, List.map_nil, List.flatten_cons, List.flatten_nil, List.append_nil]

theorem flatP_at : ∀ (xs : List PD) (i r : Nat) (h : i < xs.length), r < 5 → (flatP xs)[i * 5 + r]? = (cellsP xs[i])[r]?
 | [], i, r, h, _ => absurd h (by simp)
 | x :: xs, i, r, h, hr => by
  show (cellsP x ++ flatP xs)[i * 5 + r]? = _
  match i with
  | 0 =>
   rw [List.getElem?_append_left (by show _ < 5; omega)]
   simp
  | i + 1 =>
   rw [List.getElem?_append_right (by show 5 ≤ _; omega)]
   have := flatP_at xs i r (by simpa using h) hr
   have e : (i + 1) * 5 + r - (cellsP x).length = i * 5 + r := by show (i + 1) * 5 + r - 5 = _; omega
   rw [e, this]
   simp

theorem flatP_one (xs : List PD) : ∀ u ∈ flatP xs, u.oneCell' = true := by
 intro u hu
 obtain ⟨l, hl, hu⟩ := List.mem_flatten.1 hu
 obtain ⟨x, _, rfl⟩ := List.mem_map.1 hl
 unfold cellsP at hu
 simp only [List.mem_cons, List.not_mem_nil, or_false] at hu
 rcases hu with rfl | rfl | rfl | rfl | rfl <;> rfl

theorem info_part : (Tryz.prog.info? 105).map (fun i => (i.zero, i.size, i.bytes)) = some (some (.agg #[.int .i64 0, .bool false, .slice none 0 0, .slice none 0 0, .int .i64 0]), 5, 72) := by kernel_rfl

structure OwnParts5 (base : Nat) (w : World) (v : Value) (xs : List PD) (qs : List PS) : Prop where
 len : xs.length = qs.length
 own : w.ownsRow base 105 5 v xs.length (flatP xs)
 part : ∀ i (h : i < xs.length) (h' : i < qs.length), PartAt (fun b => base ≤ b ∧ v.ownBlock ≠ some b) w xs[i] qs[i]

theorem OwnParts5.nil (base : Nat) (w : World) : OwnParts5 base w (.slice none 0 0) [] [] :=
 ⟨rfl, World.ownsRow_nil _ _ _ _, fun i h => absurd h (by simp)⟩

theorem OwnParts5.grow {base : Nat} {w w' : World} {v : Value} {xs : List PD} {qs : List PS} (h : OwnParts5 base w v xs qs) (hb : Below w.heap.size w w') : OwnParts5 base w' v xs qs :=
 ⟨h.len, own_belowF h.own hb, fun i g g' => (h.part i g g').grow hb⟩

theorem putObj_cells {w : World} {l : Nat} {o o' : Obj} (hl : w.heap[l]? = some o) (ho : o.isCells = false) : ∀ b, (∃ j u, w.cell? ⟨b, j, none⟩ = some u) → (w.putObj l o').heap[b]? = w.heap[b]? := by
 rintro b ⟨j, u, hu⟩
 refine World.putObj_heap_other fun e => ?_
 subst e
 unfold World.cell? at hu
 simp only at hu
 rw [hl] at hu
 cases o <;> simp_all [Obj.isCells]

theorem PartAt.putObj {Z : Nat → Prop} {w : World} {x : PD} {p : PS} (h : PartAt Z w x p) {l : Nat} {o o' : Obj} (hl : w.heap[l]? = some o) (ho : o.isCells = false) : PartAt Z (w.putObj l o') x p := by
 have key := putObj_cells (o' := o') hl ho
 obtain ⟨h1, h2, ⟨r1, r2, r3, r4⟩, h4, h5, h6⟩ := h
 have bm : ∀ {a n c l'}, Bytes w a n c l' → Bytes (w.putObj l o') a n c l' := fun {a n c l'} hB => hB.moved (fun h0 y hy => by
  obtain ⟨b, o2, e, hc⟩ := hB.cell h0
  rw [hy] at e
  cases e
  exact key _ ⟨_, _, hc 0 h0⟩)
 refine ⟨h1, h2, ⟨r1, r2, r3, fun hn => ?_⟩, bm h4, h5, h6⟩
 obtain ⟨b, o2, e, hb, hc⟩ := r4 hn
 refine ⟨b, o2, e, ⟨by simpa using hb.1, hb.2⟩, fun i hi => ?_⟩
 obtain ⟨a', n', c', g1, g2, g3⟩ := hc i hi
 exact ⟨a', n', c', (World.cell?_of_block (a := ⟨b, o2 + i, none⟩) (key b ⟨_, _, g1⟩)).trans g1, bm g2, g3⟩

theorem OwnParts5.putObj {base : Nat} {w : World} {v : Value} {xs : List PD} {qs : List PS} (h : OwnParts5 base w v xs qs) {l : Nat} {o o' : Obj} (hl : w.heap[l]? = some o) (ho : o.isCells = false) : OwnParts5 base (w.putObj l o') v xs qs :=
 ⟨h.len, ownsRow_putObj h.own o' hl ho, fun i g g' => (h.part i g g').putObj hl ho⟩

theorem OwnParts5.snoc {base : Nat} {w w' : World} {v v' : Value} {xs : List PD} {qs : List PS} {x : PD} {q : PS} (h : OwnParts5 base w v xs qs) (hx : PartAt (fun b => base ≤ b ∧ v.ownBlock ≠ some b) w x q)
  (hown : w'.ownsRow base 105 5 v' (xs.length + 1) (flatP xs ++ cellsP x)) (hg : w.grownBy w' v.ownBlock) (hv : v'.ownBlock = v.ownBlock ∨ v'.ownBlock = some w.heap.size) : OwnParts5 base w' v' (xs ++ [x]) (qs ++ [q]) := by
 have mv : ∀ {x q}, PartAt (fun b => base ≤ b ∧ v.ownBlock ≠ some b) w x q → PartAt (fun b => base ≤ b ∧ v'.ownBlock ≠ some b) w' x q := fun {x q} hp => hp.moved (fun b hb hlt => hg.block b hlt (fun e => hb.2 e.symm)) hg.size (fun b hb hlt => ⟨hb.1, fun e => by
  rcases hv with hv | hv
  ·exact hb.2 (hv.symm.trans e)
  ·rw [hv] at e
   have := Option.some.inj e
   omega⟩)
 refine ⟨by rw [List.length_append, List.length_append, h.len]; rfl, by rw [List.length_append, flatP_snoc]; exact hown, fun i g g' => ?_⟩
 by_cases e : i < xs.length
 ·rw [List.getElem_append_left e, List.getElem_append_left (by rw [← h.len]; exact e)]
  exact mv (h.part i e (by rw [← h.len]; exact e))
 ·have e1 : i = xs.length := by rw [List.length_append] at g; simp at g; omega
  subst e1
  rw [List.getElem_append_right (Nat.le_refl _), List.getElem_append_right (by rw [h.len]; exact Nat.le_refl _)]
  simp only [Nat.sub_self, List.getElem_cons_zero, h.len]
  exact mv hx

theorem OwnParts5.setCell {base B : Nat} {w : World} {v u : Value} {xs : List PD} {qs : List PS} (h : OwnParts5 base w v xs qs) (ha : B < base) : OwnParts5 base (w.setCell ⟨B, 0, none⟩ u) v xs qs := by
 refine ⟨h.len, ownsRow_setCell_below h.own (a := ⟨B, 0, none⟩) ha u, fun i g g' => (h.part i g g').moved (fun b hb _ => ?_) (by simp) (fun _ hb _ => hb)⟩
 have : b ≠ B := by have := hb.1; omega
 exact Below.heap_setCell w ⟨B, 0, none⟩ u b this

theorem cells_new (w : World) (cs : Array Value) (t : TypeId) : ∀ j u, cs.toList[j]? = some u → (w.alloc (.cells cs t)).cell? ((⟨w.heap.size, 0, none⟩ : Addr).add j) = some u := by
 intro j u hu
 rw [addr_add, Nat.zero_add, cell_of_row _ _ _ _ _ (0, 0) (heap_alloc_new _ _)]
 simpa using hu

structure Row5 (Z : Nat → Prop) (w : World) (a : Option Addr) (n c : Nat) (xs : List PD) (qs : List PS) : Prop where
 len : xs.length = n
 lenq : qs.length = n
 cap : n ≤ c
 cell : 0 < n → ∃ b o, a = some ⟨b, o, none⟩ ∧ b < w.heap.size ∧ ∀ i (hi : i < xs.length),
  w.cell? ⟨b, o + i * 5, none⟩ = some (.int .i64 xs[i].n) ∧ w.cell? ⟨b, o + i * 5 + 1, none⟩ = some (.bool xs[i].mark) ∧ w.cell? ⟨b, o + i * 5 + 2, none⟩ = some (.slice xs[i].pa xs[i].pn xs[i].pc) ∧ w.cell? ⟨b, o + i * 5 + 3, none⟩ = some (.slice xs[i].wa xs[i].wn xs[i].wc) ∧ w.cell? ⟨b, o + i * 5 + 4, none⟩ = some (.int .i64 xs[i].tn)
 part : ∀ i (h : i < xs.length) (h' : i < qs.length), PartAt Z w xs[i] qs[i]

theorem Row5.putObj {Z : Nat → Prop} {w : World} {a : Option Addr} {n c : Nat} {xs : List PD} {qs : List PS} (h : Row5 Z w a n c xs qs) {l : Nat} {o o' : Obj} (hl : w.heap[l]? = some o) (ho : o.isCells = false) : Row5 Z (w.putObj l o') a n c xs qs := by
 refine ⟨h.len, h.lenq, h.cap, fun hn => ?_, fun i g g' => (h.part i g g').putObj hl ho⟩
 obtain ⟨b, off, e, hb, hc⟩ := h.cell hn
 refine ⟨b, off, e, by simpa using hb, fun i hi => ?_⟩
 obtain ⟨c0, c1, c2, c3, c4⟩ := hc i hi
 have key := putObj_cells (o' := o') hl ho b ⟨_, _, c0⟩
 exact ⟨(World.cell?_of_block (a := ⟨b, _, none⟩) key).trans c0, (World.cell?_of_block (a := ⟨b, _, none⟩) key).trans c1, (World.cell?_of_block (a := ⟨b, _, none⟩) key).trans c2, (World.cell?_of_block (a := ⟨b, _, none⟩) key).trans c3, (World.cell?_of_block (a := ⟨b, _, none⟩) key).trans c4⟩

theorem Row5.grow {Z : Nat → Prop} {w w' : World} {a : Option Addr} {n c : Nat} {xs : List PD} {qs : List PS} (h : Row5 Z w a n c xs qs) (hb : Below w.heap.size w w') : Row5 Z w' a n c xs qs := by
 refine ⟨h.len, h.lenq, h.cap, fun hn => ?_, fun i g g' => (h.part i g g').grow hb⟩
 obtain ⟨b, off, e, hlt, hc⟩ := h.cell hn
 refine ⟨b, off, e, Nat.lt_of_lt_of_le hlt hb.size, fun i hi => ?_⟩
 obtain ⟨c0, c1, c2, c3, c4⟩ := hc i hi
 exact ⟨cell_keep hb c0, cell_keep hb c1, cell_keep hb c2, cell_keep hb c3, cell_keep hb c4⟩

theorem rev_row {base : Nat} {w : World} {v : Value} {xs : List PD} {qs : List PS} (h : OwnParts5 base w v xs qs.reverse) (h0 : 0 < qs.length) (hm : qs.length ≤ 1000000) : ∃ g cap, v = .slice (some ⟨g, 0, none⟩) qs.length cap ∧ base ≤ g ∧ g < w.heap.size ∧ (∃ cur t, w.heap[g]? = some (.cells cur t (0, 0))) ∧
  Calls Tryz.prog 145 #[.slice (some ⟨g, 0, none⟩) qs.length cap] w fun e w' => (∃ u, e = .returned u) ∧ Row5 (fun b => base ≤ b) w' (some ⟨g, 0, none⟩) qs.length cap xs.reverse qs ∧ (∀ b, b ≠ g → b < w.heap.size → w'.heap[b]? = w.heap[b]?) ∧ Below g w w' := by
 have hl := h.len
 rw [List.length_reverse] at hl
 rcases h.own.2 with ⟨rfl, hz⟩ | ⟨g, cap, cur, rfl, hbg, hg, hle, hcm, hsz, htake⟩
 ·omega
 have hcur : ∀ i x, i < qs.length → xs[i]? = some x → Five cur (0 + i * 5) x := by
  intro i x hi hx
  obtain ⟨hix, hxe⟩ := List.getElem?_eq_some_iff.1 hx
  have key : ∀ r, r < 5 → cur[0 + i * 5 + r]? = (cellsP x)[r]? := by
   intro r hr
   rw [← hxe, ← flatP_at xs i r hix hr, ← htake, List.getElem?_take, if_pos (by omega), Array.getElem?_toList, Nat.zero_add]
  exact ⟨key 0 (by omega), key 1 (by omega), key 2 (by omega), key 3 (by omega), key 4 (by omega)⟩
 have hR0 : RevAt w g 0 qs.length 105 xs 0 w := by
  refine ⟨⟨cur, hg, by rw [hsz]; have : qs.length * 5 ≤ cap * 5 := Nat.mul_le_mul_right 5 (by omega); omega, fun i x hi hx => ?_⟩, fun _ _ _ => rfl, Below.refl _ _⟩
  have e : revAt qs.length 0 i = i := by unfold revAt; rw [if_neg (by omega)]
  rw [e] at hx
  exact hcur i x hi hx
 have hlt := (Array.getElem?_eq_some_iff.1 hg).1
 rw [hl]
 refine ⟨g, cap, rfl, hbg, hlt, ⟨cur, _, hg⟩, ?_⟩
 refine (reverse_parts g 0 qs.length cap 105 xs w hl h0 hm hR0).mono ?_
 rintro e w' ⟨hv, k, hk1, hk2, ⟨⟨cur', hg', hs', hf'⟩, ho, hb⟩⟩
 have hrl : xs.reverse.length = qs.length := by rw [List.length_reverse, hl]
 refine ⟨hv, ⟨hrl, rfl, by omega, fun _ => ⟨g, 0, rfl, (Array.getElem?_eq_some_iff.1 hg').1, fun i hi => ?_⟩, fun i hi hi' => ?_⟩, ho, hb⟩
 ·have e : revAt qs.length k i = qs.length - 1 - i := by
   unfold revAt
   by_cases h1 : i < k ∨ qs.length ≤ i + k
   ·rw [if_pos h1]
   ·rw [if_neg h1]; omega
  obtain ⟨c0, c1, c2, c3, c4⟩ := hf' i xs.reverse[i] (by omega) (by rw [e, List.getElem_reverse, List.getElem?_eq_getElem (by omega)]; congr 2; omega)
  have key := fun j => cell_of_row w' g j cur' _ (0, 0) hg'
  exact ⟨(key _).trans c0, (key _).trans c1, (key _).trans c2, (key _).trans c3, (key _).trans c4⟩
 ·have hj : qs.length - 1 - i < xs.length := by omega
  have hj' : qs.length - 1 - i < qs.reverse.length := by rw [List.length_reverse]; omega
  have hp := h.part (qs.length - 1 - i) hj hj'
  have e1 : xs.reverse[i] = xs[qs.length - 1 - i] := by rw [List.getElem_reverse]; congr 1; omega
  have e2 : qs.reverse[qs.length - 1 - i] = qs[i] := by rw [List.getElem_reverse]; congr 1; omega
  rw [e2] at hp
  rw [e1]
  refine hp.moved (fun b hb hlt => ho b (fun e => hb.2 (by rw [e]; rfl)) hlt) ?_ (fun b hb _ => hb.1)
  exact hb.size

def backL (ps : List PS) (j : Nat) : List PS := (ps.drop (ps.length - j)).reverse

theorem backL_next {ps : List PS} {j x : Nat} (hx : x + j + 1 = ps.length) : backL ps (j + 1) = backL ps j ++ [ps[x]'(by omega)] := by
 unfold backL
 have e1 : ps.length - (j + 1) = x := by omega
 have e2 : ps.length - j = x + 1 := by omega
 rw [e1, e2, List.drop_eq_getElem_cons (by omega), List.reverse_cons]
end Go.Proofs.YtnbddiiedagllaaGreat

