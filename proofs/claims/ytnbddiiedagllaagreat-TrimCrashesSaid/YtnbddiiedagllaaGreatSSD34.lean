import Derived.Test.YtnbddiiedagllaaGreatSSD21
import Derived.Test.YtnbddiiedagllaaGreatSSD33
import Derived.Test.YtnbddiiedagllaaGreatSSD31
import Derived.Test.YtnbddiiedagllaaGreatSSD7
import Derived.Test.YtnbddiiedagllaaGreatSSD1
import Derived.OpenShut
import Derived.Test.YtnbddiiedagllaaGreatSSD9
/- Files found by their names: after a removal, a change, a crash. -/
namespace Go.Proofs.YtnbddiiedagllaaGreat
open Go.RowKit Go.Maps

section
variable {α : Type}

theorem fd_del (f : α → List UInt8) (n m : List UInt8) (l : List α) : findN f n (delN f m l) = if n = m then none else findN f n l := by
 unfold findN delN
 rw [List.find?_filter]
 split
 ·next h =>
  subst h
  rw [List.find?_eq_none]
  intro x _ hx
  have hx := of_decide_eq_true hx
  simp only [Bool.not_eq_true'] at hx
  rw [hx.2] at hx
  exact absurd hx.1 (by simp)
 ·next h =>
  congr 1
  funext x
  by_cases e : f x = n
  ·simp [e, h]
  ·simp [e]

theorem fd_ins (f : α → List UInt8) (n : List UInt8) (x : α) : ∀ l : List α, (∀ y ∈ l, f y ≠ f x) → findN f n (insN f x l) = if n = f x then some x else findN f n l
 | [], _ => by
  unfold insN findN
  by_cases e : n = f x
  ·simp [e]
  ·simp [e, Ne.symm e]
 | y :: l, h => by
  have hy := h y (List.mem_cons_self ..)
  have ih := fd_ins f n x l (fun z hz => h z (List.mem_cons_of_mem _ hz))
  unfold insN
  split
  ·unfold findN
   by_cases e : n = f x
   ·simp [e]
   ·simp [e, Ne.symm e]
  ·unfold findN at ih ⊢
   by_cases e : f y = n
   ·have : n ≠ f x := fun e2 => hy (e.trans e2)
    simp [e, this]
   ·rw [List.find?_cons_of_neg (by simpa using e), List.find?_cons_of_neg (by simpa using e)]
    exact ih

theorem fd_put (f : α → List UInt8) (n : List UInt8) (x : α) (l : List α) : findN f n (putN f x l) = if n = f x then some x else findN f n l := by
 unfold putN
 rw [fd_ins f n x _ (fun y hy => by
  unfold delN at hy
  have := (List.mem_filter.1 hy).2
  simpa using this), fd_del]
 split
 ·rfl
 ·rfl

theorem fd_set (f : α → List UInt8) (n : List UInt8) (x : α) : ∀ l : List α, findN f n (setN f x l) = if n = f x then (findN f n l).map (fun _ => x) else findN f n l
 | [] => by unfold setN findN; simp
 | y :: l => by
  have ih := fd_set f n x l
  unfold setN findN at ih ⊢
  rw [List.map_cons]
  by_cases e : f y = f x
  ·rw [if_pos (by simpa using e)]
   by_cases e2 : n = f x
   ·subst e2
    simp [e]
   ·rw [if_neg e2] at ih ⊢
    rw [List.find?_cons_of_neg (by simpa using fun h => e2 h.symm), List.find?_cons_of_neg (by simpa [e] using fun h => e2 h.symm)]
    exact ih
  ·rw [if_neg (by simpa using e)]
   by_cases e3 : f y = n
   ·have : n ≠ f x := fun h => e (e3.trans h)
    rw [if_neg this, List.find?_cons_of_pos (by simpa using e3), List.find?_cons_of_pos (by simpa using e3)]
   ·rw [List.find?_cons_of_neg (by simpa using e3), List.find?_cons_of_neg (by simpa using e3)]
    exact ih
end

def segC (fs : List F) (N : Nat) : Option (List Nat) := (findN F.n (nmB N) fs).map F.b

theorem fd_crash (n : List UInt8) (ks : List Int) : ∀ (fs : List F) (o : Nat), (findN F.n n fs = none ∧ findN F.n n (fs.mapIdx fun i f => cutF f (ks.getD (o + i) 0)) = none) ∨ ∃ f k, findN F.n n fs = some f ∧ findN F.n n (fs.mapIdx fun i f => cutF f (ks.getD (o + i) 0)) = some (cutF f k)
 | [], _ => .inl ⟨rfl, rfl⟩
 | y :: fs, o => by
  rw [List.mapIdx_cons]
  have ih := fd_crash n ks fs (o + 1)
  have e0 : (fun i f => cutF f (ks.getD (o + (i + 1)) 0)) = fun i f => cutF f (ks.getD (o + 1 + i) 0) := by
   funext i f
   rw [show o + (i + 1) = o + 1 + i by omega]
  rw [e0]
  unfold findN at ih ⊢
  by_cases e : y.n = n
  ·exact .inr ⟨y, ks.getD (o + 0) 0, List.find?_cons_of_pos (by simpa using e), List.find?_cons_of_pos (by simpa [cutF] using e)⟩
  ·rw [List.find?_cons_of_neg (by simpa using e), List.find?_cons_of_neg (by simpa [cutF] using e)]
   exact ih

theorem cutF_sync {f : F} (h : f.d = f.b.length) (k : Int) : cutF f k = f := by
 unfold cutF
 rw [h, Nat.sub_self, Nat.min_zero, Nat.add_zero, List.take_length, ← h]

theorem fd_crash_sync {n : List UInt8} (ks : List Int) {M : DM} (h : ∀ f, findN F.n n M.fs = some f → f.d = f.b.length) : findN F.n n (crashM ks M).fs = findN F.n n M.fs := by
 have e : (crashM ks M).fs = M.fs.mapIdx fun i f => cutF f (ks.getD (0 + i) 0) := by
  unfold crashM
  simp
 rw [e]
 rcases fd_crash n ks M.fs 0 with ⟨h1, h2⟩ | ⟨f, k, h1, h2⟩
 ·rw [h1, h2]
 ·rw [h1, h2, cutF_sync (h f h1)]
end Go.Proofs.YtnbddiiedagllaaGreat

/- The segments of a disk by what each number's file has; what removals and cuts make of them. -/
namespace Go.Proofs.YtnbddiiedagllaaGreat
open Go.RowKit Go.Maps

def SegsC (fs : List F) (ps : List PS) : Prop :=
 Asc (ps.map PS.n) ∧ (∀ p ∈ ps, ∃ (N : Nat) (b : List Nat), p.n = (N : Int) ∧ 1 ≤ N ∧ N ≤ 99999999 ∧ segC fs N = some b ∧ Splits b p.ls p.t) ∧ ∀ N : Nat, 1 ≤ N → N ≤ 99999999 → segC fs N ≠ none → (N : Int) ∈ ps.map PS.n

theorem segC_some {fs : List F} {N : Nat} {b : List Nat} (h : segC fs N = some b) : ∃ f, findN F.n (nmB N) fs = some f ∧ f.b = b := by
 unfold segC at h
 cases hf : findN F.n (nmB N) fs with
 | none => rw [hf] at h; cases h
 | some f => rw [hf] at h; exact ⟨f, rfl, Option.some.inj h⟩

theorem allOf_segs {M : DM} (hd : M.down = false) {ps : List PS} : AllOf M ps ↔ SegsC M.fs ps := by
 constructor
 ·intro hA
  refine ⟨hA.1.1, fun p hp => ?_, fun N h1 h2 h3 => ?_⟩
  ·obtain ⟨l, hl1, hl2, hl3⟩ := (hA.1.2 p.n).1 (List.mem_map.2 ⟨p, hp, rfl⟩)
   obtain ⟨f, hf, rfl⟩ := List.mem_map.1 hl1
   have hnb := nmB_of_num hl2
   have hle := segNum_le (nmL f.n)
   obtain ⟨f', hf'⟩ := findN_have (n := nmB (segNum (nmL f.n))) ⟨f, hf, hnb.symm⟩
   have hs := hA.2 p hp
   rw [hl3, Int.toNat_natCast, readM_up hd hf'] at hs
   exact ⟨_, f'.b, hl3, hl2, hle, by unfold segC; rw [hf']; rfl, hs⟩
  ·cases hs : segC M.fs N with
   | none => exact absurd hs h3
   | some b =>
    obtain ⟨f, hf, _⟩ := segC_some hs
    obtain ⟨hm, hn⟩ := findN_some hf
    refine (hA.1.2 _).2 ⟨nmL f.n, List.mem_map.2 ⟨f, hm, rfl⟩, ?_, ?_⟩ <;> rw [hn, nmL_nmB, segNum_name h2]
    omega
 ·rintro ⟨h1, h2, h3⟩
  refine ⟨⟨h1, fun x => ⟨fun hx => ?_, fun hx => ?_⟩⟩, fun p hp => ?_⟩
  ·obtain ⟨p, hp, rfl⟩ := List.mem_map.1 hx
   obtain ⟨N, b, e, g1, g2, g3, _⟩ := h2 p hp
   obtain ⟨f, hf, _⟩ := segC_some g3
   obtain ⟨hm, hn⟩ := findN_some hf
   refine ⟨nmL f.n, List.mem_map.2 ⟨f, hm, rfl⟩, ?_, ?_⟩ <;> rw [hn, nmL_nmB, segNum_name g2]
   ·omega
   ·exact e
  ·obtain ⟨l, hl1, hl2, rfl⟩ := hx
   obtain ⟨f, hf, rfl⟩ := List.mem_map.1 hl1
   have hnb := nmB_of_num hl2
   obtain ⟨f', hf'⟩ := findN_have (n := nmB (segNum (nmL f.n))) ⟨f, hf, hnb.symm⟩
   refine h3 _ hl2 (segNum_le _) ?_
   unfold segC
   rw [hf']
   simp
  ·obtain ⟨N, b, e, g1, g2, g3, g4⟩ := h2 p hp
   obtain ⟨f, hf, hb⟩ := segC_some g3
   rw [e, Int.toNat_natCast, readM_up hd hf, hb]
   exact g4

theorem SegsC.same {fs fs' : List F} {ps : List PS} (h : SegsC fs ps) (he : ∀ N : Nat, 1 ≤ N → N ≤ 99999999 → segC fs' N = segC fs N) : SegsC fs' ps := by
 obtain ⟨h1, h2, h3⟩ := h
 refine ⟨h1, fun p hp => ?_, fun N g1 g2 g3 => h3 N g1 g2 (by rwa [he N g1 g2] at g3)⟩
 obtain ⟨N, b, e, g1, g2, g3, g4⟩ := h2 p hp
 exact ⟨N, b, e, g1, g2, by rw [he N g1 g2]; exact g3, g4⟩

theorem SegsC.tail {fs fs' : List F} {p : PS} {ps : List PS} (h : SegsC fs (p :: ps)) (he : ∀ N : Nat, 1 ≤ N → N ≤ 99999999 → segC fs' N = if (N : Int) = p.n then none else segC fs N) : SegsC fs' ps := by
 obtain ⟨h1, h2, h3⟩ := h
 rw [List.map_cons] at h1
 have hlt := (List.pairwise_cons.1 h1).1
 refine ⟨(List.pairwise_cons.1 h1).2, fun q hq => ?_, fun N g1 g2 g3 => ?_⟩
 ·obtain ⟨N, b, e, g1, g2, g3, g4⟩ := h2 q (List.mem_cons_of_mem _ hq)
  refine ⟨N, b, e, g1, g2, ?_, g4⟩
  rw [he N g1 g2, if_neg ?_]
  ·exact g3
  ·intro h
   have := hlt q.n (List.mem_map.2 ⟨q, hq, rfl⟩)
   omega
 ·rw [he N g1 g2] at g3
  by_cases hN : (N : Int) = p.n
  ·rw [if_pos hN] at g3
   exact absurd rfl g3
  ·rw [if_neg hN] at g3
   have := h3 N g1 g2 g3
   rw [List.map_cons] at this
   rcases List.mem_cons.1 this with h | h
   ·exact absurd h hN
   ·exact h

theorem SegsC.cut {fs fs' : List F} {p : PS} {qs : List PS} (h : SegsC fs (qs ++ [p])) (he : ∀ N : Nat, 1 ≤ N → N ≤ 99999999 → segC fs' N = if (N : Int) = p.n then some (joinL p.ls) else segC fs N) : SegsC fs' (qs ++ [⟨p.n, p.ls, []⟩]) := by
 obtain ⟨h1, h2, h3⟩ := h
 have hm : (qs ++ [(⟨p.n, p.ls, []⟩ : PS)]).map PS.n = (qs ++ [p]).map PS.n := by simp
 refine ⟨by rw [hm]; exact h1, fun q hq => ?_, fun N g1 g2 g3 => ?_⟩
 ·rcases List.mem_append.1 hq with hq | hq
  ·obtain ⟨N, b, e, g1, g2, g3, g4⟩ := h2 q (List.mem_append.2 (.inl hq))
   refine ⟨N, b, e, g1, g2, ?_, g4⟩
   rw [he N g1 g2, if_neg ?_]
   ·exact g3
   ·intro h
    unfold Asc at h1
    rw [List.map_append, List.pairwise_append] at h1
    have := h1.2.2 q.n (List.mem_map.2 ⟨q, hq, rfl⟩) p.n (by simp)
    omega
  ·obtain rfl := List.mem_singleton.1 hq
   obtain ⟨N, b, e, g1, g2, g3, g4⟩ := h2 p (by simp)
   refine ⟨N, joinL p.ls, e, g1, g2, ?_, splits_all _ g4.recs⟩
   rw [he N g1 g2, if_pos e.symm]
 ·rw [hm]
  rw [he N g1 g2] at g3
  by_cases hN : (N : Int) = p.n
  ·rw [hN]; simp
  ·rw [if_neg hN] at g3
   exact h3 N g1 g2 g3

def SegSync (fs : List F) : Prop := ∀ (N : Nat) (f : F), 1 ≤ N → N ≤ 99999999 → findN F.n (nmB N) fs = some f → f.d = f.b.length

end Go.Proofs.YtnbddiiedagllaaGreat

/- What Open makes of a log, as plain data. -/
namespace Go.Proofs.YtnbddiiedagllaaGreat
open Go.RowKit Go.Maps

def lastP (ps : List PS) (h : 0 < ps.length) : PS := ps[ps.length - 1]'(by omega)

def BrokenAt (ps : List PS) : Prop := ∃ k, FirstAt ps k ∧ ¬ Good (ps.drop k)

def RepOf (M : DM) (ps : List PS) (ops : List SO) (N size : Nat) (recs : List (List Nat)) : Prop :=
 (ps = [] ∧ ops = repNone M ∧ N = 1 ∧ size = 0 ∧ recs = []) ∨
 ∃ (k : Nat) (h : 0 < ps.length), FirstAt ps k ∧ Good (ps.drop k) ∧ (lastP ps h).n = (N : Int) ∧ size = (joinL (lastP ps h).ls).length ∧ recs = recsL (ps.drop k) ∧ ops = repOps M ((ps.take k).map PS.n) N (joinL (lastP ps h).ls) (lastP ps h).t.length

structure OR where
 z : Int
 M : DM
 N : Nat
 size : Nat
 recs : List (List Nat)

def IsOpen (M : DM) (ps : List PS) (r : OR) : Prop := (BrokenAt ps ∧ r = ⟨11, M, 0, 0, []⟩) ∨ ∃ ops N size recs, RepOf M ps ops N size recs ∧ r = ⟨(stepsM ops M).2, (stepsM ops M).1, N, size, recs⟩

theorem first_ex (ps : List PS) (h : 0 < ps.length) : ∃ k, FirstAt ps k := by
 have key : ∀ j, j ≤ ps.length → (∃ k, FirstAt ps k) ∨ ∀ i (h : i < ps.length), ps.length - j ≤ i → ps[i].mark = false := by
  intro j
  induction j with
  | zero => exact fun _ => .inr fun i hi h => by omega
  | succ j ih =>
   intro hj
   rcases ih (by omega) with h1 | h1
   ·exact .inl h1
   ·have hx : ps.length - (j + 1) < ps.length := by omega
    by_cases hm : ps[ps.length - (j + 1)].mark = true
    ·exact .inl ⟨_, hx, fun i hi hlt => h1 i hi (by omega), .inr hm⟩
    ·refine .inr fun i hi hle => ?_
     by_cases e : i = ps.length - (j + 1)
     ·subst e
      simpa using hm
     ·exact h1 i hi (by omega)
 rcases key ps.length (Nat.le_refl _) with h1 | h1
 ·exact h1
 ·exact ⟨0, h, fun i hi _ => h1 i hi (by omega), .inl rfl⟩
end Go.Proofs.YtnbddiiedagllaaGreat

/- Two slices of byte slices that came in as an array. -/
namespace Go.Proofs.YtnbddiiedagllaaGreat
open Go.ChangeShapes Go.WideShapes Go.ChangeAt Go.RowKit Go.Deep

section
variable {H : Type} {enc : TypeId × Value → H} {W : World}

theorem cells_b2 : Tryz.prog.cellsOf 5 = 1 := by kernel_rfl
theorem cells_p2 : Tryz.prog.cellsOf 58 = 1 := by kernel_rfl
theorem cells_pp2 : Tryz.prog.cellsOf 29 = 1 := by kernel_rfl
theorem cells_a2 : Tryz.prog.cellsOf 71 = 2 := by kernel_rfl

theorem trod_parts {fuel : Nat} {cs : List Value} {x : DataW H × List MemPlace} (h : DataW.trod enc Tryz.prog W 0 (fun _ => true) true fuel 29 cs = some x) : ∃ a n cap ls, cs = [.slice a n cap] ∧ Parts W a n cap ls := by
 rcases open_int_rows Tryz.underlying29 Tryz.underlying58 Tryz.underlying5 cells_p2 cells_b2 h with ⟨hcs, _⟩ | ⟨a, len, cap, A, L, C, Z, hcs, _, hl, hm, _, hrows⟩
 ·exact ⟨none, 0, 0, [], hcs, rfl, Nat.le_refl _, by omega, fun h => absurd h (Nat.lt_irrefl _)⟩
 ·refine ⟨some a, len, cap, (List.range len).map fun r => ((Z r).take (L r)).map Int.toNat, hcs, by simp, hl, hm, fun hn => ?_⟩
  obtain ⟨b, o, spot⟩ := a
  have hspot : spot = none := by simpa [Addr.add] using World.cell?_spot (hrows 0 (by omega)).1
  subst hspot
  have hc0 := (hrows 0 (by omega)).1
  rw [add_plain] at hc0
  refine ⟨b, o, rfl, World.block_lt_of_cell? _ _ hc0, fun i hi => ?_⟩
  obtain ⟨h1, h2, h3, h4, h5, h6, h7⟩ := hrows i (by omega)
  rw [add_plain] at h1
  refine ⟨A i, L i, C i, h1, ?_⟩
  have e1 : ((List.range len).map fun r => ((Z r).take (L r)).map Int.toNat).getD i [] = ((Z i).take (L i)).map Int.toNat := by
   rw [List.getD_eq_getElem?_getD, List.getElem?_map, List.getElem?_range hi]; rfl
  rw [e1]
  exact bytes_of_ints h2 h3 h4 h6 (fun a' ha' c hc => (h7 a' ha').2 c hc) h5

set_option maxRecDepth 100000 in
theorem open_pair {v : Value} {d : DataW H} {p : List MemPlace} {base : Nat} (hv : Value.okWide Tryz.prog W .any base 71 v) (h : DataW.Trod enc Tryz.prog W 0 (fun _ => true) true 71 v d p) :
  ∃ a n c ls a' n' c' ms, v = .agg #[.slice a n c, .slice a' n' c'] ∧ Parts W a n c ls ∧ Parts W a' n' c' ms := by
 have hv' : ∃ cs, v = .agg cs ∧ cs.size = 2 := by
  simp only [Value.okWide, Tryz.underlying71] at hv
  obtain ⟨cs, h1, h2, _⟩ := hv
  rw [cells_a2] at h2
  exact ⟨cs, h1, h2⟩
 obtain ⟨cs, rfl, hsz⟩ := hv'
 obtain ⟨fuel, hf⟩ := h
 obtain ⟨xs, m, rfl, _, _, hxl, hfs⟩ := DataW.trod_array Tryz.underlying71 hf
 match xs, hxl with
 | [y0, y1], _ =>
  have g0 := hfs 0 (by omega)
  have g1 := hfs 1 (by omega)
  rw [cells_pp2] at g0 g1
  simp only [List.getElem?_cons_zero, List.getElem?_cons_succ] at g0 g1
  obtain ⟨a, n, c, ls, e0, hP⟩ := trod_parts g0
  obtain ⟨a', n', c', ms, e1, hQ⟩ := trod_parts g1
  refine ⟨a, n, c, ls, a', n', c', ms, ?_, hP, hQ⟩
  congr 1
  obtain ⟨l⟩ := cs
  simp at hsz
  match l, hsz with
  | [u0, u1], _ =>
   simp [Value.cells] at e0 e1
   rw [e0, e1]
end
end Go.Proofs.YtnbddiiedagllaaGreat

/- Files that come in, read as plain data. -/
namespace Go.Proofs.YtnbddiiedagllaaGreat
open Go.ChangeShapes Go.WideShapes Go.ChangeAt Go.RowKit Go.Deep

structure FI where
 nm : List UInt8
 bs : List Nat
 z : Int

structure FIAt (w : World) (b o : Nat) (x : FI) (pb : Option Addr) (cb : Nat) : Prop where
 k0 : w.cell? ⟨b, o, none⟩ = some (.string ⟨x.nm.toArray⟩)
 k1 : w.cell? ⟨b, o + 1, none⟩ = some (.slice pb x.bs.length cb)
 k2 : w.cell? ⟨b, o + 2, none⟩ = some (.int .i64 x.z)
 bytes : Bytes w pb x.bs.length cb x.bs
 wn : x.nm.length ≤ 9223372036854775807

structure FIs (w : World) (a : Option Addr) (n c : Nat) (l : List FI) : Prop where
 len : l.length = n
 le : n ≤ c
 max : c ≤ 9223372036854775807
 cell : 0 < n → ∃ b o, a = some ⟨b, o, none⟩ ∧ ∀ i (hi : i < l.length), ∃ pb cb, FIAt w b (o + i * 3) l[i] pb cb

theorem FIAt.grow {w w' : World} {b o : Nat} {x : FI} {pb : Option Addr} {cb : Nat} (h : FIAt w b o x pb cb) (hb : Below w.heap.size w w') : FIAt w' b o x pb cb :=
 ⟨cell_keep hb h.k0, cell_keep hb h.k1, cell_keep hb h.k2, h.bytes.grow hb, h.wn⟩

theorem FIs.grow {w w' : World} {a : Option Addr} {n c : Nat} {l : List FI} (h : FIs w a n c l) (hb : Below w.heap.size w w') : FIs w' a n c l := by
 refine ⟨h.len, h.le, h.max, fun hn => ?_⟩
 obtain ⟨b, o, e, hc⟩ := h.cell hn
 exact ⟨b, o, e, fun i hi => by obtain ⟨pb, cb, hx⟩ := hc i hi; exact ⟨pb, cb, hx.grow hb⟩⟩

end Go.Proofs.YtnbddiiedagllaaGreat

