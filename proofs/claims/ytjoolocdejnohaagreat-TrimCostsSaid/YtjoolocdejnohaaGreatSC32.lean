import Derived.Test.YtjoolocdejnohaaGreatSC21
import Derived.Test.YtjoolocdejnohaaGreatSC31
import Derived.Test.YtjoolocdejnohaaGreatSC29
import Derived.Test.YtjoolocdejnohaaGreatSC11
import Derived.Test.YtjoolocdejnohaaGreatSC1
import Derived.OpenShut
import Derived.Test.YtjoolocdejnohaaGreatSC16
/- Files found by their names: after a removal, a change, a crash. -/
namespace Go.Proofs.YtjoolocdejnohaaGreat
open Go.RowKit Go.Maps


/-- A segment's bytes. -/
def segC (fs : List F) (N : Nat) : Option (List Nat) := (findN F.n (nmB N) fs).map F.b

end Go.Proofs.YtjoolocdejnohaaGreat

/- The segments of a disk by what each number's file has; what removals and cuts make of them. -/
namespace Go.Proofs.YtjoolocdejnohaaGreat
open Go.RowKit Go.Maps

/-- The segments, by their contents. -/
def SegsC (fs : List F) (ps : List PS) : Prop :=
  Asc (ps.map PS.n) ∧ (∀ p ∈ ps, ∃ (N : Nat) (b : List Nat), p.n = (N : Int) ∧ 1 ≤ N ∧ N ≤ 99999999 ∧ segC fs N = some b ∧ Splits b p.ls p.t) ∧ ∀ N : Nat, 1 ≤ N → N ≤ 99999999 → segC fs N ≠ none → (N : Int) ∈ ps.map PS.n

theorem SegsC.same {fs fs' : List F} {ps : List PS} (h : SegsC fs ps) (he : ∀ N : Nat, 1 ≤ N → N ≤ 99999999 → segC fs' N = segC fs N) : SegsC fs' ps := by
  obtain ⟨h1, h2, h3⟩ := h
  refine ⟨h1, fun p hp => ?_, fun N g1 g2 g3 => h3 N g1 g2 (by rwa [he N g1 g2] at g3)⟩
  obtain ⟨N, b, e, g1, g2, g3, g4⟩ := h2 p hp
  exact ⟨N, b, e, g1, g2, by rw [he N g1 g2]; exact g3, g4⟩

/-- The first segment is removed. -/
theorem SegsC.tail {fs fs' : List F} {p : PS} {ps : List PS} (h : SegsC fs (p :: ps)) (he : ∀ N : Nat, 1 ≤ N → N ≤ 99999999 → segC fs' N = if (N : Int) = p.n then none else segC fs N) : SegsC fs' ps := by
  obtain ⟨h1, h2, h3⟩ := h
  rw [List.map_cons] at h1
  have hlt := (List.pairwise_cons.1 h1).1
  refine ⟨(List.pairwise_cons.1 h1).2, fun q hq => ?_, fun N g1 g2 g3 => ?_⟩
  · obtain ⟨N, b, e, g1, g2, g3, g4⟩ := h2 q (List.mem_cons_of_mem _ hq)
    refine ⟨N, b, e, g1, g2, ?_, g4⟩
    rw [he N g1 g2, if_neg ?_]
    · exact g3
    · intro h
      have := hlt q.n (List.mem_map.2 ⟨q, hq, rfl⟩)
      omega
  · rw [he N g1 g2] at g3
    by_cases hN : (N : Int) = p.n
    · rw [if_pos hN] at g3
      exact absurd rfl g3
    · rw [if_neg hN] at g3
      have := h3 N g1 g2 g3
      rw [List.map_cons] at this
      rcases List.mem_cons.1 this with h | h
      · exact absurd h hN
      · exact h

end Go.Proofs.YtjoolocdejnohaaGreat

/- What Open makes of a log, as plain data. -/
namespace Go.Proofs.YtjoolocdejnohaaGreat
open Go.RowKit Go.Maps

def lastP (ps : List PS) (h : 0 < ps.length) : PS := ps[ps.length - 1]'(by omega)

/-- The log on a disk is broken. -/
def BrokenAt (ps : List PS) : Prop := ∃ k, FirstAt ps k ∧ ¬ Good (ps.drop k)

/-- The changes that repair a log, its last segment, what this has, its records. -/
def RepOf (M : DM) (ps : List PS) (ops : List SO) (N size : Nat) (recs : List (List Nat)) : Prop :=
  (ps = [] ∧ ops = repNone M ∧ N = 1 ∧ size = 0 ∧ recs = []) ∨
  ∃ (k : Nat) (h : 0 < ps.length), FirstAt ps k ∧ Good (ps.drop k) ∧ (lastP ps h).n = (N : Int) ∧ size = (joinL (lastP ps h).ls).length ∧ recs = recsL (ps.drop k) ∧ ops = repOps M ((ps.take k).map PS.n) N (joinL (lastP ps h).ls) (lastP ps h).t.length

/-- Where a change failed, or none: what Open answers and leaves. -/
structure OR where
  z : Int
  M : DM
  N : Nat
  size : Nat
  recs : List (List Nat)

def IsOpen (M : DM) (ps : List PS) (r : OR) : Prop := (BrokenAt ps ∧ r = ⟨11, M, 0, 0, []⟩) ∨ ∃ ops N size recs, RepOf M ps ops N size recs ∧ r = ⟨(stepsM ops M).2, (stepsM ops M).1, N, size, recs⟩

theorem first_ex (ps : List PS) (h : 0 < ps.length) : ∃ k, FirstAt ps k := by
  have key : ∀ j, j ≤ ps.length → (∃ k, FirstAt ps k) ∨ ∀ i (h : i < ps.length), ps.length - j ≤ i → ps[i].mark = false := by
    intro j
    induction j with
    | zero => exact fun _ => .inr fun i hi h => by omega
    | succ j ih =>
      intro hj
      rcases ih (by omega) with h1 | h1
      · exact .inl h1
      · have hx : ps.length - (j + 1) < ps.length := by omega
        by_cases hm : ps[ps.length - (j + 1)].mark = true
        · exact .inl ⟨_, hx, fun i hi hlt => h1 i hi (by omega), .inr hm⟩
        · refine .inr fun i hi hle => ?_
          by_cases e : i = ps.length - (j + 1)
          · subst e
            simpa using hm
          · exact h1 i hi (by omega)
  rcases key ps.length (Nat.le_refl _) with h1 | h1
  · exact h1
  · exact ⟨0, h, fun i hi _ => h1 i hi (by omega), .inl rfl⟩
end Go.Proofs.YtjoolocdejnohaaGreat

/- Two slices of byte slices that came in as an array. -/
namespace Go.Proofs.YtjoolocdejnohaaGreat
open Go.ChangeShapes Go.WideShapes Go.ChangeAt Go.RowKit Go.Deep

section
variable {H : Type} {enc : TypeId × Value → H} {W : World}

theorem cells_b2 : Tryz.prog.cellsOf 5 = 1 := by kernel_rfl
theorem cells_p2 : Tryz.prog.cellsOf 58 = 1 := by kernel_rfl
theorem cells_pp2 : Tryz.prog.cellsOf 29 = 1 := by kernel_rfl
theorem cells_a2 : Tryz.prog.cellsOf 71 = 2 := by kernel_rfl

theorem trod_parts {fuel : Nat} {cs : List Value} {x : DataW H × List MemPlace} (h : DataW.trod enc Tryz.prog W 0 (fun _ => true) true fuel 29 cs = some x) : ∃ a n cap ls, cs = [.slice a n cap] ∧ Parts W a n cap ls := by
  rcases open_int_rows Tryz.underlying29 Tryz.underlying58 Tryz.underlying5 cells_p2 cells_b2 h with ⟨hcs, _⟩ | ⟨a, len, cap, A, L, C, Z, hcs, _, hl, hm, _, hrows⟩
  · exact ⟨none, 0, 0, [], hcs, rfl, Nat.le_refl _, by omega, fun h => absurd h (Nat.lt_irrefl _)⟩
  · refine ⟨some a, len, cap, (List.range len).map fun r => ((Z r).take (L r)).map Int.toNat, hcs, by simp, hl, hm, fun hn => ?_⟩
    obtain ⟨b, o, spot⟩ := a
    have hspot : spot = none := by simpa [Addr.add] using World.cell?_spot (hrows 0 (by omega)).1
    subst hspot
    have hc0 := (hrows 0 (by omega)).1
    rw [add_plain] at hc0
    refine ⟨b, o, rfl, World.block_lt_of_cell? _ _ hc0, fun i hi => ?_⟩
    obtain ⟨h1, h2, h3, h4, h5, h6, h7⟩ := hrows i (by omega)
    rw [add_plain] at h1
    refine ⟨A i, L i, C i, h1, ?_⟩
    have e1 : ((List.range len).map fun r => ((Z r).take (L r)).map Int.toNat).getD i [] = ((Z i).take (L i)).map Int.toNat := by
      rw [List.getD_eq_getElem?_getD, List.getElem?_map, List.getElem?_range hi]; rfl
    rw [e1]
    exact bytes_of_ints h2 h3 h4 h6 (fun a' ha' c hc => (h7 a' ha').2 c hc) h5

set_option maxRecDepth 100000 in
theorem open_pair {v : Value} {d : DataW H} {p : List MemPlace} {base : Nat} (hv : Value.okWide Tryz.prog W .any base 71 v) (h : DataW.Trod enc Tryz.prog W 0 (fun _ => true) true 71 v d p) :
    ∃ a n c ls a' n' c' ms, v = .agg #[.slice a n c, .slice a' n' c'] ∧ Parts W a n c ls ∧ Parts W a' n' c' ms := by
  have hv' : ∃ cs, v = .agg cs ∧ cs.size = 2 := by
    simp only [Value.okWide, Tryz.underlying71] at hv
    obtain ⟨cs, h1, h2, _⟩ := hv
    rw [cells_a2] at h2
    exact ⟨cs, h1, h2⟩
  obtain ⟨cs, rfl, hsz⟩ := hv'
  obtain ⟨fuel, hf⟩ := h
  obtain ⟨xs, m, rfl, _, _, hxl, hfs⟩ := DataW.trod_array Tryz.underlying71 hf
  match xs, hxl with
  | [y0, y1], _ =>
    have g0 := hfs 0 (by omega)
    have g1 := hfs 1 (by omega)
    rw [cells_pp2] at g0 g1
    simp only [List.getElem?_cons_zero, List.getElem?_cons_succ] at g0 g1
    obtain ⟨a, n, c, ls, e0, hP⟩ := trod_parts g0
    obtain ⟨a', n', c', ms, e1, hQ⟩ := trod_parts g1
    refine ⟨a, n, c, ls, a', n', c', ms, ?_, hP, hQ⟩
    congr 1
    obtain ⟨l⟩ := cs
    simp at hsz
    match l, hsz with
    | [u0, u1], _ =>
      simp [Value.cells] at e0 e1
      rw [e0, e1]
end
end Go.Proofs.YtjoolocdejnohaaGreat

/- Files that come in, read as plain data. -/
namespace Go.Proofs.YtjoolocdejnohaaGreat
open Go.ChangeShapes Go.WideShapes Go.ChangeAt Go.RowKit Go.Deep

/-- A file that comes in. -/
structure FI where
  nm : List UInt8
  bs : List Nat
  z : Int

/-- The file x lies in three cells. -/
structure FIAt (w : World) (b o : Nat) (x : FI) (pb : Option Addr) (cb : Nat) : Prop where
  k0 : w.cell? ⟨b, o, none⟩ = some (.string ⟨x.nm.toArray⟩)
  k1 : w.cell? ⟨b, o + 1, none⟩ = some (.slice pb x.bs.length cb)
  k2 : w.cell? ⟨b, o + 2, none⟩ = some (.int .i64 x.z)
  bytes : Bytes w pb x.bs.length cb x.bs
  wn : x.nm.length ≤ 9223372036854775807

/-- The files l lie at the start of a slice's value. -/
structure FIs (w : World) (a : Option Addr) (n c : Nat) (l : List FI) : Prop where
  len : l.length = n
  le : n ≤ c
  max : c ≤ 9223372036854775807
  cell : 0 < n → ∃ b o, a = some ⟨b, o, none⟩ ∧ ∀ i (hi : i < l.length), ∃ pb cb, FIAt w b (o + i * 3) l[i] pb cb

theorem FIAt.grow {w w' : World} {b o : Nat} {x : FI} {pb : Option Addr} {cb : Nat} (h : FIAt w b o x pb cb) (hb : Below w.heap.size w w') : FIAt w' b o x pb cb :=
  ⟨cell_keep hb h.k0, cell_keep hb h.k1, cell_keep hb h.k2, h.bytes.grow hb, h.wn⟩

theorem FIs.grow {w w' : World} {a : Option Addr} {n c : Nat} {l : List FI} (h : FIs w a n c l) (hb : Below w.heap.size w w') : FIs w' a n c l := by
  refine ⟨h.len, h.le, h.max, fun hn => ?_⟩
  obtain ⟨b, o, e, hc⟩ := h.cell hn
  exact ⟨b, o, e, fun i hi => by obtain ⟨pb, cb, hx⟩ := hc i hi; exact ⟨pb, cb, hx.grow hb⟩⟩

end Go.Proofs.YtjoolocdejnohaaGreat

