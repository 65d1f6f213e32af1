/- Operations of a queue that come in; slices of ints that come in. -/
import Derived.Test.YtmmiommfbkcebaaQuInts
import Derived.Test.YtmmiommfbkcebaaNums
import Derived.OpenShut
namespace Go.Proofs.Ytmmiommfbkcebaa
open Go.ChangeShapes Go.WideShapes Go.ChangeAt Go.RowKit Go.Deep

/-- An operation: its kind, its number. -/
abbrev Ow := Int × Int
/-- The cells of an operation. -/
def owC (x : Ow) : List Value := [.int .i64 x.1, .int .i64 x.2]

/-- The operations l lie at the beginning of a slice. -/
structure Ows (w : World) (p : Option Addr) (n c : Nat) (l : List Ow) : Prop where
  len : l.length = n
  le : n ≤ c
  max : c ≤ 9223372036854775807
  cell : 0 < n → ∃ b o, p = some ⟨b, o, none⟩ ∧ ∀ (i : Nat) (x : Ow), l[i]? = some x → ∀ j, j < 2 → w.cell? ⟨b, o + i * 2 + j, none⟩ = (owC x)[j]?

theorem Ows.below {w w' : World} {p : Option Addr} {n c : Nat} {l : List Ow} (h : Ows w p n c l) (hb : Below w.heap.size w w') : Ows w' p n c l :=
  ⟨h.len, h.le, h.max, fun hn => by
    obtain ⟨b, o, e, hc⟩ := h.cell hn
    refine ⟨b, o, e, fun i x hi j hj => ?_⟩
    obtain ⟨u, hu⟩ : ∃ u, (owC x)[j]? = some u := ⟨_, List.getElem?_eq_getElem (by simpa [owC] using hj)⟩
    rw [hu]
    exact cell_below hb ((hc i x hi j hj).trans hu)⟩

section
variable {H : Type} {enc : TypeId × Value → H} {W : World}

theorem cells_ow : Try.prog.cellsOf 29 = 2 := by kernel_rfl
theorem cells_int17 : Try.prog.cellsOf 3 = 1 := by kernel_rfl

/-- The numbers of an operation are words. -/
def owW (x : Ow) : Prop := (-9223372036854775808 ≤ x.1 ∧ x.1 ≤ 9223372036854775807) ∧ (-9223372036854775808 ≤ x.2 ∧ x.2 ≤ 9223372036854775807)

set_option maxRecDepth 100000 in
theorem open_ow (fuel : Nat) (cs : List Value) (x : DataW H × List MemPlace) (h : DataW.trod enc Try.prog W 0 (fun _ => true) true fuel 29 cs = some x) : ∃ y : Ow, cs = owC y ∧ owW y := by
  obtain ⟨xs, n, rfl, _, hlen, hxl, hf⟩ := DataW.trod_struct Try.underlying29 h
  rw [cells_ow] at hlen
  match cs, hlen, xs, hxl with
  | [c0, c1], _, [y0, y1], _ =>
    have f0 := hf 0 _ rfl
    have f1 := hf 1 _ rfl
    simp [cells_int17] at f0 f1
    obtain ⟨k, e0, _, w0⟩ := DataW.trod_int Try.underlying3 f0
    obtain ⟨i, e1, _, w1⟩ := DataW.trod_int Try.underlying3 f1
    obtain rfl := List.cons.inj e0 |>.1
    obtain rfl := List.cons.inj e1 |>.1
    obtain ⟨l0, h0⟩ := wf_i64_of w0
    obtain ⟨l1, h1⟩ := wf_i64_of w1
    exact ⟨(k, i), rfl, ⟨by omega, by omega⟩, by omega, by omega⟩

set_option maxRecDepth 100000 in
theorem open_ows (fuel : Nat) (cs : List Value) (x : DataW H × List MemPlace) (h : DataW.trod enc Try.prog W 0 (fun _ => true) true fuel 23 cs = some x) :
    ∃ a n c l, cs = [.slice a n c] ∧ Ows W a n c l ∧ ∀ y ∈ l, owW y := by
  rcases DataW.trod_slice Try.underlying23 h with ⟨e, _⟩ | ⟨a, len, cap, elems, rest, r, _, e, hd, _, hle, hcm, hel, hi, _, _⟩
  · exact ⟨none, 0, 0, [], e, ⟨rfl, Nat.le_refl _, by omega, fun h => absurd h (Nat.lt_irrefl _)⟩, fun _ h => (by cases h)⟩
  · rw [maxLen_nat] at hcm
    rw [cells_ow] at hi
    have hel2 : ∀ i, i < len → ∃ y : Ow, owW y ∧ (∀ j, j < 2 → W.cell? ((a.add (i * 2)).add j) = (owC y)[j]?) := by
      intro i hlt
      have h1 := hi i hlt
      rw [List.getElem?_eq_getElem (by omega)] at h1
      obtain ⟨cs', h2, h3⟩ := Option.bind_eq_some_iff.1 h1
      obtain ⟨_, h4, h5⟩ := World.cells?_some h2
      obtain ⟨y, e1, hy⟩ := open_ow _ _ _ h3
      refine ⟨y, hy, fun j hj => ?_⟩
      rw [h5 j hj, e1]
    refine ⟨some a, len, cap, (List.range len).map fun i => if h : i < len then (hel2 i h).choose else (0, 0), e, ⟨by simp, hle, hcm, fun hn => ?_⟩, fun y hy => ?_⟩
    · obtain ⟨b, o, spot⟩ := a
      have hspot : spot = none := by
        obtain ⟨y, _, g1⟩ := hel2 0 hn
        have g3 := g1 0 (by omega)
        simpa [Addr.add] using World.cell?_spot g3
      subst hspot
      refine ⟨b, o, rfl, fun i x hix j hj => ?_⟩
      obtain ⟨hil', hx⟩ := List.getElem?_eq_some_iff.1 hix
      have hil : i < len := by simpa using hil'
      obtain ⟨g1, g2⟩ := (hel2 i hil).choose_spec
      have e : x = (hel2 i hil).choose := by
        rw [← hx, List.getElem_map, List.getElem_range, dif_pos hil]
      rw [← e] at g2
      have k0 := g2 j hj
      simpa only [Addr.add_lit] using k0
    · obtain ⟨i, hi1, rfl⟩ := List.mem_map.1 hy
      rw [List.mem_range] at hi1
      rw [dif_pos hi1]
      exact (hel2 i hi1).choose_spec.1

set_option maxRecDepth 100000 in
theorem open_ops17 {v : Value} {d : DataW H} {p : List MemPlace} {base : Nat} (hv : Value.okWide Try.prog W .any base 23 v) (h : DataW.Trod enc Try.prog W 0 (fun _ => true) true 23 v d p) :
    ∃ a n c l, v = .slice a n c ∧ Ows W a n c l ∧ ∀ y ∈ l, owW y := by
  obtain ⟨a0, len, cap, rfl⟩ := okWide_slice Try.underlying23 hv
  obtain ⟨fuel, hf⟩ := h
  obtain ⟨a, n, c, l, e, hI, hw⟩ := open_ows fuel _ _ hf
  simp [Value.cells] at e
  obtain ⟨rfl, rfl, rfl⟩ := e
  exact ⟨_, _, _, l, rfl, hI, hw⟩

/-- A slice of ints that came in. -/
theorem open_q {v : Value} {d : DataW H} {p : List MemPlace} {base : Nat} (hv : Value.okWide Try.prog W .any base 22 v) (h : DataW.Trod enc Try.prog W 0 (fun _ => true) true 22 v d p) :
    ∃ a n c l, v = .slice a n c ∧ Qs W a n c l ∧ ∀ x ∈ l, -9223372036854775808 ≤ x ∧ x ≤ 9223372036854775807 := by
  obtain ⟨a, n, c, l, rfl, hN⟩ := open_nums Try.underlying22 Try.underlying3 cells_int17 hv h
  refine ⟨a, n, c, l, rfl, ⟨hN.len, hN.le, hN.capmax, fun hn => ?_⟩, hN.wf⟩
  obtain ⟨b, o, rfl, hc⟩ := hN.cell hn
  refine ⟨b, o, rfl, fun i x hi => ?_⟩
  have hlt : i < n := by rw [← hN.len]; exact (List.getElem?_eq_some_iff.1 hi).1
  rw [hc i hlt, List.getD_eq_getElem?_getD, hi]
  rfl
end
end Go.Proofs.Ytmmiommfbkcebaa
