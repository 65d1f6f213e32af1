/- Rows of items that come in. -/
import Derived.Test.YthidinaflaogfaaOpenIt
import Derived.Test.YthidinaflaogfaaLvSearch
namespace Go.Proofs.Ythidinaflaogfaa
open Go.ChangeShapes Go.WideShapes Go.ChangeAt Go.RowKit Go.Deep

section
variable {H : Type} {enc : TypeId × Value → H} {W : World}

set_option maxRecDepth 100000 in
theorem open_its (fuel : Nat) (cs : List Value) (x : DataW H × List MemPlace) (h : DataW.trod enc Try.prog W 0 (fun _ => true) true fuel 27 cs = some x) :
    ∃ a n c l, cs = [.slice a n c] ∧ Items W a n c l ∧ ∀ y ∈ l, y.1 < 18446744073709551616 ∧ y.2 < 18446744073709551616 := by
  rcases DataW.trod_slice Try.underlying27 h with ⟨e, _⟩ | ⟨a, len, cap, elems, rest, r, _, e, hd, _, hle, hcm, hel, hi, _, _⟩
  · exact ⟨none, 0, 0, [], e, ⟨rfl, Nat.le_refl _, by omega, fun h => absurd h (Nat.lt_irrefl _)⟩, fun _ h => (by cases h)⟩
  · rw [maxLen_nat] at hcm
    rw [cells_it] at hi
    have hel2 : ∀ i, i < len → ∃ y : It, (y.1 < 18446744073709551616 ∧ y.2 < 18446744073709551616) ∧
        (∀ j, j < 2 → W.cell? ((a.add (i * 2)).add j) = [Value.int .u64 (y.1 : Int), Value.int .u64 (y.2 : Int)][j]?) := by
      intro i hlt
      have h1 := hi i hlt
      rw [List.getElem?_eq_getElem (by omega)] at h1
      obtain ⟨cs', h2, h3⟩ := Option.bind_eq_some_iff.1 h1
      obtain ⟨_, h4, h5⟩ := World.cells?_some h2
      obtain ⟨i1, a1, e1, hi1, ha1⟩ := open_i _ _ _ h3
      refine ⟨(i1, a1), ⟨hi1, ha1⟩, fun j hj => ?_⟩
      rw [h5 j hj, e1]
    refine ⟨some a, len, cap, (List.range len).map fun i => if h : i < len then (hel2 i h).choose else (0, 0), e, ⟨by simp, hle, hcm, fun hn => ?_⟩, fun y hy => ?_⟩
    · obtain ⟨b, o, spot⟩ := a
      have hspot : spot = none := by
        obtain ⟨y, _, g1⟩ := hel2 0 hn
        have g3 := g1 0 (by omega)
        simpa [Addr.add] using World.cell?_spot g3
      subst hspot
      refine ⟨b, o, rfl, fun i x hix => ?_⟩
      obtain ⟨hil', hx⟩ := List.getElem?_eq_some_iff.1 hix
      have hil : i < len := by simpa using hil'
      obtain ⟨g1, g2⟩ := (hel2 i hil).choose_spec
      have e : x = (hel2 i hil).choose := by
        rw [← hx, List.getElem_map, List.getElem_range, dif_pos hil]
      rw [← e] at g2
      have k0 := g2 0 (by omega)
      have k1 := g2 1 (by omega)
      simp only [Addr.add_lit, Nat.add_zero, List.getElem?_cons_zero, List.getElem?_cons_succ] at k0 k1
      exact ⟨k0, k1⟩
    · obtain ⟨i, hi1, rfl⟩ := List.mem_map.1 hy
      rw [List.mem_range] at hi1
      rw [dif_pos hi1]
      exact (hel2 i hi1).choose_spec.1

set_option maxRecDepth 100000 in
theorem open_items {v : Value} {d : DataW H} {p : List MemPlace} {base : Nat} (hv : Value.okWide Try.prog W .any base 27 v) (h : DataW.Trod enc Try.prog W 0 (fun _ => true) true 27 v d p) :
    ∃ a n c l, v = .slice a n c ∧ Items W a n c l ∧ ∀ y ∈ l, y.1 < 18446744073709551616 ∧ y.2 < 18446744073709551616 := by
  obtain ⟨a0, len, cap, rfl⟩ := okWide_slice Try.underlying27 hv
  obtain ⟨fuel, hf⟩ := h
  obtain ⟨a, n, c, l, e, hI, hw⟩ := open_its fuel _ _ hf
  simp [Value.cells] at e
  obtain ⟨rfl, rfl, rfl⟩ := e
  exact ⟨_, _, _, l, rfl, hI, hw⟩
end
end Go.Proofs.Ythidinaflaogfaa
