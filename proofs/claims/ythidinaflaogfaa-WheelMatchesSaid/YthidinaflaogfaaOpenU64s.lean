/- Slices of uint64 that came in, as lists of numbers. -/
import Derived.Test.YthidinaflaogfaaChecked
import Derived.Test.YthidinaflaogfaaLift
import Derived.OpenShut
namespace Go.Proofs.Ythidinaflaogfaa
open Go.ChangeShapes Go.WideShapes Go.ChangeAt Go.RowKit Go.Deep

/-- The numbers l lie at the start of a slice's value. -/
structure NumsU (w : World) (a : Option Addr) (n cap : Nat) (l : List Nat) : Prop where
  len : l.length = n
  le : n ≤ cap
  capmax : cap ≤ 9223372036854775807
  wf : ∀ x ∈ l, x < 18446744073709551616
  cell : 0 < n → ∃ b o, a = some ⟨b, o, none⟩ ∧ ∀ (i x : Nat), l[i]? = some x → w.cell? ⟨b, o + i, none⟩ = some (.int .u64 (x : Int))

theorem NumsU.below {w w' : World} {a : Option Addr} {n cap : Nat} {l : List Nat} (h : NumsU w a n cap l) (hw : Below w.heap.size w w') : NumsU w' a n cap l := by
  obtain ⟨h1, h2, h3, h4, h6⟩ := h
  refine ⟨h1, h2, h3, h4, fun hn => ?_⟩
  obtain ⟨b, o, rfl, hc⟩ := h6 hn
  exact ⟨b, o, rfl, fun i x hi => by rw [hw.cell (p := ⟨b, o + i, none⟩) (World.block_lt_of_cell? _ _ (hc i x hi))]; exact hc i x hi⟩

section
variable {H : Type} {enc : TypeId × Value → H}

theorem cells_u1 : Try.prog.cellsOf 22 = 1 := by kernel_rfl

set_option maxRecDepth 100000 in
theorem open_u64s {W : World} {v : Value} {d : DataW H} {p : List MemPlace} {base : Nat} (hv : Value.okWide Try.prog W .any base 34 v) (h : DataW.Trod enc Try.prog W 0 (fun _ => true) true 34 v d p) : ∃ a n cap l, v = .slice a n cap ∧ NumsU W a n cap l := by
  obtain ⟨a0, len, cap, rfl⟩ := okWide_slice Try.underlying34 hv
  obtain ⟨fuel, hf⟩ := h
  rcases open_ints Try.underlying34 Try.underlying22 cells_u1 hf with ⟨hcs, _⟩ | ⟨a, len', cap', zs, hcs, _, hl, hm, hz, _, hcell, hw⟩
  · simp [Value.cells] at hcs
    obtain ⟨rfl, rfl, rfl⟩ := hcs
    exact ⟨none, 0, 0, [], rfl, rfl, Nat.le_refl _, by omega, by simp, fun h => absurd h (Nat.lt_irrefl _)⟩
  · simp [Value.cells] at hcs
    obtain ⟨rfl, rfl, rfl⟩ := hcs
    simp only [if_true] at hz
    have hpos : ∀ z ∈ zs, ∃ x : Nat, x < 18446744073709551616 ∧ z = (x : Int) := fun z hz' => by
      obtain ⟨x, hx, e⟩ := nat_u64 (hw z hz')
      exact ⟨x, hx, e⟩
    refine ⟨some a, len, cap, (zs.take len).map Int.toNat, rfl, ⟨by simp; omega, hl, hm, fun x hx => ?_, fun hn => ?_⟩⟩
    · obtain ⟨z, hz', rfl⟩ := List.mem_map.1 hx
      obtain ⟨y, hy, rfl⟩ := hpos z (List.mem_of_mem_take hz')
      simpa using hy
    · obtain ⟨b, o, spot⟩ := a
      have hspot : spot = none := by simpa [Addr.add] using World.cell?_spot (hcell 0 (by omega))
      subst hspot
      refine ⟨b, o, rfl, fun i x hi => ?_⟩
      rw [List.getElem?_map, List.getElem?_take] at hi
      split at hi
      · rename_i hlt
        cases hzi : zs[i]? with
        | none => rw [hzi] at hi; cases hi
        | some z =>
          rw [hzi] at hi
          obtain ⟨y, _, rfl⟩ := hpos z (List.mem_of_getElem? hzi)
          have hc := hcell i (by omega)
          rw [add_plain, List.getD_eq_getElem?_getD, hzi] at hc
          rw [hc]
          cases hi
          simp
      · cases hi
end
end Go.Proofs.Ythidinaflaogfaa
