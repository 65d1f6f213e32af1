/- Two slices of byte slices that came in as an array. -/
import Derived.Test.YtehjgkkcpiblcaaGreatMB9
import Derived.Test.YtehjgkkcpiblcaaGreatMB1
import Derived.OpenShut
namespace Go.Proofs.YtehjgkkcpiblcaaGreat
open Go.ChangeShapes Go.WideShapes Go.ChangeAt Go.RowKit Go.Deep

section
variable {H : Type} {enc : TypeId × Value → H} {W : World}

theorem cells_b2 : Tryz.prog.cellsOf 5 = 1 := by kernel_rfl
theorem cells_p2 : Tryz.prog.cellsOf 47 = 1 := by kernel_rfl
theorem cells_pp2 : Tryz.prog.cellsOf 42 = 1 := by kernel_rfl
theorem cells_a2 : Tryz.prog.cellsOf 57 = 2 := by kernel_rfl

theorem trod_parts {fuel : Nat} {cs : List Value} {x : DataW H × List MemPlace} (h : DataW.trod enc Tryz.prog W 0 (fun _ => true) true fuel 42 cs = some x) : ∃ a n cap ls, cs = [.slice a n cap] ∧ Parts W a n cap ls := by
  rcases open_int_rows Tryz.underlying42 Tryz.underlying47 Tryz.underlying5 cells_p2 cells_b2 h with ⟨hcs, _⟩ | ⟨a, len, cap, A, L, C, Z, hcs, _, hl, hm, _, hrows⟩
  · exact ⟨none, 0, 0, [], hcs, rfl, Nat.le_refl _, by omega, fun h => absurd h (Nat.lt_irrefl _)⟩
  · refine ⟨some a, len, cap, (List.range len).map fun r => ((Z r).take (L r)).map Int.toNat, hcs, by simp, hl, hm, fun hn => ?_⟩
    obtain ⟨b, o, spot⟩ := a
    have hspot : spot = none := by simpa [Addr.add] using World.cell?_spot (hrows 0 (by omega)).1
    subst hspot
    have hc0 := (hrows 0 (by omega)).1
    rw [add_plain] at hc0
    refine ⟨b, o, rfl, World.block_lt_of_cell? _ _ hc0, fun i hi => ?_⟩
    obtain ⟨h1, h2, h3, h4, h5, h6, h7⟩ := hrows i (by omega)
    rw [add_plain] at h1
    refine ⟨A i, L i, C i, h1, ?_⟩
    have e1 : ((List.range len).map fun r => ((Z r).take (L r)).map Int.toNat).getD i [] = ((Z i).take (L i)).map Int.toNat := by
      rw [List.getD_eq_getElem?_getD, List.getElem?_map, List.getElem?_range hi]; rfl
    rw [e1]
    exact bytes_of_ints h2 h3 h4 h6 (fun a' ha' c hc => (h7 a' ha').2 c hc) h5

set_option maxRecDepth 100000 in
theorem open_pair {v : Value} {d : DataW H} {p : List MemPlace} {base : Nat} (hv : Value.okWide Tryz.prog W .any base 57 v) (h : DataW.Trod enc Tryz.prog W 0 (fun _ => true) true 57 v d p) :
    ∃ a n c ls a' n' c' ms, v = .agg #[.slice a n c, .slice a' n' c'] ∧ Parts W a n c ls ∧ Parts W a' n' c' ms := by
  have hv' : ∃ cs, v = .agg cs ∧ cs.size = 2 := by
    simp only [Value.okWide, Tryz.underlying57] at hv
    obtain ⟨cs, h1, h2, _⟩ := hv
    rw [cells_a2] at h2
    exact ⟨cs, h1, h2⟩
  obtain ⟨cs, rfl, hsz⟩ := hv'
  obtain ⟨fuel, hf⟩ := h
  obtain ⟨xs, m, rfl, _, _, hxl, hfs⟩ := DataW.trod_array Tryz.underlying57 hf
  match xs, hxl with
  | [y0, y1], _ =>
    have g0 := hfs 0 (by omega)
    have g1 := hfs 1 (by omega)
    rw [cells_pp2] at g0 g1
    simp only [List.getElem?_cons_zero, List.getElem?_cons_succ] at g0 g1
    obtain ⟨a, n, c, ls, e0, hP⟩ := trod_parts g0
    obtain ⟨a', n', c', ms, e1, hQ⟩ := trod_parts g1
    refine ⟨a, n, c, ls, a', n', c', ms, ?_, hP, hQ⟩
    congr 1
    obtain ⟨l⟩ := cs
    simp at hsz
    match l, hsz with
    | [u0, u1], _ =>
      simp [Value.cells] at e0 e1
      rw [e0, e1]
end
end Go.Proofs.YtehjgkkcpiblcaaGreat
