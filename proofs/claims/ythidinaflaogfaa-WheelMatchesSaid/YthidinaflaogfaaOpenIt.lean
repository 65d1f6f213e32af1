/- Items that come in. -/
import Derived.Test.YthidinaflaogfaaChecked
import Derived.Test.YthidinaflaogfaaLift
import Derived.OpenShut
namespace Go.Proofs.Ythidinaflaogfaa
open Go.ChangeShapes Go.WideShapes Go.ChangeAt Go.RowKit Go.Deep

section
variable {H : Type} {enc : TypeId × Value → H} {W : World}

theorem cells_it : Try.prog.cellsOf 36 = 2 := by kernel_rfl
theorem cells_u64 : Try.prog.cellsOf 22 = 1 := by kernel_rfl

set_option maxRecDepth 100000 in
theorem open_i (fuel : Nat) (cs : List Value) (x : DataW H × List MemPlace) (h : DataW.trod enc Try.prog W 0 (fun _ => true) true fuel 36 cs = some x) :
    ∃ i a : Nat, cs = [.int .u64 (i : Int), .int .u64 (a : Int)] ∧ i < 18446744073709551616 ∧ a < 18446744073709551616 := by
  obtain ⟨xs, n, rfl, _, hlen, hxl, hf⟩ := DataW.trod_struct Try.underlying36 h
  rw [cells_it] at hlen
  match cs, hlen, xs, hxl with
  | [c0, c1], _, [y0, y1], _ =>
    have f0 := hf 0 _ rfl
    have f1 := hf 1 _ rfl
    simp [cells_u64] at f0 f1
    obtain ⟨k, e0, _, w0⟩ := DataW.trod_int Try.underlying22 f0
    obtain ⟨id, e1, _, w1⟩ := DataW.trod_int Try.underlying22 f1
    obtain rfl := List.cons.inj e0 |>.1
    obtain rfl := List.cons.inj e1 |>.1
    obtain ⟨x, hx, rfl⟩ := nat_u64 w0
    obtain ⟨y, hy, rfl⟩ := nat_u64 w1
    exact ⟨x, y, rfl, hx, hy⟩

set_option maxRecDepth 100000 in
/-- An item that came in. -/
theorem open_item {v : Value} {d : DataW H} {p : List MemPlace} {base : Nat} (hv : Value.okWide Try.prog W .any base 36 v) (h : DataW.Trod enc Try.prog W 0 (fun _ => true) true 36 v d p) :
    ∃ i a : Nat, v = .agg #[.int .u64 (i : Int), .int .u64 (a : Int)] ∧ i < 18446744073709551616 ∧ a < 18446744073709551616 := by
  obtain ⟨x, rfl, _⟩ := okWide_struct Try.underlying36 hv
  obtain ⟨fuel, hf⟩ := h
  obtain ⟨i, a, e, hi, ha⟩ := open_i _ _ _ hf
  refine ⟨i, a, ?_, hi, ha⟩
  obtain ⟨l⟩ := x
  simp [Value.cells] at e
  rw [e]
end
end Go.Proofs.Ythidinaflaogfaa
