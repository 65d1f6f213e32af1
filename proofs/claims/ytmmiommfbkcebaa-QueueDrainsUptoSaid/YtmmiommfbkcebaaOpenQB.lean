/- A slice of ints that came in, and the bound on what is read. -/
import Derived.Test.YtmmiommfbkcebaaOpenOps17
import Derived.Test.YtmmiommfbkcebaaRows
namespace Go.Proofs.Ytmmiommfbkcebaa
open Go.ChangeShapes Go.WideShapes Go.ChangeAt Go.RowKit Go.Deep

theorem bulk_one {H : Type} (d : DataW H) : 1 ≤ Rows.uptoBulk d := by
  cases d with
  | lit l => cases l <;> simp [Rows.uptoBulk]
  | nil => simp [Rows.uptoBulk]
  | ptr d => simp [Rows.uptoBulk]
  | slice elems spare => simp [Rows.uptoBulk]
  | agg parts => simp [Rows.uptoBulk]
  | iface t d => simp [Rows.uptoBulk]
  | map entries => simp [Rows.uptoBulk]
  | held h => simp [Rows.uptoBulk]

theorem bulk_len {H : Type} (l : List (DataW H)) : l.length ≤ Rows.uptoBulkAll l := by
  induction l with
  | nil => simp [Rows.uptoBulkAll]
  | cons x r ih =>
    have := bulk_one x
    simp only [Rows.uptoBulkAll, List.length_cons]
    omega

section
variable {H : Type} {enc : TypeId × Value → H} {W : World}
/-- A slice of ints that came in: its length is at most its bulk. -/
theorem open_qb {v : Value} {d : DataW H} {p : List MemPlace} {base : Nat} (hv : Value.okWide Try.prog W .any base 22 v) (h : DataW.Trod enc Try.prog W 0 (fun _ => true) true 22 v d p) :
    ∃ a n c l, v = .slice a n c ∧ Qs W a n c l ∧ (∀ x ∈ l, InI x) ∧ n ≤ Rows.uptoBulk d := by
  obtain ⟨a, n, c, l, rfl, hI, hr⟩ := open_q hv h
  refine ⟨a, n, c, l, rfl, hI, hr, ?_⟩
  obtain ⟨fuel, hf⟩ := h
  rcases open_ints Try.underlying22 Try.underlying3 cells_int17 hf with ⟨hcs, _⟩ | ⟨a', len, cap, zs, hcs, _, hl, hm, hz, hx, _⟩
  · simp [Value.cells] at hcs
    omega
  · simp [Value.cells] at hcs
    obtain ⟨rfl, rfl, rfl⟩ := hcs
    obtain rfl := congrArg Prod.fst hx
    have h1 := bulk_len (H := H) (lits .i64 (zs.take n))
    simp only [if_true] at hz
    have h2 : (lits (H := H) .i64 (zs.take n)).length = n := by unfold lits; rw [List.length_map, List.length_take]; omega
    simp only [Rows.uptoBulk]
    omega
end
end Go.Proofs.Ytmmiommfbkcebaa
