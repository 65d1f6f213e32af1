import Derived.Test.YtcapbaocchaenaaGreatSR2
import Derived.Test.YtcapbaocchaenaaGreatSR3
/- The walks of what makes the checks and the writers of events' fields. -/
namespace Go.Proofs.YtcapbaocchaenaaGreat
open Go.RowKit

/-- The cells of an event. -/
abbrev evC (k : Int) (id : Nat) (n : Int) (t : Nat) (nm tx : List Nat) (vk vn : Int) (vf : Nat) (vs : List Nat) (a : Option Addr) (len cap : Nat) : Array Value :=
  #[.int .i64 k, .int .u64 (id : Int), .int .i64 n, .int .u64 (t : Int), .string (str nm), .string (str tx), .int .i64 vk, .int .i64 vn, .float .f64 vf, .string (str vs), .slice a len cap]

theorem box6 {w : World} {B : Nat} {v0 v1 v2 v3 v4 v5 : Value} {t : TypeId} (h : w.heap[B]? = some (.cells #[v0, v1, v2, v3, v4, v5] t (0, 0))) :
    w.cell? ⟨B, 0, none⟩ = some v0 ∧ w.cell? ⟨B, 1, none⟩ = some v1 ∧ w.cell? ⟨B, 2, none⟩ = some v2 ∧ w.cell? ⟨B, 3, none⟩ = some v3 ∧ w.cell? ⟨B, 4, none⟩ = some v4 ∧ w.cell? ⟨B, 5, none⟩ = some v5 ∧ ∀ i, w.frozen? ⟨B, i, none⟩ = false := by
  refine ⟨?_, ?_, ?_, ?_, ?_, ?_, fun i => by simp [World.frozen?, h]⟩ <;> (rw [cell_of_row _ _ _ _ _ (0, 0) h]; rfl)

theorem set_headE {w : World} {d i : Nat} {cs : Array Value} {t : TypeId} {m : Nat × Nat} (h : w.heap[d]? = some (.cells cs t m)) (v : Value) : (w.setCell ⟨d, i, none⟩ v).heap[d]? = some (.cells (cs.setIfInBounds i v) t m) := by
  simp [World.setCell, Array.getElem?_modify, h]

section
variable {P : Program} (w : World) (a : Addr) (m : Mode)
theorem run_store_func (f : Fn) (b c : Array Value) : (store a (.func f b c) m).run P w = stored P w a (.func f b c) m := run_store P w a _ m rfl
theorem run_store_nilFunc : (store a .nilFunc m).run P w = stored P w a .nilFunc m := run_store P w a _ m rfl
end
attribute [local go_sem] run_store_func run_store_nilFunc

/-- A function that has captured the event. -/
abbrev capV (f : FuncId) (B : Nat) : Value := .func (.func f) #[] #[.pointer (some ⟨B, 0, none⟩)]

/-- Six of them. -/
def sixEnd (x : Array Value) (f0 f1 f2 f3 f4 f5 : FuncId) (w : World) (e : Ending) (w' : World) : Prop :=
  Below w.heap.size w w' ∧ w'.heap[w.heap.size]? = some (.cells x 43 (0, 0)) ∧ e = .returned (.agg #[capV f0 w.heap.size, capV f1 w.heap.size, capV f2 w.heap.size, capV f3 w.heap.size, capV f4 w.heap.size, capV f5 w.heap.size])

set_option maxRecDepth 100000 in
theorem empty_six (k : Int) (id : Nat) (n : Int) (t : Nat) (nm tx : List Nat) (vk vn : Int) (vf : Nat) (vs : List Nat) (a : Option Addr) (len cap : Nat) (w : World) :
    Calls Tryz.prog 78 #[.agg (evC k id n t nm tx vk vn vf vs a len cap)] w (sixEnd (evC k id n t nm tx vk vn vf vs a len cap) 92 93 94 95 96 97 w) := by
  go_enter Tryz.func78, Tryz.ntmps78
  go_wp2
  refine bodyPost_ret (v := .agg #[capV 92 w.heap.size, capV 93 w.heap.size, capV 94 w.heap.size, capV 95 w.heap.size, capV 96 w.heap.size, capV 97 w.heap.size]) ?_ rfl ⟨((Below.refl _ _).alloc (Nat.le_refl _) _).alloc (by simp) _, (Below.heap_alloc _ _ _ (by simp)).trans (heap_alloc_new _ _), rfl⟩
  rw [results_c rfl]
  go_simp

set_option maxRecDepth 100000 in
theorem right_six (k : Int) (id : Nat) (n : Int) (t : Nat) (nm tx : List Nat) (vk vn : Int) (vf : Nat) (vs : List Nat) (a : Option Addr) (len cap : Nat) (w : World) :
    Calls Tryz.prog 79 #[.agg (evC k id n t nm tx vk vn vf vs a len cap)] w (sixEnd (evC k id n t nm tx vk vn vf vs a len cap) 99 100 101 102 103 104 w) := by
  go_enter Tryz.func79, Tryz.ntmps79
  go_wp2
  refine bodyPost_ret (v := .agg #[capV 99 w.heap.size, capV 100 w.heap.size, capV 101 w.heap.size, capV 102 w.heap.size, capV 103 w.heap.size, capV 104 w.heap.size]) ?_ rfl ⟨((Below.refl _ _).alloc (Nat.le_refl _) _).alloc (by simp) _, (Below.heap_alloc _ _ _ (by simp)).trans (heap_alloc_new _ _), rfl⟩
  rw [results_c rfl]
  go_simp

set_option maxRecDepth 100000 in
theorem forms_six (k : Int) (id : Nat) (n : Int) (t : Nat) (nm tx : List Nat) (vk vn : Int) (vf : Nat) (vs : List Nat) (a : Option Addr) (len cap : Nat) (w : World) :
    Calls Tryz.prog 85 #[.agg (evC k id n t nm tx vk vn vf vs a len cap)] w (sixEnd (evC k id n t nm tx vk vn vf vs a len cap) 109 110 111 112 113 114 w) := by
  go_enter Tryz.func85, Tryz.ntmps85
  go_wp2
  refine bodyPost_ret (v := .agg #[capV 109 w.heap.size, capV 110 w.heap.size, capV 111 w.heap.size, capV 112 w.heap.size, capV 113 w.heap.size, capV 114 w.heap.size]) ?_ rfl ⟨((Below.refl _ _).alloc (Nat.le_refl _) _).alloc (by simp) _, (Below.heap_alloc _ _ _ (by simp)).trans (heap_alloc_new _ _), rfl⟩
  rw [results_c rfl]
  go_simp

end Go.Proofs.YtcapbaocchaenaaGreat

