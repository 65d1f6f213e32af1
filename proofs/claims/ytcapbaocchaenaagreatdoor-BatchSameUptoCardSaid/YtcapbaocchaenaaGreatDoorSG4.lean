import Derived.Test.YtcapbaocchaenaaGreatDoorSG2
import Derived.Test.YtcapbaocchaenaaGreatDoorSG3
/- The walks of what makes the checks and the writers of events' fields. -/
namespace Go.Proofs.YtcapbaocchaenaaGreatDoor
open Go.RowKit

/-- The cells of an event. -/
abbrev evC (k : Int) (id : Nat) (n : Int) (t : Nat) (nm tx : List Nat) (vk vn : Int) (vf : Nat) (vs : List Nat) (a : Option Addr) (len cap : Nat) : Array Value :=
  #[.int .i64 k, .int .u64 (id : Int), .int .i64 n, .int .u64 (t : Int), .string (str nm), .string (str tx), .int .i64 vk, .int .i64 vn, .float .f64 vf, .string (str vs), .slice a len cap]

theorem box6 {w : World} {B : Nat} {v0 v1 v2 v3 v4 v5 : Value} {t : TypeId} (h : w.heap[B]? = some (.cells #[v0, v1, v2, v3, v4, v5] t (0, 0))) :
    w.cell? ⟨B, 0, none⟩ = some v0 ∧ w.cell? ⟨B, 1, none⟩ = some v1 ∧ w.cell? ⟨B, 2, none⟩ = some v2 ∧ w.cell? ⟨B, 3, none⟩ = some v3 ∧ w.cell? ⟨B, 4, none⟩ = some v4 ∧ w.cell? ⟨B, 5, none⟩ = some v5 ∧ ∀ i, w.frozen? ⟨B, i, none⟩ = false := by
  refine ⟨?_, ?_, ?_, ?_, ?_, ?_, fun i => by simp [World.frozen?, h]⟩ <;> (rw [cell_of_row _ _ _ _ _ (0, 0) h]; rfl)

theorem set_headE {w : World} {d i : Nat} {cs : Array Value} {t : TypeId} {m : Nat × Nat} (h : w.heap[d]? = some (.cells cs t m)) (v : Value) : (w.setCell ⟨d, i, none⟩ v).heap[d]? = some (.cells (cs.setIfInBounds i v) t m) := by
  simp [World.setCell, Array.getElem?_modify, h]

section
variable {P : Program} (w : World) (a : Addr) (m : Mode)
theorem run_store_func (f : Fn) (b c : Array Value) : (store a (.func f b c) m).run P w = stored P w a (.func f b c) m := run_store P w a _ m rfl
theorem run_store_nilFunc : (store a .nilFunc m).run P w = stored P w a .nilFunc m := run_store P w a _ m rfl
end
attribute [local go_sem] run_store_func run_store_nilFunc

/-- A function that has captured the event. -/
abbrev capV (f : FuncId) (B : Nat) : Value := .func (.func f) #[] #[.pointer (some ⟨B, 0, none⟩)]

/-- Six of them. -/
def sixEnd (x : Array Value) (f0 f1 f2 f3 f4 f5 : FuncId) (w : World) (e : Ending) (w' : World) : Prop :=
  Below w.heap.size w w' ∧ w'.heap[w.heap.size]? = some (.cells x 45 (0, 0)) ∧ e = .returned (.agg #[capV f0 w.heap.size, capV f1 w.heap.size, capV f2 w.heap.size, capV f3 w.heap.size, capV f4 w.heap.size, capV f5 w.heap.size])

set_option maxRecDepth 100000 in
theorem empty_six (k : Int) (id : Nat) (n : Int) (t : Nat) (nm tx : List Nat) (vk vn : Int) (vf : Nat) (vs : List Nat) (a : Option Addr) (len cap : Nat) (w : World) :
    Calls Tryz.prog 87 #[.agg (evC k id n t nm tx vk vn vf vs a len cap)] w (sixEnd (evC k id n t nm tx vk vn vf vs a len cap) 133 134 135 136 137 138 w) := by
  go_enter Tryz.func87, Tryz.ntmps87
  go_wp2
  refine bodyPost_ret (v := .agg #[capV 133 w.heap.size, capV 134 w.heap.size, capV 135 w.heap.size, capV 136 w.heap.size, capV 137 w.heap.size, capV 138 w.heap.size]) ?_ rfl ⟨((Below.refl _ _).alloc (Nat.le_refl _) _).alloc (by simp) _, (Below.heap_alloc _ _ _ (by simp)).trans (heap_alloc_new _ _), rfl⟩
  rw [results_c rfl]
  go_simp

set_option maxRecDepth 100000 in
theorem right_six (k : Int) (id : Nat) (n : Int) (t : Nat) (nm tx : List Nat) (vk vn : Int) (vf : Nat) (vs : List Nat) (a : Option Addr) (len cap : Nat) (w : World) :
    Calls Tryz.prog 88 #[.agg (evC k id n t nm tx vk vn vf vs a len cap)] w (sixEnd (evC k id n t nm tx vk vn vf vs a len cap) 139 140 141 142 143 144 w) := by
  go_enter Tryz.func88, Tryz.ntmps88
  go_wp2
  refine bodyPost_ret (v := .agg #[capV 139 w.heap.size, capV 140 w.heap.size, capV 141 w.heap.size, capV 142 w.heap.size, capV 143 w.heap.size, capV 144 w.heap.size]) ?_ rfl ⟨((Below.refl _ _).alloc (Nat.le_refl _) _).alloc (by simp) _, (Below.heap_alloc _ _ _ (by simp)).trans (heap_alloc_new _ _), rfl⟩
  rw [results_c rfl]
  go_simp

set_option maxRecDepth 100000 in
theorem forms_six (k : Int) (id : Nat) (n : Int) (t : Nat) (nm tx : List Nat) (vk vn : Int) (vf : Nat) (vs : List Nat) (a : Option Addr) (len cap : Nat) (w : World) :
    Calls Tryz.prog 85 #[.agg (evC k id n t nm tx vk vn vf vs a len cap)] w (sixEnd (evC k id n t nm tx vk vn vf vs a len cap) 125 126 127 128 129 130 w) := by
  go_enter Tryz.func85, Tryz.ntmps85
  go_wp2
  refine bodyPost_ret (v := .agg #[capV 125 w.heap.size, capV 126 w.heap.size, capV 127 w.heap.size, capV 128 w.heap.size, capV 129 w.heap.size, capV 130 w.heap.size]) ?_ rfl ⟨((Below.refl _ _).alloc (Nat.le_refl _) _).alloc (by simp) _, (Below.heap_alloc _ _ _ (by simp)).trans (heap_alloc_new _ _), rfl⟩
  rw [results_c rfl]
  go_simp

set_option maxRecDepth 100000 in
theorem texts_six (k : Int) (id : Nat) (n : Int) (t : Nat) (nm tx : List Nat) (vk vn : Int) (vf : Nat) (vs : List Nat) (a : Option Addr) (len cap : Nat) (w : World) :
    Calls Tryz.prog 65 #[.agg (evC k id n t nm tx vk vn vf vs a len cap)] w (sixEnd (evC k id n t nm tx vk vn vf vs a len cap) 98 99 101 102 104 105 w) := by
  go_enter Tryz.func65, Tryz.ntmps65
  go_wp2
  refine bodyPost_ret (v := .agg #[capV 98 w.heap.size, capV 99 w.heap.size, capV 101 w.heap.size, capV 102 w.heap.size, capV 104 w.heap.size, capV 105 w.heap.size]) ?_ rfl ⟨((Below.refl _ _).alloc (Nat.le_refl _) _).alloc (by simp) _, (Below.heap_alloc _ _ _ (by simp)).trans (heap_alloc_new _ _), rfl⟩
  rw [results_c rfl]
  go_simp
end Go.Proofs.YtcapbaocchaenaaGreatDoor

