import Derived.Test.YtcapbaocchaenaaGreatDoorSG4
import Derived.Lib.Hide
/- The walks of the checks of events' fields, but for those of the value. -/
namespace Go.Proofs.YtcapbaocchaenaaGreatDoor
open Go.RowKit

theorem box11 {w : World} {B : Nat} {v0 v1 v2 v3 v4 v5 v6 v7 v8 v9 v10 : Value} {t : TypeId} (h : w.heap[B]? = some (.cells #[v0, v1, v2, v3, v4, v5, v6, v7, v8, v9, v10] t (0, 0))) :
    w.cell? ⟨B, 0, none⟩ = some v0 ∧ w.cell? ⟨B, 1, none⟩ = some v1 ∧ w.cell? ⟨B, 2, none⟩ = some v2 ∧ w.cell? ⟨B, 3, none⟩ = some v3 ∧ w.cell? ⟨B, 4, none⟩ = some v4 ∧ w.cell? ⟨B, 5, none⟩ = some v5 ∧ w.cell? ⟨B, 6, none⟩ = some v6 ∧ w.cell? ⟨B, 7, none⟩ = some v7 ∧ w.cell? ⟨B, 8, none⟩ = some v8 ∧ w.cell? ⟨B, 9, none⟩ = some v9 ∧ w.cell? ⟨B, 10, none⟩ = some v10 := by
  refine ⟨?_, ?_, ?_, ?_, ?_, ?_, ?_, ?_, ?_, ?_, ?_⟩ <;> (rw [cell_of_row _ _ _ _ _ (0, 0) h]; rfl)

theorem emp_str (l : List Nat) : (str l).toList.isEmpty = decide (l = []) := by
  rw [str_list, Bool.eq_iff_iff]
  simp

section
variable {k : Int} {id : Nat} {n : Int} {t : Nat} {nm tx : List Nat} {vk vn : Int} {vf : Nat} {vs : List Nat} {a : Option Addr} {len cap B : Nat} {w : World}

set_option maxRecDepth 100000 in
theorem e1_any (h : w.heap[B]? = some (.cells (evC k id n t nm tx vk vn vf vs a len cap) 45 (0, 0))) :
    Calls Tryz.prog 133 #[.pointer (some ⟨B, 0, none⟩)] w fun e w' => e = .returned (.bool (decide (id = 0))) ∧ w' = w := by
  obtain ⟨g0, g1, g2, g3, g4, g5, g6, g7, g8, g9, g10⟩ := box11 h
  clear h
  go_enter Tryz.func133, Tryz.ntmps133
  go_wp2
  all_goals go_ret
  all_goals refine ⟨congrArg (fun b => Ending.returned (.bool b)) ?_, rfl⟩
  all_goals rw [Bool.eq_iff_iff]
  all_goals simp
  all_goals first | done | omega

set_option maxRecDepth 100000 in
theorem e2_any (h : w.heap[B]? = some (.cells (evC k id n t nm tx vk vn vf vs a len cap) 45 (0, 0))) :
    Calls Tryz.prog 134 #[.pointer (some ⟨B, 0, none⟩)] w fun e w' => e = .returned (.bool (decide (n = 0))) ∧ w' = w := by
  obtain ⟨g0, g1, g2, g3, g4, g5, g6, g7, g8, g9, g10⟩ := box11 h
  clear h
  go_enter Tryz.func134, Tryz.ntmps134
  go_wp2
  all_goals go_ret
  all_goals refine ⟨congrArg (fun b => Ending.returned (.bool b)) ?_, rfl⟩
  all_goals rw [Bool.eq_iff_iff]
  all_goals simp
  all_goals first | done | omega

set_option maxRecDepth 100000 in
theorem e3_any (h : w.heap[B]? = some (.cells (evC k id n t nm tx vk vn vf vs a len cap) 45 (0, 0))) :
    Calls Tryz.prog 135 #[.pointer (some ⟨B, 0, none⟩)] w fun e w' => e = .returned (.bool (decide (t = 0))) ∧ w' = w := by
  obtain ⟨g0, g1, g2, g3, g4, g5, g6, g7, g8, g9, g10⟩ := box11 h
  clear h
  go_enter Tryz.func135, Tryz.ntmps135
  go_wp2
  all_goals go_ret
  all_goals refine ⟨congrArg (fun b => Ending.returned (.bool b)) ?_, rfl⟩
  all_goals rw [Bool.eq_iff_iff]
  all_goals simp
  all_goals first | done | omega

set_option maxRecDepth 100000 in
theorem e4_any (h : w.heap[B]? = some (.cells (evC k id n t nm tx vk vn vf vs a len cap) 45 (0, 0))) :
    Calls Tryz.prog 136 #[.pointer (some ⟨B, 0, none⟩)] w fun e w' => e = .returned (.bool (decide (nm = []))) ∧ w' = w := by
  obtain ⟨g0, g1, g2, g3, g4, g5, g6, g7, g8, g9, g10⟩ := box11 h
  clear h
  go_enter Tryz.func136, Tryz.ntmps136
  go_wp2
  all_goals go_ret
  all_goals refine ⟨congrArg (fun b => Ending.returned (.bool b)) ?_, rfl⟩
  all_goals rw [Bool.eq_iff_iff]
  all_goals simp [emp_str]
  all_goals first | done | omega

set_option maxRecDepth 100000 in
theorem e5_any (h : w.heap[B]? = some (.cells (evC k id n t nm tx vk vn vf vs a len cap) 45 (0, 0))) :
    Calls Tryz.prog 137 #[.pointer (some ⟨B, 0, none⟩)] w fun e w' => e = .returned (.bool (decide (tx = []))) ∧ w' = w := by
  obtain ⟨g0, g1, g2, g3, g4, g5, g6, g7, g8, g9, g10⟩ := box11 h
  clear h
  go_enter Tryz.func137, Tryz.ntmps137
  go_wp2
  all_goals go_ret
  all_goals refine ⟨congrArg (fun b => Ending.returned (.bool b)) ?_, rfl⟩
  all_goals rw [Bool.eq_iff_iff]
  all_goals simp [emp_str]
  all_goals first | done | omega

set_option maxRecDepth 100000 in
theorem r1_any (h : w.heap[B]? = some (.cells (evC k id n t nm tx vk vn vf vs a len cap) 45 (0, 0))) :
    Calls Tryz.prog 139 #[.pointer (some ⟨B, 0, none⟩)] w fun e w' => e = .returned (.bool (decide (id ≠ 0))) ∧ w' = w := by
  obtain ⟨g0, g1, g2, g3, g4, g5, g6, g7, g8, g9, g10⟩ := box11 h
  clear h
  go_enter Tryz.func139, Tryz.ntmps139
  go_wp2
  all_goals go_ret
  all_goals refine ⟨congrArg (fun b => Ending.returned (.bool b)) ?_, rfl⟩
  all_goals rw [Bool.eq_iff_iff]
  all_goals simp
  all_goals first | done | omega

set_option maxRecDepth 100000 in
theorem r2_any (h : w.heap[B]? = some (.cells (evC k id n t nm tx vk vn vf vs a len cap) 45 (0, 0))) :
    Calls Tryz.prog 140 #[.pointer (some ⟨B, 0, none⟩)] w fun e w' => e = .returned (.bool (decide (1 ≤ n ∧ n ≤ 2147483647))) ∧ w' = w := by
  obtain ⟨g0, g1, g2, g3, g4, g5, g6, g7, g8, g9, g10⟩ := box11 h
  clear h
  go_enter Tryz.func140, Tryz.ntmps140
  go_wp2
  all_goals go_ret
  all_goals refine ⟨congrArg (fun b => Ending.returned (.bool b)) ?_, rfl⟩
  all_goals rw [Bool.eq_iff_iff]
  all_goals simp
  all_goals first | done | omega

set_option maxRecDepth 100000 in
theorem r3_any (h : w.heap[B]? = some (.cells (evC k id n t nm tx vk vn vf vs a len cap) 45 (0, 0))) :
    Calls Tryz.prog 141 #[.pointer (some ⟨B, 0, none⟩)] w fun e w' => e = .returned (.bool (decide (t ≤ 9223372036854775807))) ∧ w' = w := by
  obtain ⟨g0, g1, g2, g3, g4, g5, g6, g7, g8, g9, g10⟩ := box11 h
  clear h
  go_enter Tryz.func141, Tryz.ntmps141
  go_wp2
  all_goals go_ret
  all_goals refine ⟨congrArg (fun b => Ending.returned (.bool b)) ?_, rfl⟩
  all_goals rw [Bool.eq_iff_iff]
  all_goals simp
  all_goals first | done | omega

set_option maxRecDepth 100000 in
theorem r4_any (h : w.heap[B]? = some (.cells (evC k id n t nm tx vk vn vf vs a len cap) 45 (0, 0))) :
    Calls Tryz.prog 142 #[.pointer (some ⟨B, 0, none⟩)] w fun e w' => e = .returned (.bool (decide (nm ≠ [] ∧ nm.length ≤ 1000))) ∧ w' = w := by
  obtain ⟨g0, g1, g2, g3, g4, g5, g6, g7, g8, g9, g10⟩ := box11 h
  clear h
  by_cases hn : nm = []
  · have e : (str nm).toList.isEmpty = true := by rw [emp_str]; simpa using hn
    have Hn := Lib.hid hn
    clear hn
    go_enter Tryz.func142, Tryz.ntmps142
    go_wp2
    go_ret
    refine ⟨congrArg (fun b => Ending.returned (.bool b)) ?_, rfl⟩
    rw [Bool.eq_iff_iff]
    simp [Hn.out]
  · have e : (str nm).toList.isEmpty = false := by rw [emp_str]; simpa using hn
    have Hn := Lib.hid hn
    clear hn
    go_enter Tryz.func142, Tryz.ntmps142
    go_wp2
    go_ret
    refine ⟨congrArg (fun b => Ending.returned (.bool b)) ?_, rfl⟩
    rw [Bool.eq_iff_iff]
    simp [Hn.out, str_size]
    first | done | omega

set_option maxRecDepth 100000 in
theorem r5_any (h : w.heap[B]? = some (.cells (evC k id n t nm tx vk vn vf vs a len cap) 45 (0, 0))) :
    Calls Tryz.prog 143 #[.pointer (some ⟨B, 0, none⟩)] w fun e w' => e = .returned (.bool (decide (tx.length ≤ 1000))) ∧ w' = w := by
  obtain ⟨g0, g1, g2, g3, g4, g5, g6, g7, g8, g9, g10⟩ := box11 h
  clear h
  go_enter Tryz.func143, Tryz.ntmps143
  go_wp2
  all_goals go_ret
  all_goals refine ⟨congrArg (fun b => Ending.returned (.bool b)) ?_, rfl⟩
  all_goals rw [Bool.eq_iff_iff]
  all_goals simp [str_size]
  all_goals first | done | omega
end
end Go.Proofs.YtcapbaocchaenaaGreatDoor

