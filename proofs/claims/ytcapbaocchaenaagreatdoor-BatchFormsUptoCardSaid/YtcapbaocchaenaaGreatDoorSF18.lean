import Derived.Test.YtcapbaocchaenaaGreatDoorSF1
import Derived.Laws.IdiomStrings
/- The bytes of a string as a new slice. -/
namespace Go.Proofs.YtcapbaocchaenaaGreatDoor
open Go.RowKit

set_option maxRecDepth 100000 in
/-- '[]byte(s)': new memory. -/
theorem bytes_of_str (l : List Nat) (w : World) (hl : ∀ x ∈ l, x < 256) (hn : l.length ≤ 1000000) :
    ∃ c w', (convert 9 28 (.string (str l))).run Tryz.prog w = .ok (.slice (some ⟨w.heap.size, 0, none⟩) l.length c) w' ∧ Bytes w' (some ⟨w.heap.size, 0, none⟩) l.length c l ∧ Below w.heap.size w w' := by
  have hr := run_bytes_of_string (P := Tryz.prog) w 9 28 5 (str l) Tryz.underlying9 Tryz.underlying28 Tryz.underlying5
  have hge := grownCap_ge w (str l).size 0 5
  have hcm := grownCap_le_maxLen w (str l).size 0 5 (by rw [maxLen_nat, str_size]; omega)
  rw [maxLen_nat] at hcm
  rw [str_size] at hr hge hcm
  obtain ⟨c, hc⟩ : ∃ c, c = grownCap w l.length 0 5 := ⟨_, rfl⟩
  rw [← hc] at hr hge hcm
  refine ⟨c, _, hr, ⟨rfl, hge, hcm, hl, (fun h => (by cases h)), fun _ => ⟨w.heap.size, 0, rfl, fun i hi => ?_⟩⟩, ((Below.refl _ _).drew).alloc (Nat.le_refl _) _⟩
  rw [Nat.zero_add]
  have hsz : i < (str l).data.size := by
    have := str_size l
    show i < (str l).size
    omega
  have h1 := bytesRow_at (str l) c i hsz
  have h2 : (w.drew.alloc (.cells (bytesRow (str l) c) 5 ((bytesRow (str l) c).size, (bytesRow (str l) c).size + 1))).cell? ⟨w.heap.size, i, none⟩ = (bytesRow (str l) c)[i]? := cell_of_row _ _ _ _ _ _ (heap_alloc_new w.drew _)
  rw [h2, h1]
  congr 2
  have h3 : (str l).data[i] = UInt8.ofNat (l.getD i 0) := by
    rw [List.getD_eq_getElem?_getD, List.getElem?_eq_getElem hi]
    have h5 : i < (l.map UInt8.ofNat).length := by rw [List.length_map]; exact hi
    show ((l.map UInt8.ofNat).toArray)[i]'(by simpa using h5) = _
    rw [List.getElem_toArray]
    exact List.getElem_map _
  rw [h3]
  have h4 : l.getD i 0 < 256 := by
    rw [List.getD_eq_getElem?_getD, List.getElem?_eq_getElem hi]
    exact hl _ (List.getElem_mem _)
  simp [UInt8.toNat_ofNat']
  simp at h4
  omega
end Go.Proofs.YtcapbaocchaenaaGreatDoor

