/- The walk of New. -/
import Derived.Test.YthidinaflaogfaaWhCode
import Derived.Deep.RegionLaw
import Derived.Deep.RegionHeld3
import Derived.OneCell
namespace Go.Proofs.Ythidinaflaogfaa
open Go.RowKit

/-- The pointers of the first j levels. -/
def ptrsJ (b j : Nat) : List Value := (List.range 11).map fun i => .pointer (if i < j then some ⟨b + i, 0, none⟩ else none)

theorem ptrsJ_len (b j : Nat) : (ptrsJ b j).length = 11 := by simp [ptrsJ]
theorem ptrsJ_full (b : Nat) : ptrsJ b 11 = ptrs (fun i => b + i) := by
  unfold ptrsJ ptrs
  refine List.map_congr_left fun i hi => ?_
  rw [if_pos (List.mem_range.1 hi)]
theorem ptrsJ_set (b : Nat) {j : Nat} (_ : j < 11) : (ptrsJ b j).set j (.pointer (some ⟨b + j, 0, none⟩)) = ptrsJ b (j + 1) := by
  refine List.ext_getElem? fun i => ?_
  rw [List.getElem?_set]
  unfold ptrsJ
  rw [List.getElem?_map, List.getElem?_map]
  by_cases e : j = i
  · subst e
    rw [if_pos rfl, if_pos (by simpa using ‹j < 11›)]
    rw [List.getElem?_range ‹j < 11›, Option.map_some, if_pos (by omega)]
  · rw [if_neg e]
    rcases Nat.lt_or_ge i 11 with h | h
    · rw [List.getElem?_range h, Option.map_some, Option.map_some]
      by_cases h1 : i < j
      · rw [if_pos h1, if_pos (by omega)]
      · rw [if_neg h1, if_neg (by omega)]
    · rw [List.getElem?_eq_none (by simpa using h)]
      rfl

/-- A wheel that is being made: its map, its cells, j levels. -/
structure NewAt (w : World) (now j : Nat) (wr : World) : Prop where
  head : wr.heap[w.heap.size + 1]? = some (.cells (whC now (ptrsJ (w.heap.size + 2) j) w.heap.size) 65 (0, 0))
  map : wr.heap[w.heap.size]? = some (.map #[] 0)
  lv : ∀ i, i < j → wr.heap[w.heap.size + 2 + i]? = some (.cells (lvC (i % 4) nil64) 83 (0, 0))
  size : wr.heap.size = w.heap.size + 2 + j
  below : Below w.heap.size w wr

theorem NewAt.next {w : World} {now j : Nat} {wr : World} (h : NewAt w now j wr) (hj : j < 11) {w' : World} (hw' : ∃ q, w' = ((wr.alloc (.cells (lvC (j % 4) nil64) 83)).drewN q).setCell ⟨w.heap.size + 1, 1 + j, none⟩ (.pointer (some ⟨w.heap.size + 2 + j, 0, none⟩))) : NewAt w now (j + 1) w' := by
  obtain ⟨q, rfl⟩ := hw'
  have hs := h.size
  have h0 : ((wr.alloc (.cells (lvC (j % 4) nil64) 83)).drewN q).heap[w.heap.size + 1]? = some (.cells (whC now (ptrsJ (w.heap.size + 2) j) w.heap.size) 65 (0, 0)) := (heap_alloc_old _ _ (by omega)).trans h.head
  refine ⟨?_, ?_, fun i hi => ?_, ?_, ?_⟩
  · rw [Joins.block_setCell (i := 1 + j) h0, ← ptrsJ_set _ hj]
    congr 2
    apply Array.ext'
    rw [Array.toList_setIfInBounds]
    show ((Value.int .u64 (now : Int)) :: (ptrsJ (w.heap.size + 2) j ++ [Value.map (some w.heap.size)])).set (1 + j) _ = _
    rw [Nat.add_comm 1 j, List.set_cons_succ, List.set_append_left _ _ (by rw [ptrsJ_len]; exact hj)]
    rfl
  · rw [heap_setCell_other _ _ _ _ (by show w.heap.size ≠ w.heap.size + 1; omega)]
    exact (heap_alloc_old _ _ (by omega)).trans h.map
  · rw [heap_setCell_other _ _ _ _ (by show w.heap.size + 2 + i ≠ w.heap.size + 1; omega)]
    by_cases e : i = j
    · subst e
      show (wr.alloc _).heap[_]? = _
      rw [← hs]
      exact heap_alloc_new _ _
    · exact (heap_alloc_old _ _ (by omega)).trans (h.lv i (by omega))
  · simp [World.setCell, World.drewN, hs]
    omega
  · exact (h.below.alloc (by omega) _).trans ((below_drewN (Below.refl _ _) q).setCell (by show w.heap.size ≤ w.heap.size + 1; omega) _)

/-- A new wheel. -/
theorem NewAt.wheel {w : World} {now : Nat} {w' : World} (h : NewAt w now 11 w') : WhO w (fun _ => False) w' (w.heap.size + 1) now (fun _ => []) [] := by
  have hs := h.size
  have hfp : ∀ i, ∀ b, fp (w.heap.size + 2 + i) nil64 b → b = w.heap.size + 2 + i := fun i b hb => by
    rcases hb with hb | ⟨s, v, hv, hb⟩
    · exact hb
    · unfold nil64 at hv
      rw [List.getElem?_replicate] at hv
      split at hv
      · cases hv; cases hb
      · cases hv
  refine ⟨fun b => if b = w.heap.size + 1 then 11 else if b = w.heap.size then 12 else if w.heap.size + 2 ≤ b ∧ b < w.heap.size + 13 then b - (w.heap.size + 2) else 13, fun i => w.heap.size + 2 + i, fun _ => nil64, w.heap.size, ?_⟩
  refine ⟨by rw [h.head, ptrsJ_full], (MapT.made w).kept (h.map.trans (heap_alloc_new w _).symm), fun i hi => ?_, fun i hi b hb => ?_, if_pos rfl, ?_, fun b hb => ?_, fun b hb => hb.elim, h.below⟩
  · have hv : ∀ (s : Nat) (v : Value), nil64[s]? = some v → v = .slice none 0 0 := fun s v hv => by
      unfold nil64 at hv
      rw [List.getElem?_replicate] at hv
      split at hv
      · cases hv; rfl
      · cases hv
    refine ⟨h.lv i hi, by simp [nil64], .inl rfl, fun s v hsv => ?_, fun s t u v b _ hu _ hb => ?_⟩
    · obtain rfl := hv s v hsv
      exact ⟨World.ownsRow_nil _ _ _ _, fun b hb => by cases hb⟩
    · obtain rfl := hv s u hu
      cases hb
  · obtain rfl := hfp i b hb
    show (if _ then _ else _) = _
    rw [if_neg (by omega), if_neg (by omega), if_pos (by omega)]
    omega
  · show (if _ then _ else _) = _
    rw [if_neg (by omega), if_pos rfl]
  · change (if _ then _ else _) ≤ 12 at hb
    have hx : w.heap.size ≤ b ∧ b < w'.heap.size := by
      rw [hs]
      split at hb
      · omega
      · split at hb
        · omega
        · split at hb <;> omega
    exact ⟨hx.1, fun h => h, hx.2⟩

set_option maxRecDepth 100000 in
set_option maxHeartbeats 1600000 in
theorem wnew_any (now : Nat) (w : World) (hn : now < 18446744073709551616) :
    Calls Try.prog 8 #[.int .u64 (now : Int)] w fun r w' => r = .returned (.pointer (some ⟨w.heap.size + 1, 0, none⟩)) ∧ WhO w (fun _ => False) w' (w.heap.size + 1) (min now 9223372036854775807) (fun _ => []) [] := by
  obtain ⟨m, hm⟩ : ∃ m, m = min now 9223372036854775807 := ⟨_, rfl⟩
  have hmi : min (now : Int) 9223372036854775807 = (m : Int) := by rw [hm]; omega
  rw [← hm]
  have HN := Lib.hid (fun k w hk => new_any k w hk)
  have hmm := @run_makeMap Try.prog
  clear hm
  go_enter Try.func8, Try.ntmps8
  go_wp2_with fail
  go_loopw [10] (fun i wr => ∃ j : Nat, j ≤ 11 ∧ i = .int .i64 (j : Int) ∧ NewAt w m j wr) (fun i _ => 11 - (intOf i).toNat)
  case atStart =>
    refine ⟨0, by decide, rfl, ⟨?_, ?_, fun i hi => absurd hi (by omega), by simp, ((Below.refl w.heap.size w).alloc (Nat.le_refl _) _).alloc (by simp) _⟩⟩
    · have h := heap_alloc_new (w.alloc (.map #[] 0)) (.cells (whC m (ptrsJ (w.heap.size + 2) 0) w.heap.size) 65)
      rw [World.size_alloc] at h
      exact h
    · exact (heap_alloc_old _ _ (by simp)).trans (heap_alloc_new _ _)
  case round =>
    obtain ⟨j, hj, rfl, hat⟩ := hrel
    by_cases hlt : j < 11
    · have hji : (j : Int) < 11 := by omega
      obtain ⟨k, hk⟩ : ∃ k, k = j % 4 := ⟨_, rfl⟩
      have e1 : (j : Int) % 4 = (k : Int) := by omega
      have e2 : Int.tmod (j : Int) 4 = (k : Int) := by rw [Int.tmod_eq_emod_of_nonneg (by omega)]; omega
      have hk4 : k < 4 := by omega
      have HN1 := Lib.hid (fun W => HN.out k W hk4)
      have hz := hat.head
      have Hat := Lib.hid (fun w' => hat.next hlt (w' := w'))
      rw [← hk] at Hat
      have hsz := hat.size
      have hz2 := fun o => (heap_alloc_old wr o (show w.heap.size + 1 < wr.heap.size by omega)).trans hz
      have uf : ∀ o, (wr.alloc o).frozen? ⟨w.heap.size + 1, 1 + j, none⟩ = false := fun o => by simp [World.frozen?, hz2 o]
      have uc : ∀ o, (wr.alloc o).cell? ⟨w.heap.size + 1, 1 + j, none⟩ = some (.pointer none) := fun o => by
        rw [cell_of_row _ _ _ _ _ (0, 0) (hz2 o), Nat.add_comm 1 j]
        have e : (ptrsJ (w.heap.size + 2) j ++ [Value.map (some w.heap.size)])[j]? = some (.pointer none) := by
          rw [List.getElem?_append_left (by rw [ptrsJ_len]; exact hlt)]
          unfold ptrsJ
          rw [List.getElem?_map, List.getElem?_range hlt, Option.map_some, if_neg (by omega)]
        simpa [whC] using e
      have Hlt := Lib.hid hlt
      clear hat hz hz2 hk hlt
      go_upto_region 5 with fail
      go_region_law (first | (go_simp; go_at_call 26; (with_reducible refine (HN1.out _).mono ?_); rintro r w5 ⟨rfl, rfl⟩))
      all_goals
        go_wp2
        go_roundw
        case rel => exact ⟨j + 1, by omega, by go_num, Hat.out _ ⟨1, rfl⟩⟩
        case measure => simp [intOf]; omega
    · have hji : ¬ (j : Int) < 11 := by omega
      obtain rfl : j = 11 := by omega
      have Hat := Lib.hid hat
      clear hat
      go_wp2
      go_ret
      exact ⟨rfl, Hat.out.wheel⟩
end Go.Proofs.Ythidinaflaogfaa
