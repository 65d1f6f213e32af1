/- A row of bytes of the call's own, that is written byte by byte. -/
import Derived.Test.YtdflfimclgapnaaAppend
namespace Go.Proofs.Ytdflfimclgapnaa
open Go.RowKit

/-- A row of bytes, whatever they are. -/
def U8Row (w : World) (g N : Nat) : Prop := ∃ cur : Array Value, w.heap[g]? = some (.cells cur 5 (0, 0)) ∧ ∀ i, i < N → ∃ z : Int, cur[i]? = some (.int .u8 z)

theorem U8Row.cell {w : World} {g N i : Nat} (h : U8Row w g N) (hi : i < N) : ∃ z : Int, w.cell? ⟨g, i, none⟩ = some (.int .u8 z) := by
  obtain ⟨cur, hg, hc⟩ := h
  obtain ⟨z, hz⟩ := hc i hi
  exact ⟨z, by rw [cell_of_row w g i cur _ _ hg, hz]⟩

theorem U8Row.frozen {w : World} {g N : Nat} (h : U8Row w g N) (i : Nat) : w.frozen? ⟨g, i, none⟩ = false := by
  obtain ⟨cur, hg, _⟩ := h
  simp [World.frozen?, hg]

theorem U8Row.set {w : World} {g N : Nat} (h : U8Row w g N) (i : Nat) (z : Int) : U8Row (w.setCell ⟨g, i, none⟩ (.int .u8 z)) g N := by
  obtain ⟨cur, hg, hc⟩ := h
  refine ⟨cur.setIfInBounds i (.int .u8 z), ?_, fun j hj => ?_⟩
  · simp [World.setCell, Array.getElem?_modify, hg]
  · obtain ⟨z', hz'⟩ := hc j hj
    rw [Array.getElem?_setIfInBounds]
    by_cases e : i = j
    · subst e
      have hlt : i < cur.size := (Array.getElem?_eq_some_iff.1 hz').1
      exact ⟨z, by simp [hlt]⟩
    · exact ⟨z', by rw [if_neg e]; exact hz'⟩

theorem U8Row.below {w w' : World} {g N : Nat} (h : U8Row w g N) (hb : Below w.heap.size w w') : U8Row w' g N := by
  obtain ⟨cur, hg, hc⟩ := h
  exact ⟨cur, (hb.block g (Array.getElem?_eq_some_iff.1 hg).1).trans hg, hc⟩

theorem own_row {w : World} {base : Nat} {v : Value} {m : Nat} {l : List Nat} (h : w.ownsRow base 5 1 v m (u8s l)) (hm : 0 < m) : ∃ g cp, v = .slice (some ⟨g, 0, none⟩) m cp ∧ base ≤ g ∧ m ≤ cp ∧ U8Row w g m := by
  have hlen : l.length = m := by have := h.1; simpa [u8s] using this
  rcases h.2 with ⟨_, h0⟩ | ⟨g, cap', cur, rfl, hbg, hg, hle, _, hsz, htake⟩
  · omega
  · refine ⟨g, cap', rfl, hbg, hle, cur, hg, fun i hi => ?_⟩
    have e1 : (u8s l)[i]? = some (.int .u8 (l.getD i 0 : Nat)) := by
      unfold u8s
      rw [List.getElem?_map, List.getElem?_eq_getElem (by omega), List.getD_eq_getElem?_getD, List.getElem?_eq_getElem (by omega)]; rfl
    rw [← htake, List.getElem?_take, if_pos (by omega)] at e1
    exact ⟨_, by simpa using e1⟩

/-- A byte slice of the call's own: where its row lies. -/
theorem own_place {w : World} {base : Nat} {v : Value} {m : Nat} {l : List Nat} (h : w.ownsRow base 5 1 v m (u8s l)) (hs : base < w.heap.size) :
    ∃ go p cp, v = .slice p m cp ∧ base ≤ go ∧ go < w.heap.size ∧ (0 < m → p = some ⟨go, 0, none⟩ ∧ U8Row w go m) := by
  rcases Nat.eq_zero_or_pos m with rfl | hm
  · rcases h.2 with ⟨rfl, _⟩ | ⟨g, cap', cur, rfl, hbg, hg, _⟩
    · exact ⟨base, none, 0, rfl, Nat.le_refl _, hs, fun h => absurd h (Nat.lt_irrefl _)⟩
    · exact ⟨g, _, _, rfl, hbg, (Array.getElem?_eq_some_iff.1 hg).1, fun h => absurd h (Nat.lt_irrefl _)⟩
  · obtain ⟨g, cp, rfl, hbg, _, hrow⟩ := own_row h hm
    obtain ⟨cur, hg, hc⟩ := hrow
    exact ⟨g, _, cp, rfl, hbg, (Array.getElem?_eq_some_iff.1 hg).1, fun _ => ⟨rfl, cur, hg, hc⟩⟩

/-- What one row's turn leaves of another. -/
theorem own_keep {w w' : World} {base go n : Nat} {e : TypeId} {v : Value} {xs : List Value} (h : w.ownsRow base e 1 v n xs) (hg : w.grownBy w' (some go)) (hlt : go < base) : w'.ownsRow base e 1 v n xs := by
  refine ⟨h.1, ?_⟩
  rcases h.2 with hn | ⟨g, cap, cur, rfl, hbg, hgc, rest⟩
  · exact .inl hn
  · exact .inr ⟨g, cap, cur, rfl, hbg, (hg.block g (Array.getElem?_eq_some_iff.1 hgc).1 (fun e => by cases e; omega)).trans hgc, rest⟩
end Go.Proofs.Ytdflfimclgapnaa
