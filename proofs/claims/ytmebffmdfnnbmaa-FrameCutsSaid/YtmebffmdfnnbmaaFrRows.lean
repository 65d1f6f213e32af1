/- Slices of byte slices that a call has made itself. -/
import Derived.Test.YtmebffmdfnnbmaaAppend
import Derived.RangeFuncBox
namespace Go.Proofs.Ytmebffmdfnnbmaa
open Go.RowKit

/-- A slice of byte slices of the call's own: its row, and the byte slices in other blocks. -/
def OwnParts (w : World) (base : Nat) (v : Value) (ls : List (List Nat)) : Prop :=
  ∃ vs : List Value, vs.length = ls.length ∧ w.ownsRow base 25 1 v ls.length vs ∧
    ∀ i, i < ls.length → ∃ a n c, vs[i]? = some (.slice a n c) ∧ Bytes w a n c (ls.getD i []) ∧ (0 < n → ∀ x, a = some x → some x.block ≠ v.ownBlock)

theorem OwnParts.nil (w : World) (base : Nat) : OwnParts w base (.slice none 0 0) [] :=
  ⟨[], rfl, World.ownsRow_nil _ _ _ _, fun _ h => absurd h (Nat.not_lt_zero _)⟩

/-- Bytes in another world, if their own block has not been turned. -/
theorem Bytes.off {w w' : World} {a : Option Addr} {n c : Nat} {l : List Nat} (h : Bytes w a n c l) (hw : 0 < n → ∀ x, a = some x → x.block < w.heap.size → w'.heap[x.block]? = w.heap[x.block]?) : Bytes w' a n c l := by
  refine ⟨h.len, h.le, h.capmax, h.byte, h.nil, fun hn => ?_⟩
  obtain ⟨b, o, rfl, hc⟩ := h.cell hn
  refine ⟨b, o, rfl, fun i hi => ?_⟩
  have hlt := World.block_lt_of_cell? _ _ (hc i hi)
  rw [← hc i hi]
  exact World.cell?_of_block (hw hn ⟨b, o, none⟩ rfl hlt)

/-- What a slice of byte slices came to hold, element by element. -/
theorem OwnParts.app {w w' : World} {base : Nat} {v v' : Value} {ls ms : List (List Nat)} {vs us : List Value} (hlen : vs.length = ls.length)
    (hel : ∀ i, i < ls.length → ∃ a n c, vs[i]? = some (.slice a n c) ∧ Bytes w a n c (ls.getD i []) ∧ (0 < n → ∀ x, a = some x → some x.block ≠ v.ownBlock))
    (hlen2 : us.length = ms.length) (hel2 : ∀ i, i < ms.length → ∃ a n c, us[i]? = some (.slice a n c) ∧ Bytes w a n c (ms.getD i []) ∧ (0 < n → ∀ x, a = some x → some x.block ≠ v.ownBlock))
    (hown : w'.ownsRow base 25 1 v' (ls.length + ms.length) (vs ++ us)) (hg : w.grownBy w' v.ownBlock) (hb : v'.ownBlock = v.ownBlock ∨ v'.ownBlock = some w.heap.size) : OwnParts w' base v' (ls ++ ms) := by
  have turn : ∀ (a : Option Addr) (n c : Nat) (l : List Nat), Bytes w a n c l → (0 < n → ∀ x, a = some x → some x.block ≠ v.ownBlock) → Bytes w' a n c l ∧ (0 < n → ∀ x, a = some x → some x.block ≠ v'.ownBlock) := by
    intro a n c l hB ho
    refine ⟨hB.off fun hn x hx hlt => hg.block _ hlt (ho hn x hx), fun hn x hx e => ?_⟩
    rcases hb with e2 | e2
    · exact ho hn x hx (e.trans e2)
    · rw [e2] at e
      have e3 := Option.some.inj e
      obtain ⟨b, o, rfl, hc⟩ := hB.cell hn
      have h0 := World.block_lt_of_cell? _ _ (hc 0 hn)
      have e4 : b = x.block := by cases hx; rfl
      simp only at h0
      omega
  refine ⟨vs ++ us, by rw [List.length_append, List.length_append, hlen, hlen2], by rw [List.length_append]; exact hown, fun i hi => ?_⟩
  rw [List.length_append] at hi
  rcases Nat.lt_or_ge i ls.length with h | h
  · obtain ⟨a, n, c, h1, h2, h3⟩ := hel i h
    obtain ⟨h4, h5⟩ := turn a n c _ h2 h3
    refine ⟨a, n, c, by rw [List.getElem?_append_left (by omega)]; exact h1, ?_, h5⟩
    rw [List.getD_eq_getElem?_getD, List.getElem?_append_left h, ← List.getD_eq_getElem?_getD]
    exact h4
  · obtain ⟨a, n, c, h1, h2, h3⟩ := hel2 (i - ls.length) (by omega)
    obtain ⟨h4, h5⟩ := turn a n c _ h2 h3
    refine ⟨a, n, c, by rw [List.getElem?_append_right (by omega), hlen]; exact h1, ?_, h5⟩
    rw [List.getD_eq_getElem?_getD, List.getElem?_append_right h, ← List.getD_eq_getElem?_getD]
    exact h4

theorem OwnParts.snoc {w w' : World} {base : Nat} {v v' : Value} {ls : List (List Nat)} {vs : List Value} (hlen : vs.length = ls.length)
    (hel : ∀ i, i < ls.length → ∃ a n c, vs[i]? = some (.slice a n c) ∧ Bytes w a n c (ls.getD i []) ∧ (0 < n → ∀ x, a = some x → some x.block ≠ v.ownBlock))
    {a : Option Addr} {n c : Nat} {l : List Nat} (hB : Bytes w a n c l) (ho : 0 < n → ∀ x, a = some x → some x.block ≠ v.ownBlock)
    (hown : w'.ownsRow base 25 1 v' (ls.length + 1) (vs ++ [.slice a n c])) (hg : w.grownBy w' v.ownBlock) (hb : v'.ownBlock = v.ownBlock ∨ v'.ownBlock = some w.heap.size) : OwnParts w' base v' (ls ++ [l]) := by
  refine OwnParts.app (ms := [l]) (us := [.slice a n c]) hlen hel rfl (fun i hi => ?_) hown hg hb
  obtain rfl : i = 0 := by simp at hi; exact hi
  exact ⟨a, n, c, rfl, hB, ho⟩

/-- The same in another world, if nothing but new memory has been made. -/
theorem OwnParts.grow {w w' : World} {base : Nat} {v : Value} {ls : List (List Nat)} (h : OwnParts w base v ls) (hb : Below w.heap.size w w') : OwnParts w' base v ls := by
  obtain ⟨vs, h1, h2, h3⟩ := h
  refine ⟨vs, h1, own_below h2 hb, fun i hi => ?_⟩
  obtain ⟨a, n, c, h4, h5, h6⟩ := h3 i hi
  exact ⟨a, n, c, h4, h5.grow hb, h6⟩

/-- The same in another world, if neither its row nor its bytes' blocks have been turned. -/
theorem OwnParts.kept {w w' : World} {base : Nat} {v : Value} {ls : List (List Nat)} (h : OwnParts w base v ls) {row : Option Nat} (hg : w.grownBy w' row) (hr : row ≠ v.ownBlock ∨ row = none) (hb : ∀ k, row = some k → ∀ a n c l, Bytes w a n c l → 0 < n → ∀ x, a = some x → x.block ≠ k) : OwnParts w' base v ls := by
  obtain ⟨vs, h1, h2, h3⟩ := h
  refine ⟨vs, h1, h2.kept hg ?_, fun i hi => ?_⟩
  · rcases hr with hr | rfl
    · exact .inr (fun e => hr e.symm)
    · rcases h2.2 with ⟨rfl, _⟩ | ⟨g, cap, cur, rfl, _⟩
      · exact .inl rfl
      · exact .inr (fun e => by cases e)
  · obtain ⟨a, n, c, h4, h5, h6⟩ := h3 i hi
    exact ⟨a, n, c, h4, h5.off (fun hn x hx hlt => hg.block _ hlt (fun e => hb _ e.symm a n c _ h5 hn x hx rfl)), h6⟩

/-- As parts. -/
theorem OwnParts.parts {w : World} {base : Nat} {v : Value} {ls : List (List Nat)} (h : OwnParts w base v ls) : ∃ a cap, v = .slice a ls.length cap ∧ Parts w a ls.length cap ls := by
  obtain ⟨vs, h1, h2, h3⟩ := h
  rcases h2.2 with ⟨rfl, h0⟩ | ⟨g, cap, cur, rfl, hbg, hg, hle, hcm, hsz, htake⟩
  · have e : ls = [] := List.length_eq_zero_iff.1 h0
    subst e
    exact ⟨none, 0, rfl, rfl, Nat.le_refl _, by omega, fun h => absurd h (Nat.lt_irrefl _)⟩
  · rw [maxLen_nat] at hcm
    refine ⟨_, cap, rfl, rfl, hle, hcm, fun _ => ⟨g, 0, rfl, (Array.getElem?_eq_some_iff.1 hg).1, fun i hi => ?_⟩⟩
    obtain ⟨a, n, c, h4, h5, _⟩ := h3 i hi
    refine ⟨a, n, c, ?_, h5⟩
    rw [Nat.zero_add, cell_of_row w g i cur _ (0, 0) hg, ← h4, ← htake, List.getElem?_take, if_pos (by omega), Array.getElem?_toList]

/-- Bytes do not lie in a block that holds one slice. -/
theorem Bytes.not_box {w : World} {a : Option Addr} {n c B : Nat} {l : List Nat} {t : TypeId} {p : Option Addr} {m k : Nat} (h : Bytes w a n c l) (hn : 0 < n) (hB : Boxed w B t (.slice p m k)) : ∀ x, a = some x → x.block ≠ B := by
  rintro x rfl e
  obtain ⟨b, o, e2, hc⟩ := h.cell hn
  cases e2
  have h0 := hc 0 hn
  have e3 : b = B := e
  subst e3
  rw [cell_of_row w b (o + 0) #[.slice p m k] t (0, 0) hB] at h0
  cases o with
  | zero => cases h0
  | succ o => simp at h0

theorem info_rows : (Try.prog.info? 25).map (fun i => (i.zero, i.size, i.bytes)) = some (some (.slice none 0 0), 1, 24) := by kernel_rfl
end Go.Proofs.Ytmebffmdfnnbmaa
