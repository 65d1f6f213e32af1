/- Facts about a disk that the statements' operations have gone over: its order, its plan, its room; a box of four cells that is stored into. -/
import Derived.Test.YtdnbjpfapfnpaaaAcModel
import Derived.Test.YtdnbjpfapfnpaaaAcFew
namespace Go.Proofs.Ytdnbjpfapfnpaaa
open Go.RowKit Go.Maps Go.Shelf

theorem own_facts {w0 : World} {X : Nat → Prop} {w : World} {d : Nat} {M : DM} (h : Own w0 X w d M) : Sorted M.fs ∧ M.plan ≤ 9223372036854775807 ∧ usedF M.fs ≤ M.room := by
  obtain ⟨S, ⟨mb, p, L, hD⟩, _⟩ := h
  refine ⟨?_, ?_, hD.used⟩
  · have h1 := hD.sorted
    rw [hD.files]
    unfold Sorted
    rw [List.pairwise_map]
    exact h1
  · have := hD.plan
    have := hD.hi
    omega

theorem failM_room (M : DM) : (failM M).room = M.room := by
  unfold failM; split
  · rfl
  · split <;> rfl
theorem chgM_room {M : DM} {n : List UInt8} {act : DM → DM × Int} (h : ∀ M', (act M').1.room = M'.room) : (chgM M n act).1.room = M.room := by
  unfold chgM
  split
  · exact failM_room M
  · split
    · rw [h, failM_room]
    · exact failM_room M
theorem onM_room {M : DM} {n : List UInt8} {act : F → DM → DM × Int} (h : ∀ f M', (act f M').1.room = M'.room) : (onM n act M).1.room = M.room := by
  unfold onM
  split
  · rfl
  · exact h _ _
theorem stepA_room (x : AM) (M : DM) : (stepA x M).1.room = M.room := by
  unfold stepA stepM
  split
  · split
    · exact chgM_room fun M' => by split <;> rfl
    · split
      · exact chgM_room fun M' => onM_room fun f M' => by split <;> rfl
      · split
        · exact chgM_room fun M' => onM_room fun f M' => rfl
        · split
          · exact chgM_room fun M' => onM_room fun f M' => by split <;> rfl
          · exact chgM_room fun M' => onM_room fun f M' => rfl
  · split
    · rfl
    · split <;> rfl

theorem runA_zero (l : List AM) (M : DM) : runA l M 0 = M := rfl
theorem runA_room (l : List AM) (M : DM) : ∀ j, j ≤ l.length → (runA l M j).room = M.room
  | 0, _ => rfl
  | j + 1, h => by rw [runA_next (by omega), stepA_room, runA_room l M j (by omega)]

/-- What the first j operations leave behind. -/
structure Good (l : List AM) (M : DM) (j : Nat) : Prop where
  sorted : Sorted (runA l M j).fs
  plan : (runA l M j).plan ≤ 9223372036854775807
  small : Small (runA l M j) j (sumB l j)

theorem good_zero {l : List AM} {room : Int} : Good l (newM room) 0 := ⟨by rw [runA_zero]; exact List.Pairwise.nil, by rw [runA_zero]; exact Nat.zero_le _, ⟨Nat.le_refl _, Nat.le_refl _⟩⟩
theorem Good.next {l : List AM} {M : DM} {j : Nat} (h : Good l M j) (hj : j < l.length) {w0 : World} {X : Nat → Prop} {w : World} {d : Nat} (ho : Own w0 X w d (stepA l[j] (runA l M j)).1) : Good l M (j + 1) := by
  have h1 := own_facts ho
  have h2 := stepA_small h.small h.sorted l[j]
  rw [← runA_next hj] at h1 h2
  exact ⟨h1.1, h1.2.1, by rw [sumB_next hj]; exact h2⟩

/-- A box of four cells, stored into. -/
theorem box_set {w : World} {d : Nat} {a b c e : Value} {t : TypeId} {m : Nat × Nat} (h : w.heap[d]? = some (.cells #[a, b, c, e] t m)) (a' b' c' e' : Value) :
    ((((w.setCell ⟨d, 0, none⟩ a').setCell ⟨d, 1, none⟩ b').setCell ⟨d, 2, none⟩ c').setCell ⟨d, 3, none⟩ e').heap[d]? = some (.cells #[a', b', c', e'] t m) := by
  have h1 := set_head (i := 0) h a'
  have h2 := set_head (i := 1) h1 b'
  have h3 := set_head (i := 2) h2 c'
  have h4 := set_head (i := 3) h3 e'
  simpa using h4
end Go.Proofs.Ytdnbjpfapfnpaaa
