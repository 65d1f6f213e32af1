/- A level that is nil; a level that is new. -/
import Derived.Test.YthidinaflaogfaaLvBack
namespace Go.Proofs.Ythidinaflaogfaa
open Go.RowKit

theorem lv_new (k : Nat) (w : World) : LvAt (fun b => b = w.heap.size) (w.alloc (.cells (lvC k nil64) 83)) w.heap.size k nil64 (fun _ => []) := by
  have hv : ∀ (s : Nat) (v : Value), nil64[s]? = some v → v = .slice none 0 0 := fun s v h => by
    unfold nil64 at h
    rw [List.getElem?_replicate] at h
    split at h
    · cases h; rfl
    · cases h
  refine ⟨heap_alloc_new _ _, by simp [nil64], rfl, fun s v h => ?_, fun s t u v b _ hu _ hb => ?_⟩
  · obtain rfl := hv s v h
    exact ⟨World.ownsRow_nil _ _ _ _, fun b hb => by cases hb⟩
  · obtain rfl := hv s u hu
    cases hb

theorem items_nil (w : World) : Items w none 0 0 [] := ⟨rfl, Nat.le_refl _, by omega, fun h => absurd h (Nat.lt_irrefl _)⟩
theorem items_one {w : World} {b : Nat} {x : It} (h0 : w.cell? ⟨b, 0, none⟩ = some (.int .u64 (x.1 : Int))) (h1 : w.cell? ⟨b, 1, none⟩ = some (.int .u64 (x.2 : Int))) : Items w (some ⟨b, 0, none⟩) 1 1 [x] :=
  ⟨rfl, Nat.le_refl _, by omega, fun _ => ⟨b, 0, rfl, fun i y hi => by
    cases i with
    | zero => cases hi; exact ⟨h0, h1⟩
    | succ i => simp at hi⟩⟩

/-- What Take returns and leaves, whatever the slot. -/
def TakeAll (S : Nat → Prop) (w : World) (d k : Nat) (F : Nat → List It) (s : Int) (r : Ending) (w' : World) : Prop :=
  ∃ p n c, r = .returned (.slice p n c) ∧ Items w' p n c (if isSlotB s = true then F s.toNat else []) ∧ LvStep S w d k (if isSlotB s = true then upd F s.toNat [] else F) w'

theorem take_all {S : Nat → Prop} {w : World} {d k : Nat} {V : List Value} {F : Nat → List It} (h : LvAt S w d k V F) (s : Int) :
    Calls Try.prog 43 #[.pointer (some ⟨d, 0, none⟩), .int .i64 s] w (TakeAll S w d k F s) := by
  cases hs : isSlotB s with
  | true =>
    obtain ⟨h0, h1⟩ := (isSlotB_iff s).1 hs
    obtain ⟨t, rfl⟩ := Int.eq_ofNat_of_zero_le h0
    refine (take_any h t (by omega)).mono ?_
    rintro r w' ⟨p, n, c, e, h2, h3⟩
    refine ⟨p, n, c, e, ?_, ?_⟩
    · rw [if_pos hs, Int.toNat_natCast]; exact h2
    · rw [if_pos hs, Int.toNat_natCast]; exact h3
  | false =>
    refine (take_no d s hs w).mono ?_
    rintro r w' ⟨e, rfl⟩
    refine ⟨none, 0, 0, e, ?_, ?_⟩
    · rw [if_neg (by rw [hs]; decide)]; exact items_nil _
    · rw [if_neg (by rw [hs]; decide)]; exact LvStep.same h (Below.refl _ _)

/-- A row of the call's own, its number of items as a letter. -/
theorem OwnI.items {w : World} {base : Nat} {v : Value} {l : List It} (h : OwnI w base v l) {n : Nat} (hn : l.length = n) : ∃ p c, v = .slice p n c ∧ Items w p n c l := by
  subst hn
  exact items_own h
end Go.Proofs.Ythidinaflaogfaa
