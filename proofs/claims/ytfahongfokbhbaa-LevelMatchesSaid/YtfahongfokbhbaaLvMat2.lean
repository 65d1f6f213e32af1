/- What LevelMatches' branches want. -/
import Derived.Test.YtfahongfokbhbaaLvMat
import Derived.Test.YtfahongfokbhbaaLevelEmpties
import Derived.Test.YtfahongfokbhbaaOpenOps15
namespace Go.Proofs.Ytfahongfokbhbaa
open Go.RowKit

/-- Behind j operations. -/
def MtR (w0 : World) (D k j : Nat) (v : Value) (wr : World) : Prop := ∃ L : List It, srtI L ∧ L.length ≤ j ∧ (∀ y ∈ L, y.2 < 18446744073709551616) ∧ OwnI wr w0.heap.size v L ∧ LvO w0 (fun b => v.ownBlock = some b) wr D k (slF k L)

theorem own_count {w0 : World} {X : Nat → Prop} {w : World} {d k : Nat} {L : List It} (h : LvO w0 X w d k (slF k L)) {N : Nat} (hN : L.length = N) (hl : N ≤ 1000) :
    Calls Try.prog 27 #[.pointer (some ⟨d, 0, none⟩)] w fun r w' => r = .returned (.int .i64 (N : Int)) ∧ w' = w := by
  obtain ⟨V, h1, _⟩ := h
  refine (count_any h1 (fun u => Nat.le_trans (List.length_filter_le _ _) (by omega))).mono ?_
  rintro r w' ⟨e, h⟩
  exact ⟨by rw [e, cntF_all, hN], h⟩

theorem own_first {w0 : World} {X : Nat → Prop} {w : World} {d k : Nat} {F : Nat → List It} (h : LvO w0 X w d k F) (f : Int) (m : Nat) (hm : max f 0 = (m : Int)) :
    Calls Try.prog 25 #[.pointer (some ⟨d, 0, none⟩), .int .i64 f] w fun r w' => ∃ x, r = .returned (.int .i64 x) ∧ IsFirst F m x ∧ w' = w := by
  obtain ⟨V, h1, _⟩ := h
  exact first_any h1 f m hm

theorem own_take_all {w0 : World} {X : Nat → Prop} {w : World} {d k : Nat} {F : Nat → List It} (h : LvO w0 X w d k F) (s : Int) :
    Calls Try.prog 24 #[.pointer (some ⟨d, 0, none⟩), .int .i64 s] w fun r w' => ∃ p n c, r = .returned (.slice p n c) ∧ Items w' p n c (if isSlotB s = true then F s.toNat else []) ∧ LvOEnd w0 X w d k (if isSlotB s = true then upd F s.toNat [] else F) w' := by
  obtain ⟨V, h1, h2, h3, h4⟩ := h
  refine (take_all h1 s).mono ?_
  rintro r w' ⟨p, n, c, e, hI, hst⟩
  exact ⟨p, n, c, e, hI, LvO.step h2 h3 h4 hst⟩

/-- What Of and Take give are the same. -/
theorem of_take (k : Nat) (L : List It) (s : Int) : (if isSlotB s = true then slF k L s.toNat else []) = L.filter fun y => decide ((slotN k y.2 : Int) = s) := by
  cases hs : isSlotB s with
  | true =>
    obtain ⟨h0, h1⟩ := (isSlotB_iff s).1 hs
    obtain ⟨t, rfl⟩ := Int.eq_ofNat_of_zero_le h0
    rw [if_pos rfl, Int.toNat_natCast]
    rfl
  | false =>
    have hn : ¬ (0 ≤ s ∧ s < 64) := fun h => by rw [(isSlotB_iff s).2 h] at hs; cases hs
    rw [if_neg (by decide)]
    refine (List.filter_eq_nil_iff.2 fun y _ e => ?_).symm
    have := slotN_lt k y.2
    rw [decide_eq_true_eq] at e
    omega

/-- The list without the first t items of T. -/
def minus (L T : List It) (t : Nat) : List It := L.filter fun y => !decide (y ∈ T.take t)
theorem minus_zero (L T : List It) : minus L T 0 = L := List.filter_eq_self.2 fun y _ => by simp
theorem minus_succ {L T : List It} {t : Nat} {x : It} (h : T[t]? = some x) : minus L T (t + 1) = delI x (minus L T t) := by
  unfold minus delI
  rw [List.filter_filter]
  refine List.filter_congr fun y _ => ?_
  obtain ⟨ht, rfl⟩ := List.getElem?_eq_some_iff.1 h
  rw [List.take_succ_eq_append_getElem ht, Bool.eq_iff_iff]
  simp only [List.mem_append, List.mem_singleton, Bool.not_eq_true', decide_eq_false_iff_not, Bool.and_eq_true, not_or]
  exact ⟨fun h => ⟨h.2, h.1⟩, fun h => ⟨h.2, h.1⟩⟩
theorem slF_minus (k : Nat) (L : List It) (s : Int) : slF k (minus L (L.filter fun y => decide ((slotN k y.2 : Int) = s)) (L.filter fun y => decide ((slotN k y.2 : Int) = s)).length) = if isSlotB s = true then upd (slF k L) s.toNat [] else slF k L := by
  have e : minus L (L.filter fun y => decide ((slotN k y.2 : Int) = s)) (L.filter fun y => decide ((slotN k y.2 : Int) = s)).length = L.filter fun y => !decide ((slotN k y.2 : Int) = s) := by
    unfold minus
    rw [List.take_length]
    refine List.filter_congr fun y hy => ?_
    rw [Bool.eq_iff_iff]
    simp only [Bool.not_eq_true', decide_eq_false_iff_not, List.mem_filter, decide_eq_true_eq, not_and]
    exact ⟨fun h => h hy, fun h _ => h⟩
  rw [e]
  cases hs : isSlotB s with
  | true =>
    obtain ⟨h0, h1⟩ := (isSlotB_iff s).1 hs
    obtain ⟨t, rfl⟩ := Int.eq_ofNat_of_zero_le h0
    rw [if_pos rfl, Int.toNat_natCast]
    funext u
    unfold upd slF
    rw [List.filter_filter]
    by_cases hu : u = t
    · rw [if_pos hu, hu]
      refine List.filter_eq_nil_iff.2 fun y _ e => ?_
      simp at e
    · rw [if_neg hu]
      refine List.filter_congr fun y _ => ?_
      rw [Bool.eq_iff_iff]
      simp only [Bool.not_eq_true', decide_eq_false_iff_not, Bool.and_eq_true, decide_eq_true_eq]
      exact ⟨fun h => h.1, fun h => ⟨h, by omega⟩⟩
  | false =>
    have hn : ¬ (0 ≤ s ∧ s < 64) := fun h => by rw [(isSlotB_iff s).2 h] at hs; cases hs
    rw [if_neg (by decide)]
    congr 1
    refine List.filter_eq_self.2 fun y _ => ?_
    have := slotN_lt k y.2
    rw [decide_eq_false (by omega)]
    rfl

end Go.Proofs.Ytfahongfokbhbaa
