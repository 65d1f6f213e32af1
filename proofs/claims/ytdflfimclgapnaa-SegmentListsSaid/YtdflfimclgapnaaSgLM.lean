/- Lists of numbers in ascending order: what sorting and leaving out neighbours that are equal gives, and what insertion gives. -/
import Derived.Test.YtdflfimclgapnaaSgM
import Derived.Lib.SlicesCompact
namespace Go.Proofs.Ytdflfimclgapnaa
open Go.RowKit

/-- Ascending, each once. -/
def Asc (l : List Int) : Prop := l.Pairwise (· < ·)

/-- The numbers of all segments among some names. -/
def NumsOf (ls : List (List Nat)) (x : Int) : Prop := ∃ l ∈ ls, 0 < segNum l ∧ x = ((segNum l : Nat) : Int)

theorem asc_eq : ∀ {a b : List Int}, Asc a → Asc b → (∀ x, x ∈ a ↔ x ∈ b) → a = b
  | [], [], _, _, _ => rfl
  | [], y :: b, _, _, h => absurd ((h y).2 (by simp)) (by simp)
  | x :: a, [], _, _, h => absurd ((h x).1 (by simp)) (by simp)
  | x :: a, y :: b, ha, hb, h => by
    obtain ⟨ha1, ha2⟩ := List.pairwise_cons.1 ha
    obtain ⟨hb1, hb2⟩ := List.pairwise_cons.1 hb
    have hxy : x = y := by
      have h1 := (h x).1 (by simp)
      have h2 := (h y).2 (by simp)
      rcases List.mem_cons.1 h1 with e | e
      · exact e
      · rcases List.mem_cons.1 h2 with e2 | e2
        · exact e2.symm
        · have := hb1 x e
          have := ha1 y e2
          omega
    subst hxy
    rw [asc_eq ha2 hb2 (fun z => ?_)]
    constructor
    · intro hz
      rcases List.mem_cons.1 ((h z).1 (by simp [hz])) with e | e
      · have := ha1 z hz; omega
      · exact e
    · intro hz
      rcases List.mem_cons.1 ((h z).2 (by simp [hz])) with e | e
      · have := hb1 z hz; omega
      · exact e

theorem asc_insert {l : List Int} {j : Nat} {n : Int} (h : Asc l) (hj : j ≤ l.length) (hlo : ∀ i, i < j → l.getD i 0 < n) (hhi : j < l.length → ¬ l.getD j 0 < n) (hn : n ∉ l) : Asc (l.take j ++ n :: l.drop j) := by
  have hsp : l.take j ++ l.drop j = l := List.take_append_drop j l
  have h0 := h
  unfold Asc at h0
  rw [← hsp, List.pairwise_append] at h0
  obtain ⟨h1, h2, h3⟩ := h0
  have hlo2 : ∀ x ∈ l.take j, x < n := by
    intro x hx
    obtain ⟨i, hi, rfl⟩ := List.getElem_of_mem hx
    have hij : i < j := by rw [List.length_take] at hi; omega
    have := hlo i hij
    rw [List.getD_eq_getElem?_getD, List.getElem?_eq_getElem (by omega)] at this
    rw [List.getElem_take]
    exact this
  have hhi2 : ∀ x ∈ l.drop j, n < x := by
    intro x hx
    by_cases hjl : j < l.length
    · have hd : l.drop j = l[j] :: l.drop (j + 1) := List.drop_eq_getElem_cons hjl
      have hge := hhi hjl
      rw [List.getD_eq_getElem?_getD, List.getElem?_eq_getElem hjl] at hge
      have hge : ¬ l[j] < n := hge
      have hne : l[j] ≠ n := fun e => hn (by rw [← e]; exact List.getElem_mem hjl)
      rw [hd] at hx h2
      rcases List.mem_cons.1 hx with e | e
      · omega
      · have := (List.pairwise_cons.1 h2).1 x e
        omega
    · rw [List.drop_eq_nil_of_le (by omega)] at hx
      cases hx
  unfold Asc
  rw [List.pairwise_append]
  refine ⟨h1, List.pairwise_cons.2 ⟨hhi2, h2⟩, fun x hx y hy => ?_⟩
  rcases List.mem_cons.1 hy with e | e
  · have := hlo2 x hx; omega
  · exact h3 x hx y e

theorem mem_insert {l : List Int} {j : Nat} {n x : Int} : x ∈ l.take j ++ n :: l.drop j ↔ x = n ∨ x ∈ l := by
  rw [List.mem_append, List.mem_cons]
  conv => rhs; rw [← List.take_append_drop j l, List.mem_append]
  constructor
  · rintro (h | h | h)
    · exact .inr (.inl h)
    · exact .inl h
    · exact .inr (.inr h)
  · rintro (h | h | h)
    · exact .inr (.inl h)
    · exact .inl h
    · exact .inr (.inr h)

theorem compact_upto (d : Array Int) (hd : ∀ i j, i ≤ j → j < d.size → d[i]! ≤ d[j]!) : ∀ m, m ≤ d.size →
    Asc (Lib.compactUpTo d m) ∧ ∀ x, x ∈ Lib.compactUpTo d m ↔ ∃ j, j < m ∧ d[j]! = x
  | 0, _ => ⟨by unfold Asc; exact List.Pairwise.nil, fun x => ⟨fun h => (by cases h), fun ⟨j, h, _⟩ => (by omega)⟩⟩
  | m + 1, hm => by
    obtain ⟨h1, h2⟩ := compact_upto d hd m (by omega)
    rw [Lib.compactUpTo_succ]
    by_cases hk : m = 0 ∨ d[m]! ≠ d[m - 1]!
    · have hkk : Lib.keeps d m = true := by unfold Lib.keeps; exact decide_eq_true hk
      rw [hkk, if_pos rfl]
      refine ⟨?_, fun x => ?_⟩
      · unfold Asc
        rw [List.pairwise_append]
        refine ⟨h1, List.pairwise_singleton _ _, fun x hx y hy => ?_⟩
        obtain rfl : y = d[m]! := by simpa using hy
        obtain ⟨j, hj, rfl⟩ := (h2 x).1 hx
        rcases hk with hk | hk
        · omega
        · have a1 := hd j (m - 1) (by omega) (by omega)
          have a2 := hd (m - 1) m (by omega) (by omega)
          omega
      · rw [List.mem_append, h2 x, List.mem_singleton]
        constructor
        · rintro (⟨j, hj, e⟩ | e)
          · exact ⟨j, by omega, e⟩
          · exact ⟨m, by omega, e.symm⟩
        · rintro ⟨j, hj, e⟩
          by_cases hjm : j = m
          · subst hjm; exact .inr e.symm
          · exact .inl ⟨j, by omega, e⟩
    · have hkk : Lib.keeps d m = false := by unfold Lib.keeps; exact decide_eq_false hk
      rw [hkk]
      simp only [Bool.false_eq_true, if_false, List.append_nil]
      have hm0 : m ≠ 0 := fun e => hk (.inl e)
      have heq : d[m]! = d[m - 1]! := Classical.byContradiction (fun e => hk (.inr e))
      refine ⟨h1, fun x => ?_⟩
      rw [h2 x]
      constructor
      · rintro ⟨j, hj, e⟩
        exact ⟨j, by omega, e⟩
      · rintro ⟨j, hj, e⟩
        by_cases hjm : j = m
        · subst hjm; exact ⟨j - 1, by omega, by rw [← heq]; exact e⟩
        · exact ⟨j, by omega, e⟩

/-- Sorted, and each once. -/
theorem compact_sorted (zs : List Int) : Asc (Lib.compact (zs.mergeSort fun x y => decide (x ≤ y))) ∧ ∀ x, x ∈ Lib.compact (zs.mergeSort fun x y => decide (x ≤ y)) ↔ x ∈ zs := by
  have hs : (zs.mergeSort fun x y => decide (x ≤ y)).Pairwise (fun x y => decide (x ≤ y) = true) := List.pairwise_mergeSort (by intro a b c; simp; omega) (by intro a b; simp; omega) zs
  have hm : ∀ x, x ∈ zs.mergeSort (fun x y => decide (x ≤ y)) ↔ x ∈ zs := fun x => List.mem_mergeSort
  generalize zs.mergeSort (fun x y => decide (x ≤ y)) = l at *
  have hd : ∀ i j, i ≤ j → j < l.toArray.size → l.toArray[i]! ≤ l.toArray[j]! := by
    intro i j hij hj
    have hj' : j < l.length := by simpa using hj
    rcases Nat.eq_or_lt_of_le hij with e | e
    · subst e; exact Int.le_refl _
    · have := List.pairwise_iff_getElem.1 hs i j (by omega) hj' e
      simp [getElem!_pos, show i < l.length by omega, hj']
      simpa using this
  obtain ⟨h1, h2⟩ := compact_upto l.toArray hd l.toArray.size (Nat.le_refl _)
  have e : Lib.compact l = Lib.compactUpTo l.toArray l.toArray.size := by unfold Lib.compact; simp
  rw [e]
  refine ⟨h1, fun x => ?_⟩
  rw [h2 x, ← hm x]
  constructor
  · rintro ⟨j, hj, rfl⟩
    have hj' : j < l.length := by simpa using hj
    simp [getElem!_pos, hj']
  · intro hx
    obtain ⟨i, hi, rfl⟩ := List.getElem_of_mem hx
    exact ⟨i, by simpa using hi, by simp [getElem!_pos, hi]⟩
end Go.Proofs.Ytdflfimclgapnaa
