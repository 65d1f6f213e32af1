/- Sorted lists of items, and their parts by slots. -/
import Derived.Test.YthidinaflaogfaaLvCmpM
import Derived.Test.YthidinaflaogfaaLvSearch
import Derived.Test.YthidinaflaogfaaLvTake
namespace Go.Proofs.Ythidinaflaogfaa
open Go.RowKit

theorem ltI_iff (y x : It) : ltI y x = true ↔ y.2 < x.2 ∨ (y.2 = x.2 ∧ y.1 < x.1) := by
  unfold ltI
  rw [decide_eq_true_eq]
  rcases cmpI_cases y.1 y.2 x.1 x.2 with ⟨h1, h2⟩ | ⟨h1, h2⟩ | ⟨h1, h2⟩ <;> rw [h2] <;> omega
theorem ltI_cmp (y x : It) : cmpI y.1 y.2 x.1 x.2 < 0 ↔ ltI y x = true := by unfold ltI; rw [decide_eq_true_eq]
theorem ltI_irr (x : It) : ltI x x = false := by
  cases h : ltI x x with
  | false => rfl
  | true => rw [ltI_iff] at h; omega
theorem ltI_trans {x y z : It} (h : ltI x y = true) (h' : ltI y z = true) : ltI x z = true := by
  rw [ltI_iff] at *
  omega
theorem ltI_total {x y : It} (h : ltI x y = false) (hne : x ≠ y) : ltI y x = true := by
  rw [ltI_iff]
  have h1 : ¬ (x.2 < y.2 ∨ (x.2 = y.2 ∧ x.1 < y.1)) := fun e => by rw [(ltI_iff x y).2 e] at h; cases h
  have h2 : ¬ (x.1 = y.1 ∧ x.2 = y.2) := fun e => hne (Prod.ext e.1 e.2)
  omega

/-- Sorted, each item once. -/
def srtI (L : List It) : Prop := L.Pairwise fun a b => ltI a b = true
/-- How many come before x. -/
def cntI (x : It) (L : List It) : Nat := (L.filter fun y => ltI y x).length
/-- The list with x. -/
def insI (x : It) (L : List It) : List It := L.take (cntI x L) ++ x :: L.drop (cntI x L)

theorem cntI_le (x : It) (L : List It) : cntI x L ≤ L.length := List.length_filter_le _ _

theorem srt_parts {L : List It} (h : srtI L) (x : It) : L.take (cntI x L) = L.filter (fun y => ltI y x) ∧ L.drop (cntI x L) = L.filter (fun y => !ltI y x) := by
  induction L with
  | nil => exact ⟨rfl, rfl⟩
  | cons a L ih =>
    obtain ⟨h1, h2⟩ := List.pairwise_cons.1 h
    obtain ⟨i1, i2⟩ := ih h2
    unfold cntI at *
    cases ha : ltI a x with
    | true =>
      rw [List.filter_cons, if_pos (by rw [ha]), List.filter_cons, if_neg (by rw [ha]; decide), List.length_cons, List.take_succ_cons, List.drop_succ_cons, i1, i2]
      exact ⟨rfl, rfl⟩
    | false =>
      have hn : L.filter (fun y => ltI y x) = [] := List.filter_eq_nil_iff.2 fun b hb e => by rw [ltI_trans (h1 b hb) e] at ha; cases ha
      have hp : L.filter (fun y => !ltI y x) = L := List.filter_eq_self.2 fun b hb => by
        cases e : ltI b x with
        | false => rfl
        | true => rw [ltI_trans (h1 b hb) e] at ha; cases ha
      rw [List.filter_cons, if_neg (by rw [ha]; decide), hn, List.filter_cons, if_pos (by rw [ha]; rfl), hp]
      exact ⟨rfl, rfl⟩

theorem insI_eq {L : List It} (h : srtI L) (x : It) : insI x L = L.filter (fun y => ltI y x) ++ x :: L.filter (fun y => !ltI y x) := by
  obtain ⟨h1, h2⟩ := srt_parts h x
  unfold insI
  rw [h1, h2]

theorem srt_split {L : List It} (h : srtI L) (x : It) : L.filter (fun y => ltI y x) ++ L.filter (fun y => !ltI y x) = L := by
  obtain ⟨h1, h2⟩ := srt_parts h x
  rw [← h1, ← h2, List.take_append_drop]

theorem srt_idx {L : List It} (h : srtI L) (x : It) : ∀ i y, L[i]? = some y → (cmpI y.1 y.2 x.1 x.2 < 0 ↔ i < cntI x L) := by
  intro i y hy
  obtain ⟨h1, h2⟩ := srt_parts h x
  rw [ltI_cmp]
  constructor
  · intro hl
    rcases Nat.lt_or_ge i (cntI x L) with hi | hi
    · exact hi
    · have : (L.drop (cntI x L))[i - cntI x L]? = some y := by rw [List.getElem?_drop, show cntI x L + (i - cntI x L) = i by omega]; exact hy
      rw [h2] at this
      have := (List.mem_filter.1 (List.mem_of_getElem? this)).2
      rw [hl] at this
      cases this
  · intro hi
    have : (L.take (cntI x L))[i]? = some y := by rw [List.getElem?_take, if_pos hi]; exact hy
    rw [h1] at this
    exact (List.mem_filter.1 (List.mem_of_getElem? this)).2

theorem srt_mem {L : List It} (h : srtI L) (x : It) : L[cntI x L]? = some x ↔ x ∈ L := by
  refine ⟨List.mem_of_getElem?, fun hm => ?_⟩
  obtain ⟨h1, h2⟩ := srt_parts h x
  have hm2 : x ∈ L.drop (cntI x L) := by rw [h2]; exact List.mem_filter.2 ⟨hm, by rw [ltI_irr]; rfl⟩
  have hs : srtI (L.drop (cntI x L)) := List.Pairwise.sublist (List.drop_sublist _ _) h
  have e : L[cntI x L]? = (L.drop (cntI x L))[0]? := by rw [List.getElem?_drop, Nat.add_zero]
  rw [e]
  cases hd : L.drop (cntI x L) with
  | nil => rw [hd] at hm2; cases hm2
  | cons a R =>
    rw [hd] at hm2 hs
    rcases List.mem_cons.1 hm2 with rfl | hm3
    · rfl
    · have h3 := (List.pairwise_cons.1 hs).1 x hm3
      have h4 : a ∈ L.filter (fun y => !ltI y x) := by rw [← h2, hd]; exact List.mem_cons_self
      have h5 := (List.mem_filter.1 h4).2
      rw [h3] at h5
      cases h5

theorem srt_ins {L : List It} (h : srtI L) {x : It} (hx : x ∉ L) : srtI (insI x L) := by
  rw [insI_eq h]
  refine List.pairwise_append.2 ⟨List.Pairwise.filter _ h, List.pairwise_cons.2 ⟨fun b hb => ?_, List.Pairwise.filter _ h⟩, fun a ha b hb => ?_⟩
  · obtain ⟨h1, h2⟩ := List.mem_filter.1 hb
    exact ltI_total (by cases e : ltI b x with | false => rfl | true => rw [e] at h2; cases h2) (fun e => hx (e ▸ h1))
  · have h1 := (List.mem_filter.1 ha).2
    rcases List.mem_cons.1 hb with rfl | hb
    · exact h1
    · obtain ⟨h2, h3⟩ := List.mem_filter.1 hb
      exact ltI_trans h1 (ltI_total (by cases e : ltI b x with | false => rfl | true => rw [e] at h3; cases h3) (fun e => hx (e ▸ h2)))

theorem mem_ins {L : List It} (h : srtI L) {x y : It} : y ∈ insI x L ↔ y = x ∨ y ∈ L := by
  rw [insI_eq h, List.mem_append, List.mem_cons]
  constructor
  · rintro (h1 | h1 | h1)
    · exact .inr (List.mem_filter.1 h1).1
    · exact .inl h1
    · exact .inr (List.mem_filter.1 h1).1
  · rintro (h1 | h1)
    · exact .inr (.inl h1)
    · cases e : ltI y x with
      | true => exact .inl (List.mem_filter.2 ⟨h1, e⟩)
      | false => exact .inr (.inr (List.mem_filter.2 ⟨h1, by rw [e]; rfl⟩))

theorem len_ins (x : It) (L : List It) : (insI x L).length = L.length + 1 := by
  have := cntI_le x L
  unfold insI
  rw [List.length_append, List.length_cons, List.length_take, List.length_drop]
  omega

/-- The items of a slot. -/
def slF (k : Nat) (L : List It) (t : Nat) : List It := L.filter fun y => decide ((slotN k y.2 : Int) = (t : Int))

theorem srt_slF {k : Nat} {L : List It} (h : srtI L) (t : Nat) : srtI (slF k L t) := List.Pairwise.filter _ h

theorem mem_slF {k : Nat} {L : List It} {t : Nat} {y : It} : y ∈ slF k L t ↔ y ∈ L ∧ slotN k y.2 = t := by
  unfold slF
  rw [List.mem_filter, decide_eq_true_eq]
  constructor <;> rintro ⟨h1, h2⟩ <;> exact ⟨h1, by omega⟩

theorem filter_comm (P Q : It → Bool) (L : List It) : (L.filter P).filter Q = (L.filter Q).filter P := by
  rw [List.filter_filter, List.filter_filter]
  exact List.filter_congr fun a _ => Bool.and_comm _ _

theorem slF_ins {k : Nat} {L : List It} (h : srtI L) (x : It) : slF k (insI x L) = upd (slF k L) (slotN k x.2) (insI x (slF k L (slotN k x.2))) := by
  funext t
  unfold upd
  have hs := srt_slF (k := k) h t
  have e : slF k (insI x L) t = (slF k L t).filter (fun y => ltI y x) ++ ([x].filter fun y => decide ((slotN k y.2 : Int) = (t : Int))) ++ (slF k L t).filter (fun y => !ltI y x) := by
    unfold slF
    rw [insI_eq h, List.filter_append, List.filter_cons, filter_comm _ (fun y => ltI y x), filter_comm _ (fun y => !ltI y x), List.append_assoc]
    congr 1
    rw [List.filter_cons]
    split <;> rfl
  by_cases ht : t = slotN k x.2
  · rw [if_pos ht, e, ht, insI_eq (srt_slF h _), List.filter_cons, if_pos (by simp), List.append_assoc]
    rfl
  · rw [if_neg ht, e, List.filter_cons, if_neg (by simp; omega), List.filter_nil, List.append_nil]
    exact srt_split hs x
end Go.Proofs.Ythidinaflaogfaa
