import Derived.Deep.RegionHeld3
import Derived.Test.YtcapbaocchaenaaGreatDoorSG1
/- Regions that draw their order: operations that do not look at each other, by what each leaves behind. -/
namespace Go.Proofs.YtcapbaocchaenaaGreatDoor
open Go Go.RowKit

/-- Of the operations T those for which f holds are done. -/
def setT (T : List Nat) (f : Nat → Bool) (L : Array Bool) : Array Bool := T.foldl (fun L i => if f i then L.setIfInBounds i true else L) L

theorem setT_get : ∀ (T : List Nat) (f : Nat → Bool) (L : Array Bool) (j : Nat), (setT T f L)[j]? = if j ∈ T ∧ f j = true then (L[j]?).map (fun _ => true) else L[j]?
  | [], f, L, j => by simp [setT]
  | i :: T, f, L, j => by
    rw [show setT (i :: T) f L = setT T f (if f i then L.setIfInBounds i true else L) from rfl, setT_get T f _ j]
    have e : (if f i = true then L.setIfInBounds i true else L)[j]? = if j = i ∧ f i = true then (L[j]?).map (fun _ => true) else L[j]? := by
      by_cases h : f i = true
      · rw [if_pos h, Array.getElem?_setIfInBounds]
        by_cases hj : i = j
        · subst hj
          by_cases hs : i < L.size
          · simp [hs, h]
          · simp [hs]
        · rw [if_neg hj, if_neg (fun h => hj h.1.symm)]
      · rw [if_neg h, if_neg (fun h' => h h'.2)]
    rw [e]
    by_cases hji : j = i
    · subst hji
      by_cases h : f j = true
      · simp [h]
      · simp [h]
    · simp [hji]

theorem setT_congr {T : List Nat} {f g : Nat → Bool} {L : Array Bool} (h : ∀ i ∈ T, f i = g i) : setT T f L = setT T g L := by
  apply Array.ext_getElem?
  intro j
  rw [setT_get, setT_get]
  by_cases hj : j ∈ T
  · rw [h j hj]
  · rw [if_neg (fun h => hj h.1), if_neg (fun h => hj h.1)]

theorem setT_step {T : List Nat} {f : Nat → Bool} {L : Array Bool} {i : Nat} (hi : i ∈ T) : (setT T f L).setIfInBounds i true = setT T (fun j => f j || j == i) L := by
  apply Array.ext_getElem?
  intro j
  rw [setT_get, Array.getElem?_setIfInBounds]
  by_cases hj : i = j
  · subst hj
    rw [if_pos rfl]
    have hs : (setT T f L).size = L.size := by
      have h1 : ∀ (T : List Nat) (L : Array Bool), (setT T f L).size = L.size := by
        intro T
        induction T with
        | nil => intro L; rfl
        | cons x T ih =>
          intro L
          rw [show setT (x :: T) f L = setT T f (if f x then L.setIfInBounds x true else L) from rfl, ih]
          by_cases h : f x = true <;> simp [h]
      exact h1 T L
    rw [hs]
    by_cases h : i < L.size
    · simp [h, hi]
    · simp [h]
  · rw [if_neg hj, setT_get]
    have e : (f j || j == i) = f j := by simp [Ne.symm hj]
    simp only [e]

/-- All parts of a list. -/
def subsT : List Nat → List (List Nat)
  | [] => [[]]
  | x :: T => subsT T ++ (subsT T).map (x :: ·)

theorem mem_subsT (f : Nat → Bool) : ∀ T : List Nat, T.filter f ∈ subsT T
  | [] => by simp [subsT]
  | x :: T => by
    have h := mem_subsT f T
    rw [List.filter_cons]
    by_cases hx : f x = true
    · rw [if_pos hx, subsT]
      exact List.mem_append_right _ (List.mem_map.2 ⟨_, h, rfl⟩)
    · rw [if_neg hx, subsT]
      exact List.mem_append_left _ h

/-- While not all of T are done, what may come up is of T. -/
def closedT (md : Region.Mode) (ops : Array Oper) (T : List Nat) (L : Array Bool) : Bool :=
  (subsT T).all fun s => T.all (s.contains ·) || ((Region.ready md ops (setT T (s.contains ·) L)).all (T.contains ·) && !(Region.ready md ops (setT T (s.contains ·) L)).isEmpty)

section
variable {P : Program} {ops : Array Oper} {Q : Exit → Act → World → Prop} {md : Region.Mode} {S : World → Prop}

/-- Operations that do not look at each other and only make memory, in whatever order they come up; each makes blocks of its own, from lo on, below hi. -/
theorem wpAnyH_indep (T : List Nat) (F : Nat → Value → Nat → Nat → World → Prop) (fr : (Nat → Value) → Act) {L0 : Array Bool} {w0 : World} {fuel : Nat}
    (hT : closedT md ops T L0 = true) (hN : T.Nodup) (hL : T.all (fun i => !L0.getD i true) = true)
    (hop : ∀ i ∈ T, ∀ (us : Nat → Value) (w1 : World) (K : Act → World → Prop), Below w0.heap.size w0 w1 → (∀ v w2, Below w1.heap.size w1 w2 → F i v w1.heap.size w2.heap.size w2 → K (fr (fun j => if j = i then v else us j)) w2) → wpOp P ops Q i K (fr us) w1)
    (hF : ∀ i ∈ T, ∀ v lo hi w1 w2, F i v lo hi w1 → Below w1.heap.size w1 w2 → F i v lo hi w2)
    (hS : ∀ w1, Below w0.heap.size w0 w1 → S w1)
    (cont : ∀ (us : Nat → Value) (lo hi : Nat → Nat) (w1 : World), Below w0.heap.size w0 w1 → (∀ i ∈ T, F i (us i) (lo i) (hi i) w1 ∧ w0.heap.size ≤ lo i ∧ hi i ≤ w1.heap.size) →
      (∀ i ∈ T, ∀ j ∈ T, i ≠ j → hi i ≤ lo j ∨ hi j ≤ lo i) → wpAnyH P md ops Q S fuel (setT T (fun _ => true) L0) (fr us) w1) (us0 : Nat → Value) :
    wpAnyH P md ops Q S (fuel + T.length) L0 (fr us0) w0 := by
  have key : ∀ (m : Nat) (f : Nat → Bool) (us : Nat → Value) (lo hi : Nat → Nat) (w1 : World), (T.filter (fun i => !f i)).length = m → Below w0.heap.size w0 w1 → (∀ i ∈ T, f i = true → F i (us i) (lo i) (hi i) w1 ∧ w0.heap.size ≤ lo i ∧ hi i ≤ w1.heap.size) →
      (∀ i ∈ T, ∀ j ∈ T, f i = true → f j = true → i ≠ j → hi i ≤ lo j ∨ hi j ≤ lo i) →
      wpAnyH P md ops Q S (fuel + m) (setT T f L0) (fr us) w1 := by
    intro m
    induction m with
    | zero =>
      intro f us lo hi w1 hm hb hf hd
      have hall : ∀ i ∈ T, f i = true := fun i hi => by
        have h0 := List.eq_nil_of_length_eq_zero hm
        rw [List.filter_eq_nil_iff] at h0
        simpa using h0 i hi
      rw [setT_congr (g := fun _ => true) hall]
      exact cont us lo hi w1 hb (fun i hi => hf i hi (hall i hi)) (fun i hi j hj => hd i hi j hj (hall i hi) (hall j hj))
    | succ m ih =>
      intro f us lo hi w1 hm hb hf hd
      have hclosed : ((Region.ready md ops (setT T f L0)).all (T.contains ·) && !(Region.ready md ops (setT T f L0)).isEmpty) = true := by
        have h1 := List.all_eq_true.1 hT _ (mem_subsT f T)
        have e : setT T ((T.filter f).contains ·) L0 = setT T f L0 := setT_congr fun i hi => by
          rw [Bool.eq_iff_iff]
          simp [hi]
        rw [e, Bool.or_eq_true] at h1
        rcases h1 with h1 | h1
        · exfalso
          have h2 : T.filter (fun i => !f i) = [] := by
            rw [List.filter_eq_nil_iff]
            intro i hi
            have := List.all_eq_true.1 h1 i hi
            simp at this
            simp [this.2]
          rw [h2] at hm
          simp at hm
        · exact h1
      rw [Bool.and_eq_true, List.all_eq_true] at hclosed
      refine ⟨fun h0 => ?_, fun i hir => ?_⟩
      · rw [h0] at hclosed
        simp at hclosed
      · have hiT : i ∈ T := by simpa using hclosed.1 i hir
        have hfi : f i = false := by
          have h1 := (mem_ready.1 hir).1
          have h2 : L0.getD i true = false := by simpa using List.all_eq_true.1 hL i hiT
          rw [Array.getD_eq_getD_getElem?] at h1 h2
          rw [setT_get] at h1
          cases h : f i with
          | false => rfl
          | true =>
            rw [if_pos ⟨hiT, h⟩] at h1
            cases hl : L0[i]? <;> simp [hl] at h1
        refine hop i hiT us w1 _ hb (fun v w2 hb2 hFi => ⟨hS w2 (hb.trans (hb2.mono hb.size)), ?_⟩)
        rw [setT_step hiT]
        refine ih _ _ (fun j => if j = i then w1.heap.size else lo j) (fun j => if j = i then w2.heap.size else hi j) w2 ?_ (hb.trans (hb2.mono hb.size)) (fun j hj hfj => ?_) (fun j hj k hk hfj hfk hjk => ?_)
        · have e : T.filter (fun j => !(f j || j == i)) = (T.filter (fun j => !f j)).erase i := by
            rw [List.Nodup.erase_eq_filter (hN.sublist List.filter_sublist), List.filter_filter]
            apply List.filter_congr
            intro j _
            rw [Bool.eq_iff_iff]
            simp [and_comm]
          rw [e, List.length_erase_of_mem (List.mem_filter.2 ⟨hiT, by simp [hfi]⟩), hm]
          rfl
        · by_cases hji : j = i
          · subst hji
            simp only [if_true]
            exact ⟨hFi, hb.size, Nat.le_refl _⟩
          · have h1 : f j = true := by simpa [hji] using hfj
            simp only [hji, if_false]
            obtain ⟨a1, a2, a3⟩ := hf j hj h1
            exact ⟨hF j hj _ _ _ _ _ a1 hb2, a2, Nat.le_trans a3 hb2.size⟩
        · by_cases hji : j = i
          · have hki : k ≠ i := fun h => hjk (hji.trans h.symm)
            have h1 : f k = true := by simpa [hki] using hfk
            simp only [hji, hki, if_true, if_false]
            exact .inr (hf k hk h1).2.2
          · have h1 : f j = true := by simpa [hji] using hfj
            by_cases hki : k = i
            · simp only [hji, hki, if_true, if_false]
              exact .inl (hf j hj h1).2.2
            · have h2 : f k = true := by simpa [hki] using hfk
              simp only [hji, hki, if_false]
              exact hd j hj k hk h1 h2 hjk
  have h := key T.length (fun _ => false) us0 (fun _ => 0) (fun _ => 0) w0 (by simp) (Below.refl _ _) (fun i _ h => by cases h) (fun i _ j _ h => by cases h)
  have e : setT T (fun _ => false) L0 = L0 := by
    apply Array.ext_getElem?
    intro j
    rw [setT_get, if_neg (fun h => by cases h.2)]
  rwa [e] at h

/-- The frame behind the operations T, each with the slot that it fills. -/
def frT (T : List (Nat × Tmp)) (a : Act) (us : Nat → Value) : Act := T.foldl (fun a p => a.put (some p.2) (us p.1)) a

theorem wpAnyH_indepT (T : List (Nat × Tmp)) (F : Nat → Value → Nat → Nat → World → Prop) {a : Act} {L0 : Array Bool} {w0 : World} {fuel : Nat} (us0 : Nat → Value) (h0 : frT T a us0 = a)
    (hT : closedT md ops (T.map (·.1)) L0 = true) (hN : (T.map (·.1)).Nodup) (hL : (T.map (·.1)).all (fun i => !L0.getD i true) = true)
    (hop : ∀ i ∈ T.map (·.1), ∀ (us : Nat → Value) (w1 : World) (K : Act → World → Prop), Below w0.heap.size w0 w1 → (∀ v w2, Below w1.heap.size w1 w2 → F i v w1.heap.size w2.heap.size w2 → K (frT T a (fun j => if j = i then v else us j)) w2) → wpOp P ops Q i K (frT T a us) w1)
    (hF : ∀ i ∈ T.map (·.1), ∀ v lo hi w1 w2, F i v lo hi w1 → Below w1.heap.size w1 w2 → F i v lo hi w2)
    (hS : ∀ w1, Below w0.heap.size w0 w1 → S w1)
    (cont : ∀ (us : Nat → Value) (lo hi : Nat → Nat) (w1 : World), Below w0.heap.size w0 w1 → (∀ i ∈ T.map (·.1), F i (us i) (lo i) (hi i) w1 ∧ w0.heap.size ≤ lo i ∧ hi i ≤ w1.heap.size) →
      (∀ i ∈ T.map (·.1), ∀ j ∈ T.map (·.1), i ≠ j → hi i ≤ lo j ∨ hi j ≤ lo i) → wpAnyH P md ops Q S fuel (setT (T.map (·.1)) (fun _ => true) L0) (frT T a us) w1) :
    wpAnyH P md ops Q S (fuel + (T.map (·.1)).length) L0 a w0 := by
  have h := wpAnyH_indep (T.map (·.1)) F (frT T a) hT hN hL hop hF hS cont us0
  rwa [h0] at h

theorem wpOp_at {i : Nat} {o : Oper} {K : Act → World → Prop} {a : Act} {w : World} (ho : ops[i]? = some o) (hg : o.guard = none) (h : o.wp P a w K Q) : wpOp P ops Q i K a w := by
  unfold wpOp
  rw [ho]
  simp only
  rw [if_pos (by unfold Region.wanted; rw [hg])]
  exact .inl h
end
end Go.Proofs.YtcapbaocchaenaaGreatDoor

