import Derived.Test.YtcapbaocchaenaaGreatDoorSF39
import Derived.Test.YtcapbaocchaenaaGreatDoorSF21
import Derived.Test.YtcapbaocchaenaaGreatDoorSF15
import Derived.Test.YtcapbaocchaenaaGreatDoorSF31
/- The walks of the reference's fields and has. -/
namespace Go.Proofs.YtcapbaocchaenaaGreatDoor
open Go.RowKit

/-- The letter of a field. -/
def lett (i : Nat) : Nat := if i = 0 then 105 else if i = 1 then 110 else if i = 2 then 97 else if i = 3 then 115 else if i = 4 then 116 else 118
/-- The letters of a kind's fields. -/
def evL (k : Int) : List Nat := (evFields k).map lett

set_option maxRecDepth 100000 in
set_option maxHeartbeats 3200000 in
theorem rfields_any (k : Int) (w : World) : Calls Tryz.prog 110 #[.int .i64 k] w fun e w' => e = .returned (.string (str (evL k))) ∧ Below w.heap.size w w' := by
  by_cases h1 : k < 1
  · have e1 : evL k = [] := by unfold evL; rw [(evName_none (k := k) (by omega)).2]; rfl
    rw [e1]
    clear e1
    go_enter Tryz.func110, Tryz.ntmps110
    go_wp2
    go_ret
    exact ⟨rfl, Below.refl _ _⟩
  by_cases h2 : (11 : Int) < k
  · have e1 : evL k = [] := by unfold evL; rw [(evName_none (k := k) (by omega)).2]; rfl
    rw [e1]
    clear e1
    go_enter Tryz.func110, Tryz.ntmps110
    go_wp2
    go_ret
    exact ⟨rfl, Below.refl _ _⟩
  have hb := fun o => (Below.refl w.heap.size w).alloc (Nat.le_refl _) o
  have hk : k = 1 ∨ k = 2 ∨ k = 3 ∨ k = 4 ∨ k = 5 ∨ k = 6 ∨ k = 7 ∨ k = 8 ∨ k = 9 ∨ k = 10 ∨ k = 11 := by omega
  clear h1 h2
  rcases hk with rfl | rfl | rfl | rfl | rfl | rfl | rfl | rfl | rfl | rfl | rfl
  all_goals go_enter Tryz.func110, Tryz.ntmps110
  all_goals go_wp2
  all_goals go_ret
  all_goals exact ⟨congrArg (fun x => Ending.returned (.string x)) (by kernel_rfl), hb _⟩

set_option maxRecDepth 100000 in
theorem has_any (k : Int) (c : Nat) (hc : c < 256) (w : World) : Calls Tryz.prog 70 #[.int .i64 k, .int .u8 (c : Int)] w fun e w' => e = .returned (.bool (decide (c ∈ evL k))) ∧ Below w.heap.size w w' := by
  have HF := Lib.hid (rfields_any k w)
  obtain ⟨l, hl⟩ : ∃ l, l = evL k := ⟨_, rfl⟩
  have hb : ∀ y ∈ l, y < 256 := fun y hy => by
    rw [hl] at hy
    unfold evL lett at hy
    obtain ⟨i, _, rfl⟩ := List.mem_map.1 hy
    (repeat' split) <;> omega
  have hn : l.length ≤ 6 := by rw [hl]; unfold evL; rw [List.length_map]; exact fields_len k
  rw [← hl] at HF ⊢
  clear hl
  have hz := str_size l
  have Hb := Lib.hid hb
  have Hn := Lib.hid hn
  clear hb hn
  go_enter Tryz.func70, Tryz.ntmps70
  go_wp2_with fail
  refine HF.out.mono ?_
  rintro e w1 ⟨rfl, hb1⟩
  have Hb1 := Lib.hid hb1
  clear hb1
  go_wp2
  go_loopw [6] (fun i wr => ∃ j : Nat, j ≤ l.length ∧ i = .int .i64 (j : Int) ∧ (∀ q, q < j → l[q]? ≠ some c) ∧ wr = w1) (fun i _ => l.length - (intOf i).toNat)
  case atStart => exact ⟨0, Nat.zero_le _, rfl, fun q h => absurd h (by omega), rfl⟩
  case round =>
    obtain ⟨j, hj, rfl, hall, rfl⟩ := hrel
    have Hall := Lib.hid hall
    clear hall
    by_cases hlt : j < l.length
    · have hs : j < (str l).size := by rw [str_size]; exact hlt
      have hg : ((((str l)[j]'hs).toNat : Nat) : Int) = ((l[j] : Nat) : Int) := by
        rw [get_str Hb.out j hs]
        simp [hlt]
      have hn6 : l.length ≤ 6 := Hn.out
      have hji : (j : Int) < (l.length : Int) := by omega
      have hj6 : (j : Int) < 6 := by omega
      have Hg := Lib.hid (List.getElem?_eq_getElem hlt)
      generalize l[j] = y at *
      by_cases hy : y = c
      · subst hy
        have Hr := Lib.hid (show decide (y ∈ l) = true from decide_eq_true (List.mem_of_getElem? Hg.out))
        have Hlt := Lib.hid hlt
        clear hlt
        go_wp2
        go_ret
        exact ⟨ret_bool Hr.out.symm, Hb1.out⟩
      · have hy2 : ((y : Int) == (c : Int)) = false := by rw [beq_eq_false_iff_ne]; omega
        have Hall2 := Lib.hid (show ∀ q, q < j + 1 → l[q]? ≠ some c from fun q hq => by
          rcases Nat.lt_or_eq_of_le (Nat.le_of_lt_succ hq) with h | h
          · exact Hall.out q h
          · rw [h, Hg.out]; intro e; exact hy (Option.some.inj e))
        have Hlt := Lib.hid hlt
        clear hlt hy
        go_wp2
        go_roundw
        case rel => exact ⟨j + 1, Hlt.out, by go_num, Hall2.out, by first | trivial | rfl⟩
        case measure => simp [intOf]; have := Hlt.out; omega
    · have Hr := Lib.hid (show decide (c ∈ l) = false from decide_eq_false (fun h => by
        obtain ⟨q, hq, e⟩ := List.getElem_of_mem h
        exact Hall.out q (by omega) (by rw [List.getElem?_eq_getElem hq, e])))
      have hji : ¬ ((j : Int) < (l.length : Int)) := by omega
      clear hlt
      go_wp2
      go_ret
      exact ⟨ret_bool Hr.out.symm, Hb1.out⟩
end Go.Proofs.YtcapbaocchaenaaGreatDoor

/- Valid events, field by field, as the reference asks. -/
namespace Go.Proofs.YtcapbaocchaenaaGreatDoor
open Go.RowKit Fl

theorem lett_mem {k : Int} {i : Nat} (hi : i < 6) : lett i ∈ evL k ↔ i ∈ evFields k := by
  unfold evL
  constructor
  · intro h
    obtain ⟨j, hj, e⟩ := List.mem_map.1 h
    have hj6 := evFields_lt _ _ hj
    have : j = i := by
      unfold lett at e
      match i, j, hi, hj6 with
      | 0, 0, _, _ | 1, 1, _, _ | 2, 2, _, _ | 3, 3, _, _ | 4, 4, _, _ | 5, 5, _, _ => rfl
      | 0, 1, _, _ | 0, 2, _, _ | 0, 3, _, _ | 0, 4, _, _ | 0, 5, _, _ => simp at e
      | 1, 0, _, _ | 1, 2, _, _ | 1, 3, _, _ | 1, 4, _, _ | 1, 5, _, _ => simp at e
      | 2, 0, _, _ | 2, 1, _, _ | 2, 3, _, _ | 2, 4, _, _ | 2, 5, _, _ => simp at e
      | 3, 0, _, _ | 3, 1, _, _ | 3, 2, _, _ | 3, 4, _, _ | 3, 5, _, _ => simp at e
      | 4, 0, _, _ | 4, 1, _, _ | 4, 2, _, _ | 4, 3, _, _ | 4, 5, _, _ => simp at e
      | 5, 0, _, _ | 5, 1, _, _ | 5, 2, _, _ | 5, 3, _, _ | 5, 4, _, _ => simp at e
    rw [← this]; exact hj
  · exact fun h => List.mem_map.2 ⟨i, h, rfl⟩

theorem zero_iff {v : V} : sameV v zeroV = true ↔ rightN 8 v = true ∧ v.kind = 0 := by
  obtain ⟨k, n, f, s, l⟩ := v
  constructor
  · intro h
    refine ⟨by rw [fields_same 8 _ _ h]; decide +kernel, ?_⟩
    unfold zeroV at h
    rw [sameV, Bool.and_eq_true, decide_eq_true_eq] at h
    exact h.1.1
  · rintro ⟨h, hk⟩
    change k = 0 at hk
    obtain ⟨⟨a1, a2, a3, a4⟩, _⟩ := rightN_field h
    change k = 1 ∨ n = 0 at a1
    change k = 2 ∨ bitsB f = 0 at a2
    change k = 3 ∨ s = [] at a3
    change k = 4 ∨ l = [] at a4
    have hz : bitsB 0 = 0 := by decide
    unfold zeroV
    rw [a4.resolve_left (by omega), a3.resolve_left (by omega), a1.resolve_left (by omega), hk, sameV, a2.resolve_left (by omega), hz]
    simp [sameL]

/-- Each field as the reference asks. -/
def refF (e : Ev) (i : Nat) : Bool :=
  if i = 0 then decide (105 ∈ evL e.k) == decide (e.id ≠ 0)
  else if i = 1 then (if decide (110 ∈ evL e.k) = true then decide (1 ≤ e.n) && decide (e.n ≤ 2147483647) else decide (e.n = 0))
  else if i = 2 then decide (e.t ≤ 9223372036854775807) && (decide (97 ∈ evL e.k) || decide (e.t = 0))
  else if i = 3 then (decide (115 ∈ evL e.k) == decide (e.nm ≠ [])) && decide (e.nm.length ≤ 1000)
  else if i = 4 then decide (e.tx.length ≤ 1000) && (decide (116 ∈ evL e.k) || decide (e.tx = []))
  else rightN 8 e.v && (decide (118 ∈ evL e.k) || decide (e.v.kind = 0))

theorem refF_is (e : Ev) (i : Nat) (hi : i < 6) : (if i ∈ evFields e.k then rightE e i else emptyE e i) = refF e i := by
  have hm := @lett_mem e.k i hi
  match i, hi with
  | 0, _ =>
    change 105 ∈ evL e.k ↔ _ at hm
    show _ = (decide (105 ∈ evL e.k) == decide (e.id ≠ 0))
    by_cases h : 0 ∈ evFields e.k
    · rw [if_pos h, decide_eq_true (hm.2 h)]; show decide (e.id ≠ 0) = _; simp
    · rw [if_neg h, decide_eq_false (fun h' => h (hm.1 h'))]; show decide (e.id = 0) = _; simp
  | 1, _ =>
    change 110 ∈ evL e.k ↔ _ at hm
    show _ = (if decide (110 ∈ evL e.k) = true then decide (1 ≤ e.n) && decide (e.n ≤ 2147483647) else decide (e.n = 0))
    by_cases h : 1 ∈ evFields e.k
    · rw [if_pos h, decide_eq_true (hm.2 h)]; show decide (1 ≤ e.n ∧ e.n ≤ 2147483647) = _; simp
    · rw [if_neg h, decide_eq_false (fun h' => h (hm.1 h'))]; rfl
  | 2, _ =>
    change 97 ∈ evL e.k ↔ _ at hm
    show _ = (decide (e.t ≤ 9223372036854775807) && (decide (97 ∈ evL e.k) || decide (e.t = 0)))
    by_cases h : 2 ∈ evFields e.k
    · rw [if_pos h, decide_eq_true (hm.2 h)]; show decide (e.t ≤ 9223372036854775807) = _; simp
    · rw [if_neg h, decide_eq_false (fun h' => h (hm.1 h'))]; show decide (e.t = 0) = _
      rw [Bool.eq_iff_iff]; simp; omega
  | 3, _ =>
    change 115 ∈ evL e.k ↔ _ at hm
    show _ = ((decide (115 ∈ evL e.k) == decide (e.nm ≠ [])) && decide (e.nm.length ≤ 1000))
    by_cases h : 3 ∈ evFields e.k
    · rw [if_pos h, decide_eq_true (hm.2 h)]; show decide (e.nm ≠ [] ∧ e.nm.length ≤ 1000) = _; simp
    · rw [if_neg h, decide_eq_false (fun h' => h (hm.1 h'))]; show decide (e.nm = []) = _
      rw [Bool.eq_iff_iff]; simp; intro h0; rw [h0]; simp
  | 4, _ =>
    change 116 ∈ evL e.k ↔ _ at hm
    show _ = (decide (e.tx.length ≤ 1000) && (decide (116 ∈ evL e.k) || decide (e.tx = [])))
    by_cases h : 4 ∈ evFields e.k
    · rw [if_pos h, decide_eq_true (hm.2 h)]; show decide (e.tx.length ≤ 1000) = _; simp
    · rw [if_neg h, decide_eq_false (fun h' => h (hm.1 h'))]; show decide (e.tx = []) = _
      rw [Bool.eq_iff_iff]; simp; intro h0; rw [h0]; simp
  | 5, _ =>
    change 118 ∈ evL e.k ↔ _ at hm
    show _ = (rightN 8 e.v && (decide (118 ∈ evL e.k) || decide (e.v.kind = 0)))
    by_cases h : 5 ∈ evFields e.k
    · rw [if_pos h, decide_eq_true (hm.2 h)]; show rightN 8 e.v = _; simp
    · rw [if_neg h, decide_eq_false (fun h' => h (hm.1 h'))]; show sameV e.v zeroV = _
      rw [Bool.eq_iff_iff, zero_iff]; simp

theorem evName_some {k : Int} (h : 1 ≤ k ∧ k ≤ 11) : evName k ≠ [] := by
  have c : k = 1 ∨ k = 2 ∨ k = 3 ∨ k = 4 ∨ k = 5 ∨ k = 6 ∨ k = 7 ∨ k = 8 ∨ k = 9 ∨ k = 10 ∨ k = 11 := by omega
  rcases c with rfl | rfl | rfl | rfl | rfl | rfl | rfl | rfl | rfl | rfl | rfl <;> decide

theorem okE_ref {e : Ev} (h : 1 ≤ e.k ∧ e.k ≤ 11) : okE e = (refF e 0 && refF e 1 && refF e 2 && refF e 3 && refF e 4 && refF e 5) := by
  unfold okE
  rw [decide_eq_true (evName_some h), Bool.true_and]
  have e1 : ((List.range 6).all fun i => if i ∈ evFields e.k then rightE e i else emptyE e i) = (List.range 6).all (refF e) := by
    rw [Bool.eq_iff_iff, List.all_eq_true, List.all_eq_true]
    constructor
    · intro h i hi; rw [← refF_is e i (by simpa using hi)]; exact h i hi
    · intro h i hi; rw [refF_is e i (by simpa using hi)]; exact h i hi
  rw [e1]
  simp [List.range, List.range.loop, Bool.and_assoc]
end Go.Proofs.YtcapbaocchaenaaGreatDoor

