import Derived.Test.YtcapbaocchaenaaGreatDoorSG8
import Derived.Test.YtcapbaocchaenaaGreatDoorShelf
import Derived.Deep.RegionHeld3
import Derived.Deep.DrawnRows
/- The code's order of values, as a plain function; its walk; the code's Same. -/
namespace Go.Proofs.YtcapbaocchaenaaGreatDoor
open Go.RowKit Fl

mutual
/-- The first field in which two values differ decides. -/
def cmpC : V → V → Int
  | .mk k n f s l, .mk k' n' f' s' l' => if ordI k k' ≠ 0 then ordI k k' else if ordI n n' ≠ 0 then ordI n n' else if cmpB f f' ≠ 0 then cmpB f f' else if cmpT s s' ≠ 0 then cmpT s s' else cmpK l l'
def cmpK : List V → List V → Int
  | [], [] => 0
  | [], _ :: _ => -1
  | _ :: _, [] => 1
  | v :: r, v' :: r' => if cmpC v v' ≠ 0 then cmpC v v' else cmpK r r'
end

mutual
theorem cmpC_zero : ∀ u v : V, wordsV u → wordsV v → (cmpC u v = 0 ↔ sameV u v = true)
  | .mk k n f s l, .mk k' n' f' s' l', hw, hw' => by
    rw [wordsV] at hw hw'
    have hL := cmpK_zero l l' hw.2 hw'.2
    rw [cmpC, sameV, Bool.and_eq_true, decide_eq_true_eq, ← hL, ← cmpB_zero hw.1 hw'.1]
    have e1 := @ordI_zero k k'
    have e2 := @ordI_zero n n'
    have e3 : cmpT s s' = 0 ↔ s = s' := ⟨cmpT_zero, fun h => by rw [h]; exact cmpT_self _⟩
    rw [← e1, ← e2, ← e3]
    by_cases h1 : ordI k k' = 0
    · by_cases h2 : ordI n n' = 0
      · by_cases h3 : cmpB f f' = 0
        · by_cases h4 : cmpT s s' = 0
          · simp [h1, h2, h3, h4]
          · simp [h1, h2, h3, h4]
        · simp [h1, h2, h3]
      · simp [h1, h2]
    · simp [h1]
theorem cmpK_zero : ∀ u v : List V, wordsL u → wordsL v → (cmpK u v = 0 ↔ sameL u v = true)
  | [], [], _, _ => by simp [cmpK, sameL]
  | [], _ :: _, _, _ => by simp [cmpK, sameL]
  | _ :: _, [], _, _ => by simp [cmpK, sameL]
  | v :: r, v' :: r', hw, hw' => by
    rw [wordsL] at hw hw'
    have h1 := cmpC_zero v v' hw.1 hw'.1
    have h2 := cmpK_zero r r' hw.2 hw'.2
    rw [cmpK, sameL, Bool.and_eq_true, ← h1, ← h2]
    by_cases e : cmpC v v' = 0
    · simp [e]
    · simp [e]
end

theorem cmpK_at : ∀ {l l' : List V} (j : Nat), j ≤ l.length → j ≤ l'.length → (∀ (i : Nat) (u u' : V), i < j → l[i]? = some u → l'[i]? = some u' → cmpC u u' = 0) → cmpK l l' = cmpK (l.drop j) (l'.drop j)
  | _, _, 0, _, _, _ => rfl
  | [], _, j + 1, h, _, _ => by simp at h
  | _ :: _, [], j + 1, _, h, _ => by simp at h
  | v :: r, v' :: r', j + 1, h, h', hz => by
    have h0 := hz 0 v v' (by omega) rfl rfl
    rw [cmpK, if_neg (by omega), List.drop_succ_cons, List.drop_succ_cons]
    exact cmpK_at j (by simpa using h) (by simpa using h') (fun i u u' hi hu hu' => hz (i + 1) u u' (by omega) (by simpa using hu) (by simpa using hu'))

theorem cmpK_left {l l' : List V} {j : Nat} (h1 : j = l'.length) (h2 : j < l.length) (hz : ∀ (i : Nat) (u u' : V), i < j → l[i]? = some u → l'[i]? = some u' → cmpC u u' = 0) : cmpK l l' = 1 := by
  rw [cmpK_at j (by omega) (by omega) hz, show l'.drop j = [] from List.drop_eq_nil_of_le (by omega), List.drop_eq_getElem_cons h2]
  rfl

theorem cmpK_right {l l' : List V} {j : Nat} (h1 : j = l.length) (h2 : j < l'.length) (hz : ∀ (i : Nat) (u u' : V), i < j → l[i]? = some u → l'[i]? = some u' → cmpC u u' = 0) : cmpK l l' = -1 := by
  rw [cmpK_at j (by omega) (by omega) hz, show l.drop j = [] from List.drop_eq_nil_of_le (by omega), List.drop_eq_getElem_cons h2]
  rfl

theorem cmpK_both {l l' : List V} {j : Nat} (h1 : j = l.length) (h2 : j = l'.length) (hz : ∀ (i : Nat) (u u' : V), i < j → l[i]? = some u → l'[i]? = some u' → cmpC u u' = 0) : cmpK l l' = 0 := by
  rw [cmpK_at j (by omega) (by omega) hz, show l.drop j = [] from List.drop_eq_nil_of_le (by omega), show l'.drop j = [] from List.drop_eq_nil_of_le (by omega)]
  rfl

theorem cmpK_differ {l l' : List V} {j : Nat} {u u' : V} (hu : l[j]? = some u) (hu' : l'[j]? = some u') (hne : cmpC u u' ≠ 0) (hz : ∀ (i : Nat) (u u' : V), i < j → l[i]? = some u → l'[i]? = some u' → cmpC u u' = 0) : cmpK l l' = cmpC u u' := by
  obtain ⟨h1, e1⟩ := List.getElem?_eq_some_iff.1 hu
  obtain ⟨h2, e2⟩ := List.getElem?_eq_some_iff.1 hu'
  rw [cmpK_at j (by omega) (by omega) hz, List.drop_eq_getElem_cons h1, List.drop_eq_getElem_cons h2, e1, e2, cmpK, if_pos hne]

theorem compareBytes_cmpT : ∀ a b : List Nat, (∀ x ∈ a, x < 256) → (∀ x ∈ b, x < 256) → Lib.compareBytes (a.map UInt8.ofNat) (b.map UInt8.ofNat) = cmpT a b
  | [], [], _, _ => rfl
  | [], _ :: _, _, _ => rfl
  | _ :: _, [], _, _ => rfl
  | x :: a, y :: b, ha, hb => by
    have hx := ha x (by simp)
    have hy := hb y (by simp)
    have ih := compareBytes_cmpT a b (fun c hc => ha c (by simp [hc])) (fun c hc => hb c (by simp [hc]))
    have e1 : (UInt8.ofNat x < UInt8.ofNat y) = (x < y) := by
      rw [UInt8.lt_iff_toNat_lt, UInt8.toNat_ofNat_of_lt' hx, UInt8.toNat_ofNat_of_lt' hy]
    have e2 : (UInt8.ofNat y < UInt8.ofNat x) = (y < x) := by
      rw [UInt8.lt_iff_toNat_lt, UInt8.toNat_ofNat_of_lt' hx, UInt8.toNat_ofNat_of_lt' hy]
    rw [List.map_cons, List.map_cons, Lib.compareBytes, cmpT]
    simp only [e1, e2]
    rw [ih]

set_option maxRecDepth 100000 in
theorem isnan_i (x : Int) (w : World) : Calls Tryz.prog 174 #[.int .i64 x] w fun e w' => e = .returned (.bool false) ∧ w' = w := by
  have h : (x != x) = false := bne_self_eq_false _
  go_enter Tryz.func174, Tryz.ntmps174
  go_wp2
  go_ret
  exact ⟨rfl, rfl⟩

set_option maxRecDepth 100000 in
theorem isnan_i64 (x : Int) (w : World) : Calls Tryz.prog 175 #[.int .i64 x] w fun e w' => e = .returned (.bool false) ∧ w' = w := by
  have h : (x != x) = false := bne_self_eq_false _
  go_enter Tryz.func175, Tryz.ntmps175
  go_wp2
  go_ret
  exact ⟨rfl, rfl⟩

set_option maxRecDepth 100000 in
theorem cmpi_any (a b : Int) (w : World) : Calls Tryz.prog 158 #[.int .i64 a, .int .i64 b] w fun e w' => e = .returned (.int .i64 (ordI a b)) ∧ w' = w := by
  have h3 : (ordI a b = -1 ∧ a < b) ∨ (ordI a b = 1 ∧ ¬ a < b ∧ b < a) ∨ (ordI a b = 0 ∧ ¬ a < b ∧ ¬ b < a) := by
    unfold ordI
    by_cases q1 : a < b
    · exact .inl ⟨if_pos q1, q1⟩
    · by_cases q2 : b < a
      · exact .inr (.inl ⟨by rw [if_neg q1, if_pos q2], q1, q2⟩)
      · exact .inr (.inr ⟨by rw [if_neg q1, if_neg q2], q1, q2⟩)
  have H1 := Lib.hid (isnan_i a w)
  have H2 := Lib.hid (isnan_i b w)
  rcases h3 with ⟨hf, q1⟩ | ⟨hf, q1, q2⟩ | ⟨hf, q1, q2⟩
  all_goals have Hf := Lib.hid hf
  all_goals clear hf
  all_goals go_enter Tryz.func158, Tryz.ntmps158
  all_goals go_wp2_with fail
  all_goals refine H1.out.mono ?_
  all_goals rintro e w' ⟨rfl, rfl⟩
  all_goals go_wp2_with fail
  all_goals refine H2.out.mono ?_
  all_goals rintro e w' ⟨rfl, rfl⟩
  all_goals go_wp2
  all_goals go_ret
  all_goals exact ⟨ret_i64 Hf.out.symm, rfl⟩

set_option maxRecDepth 100000 in
theorem cmpi64_any (a b : Int) (w : World) : Calls Tryz.prog 159 #[.int .i64 a, .int .i64 b] w fun e w' => e = .returned (.int .i64 (ordI a b)) ∧ w' = w := by
  have h3 : (ordI a b = -1 ∧ a < b) ∨ (ordI a b = 1 ∧ ¬ a < b ∧ b < a) ∨ (ordI a b = 0 ∧ ¬ a < b ∧ ¬ b < a) := by
    unfold ordI
    by_cases q1 : a < b
    · exact .inl ⟨if_pos q1, q1⟩
    · by_cases q2 : b < a
      · exact .inr (.inl ⟨by rw [if_neg q1, if_pos q2], q1, q2⟩)
      · exact .inr (.inr ⟨by rw [if_neg q1, if_neg q2], q1, q2⟩)
  have H1 := Lib.hid (isnan_i64 a w)
  have H2 := Lib.hid (isnan_i64 b w)
  rcases h3 with ⟨hf, q1⟩ | ⟨hf, q1, q2⟩ | ⟨hf, q1, q2⟩
  all_goals have Hf := Lib.hid hf
  all_goals clear hf
  all_goals go_enter Tryz.func159, Tryz.ntmps159
  all_goals go_wp2_with fail
  all_goals refine H1.out.mono ?_
  all_goals rintro e w' ⟨rfl, rfl⟩
  all_goals go_wp2_with fail
  all_goals refine H2.out.mono ?_
  all_goals rintro e w' ⟨rfl, rfl⟩
  all_goals go_wp2
  all_goals go_ret
  all_goals exact ⟨ret_i64 Hf.out.symm, rfl⟩

/-- The first of five that is not zero. -/
def first5 (a b c d e : Int) : Int := if a ≠ 0 then a else if b ≠ 0 then b else if c ≠ 0 then c else if d ≠ 0 then d else e

theorem first5_at (x : Nat → Int) (k : Nat) (hk : k < 5) (hz : ∀ i, i < k → x i = 0) (hne : x k ≠ 0) : first5 (x 0) (x 1) (x 2) (x 3) (x 4) = x k := by
  unfold first5
  match k, hk with
  | 0, _ => rw [if_pos hne]
  | 1, _ => rw [if_neg (by rw [hz 0 (by omega)]; simp), if_pos hne]
  | 2, _ => rw [if_neg (by rw [hz 0 (by omega)]; simp), if_neg (by rw [hz 1 (by omega)]; simp), if_pos hne]
  | 3, _ => rw [if_neg (by rw [hz 0 (by omega)]; simp), if_neg (by rw [hz 1 (by omega)]; simp), if_neg (by rw [hz 2 (by omega)]; simp), if_pos hne]
  | 4, _ => rw [if_neg (by rw [hz 0 (by omega)]; simp), if_neg (by rw [hz 1 (by omega)]; simp), if_neg (by rw [hz 2 (by omega)]; simp), if_neg (by rw [hz 3 (by omega)]; simp)]

theorem first5_none (x : Nat → Int) (hz : ∀ i, i < 5 → x i = 0) : first5 (x 0) (x 1) (x 2) (x 3) (x 4) = 0 := by
  unfold first5
  rw [hz 0 (by omega), hz 1 (by omega), hz 2 (by omega), hz 3 (by omega), hz 4 (by omega)]
  simp

set_option maxRecDepth 100000 in
theorem or_any (x : Nat → Int) (w : World) (b : Nat) (h : w.heap[b]? = some (.cells #[.int .i64 (x 0), .int .i64 (x 1), .int .i64 (x 2), .int .i64 (x 3), .int .i64 (x 4)] 3 (0, 0))) : Calls Tryz.prog 157 #[.slice (some ⟨b, 0, none⟩) 5 5] w fun e w' => e = .returned (.int .i64 (first5 (x 0) (x 1) (x 2) (x 3) (x 4))) ∧ w' = w := by
  have hc : ∀ i : Nat, i < 5 → w.cell? ⟨b, i, none⟩ = some (.int .i64 (x i)) := fun i hi => by
    rw [cell_of_row _ _ _ _ _ (0, 0) h]
    match i, hi with
    | 0, _ => rfl
    | 1, _ => rfl
    | 2, _ => rfl
    | 3, _ => rfl
    | 4, _ => rfl
  have Hc := Lib.hid hc
  have Hat := Lib.hid (first5_at x)
  have Hnone := Lib.hid (first5_none x)
  generalize first5 (x 0) (x 1) (x 2) (x 3) (x 4) = r at *
  clear h hc
  go_enter Tryz.func157, Tryz.ntmps157
  go_wp2
  go_loopw [8] (fun i wr => ∃ k : Nat, k ≤ 5 ∧ i = .int .i64 (k : Int) ∧ (∀ i, i < k → x i = 0) ∧ wr = w) (fun i _ => 5 - (intOf i).toNat)
  case atStart => exact ⟨0, by omega, rfl, fun i h => absurd h (by omega), rfl⟩
  case round =>
    obtain ⟨k, hk, rfl, hz, rfl⟩ := hrel
    have Hz := Lib.hid hz
    clear hz
    by_cases hlt : k < 5
    · have hc := Hc.out k hlt
      have hk2 : (k : Int) < 5 := by omega
      have Hx := Lib.hid (show x k ≠ 0 → r = x k from fun hne => Hat.out k hlt Hz.out hne)
      have Hx0 := Lib.hid (show x k = 0 → ∀ i, i < k + 1 → x i = 0 from fun h0 i hi => by
        rcases Nat.lt_or_eq_of_le (Nat.le_of_lt_succ hi) with h1 | h1
        · exact Hz.out i h1
        · rw [h1]; exact h0)
      generalize x k = y at *
      by_cases hy : y = 0
      · subst hy
        have Hx0 := Lib.hid (Hx0.out rfl)
        go_wp2
        go_roundw
        case rel => exact ⟨k + 1, by omega, by go_num, Hx0.out, by first | trivial | rfl⟩
        case measure => simp [intOf]; omega
      · have hy2 : (y != 0) = true := bne_iff_ne.2 hy
        have Hr := Lib.hid (Hx.out hy)
        clear hy
        go_wp2
        go_ret
        exact ⟨ret_i64 Hr.out.symm, rfl⟩
    · obtain rfl : k = 5 := by omega
      have Hr := Lib.hid (Hnone.out Hz.out)
      go_wp2
      go_ret
      exact ⟨ret_i64 Hr.out.symm, rfl⟩
end Go.Proofs.YtcapbaocchaenaaGreatDoor

