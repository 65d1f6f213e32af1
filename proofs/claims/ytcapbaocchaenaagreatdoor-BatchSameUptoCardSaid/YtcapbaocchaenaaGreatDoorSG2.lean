import Derived.Test.YtcapbaocchaenaaGreatDoorSG1
/- The walk of shapeOf, and the names of kinds. -/
namespace Go.Proofs.YtcapbaocchaenaaGreatDoor
open Go.RowKit

/-- The name of a kind. -/
def evName (k : Int) : List Nat := if k = 1 then [115, 116, 97, 114, 116, 101, 100] else if k = 2 then [100, 105, 115, 112, 97, 116, 99, 104, 101, 100] else if k = 3 then [102, 105, 110, 105, 115, 104, 101, 100] else if k = 4 then [98, 114, 111, 107, 101, 110] else if k = 5 then [102, 105, 114, 101, 100] else if k = 6 then [115, 105, 103, 110, 97, 108] else if k = 7 then [115, 99, 104, 101, 100, 117, 108, 101, 100] else if k = 8 then [97, 114, 109, 101, 100] else if k = 9 then [99, 111, 109, 112, 108, 101, 116, 101, 100] else if k = 10 then [102, 97, 105, 108, 101, 100] else if k = 11 then [112, 97, 110, 105, 99, 107, 101, 100] else []
/-- Its fields. -/
def evFields (k : Int) : List Nat := if k = 1 then [3, 5] else if k = 2 then [0, 1, 2] else if k = 3 then [0, 1, 5] else if k = 4 then [0, 1, 2, 4] else if k = 5 then [0] else if k = 6 then [3, 4, 5] else if k = 7 then [0, 3, 5] else if k = 8 then [0, 2] else if k = 9 then [5] else if k = 10 then [4] else if k = 11 then [4] else []

theorem evName_none {k : Int} (h : ¬ (1 ≤ k ∧ k ≤ 11)) : evName k = [] ∧ evFields k = [] := by
  unfold evName evFields
  rw [if_neg (by omega), if_neg (by omega), if_neg (by omega), if_neg (by omega), if_neg (by omega), if_neg (by omega), if_neg (by omega), if_neg (by omega), if_neg (by omega), if_neg (by omega), if_neg (by omega)]
  exact ⟨rfl, by rw [if_neg (by omega), if_neg (by omega), if_neg (by omega), if_neg (by omega), if_neg (by omega), if_neg (by omega), if_neg (by omega), if_neg (by omega), if_neg (by omega), if_neg (by omega), if_neg (by omega)]⟩

theorem results_c {fn : Func} {p : Tmp} {ty : TypeId} (h : fn.results = #[.cell p ty]) (tmps : Array Value) (P : Program) (w : World) :
    (results fn tmps).run P w = ((asAddr (tmps.getD p undef)).run P w).andThen fun a w₁ => (loadVar ty a).run P w₁ := by
  simp only [results, h]
  simp [Sem.run_bind, Result.andThen]

/-- What shapeOf answers. -/
def ShapeEnd (w : World) (k : Int) (e : Ending) (w' : World) : Prop :=
  Below w.heap.size w w' ∧ ∃ a, e = .returned (.agg #[.string (str (evName k)), .slice a (evFields k).length (evFields k).length]) ∧
    (evFields k = [] ∨ ∃ b, a = some ⟨b, 0, none⟩ ∧ w.heap.size ≤ b ∧ w'.heap[b]? = some (.cells ((evFields k).map fun (i : Nat) => Value.int .i64 (i : Int)).toArray 3 (0, 0)))

set_option maxRecDepth 100000 in
set_option maxHeartbeats 3200000 in
theorem shape_any (k : Int) (w : World) : Calls Tryz.prog 64 #[.int .i64 k] w (ShapeEnd w k) := by
  have hal2 := fun o o' => ((Below.refl w.heap.size w).alloc (Nat.le_refl _) o).alloc (by simp) o'
  have hnew2 := fun o o' => (show ((w.alloc o).alloc o').heap[w.heap.size + 1]? = some o' from by
    have h := heap_alloc_new (w.alloc o) o'
    rw [World.size_alloc] at h
    exact h)
  have hal := fun o => (Below.refl w.heap.size w).alloc (Nat.le_refl _) o
  by_cases h1 : k = 1
  · subst h1
    go_enter Tryz.func64, Tryz.ntmps64
    go_wp2
    refine bodyPost_ret (v := .agg #[.string (str (evName 1)), .slice (some ⟨w.heap.size + 1, 0, none⟩) (evFields 1).length (evFields 1).length]) ?_ rfl ?_
    · rw [results_c rfl]
      go_simp
      exact ⟨by kernel_rfl, by kernel_rfl⟩
    · exact ⟨hal2 _ _, _, rfl, .inr ⟨_, rfl, Nat.le_succ _, hnew2 _ _⟩⟩
  by_cases h2 : k = 2
  · subst h2
    go_enter Tryz.func64, Tryz.ntmps64
    go_wp2
    refine bodyPost_ret (v := .agg #[.string (str (evName 2)), .slice (some ⟨w.heap.size + 1, 0, none⟩) (evFields 2).length (evFields 2).length]) ?_ rfl ?_
    · rw [results_c rfl]
      go_simp
      exact ⟨by kernel_rfl, by kernel_rfl⟩
    · exact ⟨hal2 _ _, _, rfl, .inr ⟨_, rfl, Nat.le_succ _, hnew2 _ _⟩⟩
  by_cases h3 : k = 3
  · subst h3
    go_enter Tryz.func64, Tryz.ntmps64
    go_wp2
    refine bodyPost_ret (v := .agg #[.string (str (evName 3)), .slice (some ⟨w.heap.size + 1, 0, none⟩) (evFields 3).length (evFields 3).length]) ?_ rfl ?_
    · rw [results_c rfl]
      go_simp
      exact ⟨by kernel_rfl, by kernel_rfl⟩
    · exact ⟨hal2 _ _, _, rfl, .inr ⟨_, rfl, Nat.le_succ _, hnew2 _ _⟩⟩
  by_cases h4 : k = 4
  · subst h4
    go_enter Tryz.func64, Tryz.ntmps64
    go_wp2
    refine bodyPost_ret (v := .agg #[.string (str (evName 4)), .slice (some ⟨w.heap.size + 1, 0, none⟩) (evFields 4).length (evFields 4).length]) ?_ rfl ?_
    · rw [results_c rfl]
      go_simp
      exact ⟨by kernel_rfl, by kernel_rfl⟩
    · exact ⟨hal2 _ _, _, rfl, .inr ⟨_, rfl, Nat.le_succ _, hnew2 _ _⟩⟩
  by_cases h5 : k = 5
  · subst h5
    go_enter Tryz.func64, Tryz.ntmps64
    go_wp2
    refine bodyPost_ret (v := .agg #[.string (str (evName 5)), .slice (some ⟨w.heap.size + 1, 0, none⟩) (evFields 5).length (evFields 5).length]) ?_ rfl ?_
    · rw [results_c rfl]
      go_simp
      exact ⟨by kernel_rfl, by kernel_rfl⟩
    · exact ⟨hal2 _ _, _, rfl, .inr ⟨_, rfl, Nat.le_succ _, hnew2 _ _⟩⟩
  by_cases h6 : k = 6
  · subst h6
    go_enter Tryz.func64, Tryz.ntmps64
    go_wp2
    refine bodyPost_ret (v := .agg #[.string (str (evName 6)), .slice (some ⟨w.heap.size + 1, 0, none⟩) (evFields 6).length (evFields 6).length]) ?_ rfl ?_
    · rw [results_c rfl]
      go_simp
      exact ⟨by kernel_rfl, by kernel_rfl⟩
    · exact ⟨hal2 _ _, _, rfl, .inr ⟨_, rfl, Nat.le_succ _, hnew2 _ _⟩⟩
  by_cases h7 : k = 7
  · subst h7
    go_enter Tryz.func64, Tryz.ntmps64
    go_wp2
    refine bodyPost_ret (v := .agg #[.string (str (evName 7)), .slice (some ⟨w.heap.size + 1, 0, none⟩) (evFields 7).length (evFields 7).length]) ?_ rfl ?_
    · rw [results_c rfl]
      go_simp
      exact ⟨by kernel_rfl, by kernel_rfl⟩
    · exact ⟨hal2 _ _, _, rfl, .inr ⟨_, rfl, Nat.le_succ _, hnew2 _ _⟩⟩
  by_cases h8 : k = 8
  · subst h8
    go_enter Tryz.func64, Tryz.ntmps64
    go_wp2
    refine bodyPost_ret (v := .agg #[.string (str (evName 8)), .slice (some ⟨w.heap.size + 1, 0, none⟩) (evFields 8).length (evFields 8).length]) ?_ rfl ?_
    · rw [results_c rfl]
      go_simp
      exact ⟨by kernel_rfl, by kernel_rfl⟩
    · exact ⟨hal2 _ _, _, rfl, .inr ⟨_, rfl, Nat.le_succ _, hnew2 _ _⟩⟩
  by_cases h9 : k = 9
  · subst h9
    go_enter Tryz.func64, Tryz.ntmps64
    go_wp2
    refine bodyPost_ret (v := .agg #[.string (str (evName 9)), .slice (some ⟨w.heap.size + 1, 0, none⟩) (evFields 9).length (evFields 9).length]) ?_ rfl ?_
    · rw [results_c rfl]
      go_simp
      exact ⟨by kernel_rfl, by kernel_rfl⟩
    · exact ⟨hal2 _ _, _, rfl, .inr ⟨_, rfl, Nat.le_succ _, hnew2 _ _⟩⟩
  by_cases h10 : k = 10
  · subst h10
    go_enter Tryz.func64, Tryz.ntmps64
    go_wp2
    refine bodyPost_ret (v := .agg #[.string (str (evName 10)), .slice (some ⟨w.heap.size + 1, 0, none⟩) (evFields 10).length (evFields 10).length]) ?_ rfl ?_
    · rw [results_c rfl]
      go_simp
      exact ⟨by kernel_rfl, by kernel_rfl⟩
    · exact ⟨hal2 _ _, _, rfl, .inr ⟨_, rfl, Nat.le_succ _, hnew2 _ _⟩⟩
  by_cases h11 : k = 11
  · subst h11
    go_enter Tryz.func64, Tryz.ntmps64
    go_wp2
    refine bodyPost_ret (v := .agg #[.string (str (evName 11)), .slice (some ⟨w.heap.size + 1, 0, none⟩) (evFields 11).length (evFields 11).length]) ?_ rfl ?_
    · rw [results_c rfl]
      go_simp
      exact ⟨by kernel_rfl, by kernel_rfl⟩
    · exact ⟨hal2 _ _, _, rfl, .inr ⟨_, rfl, Nat.le_succ _, hnew2 _ _⟩⟩
  obtain ⟨e1, e2⟩ := evName_none (k := k) (by omega)
  have g1 : (k == 1) = false := by simp [h1]
  have g2 : (k == 2) = false := by simp [h2]
  have g3 : (k == 3) = false := by simp [h3]
  have g4 : (k == 4) = false := by simp [h4]
  have g5 : (k == 5) = false := by simp [h5]
  have g6 : (k == 6) = false := by simp [h6]
  have g7 : (k == 7) = false := by simp [h7]
  have g8 : (k == 8) = false := by simp [h8]
  have g9 : (k == 9) = false := by simp [h9]
  have g10 : (k == 10) = false := by simp [h10]
  have g11 : (k == 11) = false := by simp [h11]
  unfold ShapeEnd
  rw [e1, e2]
  clear h1 h2 h3 h4 h5 h6 h7 h8 h9 h10 h11 e1 e2
  go_enter Tryz.func64, Tryz.ntmps64
  go_wp2
  refine bodyPost_ret (v := .agg #[.string (str []), .slice none 0 0]) ?_ rfl ?_
  · rw [results_c rfl]
    go_simp
    first | done | kernel_rfl | exact ⟨by kernel_rfl, by kernel_rfl⟩
  · exact ⟨hal _, none, rfl, .inl (by first | trivial | rfl)⟩
end Go.Proofs.YtcapbaocchaenaaGreatDoor

