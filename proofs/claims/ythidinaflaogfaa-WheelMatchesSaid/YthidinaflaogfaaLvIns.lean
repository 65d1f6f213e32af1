/- The walk of slices.Insert of one item. -/
import Derived.Test.YthidinaflaogfaaLvRow
import Derived.Deep.DeepMust
namespace Go.Proofs.Ythidinaflaogfaa
open Go.RowKit Go.Shelf

/-- What a change of a row of items leaves: the row, and all other blocks as they were. -/
def RowEnd (w : World) (base : Nat) (v : Value) (L : List It) (r : Ending) (w' : World) : Prop :=
  ∃ v', r = .returned v' ∧ w'.ownsRow base 44 2 v' L.length (flatI L) ∧ w.grownBy w' v.ownBlock ∧ (v'.ownBlock = v.ownBlock ∨ v'.ownBlock = some w.heap.size)

theorem one_item {w : World} {bx : Nat} {x : It} (hx : w.heap[bx]? = some (.cells #[.int .u64 (x.1 : Int), .int .u64 (x.2 : Int)] 44 (0, 0))) : ∀ j u, (flatI [x])[j]? = some u → w.cell? ((⟨bx, 0, none⟩ : Addr).add j) = some u := by
  intro j u hu
  rw [Addr.add_lit, Nat.zero_add, cell_of_row _ _ _ _ _ (0, 0) hx]
  match j, hu with
  | 0, hu => exact hu
  | 1, hu => exact hu

set_option maxRecDepth 100000 in
theorem ins_end {w : World} {base : Nat} {v : Value} {l : List It} (h : w.ownsRow base 44 2 v l.length (flatI l)) (hl : l.length ≤ 1000) (hbase : base ≤ w.heap.size) (bx : Nat) (x : It) (hx : w.heap[bx]? = some (.cells #[.int .u64 (x.1 : Int), .int .u64 (x.2 : Int)] 44 (0, 0))) :
    Calls Try.prog 49 #[v, .int .i64 (l.length : Int), .slice (some ⟨bx, 0, none⟩) 1 1] w (RowEnd w base v (l ++ [x])) := by
  obtain ⟨i0, hi, hz, hsz, hby⟩ := info_parts info_it
  have Hx := Lib.hid (one_item hx)
  have h1 : ∀ v ∈ flatI [x], v.oneCell' = true := flatI_one _
  have h2 : l.length + 1 ≤ maxLen := by rw [maxLen_nat]; omega
  have h3 : (l.length + 1) * 16 ≤ 140737488355328 := by omega
  have hfin : ∀ v' w', w'.ownsRow base 44 2 v' (l.length + 1) (flatI l ++ flatI [x]) → w.grownBy w' v.ownBlock → (v'.ownBlock = v.ownBlock ∨ v'.ownBlock = some w.heap.size) → RowEnd w base v (l ++ [x]) (.returned v') w' := fun v' w' g1 g2 g4 => ⟨v', rfl, by rw [flatI_append, List.length_append]; exact g1, g2, g4⟩
  have Hfin := Lib.hid hfin
  obtain ⟨n, hn⟩ : ∃ n, n = l.length := ⟨_, rfl⟩
  have Hrow := Lib.hid (show w.ownsRow base 44 2 v n (flatI l) from by rw [hn]; exact h)
  rw [← hn] at h2 h3 hl ⊢
  have Hn := Lib.hid hn
  clear h hx hfin hn
  rcases Hrow.out.2 with ⟨rfl, hn0⟩ | ⟨g, cap, cur, rfl, hb, hg, hnc, hcm, hcs, htake⟩
  · subst hn0
    go_enter Try.func49, Try.ntmps49
    go_wp2_with (at_builtin; go_must (refine wpList_append_own_at _ rfl _ _ 41 rfl base 44 i0 (.agg #[.int .u64 0, .int .u64 0]) 2 16 Try.underlying41 hi hz hsz hby rfl (by decide) (.slice none 0 0) 0 (flatI l) (by first | rfl | go_simp) Hrow.out ⟨bx, 0, none⟩ 1 1 (flatI [x]) (by first | rfl | go_simp) (flatI_len [x]) Hx.out h1 h2 h3 hbase ?_); intro v' w' g1 g2 _ g4)
    go_ret
    exact Hfin.out _ _ (by rw [← Hn.out]; exact g1) g2 g4
  · have hm : cap ≤ 9223372036854775807 := by rw [maxLen_nat] at hcm; exact hcm
    clear hcm hcs htake
    go_enter Try.func49, Try.ntmps49
    go_wp2_with (at_builtin; refine wpList_append_own_at _ rfl _ _ 41 rfl base 44 i0 (.agg #[.int .u64 0, .int .u64 0]) 2 16 Try.underlying41 hi hz hsz hby rfl (by decide) (.slice (some ⟨g, 0, none⟩) n cap) n (flatI l) (by first | rfl | go_simp) Hrow.out ⟨bx, 0, none⟩ 1 1 (flatI [x]) (by first | rfl | go_simp) (flatI_len [x]) Hx.out h1 h2 h3 hbase ?_; intro v' w' g1 g2 _ g4)
    all_goals
      go_ret
      exact Hfin.out _ _ (by rw [← Hn.out]; exact g1) g2 g4
end Go.Proofs.Ythidinaflaogfaa
