/- slices.Insert of one item into a row of the call's own. -/
import Derived.Test.YthidinaflaogfaaLvIns3
namespace Go.Proofs.Ythidinaflaogfaa
open Go.RowKit Go.Shelf

theorem insert_any {w : World} {base : Nat} {v : Value} {l : List It} (h : w.ownsRow base 44 2 v l.length (flatI l)) (hl : l.length ≤ 1000) (hbase : base ≤ w.heap.size) (i : Nat) (hi : i ≤ l.length) (bx : Nat) (x : It) (hx : w.heap[bx]? = some (.cells #[.int .u64 (x.1 : Int), .int .u64 (x.2 : Int)] 44 (0, 0))) (hne : ∀ g, v.ownBlock = some g → bx ≠ g) :
    Calls Try.prog 49 #[v, .int .i64 (i : Int), .slice (some ⟨bx, 0, none⟩) 1 1] w (RowEnd w base v (l.take i ++ x :: l.drop i)) := by
  rcases Nat.lt_or_eq_of_le hi with hi | rfl
  · rcases h.2 with ⟨rfl, hn0⟩ | ⟨g, cap, cur, rfl, hb, hg, hnc, hcm, hcs, htake⟩
    · omega
    · rcases Nat.lt_or_eq_of_le hnc with h1 | h1
      · exact ins_room hg htake hcs hi h1 hcm hl hb bx x hx (hne g rfl)
      · subst h1
        exact ins_grow hg htake hi hl hbase bx x hx
  · rw [List.take_length, List.drop_length]
    exact ins_end h hl hbase bx x hx
#print axioms insert_any
end Go.Proofs.Ythidinaflaogfaa
