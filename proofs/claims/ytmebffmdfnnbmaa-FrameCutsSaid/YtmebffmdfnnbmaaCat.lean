/- The walk of the reference's Cat: it returns the bytes of all parts, in order, in memory of its own. -/
import Derived.Test.YtmebffmdfnnbmaaSum
import Derived.Test.YtmebffmdfnnbmaaApp
namespace Go.Proofs.Ytmebffmdfnnbmaa
open Go.RowKit Crc

theorem flat_len {ls : List (List Nat)} {k : Nat} : (ls.take k).flatten.length ≤ ls.flatten.length := by
  conv => rhs; rw [← List.take_append_drop k ls, List.flatten_append, List.length_append]
  omega

theorem bytes_get_all {w : World} {a : Option Addr} {n cap : Nat} {ls : List (List Nat)} (h : Parts w a n cap ls) {k : Nat} (hk : k < n) : ∃ b o a' n' c', a = some ⟨b, o, none⟩ ∧ w.cell? ⟨b, o + k, none⟩ = some (.slice a' n' c') ∧ Bytes w a' n' c' (ls.getD k []) := by
  obtain ⟨b, o, e, _, hc⟩ := h.cell (by omega)
  obtain ⟨a', n', c', g1, g2⟩ := hc k hk
  exact ⟨b, o, a', n', c', e, g1, g2⟩

def CatRel (w : World) (ls : List (List Nat)) (v i : Value) (wr : World) : Prop :=
  ∃ k : Nat, k ≤ ls.length ∧ i = .int .i64 k ∧ wr.ownsRow w.heap.size 5 1 v (ls.take k).flatten.length (u8s (ls.take k).flatten) ∧ Below w.heap.size w wr

theorem catRel_step {w wr w1 : World} {ls : List (List Nat)} {v v' : Value} {k n' : Nat} {l : List Nat} (hk : k < ls.length) (hl : ls.getD k [] = l) (hn : l.length = n')
    (hown : wr.ownsRow w.heap.size 5 1 v (ls.take k).flatten.length (u8s (ls.take k).flatten)) (hbel : Below w.heap.size w wr)
    (g1 : w1.ownsRow w.heap.size 5 1 v' ((ls.take k).flatten.length + n') (u8s ((ls.take k).flatten ++ l))) (g2 : wr.grownBy w1 v.ownBlock) : CatRel w ls v' (.int .i64 ((k : Int) + 1)) w1 := by
  subst hl
  subst hn
  refine ⟨k + 1, hk, by go_num, ?_, hbel.grown g2 hbel.size (fun x hx => (hown.lt x hx).1)⟩
  rw [flat_take hk, List.length_append]
  exact g1

def CatEnd (w : World) (ls : List (List Nat)) (e : Ending) (w' : World) : Prop :=
  ∃ v, e = .returned v ∧ w'.ownsRow w.heap.size 5 1 v ls.flatten.length (u8s ls.flatten) ∧ Below w.heap.size w w'

end Go.Proofs.Ytmebffmdfnnbmaa
