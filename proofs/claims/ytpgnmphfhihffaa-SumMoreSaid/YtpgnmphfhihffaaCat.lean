/- The walk of the reference's Cat: it returns the bytes of all parts, in order, in memory of its own. -/
import Derived.Test.YtpgnmphfhihffaaSum
import Derived.Test.YtpgnmphfhihffaaApp
namespace Go.Proofs.Ytpgnmphfhihffaa
open Go.RowKit Crc

theorem flat_len {ls : List (List Nat)} {k : Nat} : (ls.take k).flatten.length ≤ ls.flatten.length := by
  conv => rhs; rw [← List.take_append_drop k ls, List.flatten_append, List.length_append]
  omega

theorem bytes_get_all {w : World} {a : Option Addr} {n cap : Nat} {ls : List (List Nat)} (h : Parts w a n cap ls) {k : Nat} (hk : k < n) : ∃ b o a' n' c', a = some ⟨b, o, none⟩ ∧ w.cell? ⟨b, o + k, none⟩ = some (.slice a' n' c') ∧ Bytes w a' n' c' (ls.getD k []) := by
  obtain ⟨b, o, e, _, hc⟩ := h.cell (by omega)
  obtain ⟨a', n', c', g1, g2⟩ := hc k hk
  exact ⟨b, o, a', n', c', e, g1, g2⟩

def CatRel (w : World) (ls : List (List Nat)) (v i : Value) (wr : World) : Prop :=
  ∃ k : Nat, k ≤ ls.length ∧ i = .int .i64 k ∧ wr.ownsRow w.heap.size 5 1 v (ls.take k).flatten.length (u8s (ls.take k).flatten) ∧ Below w.heap.size w wr

theorem catRel_step {w wr w1 : World} {ls : List (List Nat)} {v v' : Value} {k n' : Nat} {l : List Nat} (hk : k < ls.length) (hl : ls.getD k [] = l) (hn : l.length = n')
    (hown : wr.ownsRow w.heap.size 5 1 v (ls.take k).flatten.length (u8s (ls.take k).flatten)) (hbel : Below w.heap.size w wr)
    (g1 : w1.ownsRow w.heap.size 5 1 v' ((ls.take k).flatten.length + n') (u8s ((ls.take k).flatten ++ l))) (g2 : wr.grownBy w1 v.ownBlock) : CatRel w ls v' (.int .i64 ((k : Int) + 1)) w1 := by
  subst hl
  subst hn
  refine ⟨k + 1, hk, by go_num, ?_, hbel.grown g2 hbel.size (fun x hx => (hown.lt x hx).1)⟩
  rw [flat_take hk, List.length_append]
  exact g1

def CatEnd (w : World) (ls : List (List Nat)) (e : Ending) (w' : World) : Prop :=
  ∃ v, e = .returned v ∧ w'.ownsRow w.heap.size 5 1 v ls.flatten.length (u8s ls.flatten) ∧ Below w.heap.size w w'

set_option maxHeartbeats 800000 in
theorem cat_any (a : Option Addr) (n cap : Nat) (ls : List (List Nat)) (w : World) (hl : Parts w a n cap ls) (hmax : ls.flatten.length ≤ 100000000000000) :
    Calls Try.prog 12 #[.slice a n cap] w (CatEnd w ls) := by
  have hls := Lib.hid hl.len
  have hnb := hl.max
  have hP := Lib.hid hl
  clear hl
  go_enter Try.func12, Try.ntmps12
  go_wp2
  go_loopw [3, 4] (fun v i wr => CatRel w ls v i wr) (fun _ i _ => n - (intOf i).toNat)
  case atStart => exact ⟨0, Nat.zero_le _, rfl, World.ownsRow_nil _ _ _ _, Below.refl _ _⟩
  case round =>
    obtain ⟨k, hk, rfl, hown, hbel⟩ := hrel
    by_cases hlt : k < n
    · obtain ⟨b, o, a', n', c', rfl, hc, hB⟩ := bytes_get_all (hP.out.grow hbel) hlt
      have hfl := flat_len (ls := ls) (k := k)
      have hfl2 := flat_len (ls := ls) (k := k + 1)
      rw [flat_take (by rw [hls.out]; exact hlt), List.length_append, hB.len] at hfl2
      have hc5 : (ls.take k).flatten.length + n' ≤ 140737488355328 := by omega
      have hB' := Lib.hid hB
      generalize hgl : ls.getD k [] = l at hB'
      have hgl := Lib.hid hgl
      rename_i hgl0; clear hB hgl0
      go_wp2_with (at_builtin; refine wpList_append_bytes _ rfl _ _ 28 rfl w.heap.size 5 Try.underlying28 info_u8 _ _ _ rfl hown a' n' c' l rfl hB'.out hc5 hbel.size ?_; intro v' w1 g1 g2)
      go_roundw
      case rel => exact catRel_step (by rw [hls.out]; exact hlt) hgl.out hB'.out.len hown hbel g1 g2
      case measure => simp [intOf]; omega
    · have hkn : k = ls.length := by have := hls.out; omega
      have ht : ls.take k = ls := by rw [hkn, List.take_length]
      rw [ht] at hown
      have ht := Lib.hid ht
      have hkn := Lib.hid hkn
      rename_i hkn0 ht0; clear ht0 hkn0
      go_wp2
      go_ret
      exact ⟨_, rfl, hown, hbel⟩
end Go.Proofs.Ytpgnmphfhihffaa
