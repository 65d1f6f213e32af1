/- The walks of Join, of the code and of the reference. -/
import Derived.Test.YtmebffmdfnnbmaaFrMake
import Derived.Test.YtmebffmdfnnbmaaCat
namespace Go.Proofs.Ytmebffmdfnnbmaa
open Go.RowKit Crc

def JoinRel (w : World) (ls : List (List Nat)) (v i : Value) (wr : World) : Prop :=
  ∃ k : Nat, k ≤ ls.length ∧ i = .int .i64 k ∧ wr.ownsRow w.heap.size 5 1 v (joinL (ls.take k)).length (u8s (joinL (ls.take k))) ∧ Below w.heap.size w wr

theorem joinL_take {ls : List (List Nat)} {k : Nat} (h : k < ls.length) : joinL (ls.take (k + 1)) = joinL (ls.take k) ++ frameL (ls.getD k []) := by
  rw [List.take_succ_eq_append_getElem h, joinL_snoc, List.getD_eq_getElem?_getD, List.getElem?_eq_getElem h]
  rfl

theorem joinL_take_le {ls : List (List Nat)} {k : Nat} : (joinL (ls.take k)).length ≤ (joinL ls).length := by
  conv => rhs; rw [← List.take_append_drop k ls, joinL_append, List.length_append]
  omega

theorem joinRel_step {w wr w1 : World} {ls : List (List Nat)} {v v' : Value} {k n' : Nat} {l : List Nat} (hk : k < ls.length) (hl : ls.getD k [] = l) (hn : (frameL l).length = n')
    (hown : wr.ownsRow w.heap.size 5 1 v (joinL (ls.take k)).length (u8s (joinL (ls.take k)))) (hbel : Below w.heap.size w wr)
    (g1 : w1.ownsRow w.heap.size 5 1 v' ((joinL (ls.take k)).length + n') (u8s (joinL (ls.take k) ++ frameL l))) (g2 : wr.grownBy w1 v.ownBlock) : JoinRel w ls v' (.int .i64 ((k : Int) + 1)) w1 := by
  subst hl
  subst hn
  refine ⟨k + 1, hk, by go_num, ?_, hbel.grown g2 hbel.size (fun x hx => (hown.lt x hx).1)⟩
  rw [joinL_take hk, List.length_append]
  exact g1

/-- What Join answers. -/
def JoinEnd (w : World) (ls : List (List Nat)) (e : Ending) (w' : World) : Prop :=
  ∃ v, e = .returned (.tuple #[v, .bool true]) ∧ OwnBytes w w' v (joinL ls)

theorem rec_at {ls : List (List Nat)} {k : Nat} (h : ∀ r ∈ ls, r.length ≤ 1048576) : (ls.getD k []).length ≤ 1048576 := by
  rw [List.getD_eq_getElem?_getD]
  by_cases hk : k < ls.length
  · rw [List.getElem?_eq_getElem hk]
    exact h _ (List.getElem_mem _)
  · rw [List.getElem?_eq_none (by omega)]
    exact Nat.zero_le _

set_option maxHeartbeats 800000 in
theorem join_any (a : Option Addr) (n cap : Nat) (ls : List (List Nat)) (w : World) (hl : Parts w a n cap ls) (hr : ∀ r ∈ ls, r.length ≤ 1048576) (hm : (joinL ls).length ≤ 100000000000000) :
    Calls Try.prog 10 #[.slice a n cap] w (JoinEnd w ls) := by
  have hls := Lib.hid hl.len
  have hnb := hl.max
  have hP := Lib.hid hl
  have Hr := Lib.hid hr
  clear hl hr
  go_enter Try.func10, Try.ntmps10
  go_wp2
  go_loopw [4, 11] (fun v i wr => JoinRel w ls v i wr) (fun _ i _ => n - (intOf i).toNat)
  case atStart => exact ⟨0, Nat.zero_le _, rfl, World.ownsRow_nil _ _ _ _, Below.refl _ _⟩
  case round =>
    obtain ⟨k, hk, rfl, hown, hbel⟩ := hrel
    by_cases hlt : k < n
    · obtain ⟨b, o, a', n', c', rfl, hc, hB⟩ := bytes_get_all (hP.out.grow hbel) hlt
      have h1 := joinL_take_le (ls := ls) (k := k + 1)
      rw [joinL_take (by rw [hls.out]; exact hlt), List.length_append, frameL_len, hB.len] at h1
      have hc5 : (joinL (ls.take k)).length + (n' + 8) ≤ 140737488355328 := by omega
      have hn' : n' ≤ 1048576 := by rw [← hB.len]; exact rec_at Hr.out
      have HB := Lib.hid hB
      generalize hgl : ls.getD k [] = l at HB
      have Hgl := Lib.hid hgl
      have Hown := Lib.hid hown
      have HM := Lib.hid (make_yes a' n' c' l wr HB.out hn')
      have Hfl : (frameL l).length = n' + 8 := by rw [frameL_len, HB.out.len]
      have Hfl := Lib.hid Hfl
      clear hB hgl h1 hown
      go_wp2_with fail
      refine HM.out.mono ?_
      rintro e w1 ⟨v2, rfl, hown2, hb2⟩
      obtain ⟨p, cp, rfl, hC⟩ := own_slice hown2 (frameL_byte HB.out.byte (by rw [HB.out.len]; omega))
      have hown1 := own_below Hown.out hb2
      have hb1 := hbel.trans (hb2.mono hbel.size)
      rw [Hfl.out] at hC ⊢
      have HC := Lib.hid hC
      have Hown1 := Lib.hid hown1
      clear hown2 hC hown1 HM
      go_wp2_with (at_builtin; refine wpList_append_bytes _ rfl _ _ 25 rfl w.heap.size 5 Try.underlying25 info_u8 _ _ _ rfl Hown1.out p (n' + 8) cp (frameL l) rfl HC.out hc5 hb1.size ?_; intro v' w3 g1 g2)
      go_roundw
      case rel => exact joinRel_step (by rw [hls.out]; exact hlt) Hgl.out Hfl.out Hown1.out hb1 g1 g2
      case measure => simp [intOf]; omega
    · have hkn : k = ls.length := by have := hls.out; omega
      have ht : ls.take k = ls := by rw [hkn, List.take_length]
      rw [ht] at hown
      have Hown := Lib.hid hown
      clear ht hkn hown
      go_wp2
      go_ret2
      exact ⟨_, rfl, Hown.out, hbel⟩

set_option maxHeartbeats 800000 in
theorem rjoin_any (a : Option Addr) (n cap : Nat) (ls : List (List Nat)) (w : World) (hl : Parts w a n cap ls) (hr : ∀ r ∈ ls, r.length ≤ 1048576) (hm : (joinL ls).length ≤ 100000000000000) :
    Calls Try.prog 11 #[.slice a n cap] w (JoinEnd w ls) := by
  have hls := Lib.hid hl.len
  have hnb := hl.max
  have hP := Lib.hid hl
  have Hr := Lib.hid hr
  clear hl hr
  go_enter Try.func11, Try.ntmps11
  go_wp2
  go_loopw [4, 5] (fun v i wr => JoinRel w ls v i wr) (fun _ i _ => n - (intOf i).toNat)
  case atStart => exact ⟨0, Nat.zero_le _, rfl, World.ownsRow_nil _ _ _ _, Below.refl _ _⟩
  case round =>
    obtain ⟨k, hk, rfl, hown, hbel⟩ := hrel
    by_cases hlt : k < n
    · obtain ⟨b, o, a', n', c', rfl, hc, hB⟩ := bytes_get_all (hP.out.grow hbel) hlt
      have h1 := joinL_take_le (ls := ls) (k := k + 1)
      rw [joinL_take (by rw [hls.out]; exact hlt), List.length_append, frameL_len, hB.len] at h1
      have hc5 : (joinL (ls.take k)).length + (n' + 8) ≤ 140737488355328 := by omega
      have hn' : n' ≤ 1048576 := by rw [← hB.len]; exact rec_at Hr.out
      have HB := Lib.hid hB
      generalize hgl : ls.getD k [] = l at HB
      have Hgl := Lib.hid hgl
      have Hown := Lib.hid hown
      have HM := Lib.hid (rmake_yes a' n' c' l wr HB.out hn')
      have Hfl : (frameL l).length = n' + 8 := by rw [frameL_len, HB.out.len]
      have Hfl := Lib.hid Hfl
      clear hB hgl h1 hown
      go_wp2_with fail
      refine HM.out.mono ?_
      rintro e w1 ⟨v2, rfl, hown2, hb2⟩
      obtain ⟨p, cp, rfl, hC⟩ := own_slice hown2 (frameL_byte HB.out.byte (by rw [HB.out.len]; omega))
      have hown1 := own_below Hown.out hb2
      have hb1 := hbel.trans (hb2.mono hbel.size)
      rw [Hfl.out] at hC ⊢
      have HC := Lib.hid hC
      have Hown1 := Lib.hid hown1
      clear hown2 hC hown1 HM
      go_wp2_with (at_builtin; refine wpList_append_bytes _ rfl _ _ 25 rfl w.heap.size 5 Try.underlying25 info_u8 _ _ _ rfl Hown1.out p (n' + 8) cp (frameL l) rfl HC.out hc5 hb1.size ?_; intro v' w3 g1 g2)
      go_roundw
      case rel => exact joinRel_step (by rw [hls.out]; exact hlt) Hgl.out Hfl.out Hown1.out hb1 g1 g2
      case measure => simp [intOf]; omega
    · have hkn : k = ls.length := by have := hls.out; omega
      have ht : ls.take k = ls := by rw [hkn, List.take_length]
      rw [ht] at hown
      have Hown := Lib.hid hown
      clear ht hkn hown
      go_wp2
      go_ret2
      exact ⟨_, rfl, Hown.out, hbel⟩
end Go.Proofs.Ytmebffmdfnnbmaa
