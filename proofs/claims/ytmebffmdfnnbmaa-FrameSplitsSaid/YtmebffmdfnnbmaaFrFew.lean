/- The walks of the reference's Few and Same. -/
import Derived.Test.YtmebffmdfnnbmaaFrMake
import Derived.Test.YtmebffmdfnnbmaaCat
import Derived.BigQuiet
namespace Go.Proofs.Ytmebffmdfnnbmaa
open Go.RowKit Crc

/-- The sum that Few makes. -/
def minsF (ls : List (List Nat)) : Nat := (ls.map fun l => min l.length 2000).sum

theorem minsF_take {ls : List (List Nat)} {k : Nat} (h : k < ls.length) : minsF (ls.take (k + 1)) = minsF (ls.take k) + min (ls.getD k []).length 2000 := by
  unfold minsF
  rw [List.take_succ_eq_append_getElem h, List.getD_eq_getElem?_getD, List.getElem?_eq_getElem h, List.map_append, List.sum_append, List.map_cons, List.map_nil, List.sum_cons, List.sum_nil]
  rfl

theorem minsF_cons (l : List Nat) (ls : List (List Nat)) : minsF (l :: ls) = min l.length 2000 + minsF ls := by simp [minsF]

theorem minsF_bound : ∀ ls : List (List Nat), minsF ls ≤ 1500 → sizeL ls ≤ 1500 + 8 * ls.length ∧ ∀ r ∈ ls, r.length ≤ 1048576
  | [], _ => ⟨by simp [sizeL], fun r h => by cases h⟩
  | l :: ls, h => by
    have ih := minsF_bound ls
    rw [minsF_cons] at h
    obtain ⟨h1, h2⟩ := ih (by omega)
    have h3 : ∀ ms : List (List Nat), minsF ms ≤ 1500 → sizeL ms = minsF ms + 8 * ms.length := by
      intro ms
      induction ms with
      | nil => intro _; rfl
      | cons m ms ihm =>
        intro hm
        rw [minsF_cons] at hm ⊢
        rw [sizeL_cons, ihm (by omega), List.length_cons]
        omega
    refine ⟨?_, fun r hr => ?_⟩
    · rw [sizeL_cons, h3 ls (by omega), List.length_cons]
      omega
    · rcases List.mem_cons.1 hr with rfl | hr
      · omega
      · exact h2 r hr

def FewEndF (ls : List (List Nat)) (e : Ending) : Prop := ∃ b, e = .returned (.bool b) ∧ (b = true → minsF ls ≤ 1500 ∧ ls.length ≤ 60)

theorem fewF_le {ls : List (List Nat)} {k : Nat} : minsF (ls.take k) ≤ 2000 * k := by
  have h : ∀ ms : List (List Nat), minsF ms ≤ 2000 * ms.length := by
    intro ms
    induction ms with
    | nil => exact Nat.le_refl _
    | cons m ms ih =>
      rw [minsF_cons, List.length_cons]
      omega
  have := h (ls.take k)
  rw [List.length_take] at this
  omega

set_option maxHeartbeats 800000 in
theorem fewF_short (a : Option Addr) (n cap : Nat) (ls : List (List Nat)) (w : World) (hl : Parts w a n cap ls) (hn : n ≤ 60) :
    Calls Try.prog 8 #[.slice a n cap] w fun e w' => FewEndF ls e ∧ w = w' := by
  have hls := Lib.hid hl.len
  have hP := Lib.hid hl
  clear hl
  go_enter Try.func8, Try.ntmps8
  go_wp2
  go_loop [3, 4] (fun t i => ∃ k : Nat, k ≤ n ∧ i = .int .i64 k ∧ t = .int .i64 (minsF (ls.take k) : Nat)) (fun _ i => n - (intOf i).toNat)
  case atStart => exact ⟨0, Nat.zero_le _, rfl, rfl⟩
  case round =>
    obtain ⟨k, hk, rfl, rfl⟩ := hrel
    have hle := fewF_le (ls := ls) (k := k)
    by_cases hlt : k < n
    · obtain ⟨b, o, a', n', c', rfl, hc, hB⟩ := bytes_get_all hP.out hlt
      have hs := minsF_take (ls := ls) (show k < ls.length by rw [hls.out]; exact hlt)
      rw [hB.len] at hs
      have hcm := hB.max
      have Hs := Lib.hid hs
      clear hs hB
      generalize minsF (ls.take k) = m at *
      by_cases h1 : n' ≤ 2000
      · have h2 : (n' : Int) ≤ 2000 := by omega
        have Hs2 := Lib.hid (show minsF (ls.take (k + 1)) = m + n' by rw [Hs.out]; omega)
        go_wp2
        go_round
        case rel => exact ⟨k + 1, by omega, by go_num, by rw [Hs2.out]; go_num⟩
        case measure => simp [intOf]; omega
      · have h2 : (2000 : Int) < n' := by omega
        have Hs2 := Lib.hid (show minsF (ls.take (k + 1)) = m + 2000 by rw [Hs.out]; omega)
        go_wp2
        go_round
        case rel => exact ⟨k + 1, by omega, by go_num, by rw [Hs2.out]; go_num⟩
        case measure => simp [intOf]; omega
    · obtain rfl : k = n := by omega
      have ht : ls.take k = ls := by rw [← hls.out, List.take_length]
      rw [ht] at hle ⊢
      have hls' := hls.out
      generalize hm : minsF ls = m at *
      have Hm := Lib.hid hm
      clear hm ht
      have h2 : (k : Int) ≤ 60 := by omega
      go_wp2
      go_ret
      exact ⟨⟨_, rfl, fun h => ⟨by rw [Hm.out]; have := of_decide_eq_true h; omega, by omega⟩⟩, rfl⟩

set_option maxHeartbeats 800000 in
theorem fewF_long (a : Option Addr) (n cap : Nat) (ls : List (List Nat)) (w : World) (hl : Parts w a n cap ls) (hn : 60 < n) :
    Calls Try.prog 8 #[.slice a n cap] w fun e w' => FewEndF ls e ∧ w = w' := by
  have hls := Lib.hid hl.len
  have hnb := hl.max
  have hP := Lib.hid hl
  clear hl
  go_enter Try.func8, Try.ntmps8
  go_wp2
  go_loop [3, 4] (fun t i => ∃ (k : Nat) (z : Int), k ≤ n ∧ i = .int .i64 k ∧ t = .int .i64 z) (fun _ i => n - (intOf i).toNat)
  case atStart => exact ⟨0, 0, Nat.zero_le _, rfl, rfl⟩
  case round =>
    obtain ⟨k, z, hk, rfl, rfl⟩ := hrel
    by_cases hlt : k < n
    · obtain ⟨b, o, a', n', c', rfl, hc, hB⟩ := bytes_get_all hP.out hlt
      have hcm := hB.max
      clear hB
      by_cases h1 : n' ≤ 2000
      · have h2 : (n' : Int) ≤ 2000 := by omega
        go_wp2
        go_round
        case rel => exact ⟨k + 1, _, by omega, by go_num, rfl⟩
        case measure => simp [intOf]; omega
      · have h2 : (2000 : Int) < n' := by omega
        go_wp2
        go_round
        case rel => exact ⟨k + 1, _, by omega, by go_num, rfl⟩
        case measure => simp [intOf]; omega
    · obtain rfl : k = n := by omega
      have h2 : (60 : Int) < k := by omega
      go_wp2
      go_ret
      exact ⟨⟨false, rfl, fun h => by cases h⟩, rfl⟩

theorem fewF_any (a : Option Addr) (n cap : Nat) (ls : List (List Nat)) (w : World) (hl : Parts w a n cap ls) :
    Calls Try.prog 8 #[.slice a n cap] w fun e w' => FewEndF ls e ∧ w = w' := by
  by_cases hn : n ≤ 60
  · exact fewF_short a n cap ls w hl hn
  · exact fewF_long a n cap ls w hl (by omega)
end Go.Proofs.Ytmebffmdfnnbmaa
