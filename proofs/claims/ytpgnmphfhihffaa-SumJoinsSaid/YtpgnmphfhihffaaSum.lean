/- The walks of the code's Sum and More, of the statements' own helpers alive and few, and of the reference's Cat. -/
import Derived.Test.YtpgnmphfhihffaaFeed
import Derived.Lib.SlBytesConst
namespace Go.Proofs.Ytpgnmphfhihffaa
open Go.RowKit Crc

theorem sum_any (a : Option Addr) (n cap : Nat) (ls : List (List Nat)) (w : World) (hl : Parts w a n cap ls) (hby : ∀ l ∈ ls, ∀ x ∈ l, x < 256) :
    Calls Try.prog 10 #[.slice a n cap] w fun e w' => e = .returned (.int .u32 (inv (feedP 4294967295 ls) : Nat)) ∧ Below w.heap.size w w' := by
  have hb := feedP_lt (r := 4294967295) (by omega) hby
  have H0 := feed_any 4294967295 a n cap ls w (by omega) hl
  rw [show (((4294967295 : Nat) : Int)) = 4294967295 from rfl] at H0
  have H := Lib.hid H0
  clear hl hby H0
  have e1 := inv_bits hb
  go_enter Try.func10, Try.ntmps10
  go_wp2_with ((with_reducible refine H.out.mono ?_); rintro e w1 ⟨rfl, hb1⟩)
  go_ret
  exact ⟨rfl, hb1⟩

theorem more_any (r : Nat) (a : Option Addr) (n cap : Nat) (l : List Nat) (w : World) (hr : r < 4294967296) (hl : Bytes w a n cap l) :
    Calls Try.prog 13 #[.int .u32 (r : Int), .slice a n cap] w fun e w' => e = .returned (.int .u32 (inv (feedL (inv r) l) : Nat)) ∧ Below w.heap.size w w' := by
  have hi : inv r < 4294967296 := by unfold inv; omega
  have H := Lib.hid (feed_any (inv r) _ 1 1 [l] _ hi (parts_one hl 28))
  have hb : feedP (inv r) [l] < 4294967296 := feedL_lt hi hl.byte
  have e1 := inv_bits hb
  have e0 := inv_bits hr
  clear hl
  go_enter Try.func13, Try.ntmps13
  go_wp2_with ((with_reducible refine H.out.mono ?_); rintro e w1 ⟨rfl, hb1⟩)
  go_ret
  exact ⟨rfl, below_call hb1⟩

theorem alive_any (w : World) :
    Calls Try.prog 9 #[] w fun e w' => e = .returned (.bool true) ∧ Below w.heap.size w w' := by
  have kc := fun (w : World) (C : Array Value) (n c : Nat) => Lib.run_convert_bytes_const (P := Try.prog) w 28 5 C n c Try.underlying28 Try.underlying5
  have hB : Bytes (w.alloc (.cells #[.int .u8 49, .int .u8 50, .int .u8 51, .int .u8 52, .int .u8 53, .int .u8 54, .int .u8 55, .int .u8 56, .int .u8 57] 5 (9, 10))) (some ⟨w.heap.size, 0, none⟩) 9 9 [49, 50, 51, 52, 53, 54, 55, 56, 57] := by
    refine ⟨rfl, Nat.le_refl _, by omega, by decide, fun h => (by cases h), fun _ => ⟨_, _, rfl, fun i hi => ?_⟩⟩
    rw [Nat.zero_add, cell_of_row _ _ _ _ _ (9, 10) (heap_alloc_new _ _)]
    rcases i with _ | _ | _ | _ | _ | _ | _ | _ | _ | i
    all_goals first | rfl | omega
  have H0 := sum_any _ 1 1 [[49, 50, 51, 52, 53, 54, 55, 56, 57]] _ (parts_one_at (g := w.heap.size + 1) hB 28 (by simp)) (by decide)
  have e1 : inv (feedP 4294967295 [[49, 50, 51, 52, 53, 54, 55, 56, 57]]) = 3808858755 := Crc.example_sum
  rw [e1, show (((3808858755 : Nat) : Int)) = 3808858755 from rfl] at H0
  have H := Lib.hid H0
  clear hB e1 H0
  go_enter Try.func9, Try.ntmps9
  go_wp2_with ((with_reducible refine H.out.mono ?_); rintro e w1 ⟨rfl, hb1⟩)
  go_ret
  exact ⟨rfl, below_call (below_call hb1)⟩

/-- The sum that the statements' helper few makes. -/
def mins (ls : List (List Nat)) : Nat := (ls.map fun l => min l.length 2000).sum

theorem mins_take {ls : List (List Nat)} {k : Nat} (h : k < ls.length) : mins (ls.take (k + 1)) = mins (ls.take k) + min (ls.getD k []).length 2000 := by
  unfold mins
  rw [takeP_snoc h]; simp

theorem mins_flat {ls : List (List Nat)} (h : mins ls ≤ 1500) : ls.flatten.length ≤ 1500 := by
  have : ls.flatten.length = mins ls := by
    induction ls with
    | nil => rfl
    | cons l ls ih =>
      have e : mins (l :: ls) = min l.length 2000 + mins ls := by simp [mins]
      rw [e] at h ⊢
      rw [List.flatten_cons, List.length_append, ih (by omega)]
      omega
  omega

def FewEnd (ls : List (List Nat)) (e : Ending) : Prop := ∃ b, e = .returned (.bool b) ∧ (b = true → mins ls ≤ 1500 ∧ ls.length ≤ 60)

set_option maxHeartbeats 800000 in
theorem few_any (a : Option Addr) (n cap : Nat) (ls : List (List Nat)) (w : World) (hl : Parts w a n cap ls) :
    Calls Try.prog 8 #[.slice a n cap] w fun e w' => FewEnd ls e ∧ w = w' := by
  have hls := Lib.hid hl.len
  have hnb := hl.max
  have hcells := Lib.hid hl.cell
  clear hl
  go_enter Try.func8, Try.ntmps8
  go_wp2
  go_loop [3, 8] (fun t i => ∃ k : Nat, k ≤ n ∧ i = .int .i64 k ∧ t = .int .i64 (mins (ls.take k) : Nat) ∧ mins (ls.take k) ≤ 1500) (fun _ i => n - (intOf i).toNat)
  case atStart => exact ⟨0, Nat.zero_le _, rfl, rfl, Nat.zero_le _⟩
  case round =>
    obtain ⟨k, hk, rfl, rfl, hm⟩ := hrel
    by_cases hlt : k < n
    · obtain ⟨b, o, rfl, hbl, hc0⟩ := hcells.out (by omega)
      obtain ⟨a', n', c', hc, hB⟩ := hc0 k hlt
      have hs := Lib.hid (mins_take (ls := ls) (show k < ls.length by rw [hls.out]; exact hlt))
      have hn' := Lib.hid hB.len
      have hnb' := hB.max
      clear hc0 hB
      generalize mins (ls.take k) = m at *
      rename_i hs0; clear hs0
      by_cases h1 : n' ≤ 2000
      · by_cases h2 : m + n' ≤ 1500
        · have hs2 : mins (ls.take (k + 1)) = m + n' := by rw [hs.out, hn'.out]; omega
          have hs2 := Lib.hid hs2
          rename_i hs20; clear hs20
          have h3 : ((m : Int) + n') ≤ 1500 := by omega
          go_wp2
          go_round
          case rel => exact ⟨k + 1, by omega, by go_num, by rw [hs2.out]; go_num, by rw [hs2.out]; exact h2⟩
          case measure => simp [intOf]; omega
        · have h3 : 1500 < ((m : Int) + n') := by omega
          go_wp2
          go_ret
          exact ⟨⟨false, rfl, fun h => by cases h⟩, rfl⟩
      · have h3 : 2000 < (n' : Int) := by omega
        have h4 : 1500 < (m : Int) + 2000 := by omega
        go_wp2
        go_ret
        exact ⟨⟨false, rfl, fun h => by cases h⟩, rfl⟩
    · obtain rfl : k = n := by omega
      have ht : ls.take k = ls := by rw [← hls.out, List.take_length]
      go_wp2
      go_ret
      exact ⟨⟨_, rfl, fun h => ⟨by rw [← ht]; exact hm, by have h := of_decide_eq_true h; rw [hls.out]; omega⟩⟩, rfl⟩
end Go.Proofs.Ytpgnmphfhihffaa
