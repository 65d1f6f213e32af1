/- The walk of the statement SumJoins: it returns true whatever the bytes are. -/
import Derived.Test.YtpgnmphfhihffaaMore
import Derived.Test.YtpgnmphfhihffaaJoin
namespace Go.Proofs.Ytpgnmphfhihffaa
open Go.RowKit Crc

theorem join_x0 (x : Nat) (w : World) (hx : x < 4294967296) :
    Calls Try.prog 15 #[.int .u32 (x : Int), .int .u32 0, .int .i64 0] w fun e w' => e = .returned (.int .u32 (x : Int)) ∧ w = w' := by
  have h := join_any x 0 0 w hx (by omega) (by omega)
  rw [show steps (8 * 0) x ^^^ 0 = x from Nat.xor_zero x] at h
  exact h
theorem join_0y (y n : Nat) (w : World) (hy : y < 4294967296) (hn : n ≤ 9223372036854775807) :
    Calls Try.prog 15 #[.int .u32 0, .int .u32 (y : Int), .int .i64 (n : Int)] w fun e w' => e = .returned (.int .u32 (y : Int)) ∧ w = w' := by
  have h := join_any 0 y n w (by omega) hy hn
  rw [steps_zero, Nat.zero_xor] at h
  exact h

set_option maxHeartbeats 1600000 in
theorem sumJoins_any (a a' : Option Addr) (n cap n' cap' : Nat) (l l' : List Nat) (w : World) (hl : Bytes w a n cap l) (hl' : Bytes w a' n' cap' l') :
    Calls Try.prog 5 #[.slice a n cap, .slice a' n' cap'] w fun e w' => e = .returned (.bool true) ∧ Below w.heap.size w w' := by
  have hB := Lib.hid hl
  have hB' := Lib.hid hl'
  have hmx := hl'.max
  have hX := inv_lt (feedL 4294967295 l)
  have hY := inv_lt (feedL 4294967295 l')
  have hj := join_sum hl.byte hl'.byte
  rw [hl'.len] at hj
  have hj := Lib.hid hj
  rename_i hj0
  clear hl hl' hj0
  generalize hx : inv (feedL 4294967295 l) = x at hX hj
  generalize hy : inv (feedL 4294967295 l') = y at hY hj
  have hx := Lib.hid hx
  have hy := Lib.hid hy
  rename_i hx0 hy0
  clear hx0 hy0
  go_enter Try.func5, Try.ntmps5
  go_wp2_with fail
  refine (few_any _ 2 2 [l, l'] _ (parts_two hB.out hB'.out _ rfl)).mono ?_
  rintro e w0 ⟨⟨b, rfl, hb⟩, rfl⟩
  have hw0 : Below w.heap.size w (w.alloc (.cells #[.slice a n cap, .slice a' n' cap'] 28)) := (Below.refl _ _).alloc (Nat.le_refl _) _
  generalize w.alloc (.cells #[.slice a n cap, .slice a' n' cap'] 28) = w0 at *
  have hb := Lib.hid hb
  rename_i hb0; clear hb0
  cases b
  · go_wp2_with ((with_reducible refine (alive_any _).mono ?_); rintro e w1 ⟨rfl, hb1⟩)
    go_ret
    exact ⟨rfl, hw0.trans (hb1.mono hw0.size)⟩
  · obtain ⟨hm, h60⟩ := hb.out rfl
    have hfl := mins_flat hm
    clear hm h60
    go_wp2_with fail
    refine (rsum_any a n cap l w0 (hB.out.grow hw0)).mono ?_
    rintro e w0 ⟨rfl, rfl⟩
    rw [hx.out]
    go_wp2_with fail
    refine (rsum_any a' n' cap' l' w0 (hB'.out.grow hw0)).mono ?_
    rintro e w0 ⟨rfl, rfl⟩
    rw [hy.out]
    go_wp2_with fail
    refine (alive_any _).mono ?_
    rintro e w1 ⟨rfl, hb1⟩
    have hw1 : Below w.heap.size w w1 := hw0.trans (hb1.mono hw0.size)
    go_wp2_with fail
    refine (join_any x y n' w1 hX hY hmx).mono ?_
    rintro e w1 ⟨rfl, rfl⟩
    rw [hj.out]
    go_wp2_with fail
    refine (cat_any _ 2 2 [l, l'] _ (parts_two (hB.out.grow hw1) (hB'.out.grow hw1) _ rfl) (by omega)).mono ?_
    rintro e w4 ⟨v, rfl, hown, hb4⟩
    have hb4 := below_call hb4
    have hw4 : Below w.heap.size w w4 := hw1.trans (hb4.mono hw1.size)
    obtain ⟨p, cp, rfl, hC⟩ := own_slice hown (fun x hx => by
      have : x ∈ l ∨ x ∈ l' := by simpa using hx
      rcases this with h | h
      · exact hB.out.byte _ h
      · exact hB'.out.byte _ h)
    have heq : (((inv (feedL 4294967295 (l ++ l')) : Nat) : Int) == ((inv (feedL 4294967295 [l, l'].flatten) : Nat) : Int)) = true := by simp
    clear hown hfl hb4 hb1
    generalize [l, l'].flatten = fl at *
    have hC := Lib.hid hC
    rename_i hC0; clear hC0
    go_wp2_with fail
    refine (rsum_any p _ cp _ w4 hC.out).mono ?_
    rintro e w4 ⟨rfl, rfl⟩
    go_wp2_with fail
    refine (join_x0 x w4 hX).mono ?_
    rintro e w4 ⟨rfl, rfl⟩
    go_wp2_with fail
    refine (join_0y y n' w4 hY hmx).mono ?_
    rintro e w4 ⟨rfl, rfl⟩
    go_wp2
    go_ret
    exact ⟨rfl, hw4⟩
end Go.Proofs.Ytpgnmphfhihffaa
