/- The walk of the statement SumMore: it returns true whatever the bytes and the number are. -/
import Derived.Test.YtpgnmphfhihffaaCat
namespace Go.Proofs.Ytpgnmphfhihffaa
open Go.RowKit Crc

theorem inv_inv {x : Nat} (h : x < 4294967296) : inv (inv x) = x := by unfold inv; omega
theorem inv_lt (x : Nat) : inv x < 4294967296 := by unfold inv; omega

set_option maxHeartbeats 1600000 in
theorem sumMore_any (a a' : Option Addr) (n cap n' cap' : Nat) (l l' : List Nat) (x : Nat) (w : World) (hx : x < 4294967296) (hl : Bytes w a n cap l) (hl' : Bytes w a' n' cap' l') :
    Calls Try.prog 4 #[.slice a n cap, .slice a' n' cap', .int .u32 (x : Int)] w fun e w' => e = .returned (.bool true) ∧ Below w.heap.size w w' := by
  have hB := Lib.hid hl
  have hB' := Lib.hid hl'
  have hS : feedL 4294967295 l < 4294967296 := feedL_lt (by omega) hl.byte
  clear hl hl'
  go_enter Try.func4, Try.ntmps4
  go_wp2_with fail
  refine (few_any _ 2 2 [l, l'] _ (parts_two hB.out hB'.out _ rfl)).mono ?_
  rintro e w0 ⟨⟨b, rfl, hb⟩, rfl⟩
  have hw0 : Below w.heap.size w (w.alloc (.cells #[.slice a n cap, .slice a' n' cap'] 28)) := (Below.refl _ _).alloc (Nat.le_refl _) _
  generalize w.alloc (.cells #[.slice a n cap, .slice a' n' cap'] 28) = w0 at *
  have hb := Lib.hid hb
  rename_i hb0; clear hb0
  cases b
  · go_wp2_with ((with_reducible refine (alive_any _).mono ?_); rintro e w1 ⟨rfl, hb1⟩)
    go_ret
    exact ⟨rfl, hw0.trans (hb1.mono hw0.size)⟩
  · obtain ⟨hm, h60⟩ := hb.out rfl
    have hfl := mins_flat hm
    clear hm h60
    go_wp2_with fail
    refine (alive_any _).mono ?_
    rintro e w1 ⟨rfl, hb1⟩
    have hw1 : Below w.heap.size w w1 := hw0.trans (hb1.mono hw0.size)
    go_wp2_with fail
    refine (sum_any _ 1 1 [l] _ (parts_one (hB.out.grow hw1) _) (byte_one hB.out.byte)).mono ?_
    rintro e w2 ⟨rfl, hb2⟩
    have hb2 := below_call hb2
    have hw2 : Below w.heap.size w w2 := hw1.trans (hb2.mono hw1.size)
    have e1 : feedP 4294967295 [l] = feedL 4294967295 l := rfl
    have e1 := Lib.hid e1
    rename_i e10; clear e10
    have hy := inv_lt (feedP 4294967295 [l])
    go_wp2_with fail
    refine (more_any _ a' n' cap' l' w2 hy (hB'.out.grow hw2)).mono ?_
    rintro e w3 ⟨rfl, hb3⟩
    have hw3 : Below w.heap.size w w3 := hw2.trans (hb3.mono hw2.size)
    go_wp2_with fail
    refine (cat_any _ 2 2 [l, l'] _ (parts_two (hB.out.grow hw3) (hB'.out.grow hw3) _ rfl) (by omega)).mono ?_
    rintro e w4 ⟨v, rfl, hown, hb4⟩
    have hb4 := below_call hb4
    have hw4 : Below w.heap.size w w4 := hw3.trans (hb4.mono hw3.size)
    obtain ⟨p, cp, rfl, hC⟩ := own_slice hown (fun x hx => by
      have : x ∈ l ∨ x ∈ l' := by simpa using hx
      rcases this with h | h
      · exact hB.out.byte _ h
      · exact hB'.out.byte _ h)
    have heq : (((inv (feedL (inv (inv (feedP 4294967295 [l]))) l') : Nat) : Int) == ((inv (feedL 4294967295 [l, l'].flatten) : Nat) : Int)) = true := by
      rw [e1.out, inv_inv hS, ← feedL_append]; simp
    clear hown hfl hb4 hb3 hb2 hb1
    generalize [l, l'].flatten = fl at *
    have hC := Lib.hid hC
    rename_i hC0; clear hC0
    go_wp2_with fail
    refine (rsum_any p _ cp _ w4 hC.out).mono ?_
    rintro e w4 ⟨rfl, rfl⟩
    go_wp2_with fail
    refine (more_any x a' n' cap' l' w4 hx (hB'.out.grow hw4)).mono ?_
    rintro e w5 ⟨rfl, hb5⟩
    have hw5 : Below w.heap.size w w5 := hw4.trans (hb5.mono hw4.size)
    go_wp2_with fail
    refine (rmore_any x a' n' cap' l' w5 hx (hB'.out.grow hw5)).mono ?_
    rintro e w5 ⟨rfl, rfl⟩
    go_wp2_with fail
    refine (more_any x none 0 0 [] w5 hx (bytes_nil w5)).mono ?_
    rintro e w6 ⟨rfl, hb6⟩
    have hw6 : Below w.heap.size w w6 := hw5.trans (hb6.mono hw5.size)
    have e3 : inv (feedL (inv x) []) = x := inv_inv hx
    rw [e3]
    clear e3
    go_wp2
    go_ret
    exact ⟨rfl, hw6⟩
end Go.Proofs.Ytpgnmphfhihffaa
