/- The walk of the statement BinForms: it returns true whatever the numbers and the bytes are. -/
import Derived.Test.YtjkpcpoplpgecaaBytesF
import Derived.Test.YtjkpcpoplpgecaaEqual
namespace Go.Proofs.Ytjkpcpoplpgecaa
open Go.RowKit

theorem form_300 : form 300 = [172, 2] := by rw [form_big (by omega), form_small (by omega)]
theorem form_one : form (foldL (-1)) = [1] := by rw [show foldL (-1) = 1 from rfl, form_small (by omega)]

set_option maxRecDepth 100000 in
theorem alive_any (w : World) : Calls Try.prog 8 #[] w fun e w' => e = .returned (.bool true) ∧ Below w.heap.size w w' := by
  go_enter Try.func8, Try.ntmps8
  go_wp2_with fail
  refine (uint_any 300 w (by omega)).mono ?_
  rintro e w1 ⟨v, rfl, hown, hb1⟩
  rw [form_300] at hown
  obtain ⟨p, cp, rfl, hB⟩ := own_slice hown (by decide)
  have HB := Lib.hid hB
  clear hB hown
  go_wp2_with fail
  refine (int_any (-1) w1 (by omega) (by omega)).mono ?_
  rintro e w2 ⟨v, rfl, hown, hb2⟩
  have hw2 := hb1.trans (hb2.mono hb1.size)
  rw [form_one] at hown
  obtain ⟨q, cq, rfl, hC⟩ := own_slice hown (by decide)
  obtain ⟨b, o, rfl, hc⟩ := (HB.out.grow hb2).cell (by decide)
  obtain ⟨b', o', rfl, hc'⟩ := hC.cell (by decide)
  have c0 := hc 0 (by decide)
  have c1 := hc 1 (by decide)
  have c2 := hc' 0 (by decide)
  simp only [List.getD_cons_zero, List.getD_cons_succ, Nat.add_zero] at c0 c1 c2
  clear hc hc' hC hown hb1 hb2
  go_wp2
  go_ret
  exact ⟨rfl, hw2⟩

theorem equal_yes (a a' : Option Addr) (n cap n' cap' : Nat) (l : List Nat) (w : World) (hl : Bytes w a n cap l) (hl' : Bytes w a' n' cap' l) :
    Calls Try.prog 9 #[.slice a n cap, .slice a' n' cap'] w fun e w' => e = .returned (.bool true) ∧ Below w.heap.size w w' := by
  refine (equal_any a a' n cap n' cap' l l w hl hl').mono ?_
  rintro e w' ⟨rfl, hb⟩
  exact ⟨ret_bool (decide_eq_true rfl), hb⟩

set_option maxRecDepth 100000 in
set_option maxHeartbeats 1600000 in
theorem binForms_any (x : Nat) (y : Int) (a : Option Addr) (n cap : Nat) (l : List Nat) (w : World) (hx : x < 18446744073709551616) (h1 : -9223372036854775808 ≤ y) (h2 : y ≤ 9223372036854775807) (hl : Bytes w a n cap l) :
    Calls Try.prog 3 #[.int .u64 (x : Int), .int .i64 y, .slice a n cap] w fun e w' => e = .returned (.bool true) ∧ Below w.heap.size w w' := by
  have HB := Lib.hid hl
  clear hl
  by_cases hn : n ≤ 500
  · go_enter Try.func3, Try.ntmps3
    go_wp2_with fail
    refine (alive_any w).mono ?_
    rintro e w1 ⟨rfl, hw1⟩
    go_wp2_with fail
    refine (uint_any x w1 hx).mono ?_
    rintro e w2 ⟨v, rfl, hown, hb⟩
    have hw2 := hw1.trans (hb.mono hw1.size)
    obtain ⟨p1, c1, rfl, hA⟩ := own_slice hown (form_byte x)
    have HA := Lib.hid hA
    clear hA hown hb
    go_wp2_with fail
    refine (ruint_any x w2 hx).mono ?_
    rintro e w3 ⟨v, rfl, hown, hb⟩
    have hw3 := hw2.trans (hb.mono hw2.size)
    obtain ⟨p2, c2, rfl, hA'⟩ := own_slice hown (form_byte x)
    have HA' := Lib.hid hA'
    have HA2 := Lib.hid (HA.out.grow hb)
    clear hA' hown hb HA
    go_wp2_with fail
    refine (equal_yes _ _ _ _ _ _ _ w3 HA2.out HA'.out).mono ?_
    rintro e w4 ⟨rfl, hb⟩
    have hw4 := hw3.trans (hb.mono hw3.size)
    clear hb HA2 HA'
    go_wp2_with fail
    refine (int_any y w4 h1 h2).mono ?_
    rintro e w5 ⟨v, rfl, hown, hb⟩
    have hw5 := hw4.trans (hb.mono hw4.size)
    obtain ⟨p1, c1, rfl, hA⟩ := own_slice hown (form_byte _)
    have HA := Lib.hid hA
    clear hA hown hb
    go_wp2_with fail
    refine (rint_any y w5 h1 h2).mono ?_
    rintro e w6 ⟨v, rfl, hown, hb⟩
    have hw6 := hw5.trans (hb.mono hw5.size)
    obtain ⟨p2, c2, rfl, hA'⟩ := own_slice hown (form_byte _)
    have HA' := Lib.hid hA'
    have HA2 := Lib.hid (HA.out.grow hb)
    clear hA' hown hb HA
    go_wp2_with fail
    refine (equal_yes _ _ _ _ _ _ _ w6 HA2.out HA'.out).mono ?_
    rintro e w7 ⟨rfl, hb⟩
    have hw7 := hw6.trans (hb.mono hw6.size)
    clear hb HA2 HA'
    go_wp2_with fail
    refine (bytesF_any a n cap l w7 (HB.out.grow hw7) (by omega)).mono ?_
    rintro e w8 ⟨v, rfl, hown, hb⟩
    have hw8 := hw7.trans (hb.mono hw7.size)
    obtain ⟨p1, c1, rfl, hA⟩ := own_slice hown (formB_byte HB.out.byte)
    have HA := Lib.hid hA
    clear hA hown hb
    go_wp2_with fail
    refine (rbytesF_any a n cap l w8 (HB.out.grow hw8) (by omega)).mono ?_
    rintro e w9 ⟨v, rfl, hown, hb⟩
    have hw9 := hw8.trans (hb.mono hw8.size)
    obtain ⟨p2, c2, rfl, hA'⟩ := own_slice hown (formB_byte HB.out.byte)
    have HA' := Lib.hid hA'
    have HA2 := Lib.hid (HA.out.grow hb)
    clear hA' hown hb HA
    go_wp2_with fail
    refine (equal_yes _ _ _ _ _ _ _ w9 HA2.out HA'.out).mono ?_
    rintro e w10 ⟨rfl, hb⟩
    have hw10 := hw9.trans (hb.mono hw9.size)
    clear hb HA2 HA'
    have hcv := convert_bytes (P := Try.prog) (HB.out.grow hw10) 23 5 9 Try.underlying23 Try.underlying5 Try.underlying9
    have hlen : l.length ≤ 500 := by rw [HB.out.len]; exact hn
    go_wp2_with fail
    refine (textF_any l w10 HB.out.byte (by omega)).mono ?_
    rintro e w11 ⟨v, rfl, hown, hb⟩
    have hw11 := hw10.trans (hb.mono hw10.size)
    obtain ⟨p1, c1, rfl, hA⟩ := own_slice hown (formB_byte HB.out.byte)
    have HA := Lib.hid hA
    clear hA hown hb hcv
    go_wp2_with fail
    refine (rbytesF_any a n cap l w11 (HB.out.grow hw11) (by omega)).mono ?_
    rintro e w12 ⟨v, rfl, hown, hb⟩
    have hw12 := hw11.trans (hb.mono hw11.size)
    obtain ⟨p2, c2, rfl, hA'⟩ := own_slice hown (formB_byte HB.out.byte)
    have HA' := Lib.hid hA'
    have HA2 := Lib.hid (HA.out.grow hb)
    clear hA' hown hb HA
    go_wp2_with fail
    refine (equal_yes _ _ _ _ _ _ _ w12 HA2.out HA'.out).mono ?_
    rintro e w13 ⟨rfl, hb⟩
    go_wp2
    go_ret
    exact ⟨rfl, hw12.trans (hb.mono hw12.size)⟩
  · have hn' : (500 : Int) < (n : Int) := by omega
    go_enter Try.func3, Try.ntmps3
    go_wp2_with ((with_reducible refine (alive_any _).mono ?_); rintro e w1 ⟨rfl, hb1⟩)
    go_ret
    exact ⟨rfl, hb1⟩
end Go.Proofs.Ytjkpcpoplpgecaa
