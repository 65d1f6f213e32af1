/- The statement NumScales answers true. -/
import Derived.Test.YthfpnkanccoolaaDoorNumA
namespace Go.Proofs.YthfpnkanccoolaaDoor
open Go.RowKit Fl

theorem scale_zero (n : Nat) (w : World) (hn : n < 18446744073709551616) : Calls Tryd.prog 25 #[.int .u64 (n : Int), .float .f64 0] w fun e w' => e = .returned (.int .u64 0) ∧ Below w.heap.size w w' := by
  have h := scale_any n 0 w hn (by omega)
  have e : scaleB n 0 = 0 := if_pos (.inr (.inr (.inl (by decide +kernel))))
  rw [e] at h
  exact h

set_option maxRecDepth 100000 in
set_option maxHeartbeats 1600000 in
theorem numScales_any (n m b : Nat) (w : World) (hn : n < 18446744073709551616) (hm : m < 18446744073709551616) (hb : b < 18446744073709551616) (ht : Tab16 w) :
    Calls Tryd.prog 7 #[.int .u64 (n : Int), .int .u64 (m : Int), .int .u64 (b : Int)] w fun e w' => e = .returned (.bool true) ∧ Below w.heap.size w w' := by
  have hxf := run_frombits b w
  have H1 := Lib.hid (scale_any n b w hn hb)
  have H2 := Lib.hid (fun w => add_any n m w hn hm)
  have H3 := Lib.hid (fun w => rscale_any n b w hn hb)
  have H4 := Lib.hid (fun w => radd_any n m w hn hm)
  have H5 := Lib.hid (fun w => add_any m n w hm hn)
  have H6 := Lib.hid (fun w => scale_zero n w hn)
  have HA := Lib.hid (fun (w : World) (h : Tab16 w) => alive_any w h)
  have Ht := Lib.hid ht
  rw [addN_comm n m] at H5
  have l1 := scaleB_le n b
  have l2 := addN_le n m
  clear hn hm hb ht
  generalize scaleB n b = x at *
  generalize addN n m = y at *
  have hx : (x : Int) < 9223372036854775808 := by omega
  have hy : (y : Int) < 9223372036854775808 := by omega
  clear l1 l2
  go_enter Tryd.func7, Tryd.ntmps7
  go_wp2_with fail
  refine H1.out.mono ?_
  rintro e w1 ⟨rfl, hb1⟩
  go_wp2_with fail
  refine (H2.out w1).mono ?_
  rintro e w' ⟨rfl, rfl⟩
  go_wp2_with fail
  refine (HA.out _ (Ht.out.below hb1)).mono ?_
  rintro e w2 ⟨rfl, hb2⟩
  go_wp2_with fail
  refine (H3.out w2).mono ?_
  rintro e w' ⟨rfl, rfl⟩
  go_wp2_with fail
  refine (H4.out _).mono ?_
  rintro e w' ⟨rfl, rfl⟩
  go_wp2_with fail
  refine (H5.out _).mono ?_
  rintro e w' ⟨rfl, rfl⟩
  go_wp2_with fail
  refine (H6.out _).mono ?_
  rintro e w3 ⟨rfl, hb3⟩
  go_wp2
  go_ret
  exact ⟨rfl, (hb1.trans (hb2.mono hb1.size)).trans (hb3.mono (hb1.trans (hb2.mono hb1.size)).size)⟩
end Go.Proofs.YthfpnkanccoolaaDoor
