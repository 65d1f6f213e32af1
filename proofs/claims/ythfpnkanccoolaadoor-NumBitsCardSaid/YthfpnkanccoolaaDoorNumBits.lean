/- The statement NumBits answers true. -/
import Derived.Test.YthfpnkanccoolaaDoorNumA
namespace Go.Proofs.YthfpnkanccoolaaDoor
open Go.RowKit Fl

set_option maxRecDepth 100000 in
set_option maxHeartbeats 1600000 in
theorem numBits_any (b : Nat) (w : World) (hb : b < 18446744073709551616) (ht : Tab16 w) :
    Calls Tryd.prog 3 #[.int .u64 (b : Int)] w fun e w' => e = .returned (.bool true) ∧ Below w.heap.size w w' := by
  have H1 := Lib.hid (of_any b w hb)
  have H2 := Lib.hid (rof_any b w hb)
  have H3 := Lib.hid (bits_any b w hb)
  have H4 := Lib.hid (fun w => rbits_any b w hb)
  have H5 := Lib.hid (fun w => canon_any b w hb)
  have H6 := Lib.hid (fun w => bits_any b w hb)
  have HA := Lib.hid (alive_any w ht)
  have hxf := run_frombits b w
  have hxb := run_bits b w
  have hx0 := run_bits 0 w
  have Hxc := Lib.hid (fun w => run_bits (bitsB b) w)
  by_cases h : bitsB b = b
  · have e : ofB b = some b := by rw [ofB_bits, if_pos h]
    rw [e] at H1 H2
    rw [h] at H3 H4 H5 H6 Hxc
    clear h e hb ht
    go_enter Tryd.func3, Tryd.ntmps3
    go_wp2_with fail
    refine H1.out.mono ?_
    rintro e w' ⟨rfl, rfl⟩
    go_wp2_with fail
    refine H2.out.mono ?_
    rintro e w' ⟨rfl, rfl⟩
    go_wp2_with fail
    refine H3.out.mono ?_
    rintro e w' ⟨rfl, rfl⟩
    go_wp2_with fail
    refine (H4.out _).mono ?_
    rintro e w' ⟨rfl, rfl⟩
    go_wp2_with fail
    refine HA.out.mono ?_
    rintro e w1 ⟨rfl, hb1⟩
    go_wp2_with fail
    refine (H5.out w1).mono ?_
    rintro e w' ⟨rfl, rfl⟩
    have hxc := Hxc.out w1
    go_wp2_with fail
    refine (H4.out _).mono ?_
    rintro e w' ⟨rfl, rfl⟩
    go_wp2_with fail
    refine (H6.out _).mono ?_
    rintro e w' ⟨rfl, rfl⟩
    go_wp2
    go_ret
    exact ⟨rfl, hb1⟩
  · have e : ofB b = none := by rw [ofB_bits, if_neg h]
    rw [e] at H1 H2
    clear h e hb ht
    generalize bitsB b = q at *
    go_enter Tryd.func3, Tryd.ntmps3
    go_wp2_with fail
    refine H1.out.mono ?_
    rintro e w' ⟨rfl, rfl⟩
    go_wp2_with fail
    refine H2.out.mono ?_
    rintro e w' ⟨rfl, rfl⟩
    have hx00 : (callFunc 12 #[.float .f64 0]).run Tryd.prog w = .ok (.value (.int .u64 0)) w := hx0
    go_wp2_with fail
    refine H3.out.mono ?_
    rintro e w' ⟨rfl, rfl⟩
    go_wp2_with fail
    refine (H4.out _).mono ?_
    rintro e w' ⟨rfl, rfl⟩
    go_wp2_with fail
    refine HA.out.mono ?_
    rintro e w1 ⟨rfl, hb1⟩
    go_wp2_with fail
    refine (H5.out w1).mono ?_
    rintro e w' ⟨rfl, rfl⟩
    have hxc := Hxc.out w1
    go_wp2_with fail
    refine (H4.out _).mono ?_
    rintro e w' ⟨rfl, rfl⟩
    go_wp2
    go_ret
    exact ⟨rfl, hb1⟩
end Go.Proofs.YthfpnkanccoolaaDoor
