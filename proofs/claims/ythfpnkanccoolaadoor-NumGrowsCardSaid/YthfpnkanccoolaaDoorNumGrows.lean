/- The statement NumGrows answers true. -/
import Derived.Test.YthfpnkanccoolaaDoorNumA
namespace Go.Proofs.YthfpnkanccoolaaDoor
open Go.RowKit Fl

theorem scale_by_one (k : Nat) (w : World) (hk : k < 9007199254740992) : Calls Tryd.prog 25 #[.int .u64 (k : Int), .float .f64 4607182418800017408] w fun e w' => e = .returned (.int .u64 (k : Int)) ∧ Below w.heap.size w w' := by
  have h := scale_any k 4607182418800017408 w (by omega) (by omega)
  have e : scaleB k one = k := scaleB_one (by rw [show 2 * B = 9007199254740992 by decide]; exact hk)
  have e1 : one = 4607182418800017408 := by decide +kernel
  rw [e1] at e
  rw [e] at h
  exact h

set_option maxRecDepth 100000 in
set_option maxHeartbeats 1600000 in
theorem numGrows_any (n x y : Nat) (w : World) (hn : n < 18446744073709551616) (hx : x < 18446744073709551616) (hy : y < 18446744073709551616) (ht : Tab16 w) :
    Calls Tryd.prog 8 #[.int .u64 (n : Int), .int .u64 (x : Int), .int .u64 (y : Int)] w fun e w' => e = .returned (.bool true) ∧ Below w.heap.size w w' := by
  have hxf := run_frombits x w
  have hyf := run_frombits y w
  have H1 := Lib.hid (rcompare_any x y w hx hy)
  have H2 := Lib.hid (fun w => scale_any n x w hn hx)
  have H3 := Lib.hid (fun w => scale_any n y w hn hy)
  have HA := Lib.hid (alive_any w ht)
  have hso := self_order hy
  by_cases hc : 0 < cmpB x y
  · have hd : decide (0 < cmpB x y) = true := decide_eq_true hc
    clear hn hx hy ht hso
    generalize cmpB x y = c at *
    go_enter Tryd.func8, Tryd.ntmps8
    go_wp2_with fail
    refine H1.out.mono ?_
    rintro e w' ⟨rfl, rfl⟩
    go_wp2_with fail
    refine HA.out.mono ?_
    rintro e w1 ⟨rfl, hb1⟩
    go_wp2
    go_ret
    exact ⟨rfl, hb1⟩
  have hd : decide (0 < cmpB x y) = false := decide_eq_false hc
  by_cases hq : I < y % W
  · rw [decide_eq_true hq] at hso
    clear hn hx hy ht hq hc
    generalize cmpB x y = c at *
    go_enter Tryd.func8, Tryd.ntmps8
    go_wp2_with fail
    refine H1.out.mono ?_
    rintro e w' ⟨rfl, rfl⟩
    go_wp2_with fail
    refine HA.out.mono ?_
    rintro e w1 ⟨rfl, hb1⟩
    go_wp2
    go_ret
    exact ⟨rfl, hb1⟩
  · rw [decide_eq_false hq] at hso
    have hle : scaleB n x ≤ scaleB n y := scaleB_mono hy (by omega) hq
    have hle2 : (scaleB n x : Int) ≤ (scaleB n y : Int) := by omega
    have hk : n % 9007199254740992 < 9007199254740992 := Nat.mod_lt _ (by omega)
    have H4 := Lib.hid (fun w => scale_by_one (n % 9007199254740992) w hk)
    have hmod : (n : Int) % 9007199254740992 = ((n % 9007199254740992 : Nat) : Int) := by omega
    clear hn hx hy ht hq hc hle hk
    generalize cmpB x y = c at *
    generalize scaleB n x = sx at *
    generalize scaleB n y = sy at *
    generalize n % 9007199254740992 = k at *
    go_enter Tryd.func8, Tryd.ntmps8
    go_wp2_with fail
    refine H1.out.mono ?_
    rintro e w' ⟨rfl, rfl⟩
    go_wp2_with fail
    refine HA.out.mono ?_
    rintro e w1 ⟨rfl, hb1⟩
    go_wp2_with fail
    refine (H2.out w1).mono ?_
    rintro e w2 ⟨rfl, hb2⟩
    go_wp2_with fail
    refine (H3.out w2).mono ?_
    rintro e w3 ⟨rfl, hb3⟩
    go_wp2_with fail
    refine (H4.out w3).mono ?_
    rintro e w4 ⟨rfl, hb4⟩
    go_wp2
    go_ret
    have g2 := hb1.trans (hb2.mono hb1.size)
    have g3 := g2.trans (hb3.mono g2.size)
    exact ⟨rfl, g3.trans (hb4.mono g3.size)⟩
end Go.Proofs.YthfpnkanccoolaaDoor
