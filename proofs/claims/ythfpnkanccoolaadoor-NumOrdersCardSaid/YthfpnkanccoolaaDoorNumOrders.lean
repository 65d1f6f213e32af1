/- The statement NumOrders answers true. -/
import Derived.Test.YthfpnkanccoolaaDoorNumA
namespace Go.Proofs.YthfpnkanccoolaaDoor
open Go.RowKit Fl

theorem cmpR_three (x y : Nat) : cmpR x y = -1 ∨ cmpR x y = 0 ∨ cmpR x y = 1 := by
  unfold cmpR
  split
  · exact .inl rfl
  · split
    · exact .inr (.inr rfl)
    · exact .inr (.inl rfl)

set_option maxRecDepth 100000 in
set_option maxHeartbeats 1600000 in
theorem numOrders_any (x y z : Nat) (w : World) (hx : x < 18446744073709551616) (hy : y < 18446744073709551616) (hz : z < 18446744073709551616) (ht : Tab16 w) :
    Calls Tryd.prog 4 #[.int .u64 (x : Int), .int .u64 (y : Int), .int .u64 (z : Int)] w fun e w' => e = .returned (.bool true) ∧ Below w.heap.size w w' := by
  have hxf := run_frombits x w
  have hyf := run_frombits y w
  have hzf := run_frombits z w
  have H1 := Lib.hid (fun w => compare_any x y w hx hy)
  have H2 := Lib.hid (fun w => rcompare_any x y w hx hy)
  have H3 := Lib.hid (fun w => compare_any y x w hy hx)
  have H4 := Lib.hid (fun w => same_any x y w hx hy)
  have H5 := Lib.hid (fun w => rsame_any x y w hx hy)
  have H7 := Lib.hid (fun w => compare_any y z w hy hz)
  have H8 := Lib.hid (fun w => compare_any x z w hx hz)
  have HA := Lib.hid (alive_any w ht)
  have Hless := Lib.hid (fun h => less_cmp hx hy h)
  have Htrans := Lib.hid (fun h1 h2 => cmpB_trans (a := x) (b := y) (c := z) h1 h2)
  have hneg := cmpB_neg x y
  have hzero := cmpB_zero hx hy
  have h3 : cmpB x y = -1 ∨ cmpB x y = 0 ∨ cmpB x y = 1 := cmpR_three _ _
  clear hx hy hz ht
  generalize cmpB x y = n at *
  generalize cmpB y x = n' at *
  generalize cmpB y z = c at *
  generalize cmpB x z = d at *
  rcases h3 with rfl | rfl | rfl
  · have e1 : n' = 1 := by omega
    have e2 : decide (bitsB x = bitsB y) = false := decide_eq_false (fun h => by have := hzero.2 h; omega)
    rw [e2] at H4 H5
    subst e1
    clear hneg hzero e2 Hless
    generalize hv : (FloatKind.f64.format.order x y == some .lt) = v
    by_cases hc : 0 < c
    · have d1 : decide (0 < c) = true := decide_eq_true hc
      clear hc Htrans
      go_enter Tryd.func4, Tryd.ntmps4
      go_wp2_with fail
      refine (H1.out _).mono ?_
      rintro e w' ⟨rfl, rfl⟩
      go_wp2_with fail
      refine (H2.out _).mono ?_
      rintro e w' ⟨rfl, rfl⟩
      go_wp2_with fail
      refine (H3.out _).mono ?_
      rintro e w' ⟨rfl, rfl⟩
      go_wp2_with fail
      refine (H4.out _).mono ?_
      rintro e w' ⟨rfl, rfl⟩
      go_wp2_with fail
      refine (H5.out _).mono ?_
      rintro e w' ⟨rfl, rfl⟩
      go_wp2_with fail
      refine (H4.out _).mono ?_
      rintro e w' ⟨rfl, rfl⟩
      go_wp2_with fail
      refine HA.out.mono ?_
      rintro e w1 ⟨rfl, hb1⟩
      go_wp2_with fail
      refine (H7.out _).mono ?_
      rintro e w' ⟨rfl, rfl⟩
      go_wp2
      all_goals go_ret
      all_goals exact ⟨rfl, hb1⟩
    · have d1 : decide (0 < c) = false := decide_eq_false hc
      have hd : d ≤ 0 := Htrans.out (by omega) (by omega)
      have d2 : decide (d ≤ 0) = true := decide_eq_true hd
      clear hc hd Htrans
      go_enter Tryd.func4, Tryd.ntmps4
      go_wp2_with fail
      refine (H1.out _).mono ?_
      rintro e w' ⟨rfl, rfl⟩
      go_wp2_with fail
      refine (H2.out _).mono ?_
      rintro e w' ⟨rfl, rfl⟩
      go_wp2_with fail
      refine (H3.out _).mono ?_
      rintro e w' ⟨rfl, rfl⟩
      go_wp2_with fail
      refine (H4.out _).mono ?_
      rintro e w' ⟨rfl, rfl⟩
      go_wp2_with fail
      refine (H5.out _).mono ?_
      rintro e w' ⟨rfl, rfl⟩
      go_wp2_with fail
      refine (H4.out _).mono ?_
      rintro e w' ⟨rfl, rfl⟩
      go_wp2_with fail
      refine HA.out.mono ?_
      rintro e w1 ⟨rfl, hb1⟩
      go_wp2_with fail
      refine (H7.out _).mono ?_
      rintro e w' ⟨rfl, rfl⟩
      go_wp2_with fail
      refine (H8.out _).mono ?_
      rintro e w' ⟨rfl, rfl⟩
      go_wp2
      all_goals go_ret
      all_goals exact ⟨rfl, hb1⟩
  · have e1 : n' = 0 := by omega
    have e2 : decide (bitsB x = bitsB y) = true := decide_eq_true (hzero.1 rfl)
    rw [e2] at H4 H5
    subst e1
    have hv : (FloatKind.f64.format.order x y == some .lt) = false := by
      rw [beq_eq_false_iff_ne]
      intro h
      have := Hless.out h
      omega
    clear hneg hzero e2 Hless
    by_cases hc : 0 < c
    · have d1 : decide (0 < c) = true := decide_eq_true hc
      clear hc Htrans
      go_enter Tryd.func4, Tryd.ntmps4
      go_wp2_with fail
      refine (H1.out _).mono ?_
      rintro e w' ⟨rfl, rfl⟩
      go_wp2_with fail
      refine (H2.out _).mono ?_
      rintro e w' ⟨rfl, rfl⟩
      go_wp2_with fail
      refine (H3.out _).mono ?_
      rintro e w' ⟨rfl, rfl⟩
      go_wp2_with fail
      refine (H4.out _).mono ?_
      rintro e w' ⟨rfl, rfl⟩
      go_wp2_with fail
      refine (H5.out _).mono ?_
      rintro e w' ⟨rfl, rfl⟩
      go_wp2_with fail
      refine (H4.out _).mono ?_
      rintro e w' ⟨rfl, rfl⟩
      go_wp2_with fail
      refine HA.out.mono ?_
      rintro e w1 ⟨rfl, hb1⟩
      go_wp2_with fail
      refine (H7.out _).mono ?_
      rintro e w' ⟨rfl, rfl⟩
      go_wp2
      all_goals go_ret
      all_goals exact ⟨rfl, hb1⟩
    · have d1 : decide (0 < c) = false := decide_eq_false hc
      have hd : d ≤ 0 := Htrans.out (by omega) (by omega)
      have d2 : decide (d ≤ 0) = true := decide_eq_true hd
      clear hc hd Htrans
      go_enter Tryd.func4, Tryd.ntmps4
      go_wp2_with fail
      refine (H1.out _).mono ?_
      rintro e w' ⟨rfl, rfl⟩
      go_wp2_with fail
      refine (H2.out _).mono ?_
      rintro e w' ⟨rfl, rfl⟩
      go_wp2_with fail
      refine (H3.out _).mono ?_
      rintro e w' ⟨rfl, rfl⟩
      go_wp2_with fail
      refine (H4.out _).mono ?_
      rintro e w' ⟨rfl, rfl⟩
      go_wp2_with fail
      refine (H5.out _).mono ?_
      rintro e w' ⟨rfl, rfl⟩
      go_wp2_with fail
      refine (H4.out _).mono ?_
      rintro e w' ⟨rfl, rfl⟩
      go_wp2_with fail
      refine HA.out.mono ?_
      rintro e w1 ⟨rfl, hb1⟩
      go_wp2_with fail
      refine (H7.out _).mono ?_
      rintro e w' ⟨rfl, rfl⟩
      go_wp2_with fail
      refine (H8.out _).mono ?_
      rintro e w' ⟨rfl, rfl⟩
      go_wp2
      all_goals go_ret
      all_goals exact ⟨rfl, hb1⟩
  · have e1 : n' = -1 := by omega
    have e2 : decide (bitsB x = bitsB y) = false := decide_eq_false (fun h => by have := hzero.2 h; omega)
    rw [e2] at H4 H5
    subst e1
    have hv : (FloatKind.f64.format.order x y == some .lt) = false := by
      rw [beq_eq_false_iff_ne]
      intro h
      have := Hless.out h
      omega
    clear hneg hzero e2 Hless Htrans
    go_enter Tryd.func4, Tryd.ntmps4
    go_wp2_with fail
    refine (H1.out _).mono ?_
    rintro e w' ⟨rfl, rfl⟩
    go_wp2_with fail
    refine (H2.out _).mono ?_
    rintro e w' ⟨rfl, rfl⟩
    go_wp2_with fail
    refine (H3.out _).mono ?_
    rintro e w' ⟨rfl, rfl⟩
    go_wp2_with fail
    refine (H4.out _).mono ?_
    rintro e w' ⟨rfl, rfl⟩
    go_wp2_with fail
    refine (H5.out _).mono ?_
    rintro e w' ⟨rfl, rfl⟩
    go_wp2_with fail
    refine (H4.out _).mono ?_
    rintro e w' ⟨rfl, rfl⟩
    go_wp2_with fail
    refine HA.out.mono ?_
    rintro e w1 ⟨rfl, hb1⟩
    go_wp2
    all_goals go_ret
    all_goals exact ⟨rfl, hb1⟩
end Go.Proofs.YthfpnkanccoolaaDoor
