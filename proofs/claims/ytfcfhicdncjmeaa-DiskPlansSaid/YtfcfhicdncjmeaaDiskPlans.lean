/- The statement DiskPlans answers true. -/
import Derived.Test.YtfcfhicdncjmeaaDkOne
namespace Go.Proofs.Ytfcfhicdncjmeaa
open Go.RowKit Go.Maps Go.Shelf

set_option maxRecDepth 100000 in
set_option maxHeartbeats 12800000 in
theorem plans_any (x : Nat) (p1 : Option Addr) (n1 c1 : Nat) (l1 : List Nat) (w : World) (hx : x < 256) (h1 : Bytes w p1 n1 c1 l1) :
    Calls Try.prog 6 #[.int .u8 (x : Int), .slice p1 n1 c1] w fun e w' => e = .returned (.bool true) ∧ Below w.heap.size w w' := by
  have HN := Lib.hid (own_new 100000 w (by decide))
  have HA := Lib.hid (fun w1 => dalive_any w1)
  have hl1 := h1.len
  have H1 := Lib.hid h1
  have hk : (wrap64 (x : Int)).tmod 50 = ((x % 50 : Nat) : Int) := by
    rw [wrap64_ok _ ⟨by omega, by omega⟩, Int.tmod_eq_emod_of_nonneg (by omega)]
    omega
  have hk2 : (x : Int) % 50 = ((x % 50 : Nat) : Int) := by omega
  have hk3 : (x : Int).tmod 50 = ((x % 50 : Nat) : Int) := by rw [Int.tmod_eq_emod_of_nonneg (by omega)]; omega
  have hk50 : x % 50 < 50 := Nat.mod_lt _ (by decide)
  clear h1
  generalize x % 50 = k at *
  by_cases hbig : 100 < n1
  · have hs : (100 : Int) < (n1 : Int) := by omega
    clear hbig
    go_enter Try.func6, Try.ntmps6
    go_wp2_with fail
    refine HN.out.mono ?_
    rintro e w1 ⟨d, rfl, _, hb1⟩
    have Hb1 := Lib.hid hb1
    clear hb1
    go_wp2_with fail
    refine (HA.out _).mono ?_
    rintro e w2 ⟨rfl, hb2⟩
    have Hb2 := Lib.hid (Hb1.out.trans (hb2.mono Hb1.out.size))
    clear hb2
    go_wp2
    go_ret
    exact ⟨rfl, Hb2.out⟩
  · have hs : ¬ (100 : Int) < (n1 : Int) := by omega
    have HP := Lib.hid (show 0 < n1 → ∀ a, p1 = some a → False ∨ a.block < w.heap.size from fun hn a ha => by
      obtain ⟨b, o, e, hc⟩ := H1.out.cell hn
      rw [ha] at e; cases e
      exact .inr (World.block_lt_of_cell? _ _ (hc 0 hn)))
    obtain ⟨U, hU⟩ : ∃ U, U = k * n1 := ⟨_, rfl⟩
    have hUn : U ≤ 5000 := by
      rw [hU]
      exact Nat.le_trans (Nat.mul_le_mul (show k ≤ 50 by omega) (show n1 ≤ 100 by omega)) (by decide)
    have hmul : wrap64 ((k : Int) * (n1 : Int)) = (U : Int) := by
      rw [show (k : Int) * (n1 : Int) = (U : Int) by rw [hU]; push_cast; rfl]
      exact wrap64_ok _ ⟨by omega, by omega⟩
    have HUl := Lib.hid (show ∀ i, i ≤ k → (rep i l1).length ≤ 5000 from fun i hi => by
      rw [rep_length, hl1]
      exact Nat.le_trans (Nat.mul_le_mul (show i ≤ 50 by omega) (show n1 ≤ 100 by omega)) (by decide))
    have HUk := Lib.hid (show (rep k l1).length = U from by rw [rep_length, hl1, hU])
    have HL1 := Lib.hid (show l1.length ≤ 100 from by omega)
    have hk1 : (k : Int) + 1 = ((k + 1 : Nat) : Int) := by push_cast; rfl
    have Hk1 := Lib.hid hk1
    clear hbig hU hk1 hl1
    go_enter Try.func6, Try.ntmps6
    go_wp2_with fail
    refine HN.out.mono ?_
    rintro e w1 ⟨d, rfl, ho1, hb1⟩
    have HC := Lib.hid (own_create ho1 [120] (by decide) (by decide))
    rw [show createM [120] (newM 100000) = (D1 100000 [] 0 0, 0) from d1_new 100000] at HC
    clear ho1 hb1
    go_wp2_with fail
    refine HC.out.mono ?_
    rintro e w2 ⟨rfl, ho2, _, _, _⟩
    have HC2 := Lib.hid (own_arm ho2 ((k : Int) + 1) (by omega) (by omega))
    rw [Hk1.out, d1_arm, ← Hk1.out] at HC2
    clear ho2
    go_wp2_with fail
    refine HC2.out.mono ?_
    rintro e w3 ⟨⟨v, rfl⟩, ho3, _, _, _⟩
    have Ho3 := Lib.hid ho3
    clear ho3
    go_wp2
    go_loopw [35] (fun i wr => ∃ j : Nat, j ≤ k ∧ i = .int .i64 (j : Int) ∧ Own w (fun _ => False) wr d (D1 100000 (rep j l1) 0 (k + 1 - j))) (fun i _ => k - (intOf i).toNat)
    case atStart => exact ⟨0, Nat.zero_le _, rfl, Ho3.out⟩
    case round =>
      obtain ⟨j, hj, rfl, ho⟩ := hrel
      have Ho := Lib.hid ho
      clear ho
      by_cases hlt : j < k
      · have hji : (j : Int) < (k : Int) := by omega
        have HC4 := Lib.hid (own_append Ho.out [120] (by decide) p1 n1 c1 l1 (H1.out.grow Ho.out.base) HP.out (by rw [d1_used]; have := HUl.out j hj; have := HL1.out; omega))
        rw [d1_append 100000 (rep j l1) l1 0 (k + 1 - j) (by omega) (by have := HUl.out j hj; have := HL1.out; omega), rep_succ, show k + 1 - j - 1 = k + 1 - (j + 1) by omega] at HC4
        have Hlt := Lib.hid hlt
        clear hlt
        go_wp2_with fail
        refine HC4.out.mono ?_
        rintro e w4 ⟨he, ho4, _, _, _⟩
        have he : e = .returned (.int .i64 0) := he
        subst he
        have HC5 := Lib.hid (own_down ho4)
        have Ho4 := Lib.hid ho4
        clear ho4
        go_wp2_with fail
        refine HC5.out.mono ?_
        rintro e w5 ⟨he, rfl⟩
        have he : e = .returned (.bool false) := he
        subst he
        go_wp2
        go_roundw
        case rel => exact ⟨j + 1, Hlt.out, by go_num, Ho4.out⟩
        case measure => simp [intOf]; have := Hlt.out; omega
      · have hji : ¬ (j : Int) < (k : Int) := by omega
        obtain rfl : j = k := by omega
        have ho := Ho.out
        rw [show j + 1 - j = 1 by omega] at ho
        have HC4 := Lib.hid (own_append ho [120] (by decide) p1 n1 c1 l1 (H1.out.grow Ho.out.base) HP.out (by rw [d1_used]; have := HUl.out j hj; have := HL1.out; omega))
        rw [d1_planned] at HC4
        clear ho hlt
        go_wp2_with fail
        refine HC4.out.mono ?_
        rintro e w4 ⟨he, ho4, _, _, _⟩
        have he : e = .returned (.int .i64 10) := he
        subst he
        have HC5 := Lib.hid (own_sync ho4 [120] (by decide))
        rw [d1d_sync] at HC5
        clear ho4
        go_wp2_with fail
        refine HC5.out.mono ?_
        rintro e w5 ⟨he, ho5, _, _, _⟩
        have he : e = .returned (.int .i64 10) := he
        subst he
        have HC6 := Lib.hid (own_used ho5)
        rw [d1d_used, HUk.out] at HC6
        have Ho5 := Lib.hid ho5
        clear ho5
        go_wp2_with fail
        refine HC6.out.mono ?_
        rintro e w6 ⟨rfl, hb6⟩
        have Ho6 := Lib.hid (Ho5.out.below hb6)
        have HC7 := Lib.hid (own_read Ho6.out [120] (by decide) (by rw [d1d_used]; have := HUl.out j hj; omega))
        rw [d1d_read] at HC7
        clear hb6
        go_wp2_with fail
        refine HC7.out.mono ?_
        rintro e w7 ⟨p7, c7, he, _, _, hb7, _⟩
        have he : e = .returned (.tuple #[.slice p7 0 c7, .int .i64 10]) := he
        subst he
        have Ho7 := Lib.hid (Ho6.out.below hb7)
        have HC8 := Lib.hid (own_crash Ho7.out (by show 1 < 1000000; decide) _ _ _ _ (nums_nil w7) (fun h => absurd h (Nat.lt_irrefl _)))
        rw [d1d_crash] at HC8
        clear hb7
        go_wp2_with fail
        refine HC8.out.mono ?_
        rintro e w8 ⟨⟨v, rfl⟩, ho8, _, _, _⟩
        have Ho8 := Lib.hid ho8
        have HA8 := Lib.hid (HA.out w8)
        clear ho8
        go_wp2_with fail
        refine HA8.out.mono ?_
        rintro e w9 ⟨rfl, hb9⟩
        have Ho9 := Lib.hid (Ho8.out.below hb9)
        have HC9 := Lib.hid (own_down Ho9.out)
        clear hb9
        go_wp2_with fail
        refine HC9.out.mono ?_
        rintro e w10 ⟨he, rfl⟩
        have he : e = .returned (.bool false) := he
        subst he
        have HC10 := Lib.hid (own_used Ho9.out)
        rw [d1_used] at HC10
        go_wp2_with fail
        refine HC10.out.mono ?_
        rintro e w11 ⟨he, hb11⟩
        have he : e = .returned (.int .i64 0) := he
        subst he
        have Ho11 := Lib.hid (Ho9.out.below hb11)
        have HC11 := Lib.hid (own_sync Ho11.out [120] (by decide))
        rw [d1_sync 100000 [] 0 0 (by decide)] at HC11
        clear hb11
        go_wp2_with fail
        refine HC11.out.mono ?_
        rintro e w12 ⟨he, ho12, _, _, _⟩
        have he : e = .returned (.int .i64 0) := he
        subst he
        have Hb12 := Lib.hid ho12.base
        clear ho12
        go_wp2
        go_ret
        exact ⟨rfl, Hb12.out⟩
end Go.Proofs.Ytfcfhicdncjmeaa
