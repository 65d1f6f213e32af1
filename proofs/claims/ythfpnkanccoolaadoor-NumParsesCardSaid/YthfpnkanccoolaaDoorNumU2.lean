/- The walk of the library's ParseUint at base 16: the loop. -/
import Derived.Test.YthfpnkanccoolaaDoorNumU
import Derived.Test.YthfpnkanccoolaaDoorToB
namespace Go.Proofs.YthfpnkanccoolaaDoor
open Go.RowKit Fl

theorem lower_under (w : World) : Calls Tryd.prog 70 #[.int .u8 95] w fun e w' => e = .returned (.int .u8 127) ∧ w = w' := by
  have h := lower_any 95 w (by omega)
  rw [show low 95 = 127 by decide +kernel] at h
  exact h

def URel (l : List Nat) (u n i : Value) : Prop := ∃ (k : Nat) (a : Int), u = .bool false ∧ n = .int .u64 a ∧ i = .int .i64 (k : Int) ∧ k ≤ l.length ∧ Hid (∃ acc : Nat, a = (acc : Int) ∧ acc < 18446744073709551616 ∧ Gathers l k acc)

set_option maxRecDepth 100000 in
set_option maxHeartbeats 3200000 in
theorem iuint_any (l : List Nat) (w : World) (hl : ∀ x ∈ l, x < 256) (hn : l.length ≤ 1000000) :
    Calls Tryd.prog 61 #[.string (str l), .int .i64 16, .int .i64 64] w (UintEnd w l) := by
  by_cases h0 : l = []
  · have hq : (str l).toList.isEmpty = true := by rw [h0, str_list]; rfl
    have Hno := Lib.hid (show ∀ x, x < 18446744073709551616 → l = hexs x 16 → 0 = x by
      intro x _ e
      have := congrArg List.length e
      rw [hexs_len, h0] at this
      exact absurd this (by simp))
    clear hl hn h0
    generalize str l = s at *
    go_enter Tryd.func61, Tryd.ntmps61
    go_wp2
    go_ret2
    exact ⟨Below.refl _ _, 0, by omega, Hno.out, .inr (.inr rfl)⟩
  · have hq : (str l).toList.isEmpty = false := by
      rw [str_list, List.isEmpty_eq_false_iff]
      simpa using h0
    obtain ⟨c0, w1, hconv, hby, hbel⟩ := bytes_of_str l w hl hn
    obtain ⟨b0, o0, e0, hcell⟩ := hby.cell (by cases l with | nil => exact absurd rfl h0 | cons _ _ => simp)
    cases e0
    have Hcell := Lib.hid hcell
    have Hl := Lib.hid hl
    have Hst := Lib.hid (gathers_zero l)
    have Hbel := Lib.hid hbel
    have hmv : IntKind.u64.wrap (IntKind.u64.wrap 18446744073709551616 - 1) = 18446744073709551615 := by decide +kernel
    clear hcell hl h0 hby hbel
    go_enter Tryd.func61, Tryd.ntmps61
    go_wp2
    go_loop [12, 13, 101] (fun u n i => URel l u n i) (fun _ _ i => l.length - (intOf i).toNat)
    case atStart => exact ⟨0, 0, rfl, rfl, rfl, Nat.zero_le _, Lib.hid ⟨0, rfl, by omega, Hst.out⟩⟩
    case round =>
      obtain ⟨k, a, rfl, rfl, rfl, hk, HA⟩ := hrel
      obtain ⟨acc, ha, hacc, hga⟩ := HA.out
      by_cases hlt : k < l.length
      · have hc256 : l.getD k 0 < 256 := by
          rw [List.getD_eq_getElem?_getD, List.getElem?_eq_getElem hlt]
          exact Hl.out _ (List.getElem_mem _)
        have hcl := Hcell.out k hlt
        rw [Nat.zero_add] at hcl
        obtain ⟨c, e0⟩ : ∃ c, l.getD k 0 = c := ⟨_, rfl⟩
        rw [e0] at hc256 hcl
        by_cases hdig : 48 ≤ c ∧ c ≤ 57
        · have i1 : (48 : Int) ≤ (c : Int) := by omega
          have i2 : (c : Int) ≤ 57 := by omega
          have d95 : ((c : Int) == 95) = false := beq_eq_false_iff_ne.2 (by omega)
          by_cases hcut : 1152921504606846976 ≤ acc
          · have Hno := Lib.hid (gathers_big (v := 18446744073709551615) hga hlt hcut)
            have icut : 1152921504606846976 ≤ a := by omega
            clear hga ha hacc HA hdig hcut
            go_wp2
            all_goals go_ret2
            all_goals exact ⟨Hbel.out, 18446744073709551615, by omega, Hno.out, .inr (.inl rfl)⟩
          · have Hn := Lib.hid (gathers_next (d := c - 48) hga hlt (fun y hy e => hexD_digit (e0.symm.trans e) hy hdig.2))
            have icut : a < 1152921504606846976 := by omega
            have i0 : 0 ≤ a := by omega
            have iov : a * 16 + ((c : Int) - 48) < 18446744073709551616 := by omega
            have Hlt2 := Lib.hid (show acc * 16 + (c - 48) < 18446744073709551616 by omega)
            have Hv := Lib.hid (show a * 16 + ((c : Int) - 48) = ((acc * 16 + (c - 48) : Nat) : Int) by omega)
            clear hga ha hacc HA hdig hcut
            go_wp2
            all_goals go_round
            all_goals try (case measure => simp [intOf]; omega)
            all_goals exact ⟨k + 1, a * 16 + ((c : Int) - 48), rfl, (by first | rfl | (congr 1; omega)), by go_num, by omega, Lib.hid ⟨_, Hv.out, Hlt2.out, Hn.out⟩⟩
        · obtain ⟨_, hlow, hsame⟩ := low_is hc256
          have HL := Lib.hid (fun w => lower_any c w hc256)
          by_cases h95 : c = 95
          · have Hno := Lib.hid (gathers_no (v := 0) hlt (fun y hy e => by have := hexD_letter (e0.symm.trans e) hy hdig; omega))
            have HL2 := Lib.hid (lower_under)
            clear hga ha hacc HA hdig hsame hlow HL
            subst h95
            go_wp2_with ((with_reducible refine (HL2.out _).mono ?_); rintro e w' ⟨rfl, rfl⟩)
            all_goals go_ret2
            all_goals exact ⟨Hbel.out, 0, by omega, Hno.out, .inr (.inr rfl)⟩
          have d95 : ((c : Int) == 95) = false := beq_eq_false_iff_ne.2 (by omega)
          generalize low c = lc at *
          rcases (show c < 48 ∨ 57 < c by omega) with h48 | h48
          · have j1 : (c : Int) < 48 := by omega
            by_cases hr : 97 ≤ lc ∧ lc ≤ 122
            · have i1 : (97 : Int) ≤ (lc : Int) := by omega
              have i2 : (lc : Int) ≤ 122 := by omega
              by_cases h16 : 103 ≤ lc
              · have i3 : (103 : Int) ≤ (lc : Int) := by omega
                have Hno := Lib.hid (gathers_no (v := 0) hlt (fun y hy e => by have := hexD_letter (e0.symm.trans e) hy hdig; omega))
                clear hga ha hacc HA hdig hsame
                go_wp2_with ((with_reducible refine (HL.out _).mono ?_); rintro e w' ⟨rfl, rfl⟩)
                all_goals go_ret2
                all_goals exact ⟨Hbel.out, 0, by omega, Hno.out, .inr (.inr rfl)⟩
              · have i3 : (lc : Int) ≤ 102 := by omega
                by_cases hcut : 1152921504606846976 ≤ acc
                · have Hno := Lib.hid (gathers_big (v := 18446744073709551615) hga hlt hcut)
                  have icut : 1152921504606846976 ≤ a := by omega
                  clear hga ha hacc HA hdig hcut hsame
                  go_wp2_with ((with_reducible refine (HL.out _).mono ?_); rintro e w' ⟨rfl, rfl⟩)
                  all_goals go_ret2
                  all_goals exact ⟨Hbel.out, 18446744073709551615, by omega, Hno.out, .inr (.inl rfl)⟩
                · have Hn := Lib.hid (gathers_next (d := lc - 87) hga hlt (fun y hy e => by have := hexD_letter (e0.symm.trans e) hy hdig; omega))
                  have icut : a < 1152921504606846976 := by omega
                  have i0 : 0 ≤ a := by omega
                  have iov : a * 16 + ((lc : Int) - 97 + 10) < 18446744073709551616 := by omega
                  have Hlt2 := Lib.hid (show acc * 16 + (lc - 87) < 18446744073709551616 by omega)
                  have Hv := Lib.hid (show a * 16 + ((lc : Int) - 97 + 10) = ((acc * 16 + (lc - 87) : Nat) : Int) by omega)
                  clear hga ha hacc HA hdig hcut hsame
                  go_wp2_with ((with_reducible refine (HL.out _).mono ?_); rintro e w' ⟨rfl, rfl⟩)
                  all_goals go_round
                  all_goals try (case measure => simp [intOf]; omega)
                  all_goals exact ⟨k + 1, a * 16 + ((lc : Int) - 97 + 10), rfl, (by first | rfl | (congr 1; omega)), by go_num, by omega, Lib.hid ⟨_, Hv.out, Hlt2.out, Hn.out⟩⟩
            · by_cases h97 : lc < 97
              · have i1 : (lc : Int) < 97 := by omega
                have Hno := Lib.hid (gathers_no (v := 0) hlt (fun y hy e => by have := hexD_letter (e0.symm.trans e) hy hdig; omega))
                clear hga ha hacc HA hdig hsame
                go_wp2_with ((with_reducible refine (HL.out _).mono ?_); rintro e w' ⟨rfl, rfl⟩)
                all_goals go_ret2
                all_goals exact ⟨Hbel.out, 0, by omega, Hno.out, .inr (.inr rfl)⟩
              · have i1 : (122 : Int) < (lc : Int) := by omega
                have Hno := Lib.hid (gathers_no (v := 0) hlt (fun y hy e => by have := hexD_letter (e0.symm.trans e) hy hdig; omega))
                clear hga ha hacc HA hdig hsame
                go_wp2_with ((with_reducible refine (HL.out _).mono ?_); rintro e w' ⟨rfl, rfl⟩)
                all_goals go_ret2
                all_goals exact ⟨Hbel.out, 0, by omega, Hno.out, .inr (.inr rfl)⟩
          · have j1 : (57 : Int) < (c : Int) := by omega
            by_cases hr : 97 ≤ lc ∧ lc ≤ 122
            · have i1 : (97 : Int) ≤ (lc : Int) := by omega
              have i2 : (lc : Int) ≤ 122 := by omega
              by_cases h16 : 103 ≤ lc
              · have i3 : (103 : Int) ≤ (lc : Int) := by omega
                have Hno := Lib.hid (gathers_no (v := 0) hlt (fun y hy e => by have := hexD_letter (e0.symm.trans e) hy hdig; omega))
                clear hga ha hacc HA hdig hsame
                go_wp2_with ((with_reducible refine (HL.out _).mono ?_); rintro e w' ⟨rfl, rfl⟩)
                all_goals go_ret2
                all_goals exact ⟨Hbel.out, 0, by omega, Hno.out, .inr (.inr rfl)⟩
              · have i3 : (lc : Int) ≤ 102 := by omega
                by_cases hcut : 1152921504606846976 ≤ acc
                · have Hno := Lib.hid (gathers_big (v := 18446744073709551615) hga hlt hcut)
                  have icut : 1152921504606846976 ≤ a := by omega
                  clear hga ha hacc HA hdig hcut hsame
                  go_wp2_with ((with_reducible refine (HL.out _).mono ?_); rintro e w' ⟨rfl, rfl⟩)
                  all_goals go_ret2
                  all_goals exact ⟨Hbel.out, 18446744073709551615, by omega, Hno.out, .inr (.inl rfl)⟩
                · have Hn := Lib.hid (gathers_next (d := lc - 87) hga hlt (fun y hy e => by have := hexD_letter (e0.symm.trans e) hy hdig; omega))
                  have icut : a < 1152921504606846976 := by omega
                  have i0 : 0 ≤ a := by omega
                  have iov : a * 16 + ((lc : Int) - 97 + 10) < 18446744073709551616 := by omega
                  have Hlt2 := Lib.hid (show acc * 16 + (lc - 87) < 18446744073709551616 by omega)
                  have Hv := Lib.hid (show a * 16 + ((lc : Int) - 97 + 10) = ((acc * 16 + (lc - 87) : Nat) : Int) by omega)
                  clear hga ha hacc HA hdig hcut hsame
                  go_wp2_with ((with_reducible refine (HL.out _).mono ?_); rintro e w' ⟨rfl, rfl⟩)
                  all_goals go_round
                  all_goals try (case measure => simp [intOf]; omega)
                  all_goals exact ⟨k + 1, a * 16 + ((lc : Int) - 97 + 10), rfl, (by first | rfl | (congr 1; omega)), by go_num, by omega, Lib.hid ⟨_, Hv.out, Hlt2.out, Hn.out⟩⟩
            · by_cases h97 : lc < 97
              · have i1 : (lc : Int) < 97 := by omega
                have Hno := Lib.hid (gathers_no (v := 0) hlt (fun y hy e => by have := hexD_letter (e0.symm.trans e) hy hdig; omega))
                clear hga ha hacc HA hdig hsame
                go_wp2_with ((with_reducible refine (HL.out _).mono ?_); rintro e w' ⟨rfl, rfl⟩)
                all_goals go_ret2
                all_goals exact ⟨Hbel.out, 0, by omega, Hno.out, .inr (.inr rfl)⟩
              · have i1 : (122 : Int) < (lc : Int) := by omega
                have Hno := Lib.hid (gathers_no (v := 0) hlt (fun y hy e => by have := hexD_letter (e0.symm.trans e) hy hdig; omega))
                clear hga ha hacc HA hdig hsame
                go_wp2_with ((with_reducible refine (HL.out _).mono ?_); rintro e w' ⟨rfl, rfl⟩)
                all_goals go_ret2
                all_goals exact ⟨Hbel.out, 0, by omega, Hno.out, .inr (.inr rfl)⟩
      · obtain rfl : k = l.length := by omega
        have Hend := Lib.hid (gathers_end hga)
        have Hacc := Lib.hid hacc
        subst ha
        clear hga hacc HA hlt
        go_wp2
        go_ret2
        exact ⟨Hbel.out, acc, Hacc.out, Hend.out, .inl rfl⟩
end Go.Proofs.YthfpnkanccoolaaDoor
