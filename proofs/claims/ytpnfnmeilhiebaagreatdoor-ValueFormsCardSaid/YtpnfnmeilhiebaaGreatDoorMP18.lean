import Derived.Test.YtpnfnmeilhiebaaGreatDoorMP13
import Derived.Test.YtpnfnmeilhiebaaGreatDoorMP15
import Derived.Test.YtpnfnmeilhiebaaGreatDoorMP17
import Derived.Test.YtpnfnmeilhiebaaGreatDoorMP16
import Derived.Test.YtpnfnmeilhiebaaGreatDoorMP10
import Derived.Test.YtpnfnmeilhiebaaGreatDoorMP9
import Derived.Deep.QuietTactic
import Derived.BigQuiet
import Derived.Test.YtpnfnmeilhiebaaGreatDoorMP1
import Derived.Deep.RegionHeld
/- Forms that are read again: numbers and their bytes. -/
namespace Go.Proofs.YtpnfnmeilhiebaaGreatDoor
open Go.RowKit Go.Shelf Fl

theorem readN_form {y : Nat} (h : y < 18446744073709551616) (r : List Nat) : readN (form y ++ r) true = (y, r, true) := by
  have hp := form_pos y
  unfold readN
  rw [numL_of_form h r]
  simp only
  rw [if_pos ⟨trivial, hp⟩, List.drop_left]

theorem readB_form {s : List Nat} (h : s.length < 18446744073709551616) (r : List Nat) : readB (formB s ++ r) true = (s, r, true) := by
  have hp := form_pos s.length
  unfold readB formB
  rw [List.append_assoc, numL_of_form h (s ++ r)]
  simp only
  rw [if_pos ⟨trivial, hp, by rw [List.length_append, List.length_append]; omega⟩, List.drop_left, List.take_left, ← List.drop_drop, List.drop_left, List.drop_left]

theorem takeN_eight {b : List Nat} (h : b.length = 8) (r : List Nat) : takeN (b ++ r) true 8 = (b, r, true) := by
  unfold takeN
  rw [if_pos ⟨rfl, by omega, by rw [List.length_append]; omega⟩]
  have e : (8 : Int).toNat = b.length := by rw [h]; rfl
  rw [e, List.take_left, List.drop_left]

theorem or_next (y c : Nat) (hy : y < 72057594037927936) (hc : c < 256) : bits .or .u64 ((y : Int) * 256) (c : Int) = ((y * 256 + c : Nat) : Int) := by
  have h1 := u64_or_nat (y * 256) c (by omega) (by omega)
  have h2 := Nat.shiftLeft_add_eq_or_of_lt (i := 8) (b := c) (by omega) y
  rw [Nat.shiftLeft_eq, show (2 : Nat) ^ 8 = 256 by decide] at h2
  rw [← h2] at h1
  exact h1

theorem be8_getD (x j : Nat) (h : j < 8) : (be8 x).getD j 0 = x / 2 ^ (8 * (7 - j)) % 256 := by
  rw [List.getD_eq_getElem?_getD, List.getElem?_eq_getElem (by rw [be8_len]; exact h)]
  simp [be8]

theorem shift_next (x j : Nat) (h : j < 8) : x / 2 ^ (8 * (8 - j)) * 256 + x / 2 ^ (8 * (7 - j)) % 256 = x / 2 ^ (8 * (8 - (j + 1))) := by
  have e : x / 2 ^ (8 * (8 - j)) = x / 2 ^ (8 * (7 - j)) / 256 := by
    rw [Nat.div_div_eq_div_mul, show (256 : Nat) = 2 ^ 8 by decide, ← Nat.pow_add]
    congr 2
    omega
  rw [e, show 8 - (j + 1) = 7 - j by omega]
  omega

theorem shift_lt (x j : Nat) (h : j < 8) (hx : x < 18446744073709551616) : x / 2 ^ (8 * (8 - j)) < 72057594037927936 := by
  have h1 : 256 ≤ 2 ^ (8 * (8 - j)) := Nat.pow_le_pow_right (n := 2) (by omega) (show 8 ≤ 8 * (8 - j) by omega)
  rw [Nat.div_lt_iff_lt_mul (by omega)]
  omega

set_option maxRecDepth 100000 in
set_option maxHeartbeats 1600000 in
theorem readFloat_any (K : Nat → Prop) (g x : Nat) (rest : List Nat) (w : World) (hx : x < 18446744073709551616) (hc : bitsB x = x) (hl : (be8 x ++ rest).length ≤ 1000000) (hR : RdK K w g (be8 x ++ rest) true) :
    Calls Tryz.prog 50 #[.pointer (some ⟨g, 0, none⟩)] w fun e w' => e = .returned (.iface 68 (.float .f64 x)) ∧ RdEndK K w g (rest, true) w' := by
  have HT := Lib.hid (mTakeK _ g _ true w w (orNone_some g w) hR 8 (by omega) (by omega) hl)
  rw [takeN_eight (be8_len x) rest] at HT
  have HO := Lib.hid (fun w => of_any x w hx)
  rw [bitsB_ofB hc] at HO
  have Hx := Lib.hid hx
  clear hx hc hl hR
  go_enter Tryz.func50, Tryz.ntmps50
  go_wp2_with fail
  refine HT.out.mono ?_
  rintro e w1 ⟨p, m, cp, rfl, hP, hE⟩
  have hm : m = 8 := by rw [← hP.len]; exact be8_len x
  subst hm
  have HP := Lib.hid hP
  have HE := Lib.hid hE
  clear hP hE
  go_wp2
  go_loop [3, 11] (fun b i => ∃ j : Nat, j ≤ 8 ∧ i = .int .i64 (j : Int) ∧ b = .int .u64 ((x / 2 ^ (8 * (8 - j)) : Nat) : Int)) (fun _ i => 8 - (intOf i).toNat)
  case atStart =>
    refine ⟨0, by omega, rfl, ?_⟩
    rw [Nat.div_eq_of_lt (by have := Hx.out; omega)]
    rfl
  case round =>
    obtain ⟨j, hj, rfl, rfl⟩ := hrel
    by_cases hlt : j < 8
    · obtain ⟨b, o, rfl, hc⟩ := HP.out.cell (by omega)
      have hcj := hc j hlt
      rw [be8_getD x j hlt] at hcj
      have Hsn := Lib.hid (shift_next x j hlt)
      have hy := shift_lt x j hlt Hx.out
      have hc8 : x / 2 ^ (8 * (7 - j)) % 256 < 256 := Nat.mod_lt _ (by omega)
      have Hlt := Lib.hid hlt
      clear hc
      generalize x / 2 ^ (8 * (7 - j)) % 256 = c at *
      generalize x / 2 ^ (8 * (8 - j)) = y at *
      have hor := or_next y c hy hc8
      go_wp2
      go_round
      case rel => exact ⟨j + 1, Hlt.out, by go_num, by rw [← Hsn.out]; go_num⟩
      case measure => simp [intOf]; have := Hlt.out; omega
    · obtain rfl : j = 8 := by omega
      have e : x / 2 ^ (8 * (8 - 8)) = x := by simp
      rw [e]
      clear hlt e
      go_wp2_with fail
      refine (HO.out _).mono ?_
      rintro e w' ⟨rfl, rfl⟩
      go_wp2
      go_ret
      exact ⟨rfl, HE.out⟩
end Go.Proofs.YtpnfnmeilhiebaaGreatDoor

/- The walk of the library's ParseUint at base 16 and 8 bits: two bytes. -/
namespace Go.Proofs.YtpnfnmeilhiebaaGreatDoor
open Go.RowKit Fl

/-- Of two digits of a byte, what is gathered of the first k. -/
def Gath8 (l : List Nat) (k acc : Nat) : Prop := ∀ x y, x < 16 → y < 16 → l = [hexD x, hexD y] → (k = 0 → acc = 0) ∧ (k = 1 → acc = x) ∧ (k = 2 → acc = 16 * x + y)

theorem gath8_zero (l : List Nat) : Gath8 l 0 0 := fun x y _ _ _ => ⟨fun _ => rfl, fun h => by omega, fun h => by omega⟩

theorem gath8_next {l : List Nat} {k acc d : Nat} (h : Gath8 l k acc) (h2 : l.length = 2) (hk : k < l.length) (hd : ∀ z, z < 16 → l.getD k 0 = hexD z → d = z) : Gath8 l (k + 1) (acc * 16 + d) := by
  intro x y hx hy e
  obtain ⟨g0, g1, _⟩ := h x y hx hy e
  subst e
  have hk2 : k = 0 ∨ k = 1 := by simp at hk; omega
  rcases hk2 with rfl | rfl
  · have := hd x hx rfl
    have := g0 rfl
    exact ⟨fun h => by omega, fun _ => by omega, fun h => by omega⟩
  · have := hd y hy rfl
    have := g1 rfl
    exact ⟨fun h => by omega, fun h => by omega, fun _ => by omega⟩

theorem gath8_no {l : List Nat} {k : Nat} (h2 : l.length = 2) (hk : k < l.length) (hd : ∀ z, z < 16 → l.getD k 0 = hexD z → False) {v : Nat} : ∀ x y, x < 16 → y < 16 → l = [hexD x, hexD y] → v = 16 * x + y := by
  intro x y hx hy e
  subst e
  have hk2 : k = 0 ∨ k = 1 := by simp at hk; omega
  rcases hk2 with rfl | rfl
  · exact (hd x hx rfl).elim
  · exact (hd y hy rfl).elim

theorem gath8_end {l : List Nat} {acc : Nat} (h2 : l.length = 2) (h : Gath8 l l.length acc) : ∀ x y, x < 16 → y < 16 → l = [hexD x, hexD y] → acc = 16 * x + y := fun x y hx hy e => (h x y hx hy e).2.2 h2

/-- What ParseUint answers. -/
def UintEnd8 (w : World) (l : List Nat) (e : Ending) (w' : World) : Prop := Below w.heap.size w w' ∧ ∃ v : Nat, v < 256 ∧ (∀ x y, x < 16 → y < 16 → l = [hexD x, hexD y] → v = 16 * x + y) ∧ (e = .returned (.tuple #[.int .u64 (v : Int), .nilIface]) ∨ e = .returned (.tuple #[.int .u64 (v : Int), .iface 122 (.int .i64 2)]))

def URel8 (l : List Nat) (u n i : Value) : Prop := ∃ (k : Nat) (a : Int), u = .bool false ∧ n = .int .u64 a ∧ i = .int .i64 (k : Int) ∧ k ≤ l.length ∧ Hid (∃ acc : Nat, a = (acc : Int) ∧ acc < 16 ^ k ∧ Gath8 l k acc)

theorem lt_pow8 {acc k : Nat} (h : acc < 16 ^ k) (hk : k < 2) : acc < 16 := by
  rcases (show k = 0 ∨ k = 1 by omega) with rfl | rfl <;> omega

theorem pow8_next {acc k d : Nat} (h : acc < 16 ^ k) (hd : d < 16) : acc * 16 + d < 16 ^ (k + 1) := by
  rw [Nat.pow_succ]; omega

set_option maxRecDepth 100000 in
set_option maxHeartbeats 3200000 in
theorem iuint8_any (l : List Nat) (w : World) (hl : ∀ x ∈ l, x < 256) (hn : l.length = 2) :
    Calls Tryz.prog 95 #[.string (str l), .int .i64 16, .int .i64 8] w (UintEnd8 w l) := by
  have h0 : l ≠ [] := fun e => by rw [e] at hn; simp at hn
  have hq : (str l).toList.isEmpty = false := by
    rw [str_list, List.isEmpty_eq_false_iff]
    simpa using h0
  obtain ⟨c0, w1, hconv, hby, hbel⟩ := bytes_of_str l w hl (by omega)
  obtain ⟨b0, o0, e0, hcell⟩ := hby.cell (by cases l with | nil => exact absurd rfl h0 | cons _ _ => simp)
  cases e0
  have Hcell := Lib.hid hcell
  have Hl := Lib.hid hl
  have Hst := Lib.hid (gath8_zero l)
  have Hbel := Lib.hid hbel
  have Hn := Lib.hid hn
  have hlb : l.length ≤ 1000000 := by omega
  clear hcell hl h0 hby hbel hn
  go_enter Tryz.func95, Tryz.ntmps95
  go_wp2
  go_loop [12, 13, 101] (fun u n i => URel8 l u n i) (fun _ _ i => l.length - (intOf i).toNat)
  case atStart => exact ⟨0, 0, rfl, rfl, rfl, Nat.zero_le _, Lib.hid ⟨0, rfl, by omega, Hst.out⟩⟩
  case round =>
    obtain ⟨k, a, rfl, rfl, rfl, hk, HA⟩ := hrel
    obtain ⟨acc, ha, hacc, hga⟩ := HA.out
    by_cases hlt : k < l.length
    · have hc256 : l.getD k 0 < 256 := by
        rw [List.getD_eq_getElem?_getD, List.getElem?_eq_getElem hlt]
        exact Hl.out _ (List.getElem_mem _)
      have hcl := Hcell.out k hlt
      rw [Nat.zero_add] at hcl
      obtain ⟨c, e0⟩ : ∃ c, l.getD k 0 = c := ⟨_, rfl⟩
      rw [e0] at hc256 hcl
      by_cases hdig : 48 ≤ c ∧ c ≤ 57
      · have i1 : (48 : Int) ≤ (c : Int) := by omega
        have i2 : (c : Int) ≤ 57 := by omega
        have d95 : ((c : Int) == 95) = false := beq_eq_false_iff_ne.2 (by omega)
        have Hnx := Lib.hid (gath8_next (d := c - 48) hga Hn.out hlt (fun y hy e => hexD_digit (e0.symm.trans e) hy hdig.2))
        have hlo := lt_pow8 hacc (by have := Hn.out; omega)
        have icut : a < 1152921504606846976 := by omega
        have i0 : 0 ≤ a := by omega
        have iov : a * 16 + ((c : Int) - 48) ≤ 255 := by omega
        have Hlt2 := Lib.hid (pow8_next (d := c - 48) hacc (by omega))
        have Hv := Lib.hid (show a * 16 + ((c : Int) - 48) = ((acc * 16 + (c - 48) : Nat) : Int) by omega)
        clear hga ha hacc HA hdig  hlo
        go_wp2
        all_goals go_round
        all_goals try (case measure => simp [intOf]; omega)
        all_goals exact ⟨k + 1, a * 16 + ((c : Int) - 48), rfl, (by first | rfl | (congr 1; omega)), by go_num, by omega, Lib.hid ⟨_, Hv.out, Hlt2.out, Hnx.out⟩⟩
      · obtain ⟨_, hlow, hsame⟩ := low_is hc256
        have HL := Lib.hid (fun w => lower_any c w hc256)
        by_cases h95 : c = 95
        · have Hno := Lib.hid (gath8_no (v := 0) Hn.out hlt (fun y hy e => by have := hexD_letter (e0.symm.trans e) hy hdig; omega))
          have HL2 := Lib.hid (lower_under)
          clear hga ha hacc HA hdig hsame hlow HL
          subst h95
          go_wp2_with ((with_reducible refine (HL2.out _).mono ?_); rintro e w' ⟨rfl, rfl⟩)
          all_goals go_ret2
          all_goals exact ⟨Hbel.out, 0, by omega, Hno.out, .inr rfl⟩
        have d95 : ((c : Int) == 95) = false := beq_eq_false_iff_ne.2 (by omega)
        generalize low c = lc at *
        rcases (show c < 48 ∨ 57 < c by omega) with h48 | h48
        · have j1 : (c : Int) < 48 := by omega
          by_cases hr : 97 ≤ lc ∧ lc ≤ 122
          · have i1 : (97 : Int) ≤ (lc : Int) := by omega
            have i2 : (lc : Int) ≤ 122 := by omega
            by_cases h16 : 103 ≤ lc
            · have i3 : (103 : Int) ≤ (lc : Int) := by omega
              have Hno := Lib.hid (gath8_no (v := 0) Hn.out hlt (fun y hy e => by have := hexD_letter (e0.symm.trans e) hy hdig; omega))
              clear hga ha hacc HA hdig hsame
              go_wp2_with ((with_reducible refine (HL.out _).mono ?_); rintro e w' ⟨rfl, rfl⟩)
              all_goals go_ret2
              all_goals exact ⟨Hbel.out, 0, by omega, Hno.out, .inr rfl⟩
            · have i3 : (lc : Int) ≤ 102 := by omega
              have Hnx := Lib.hid (gath8_next (d := lc - 87) hga Hn.out hlt (fun y hy e => by have := hexD_letter (e0.symm.trans e) hy hdig; omega))
              have hlo := lt_pow8 hacc (by have := Hn.out; omega)
              have icut : a < 1152921504606846976 := by omega
              have i0 : 0 ≤ a := by omega
              have iov : a * 16 + ((lc : Int) - 97 + 10) ≤ 255 := by omega
              have Hlt2 := Lib.hid (pow8_next (d := lc - 87) hacc (by omega))
              have Hv := Lib.hid (show a * 16 + ((lc : Int) - 97 + 10) = ((acc * 16 + (lc - 87) : Nat) : Int) by omega)
              clear hga ha hacc HA hdig hsame hlo
              go_wp2_with ((with_reducible refine (HL.out _).mono ?_); rintro e w' ⟨rfl, rfl⟩)
              all_goals go_round
              all_goals try (case measure => simp [intOf]; omega)
              all_goals exact ⟨k + 1, a * 16 + ((lc : Int) - 97 + 10), rfl, (by first | rfl | (congr 1; omega)), by go_num, by omega, Lib.hid ⟨_, Hv.out, Hlt2.out, Hnx.out⟩⟩
          · by_cases h97 : lc < 97
            · have i1 : (lc : Int) < 97 := by omega
              have Hno := Lib.hid (gath8_no (v := 0) Hn.out hlt (fun y hy e => by have := hexD_letter (e0.symm.trans e) hy hdig; omega))
              clear hga ha hacc HA hdig hsame
              go_wp2_with ((with_reducible refine (HL.out _).mono ?_); rintro e w' ⟨rfl, rfl⟩)
              all_goals go_ret2
              all_goals exact ⟨Hbel.out, 0, by omega, Hno.out, .inr rfl⟩
            · have i1 : (122 : Int) < (lc : Int) := by omega
              have Hno := Lib.hid (gath8_no (v := 0) Hn.out hlt (fun y hy e => by have := hexD_letter (e0.symm.trans e) hy hdig; omega))
              clear hga ha hacc HA hdig hsame
              go_wp2_with ((with_reducible refine (HL.out _).mono ?_); rintro e w' ⟨rfl, rfl⟩)
              all_goals go_ret2
              all_goals exact ⟨Hbel.out, 0, by omega, Hno.out, .inr rfl⟩
        · have j1 : (57 : Int) < (c : Int) := by omega
          by_cases hr : 97 ≤ lc ∧ lc ≤ 122
          · have i1 : (97 : Int) ≤ (lc : Int) := by omega
            have i2 : (lc : Int) ≤ 122 := by omega
            by_cases h16 : 103 ≤ lc
            · have i3 : (103 : Int) ≤ (lc : Int) := by omega
              have Hno := Lib.hid (gath8_no (v := 0) Hn.out hlt (fun y hy e => by have := hexD_letter (e0.symm.trans e) hy hdig; omega))
              clear hga ha hacc HA hdig hsame
              go_wp2_with ((with_reducible refine (HL.out _).mono ?_); rintro e w' ⟨rfl, rfl⟩)
              all_goals go_ret2
              all_goals exact ⟨Hbel.out, 0, by omega, Hno.out, .inr rfl⟩
            · have i3 : (lc : Int) ≤ 102 := by omega
              have Hnx := Lib.hid (gath8_next (d := lc - 87) hga Hn.out hlt (fun y hy e => by have := hexD_letter (e0.symm.trans e) hy hdig; omega))
              have hlo := lt_pow8 hacc (by have := Hn.out; omega)
              have icut : a < 1152921504606846976 := by omega
              have i0 : 0 ≤ a := by omega
              have iov : a * 16 + ((lc : Int) - 97 + 10) ≤ 255 := by omega
              have Hlt2 := Lib.hid (pow8_next (d := lc - 87) hacc (by omega))
              have Hv := Lib.hid (show a * 16 + ((lc : Int) - 97 + 10) = ((acc * 16 + (lc - 87) : Nat) : Int) by omega)
              clear hga ha hacc HA hdig hsame hlo
              go_wp2_with ((with_reducible refine (HL.out _).mono ?_); rintro e w' ⟨rfl, rfl⟩)
              all_goals go_round
              all_goals try (case measure => simp [intOf]; omega)
              all_goals exact ⟨k + 1, a * 16 + ((lc : Int) - 97 + 10), rfl, (by first | rfl | (congr 1; omega)), by go_num, by omega, Lib.hid ⟨_, Hv.out, Hlt2.out, Hnx.out⟩⟩
          · by_cases h97 : lc < 97
            · have i1 : (lc : Int) < 97 := by omega
              have Hno := Lib.hid (gath8_no (v := 0) Hn.out hlt (fun y hy e => by have := hexD_letter (e0.symm.trans e) hy hdig; omega))
              clear hga ha hacc HA hdig hsame
              go_wp2_with ((with_reducible refine (HL.out _).mono ?_); rintro e w' ⟨rfl, rfl⟩)
              all_goals go_ret2
              all_goals exact ⟨Hbel.out, 0, by omega, Hno.out, .inr rfl⟩
            · have i1 : (122 : Int) < (lc : Int) := by omega
              have Hno := Lib.hid (gath8_no (v := 0) Hn.out hlt (fun y hy e => by have := hexD_letter (e0.symm.trans e) hy hdig; omega))
              clear hga ha hacc HA hdig hsame
              go_wp2_with ((with_reducible refine (HL.out _).mono ?_); rintro e w' ⟨rfl, rfl⟩)
              all_goals go_ret2
              all_goals exact ⟨Hbel.out, 0, by omega, Hno.out, .inr rfl⟩
    · obtain rfl : k = l.length := by omega
      have Hend := Lib.hid (gath8_end Hn.out hga)
      have Hacc := Lib.hid (show acc < 256 by have := Hn.out; rw [this] at hacc; exact hacc)
      subst ha
      clear hga hacc HA hlt
      go_wp2
      go_ret2
      exact ⟨Hbel.out, acc, Hacc.out, Hend.out, .inl rfl⟩

set_option maxRecDepth 100000 in
theorem uint8_any (l : List Nat) (w : World) (hl : ∀ x ∈ l, x < 256) (hn : l.length = 2) (he : Errs w) :
    Calls Tryz.prog 88 #[.string (str l), .int .i64 16, .int .i64 8] w fun e w' => Below w.heap.size w w' ∧ ∃ (v : Nat) (er : Value), v < 256 ∧ (∀ x y, x < 16 → y < 16 → l = [hexD x, hexD y] → v = 16 * x + y) ∧ e = .returned (.tuple #[.int .u64 (v : Int), er]) := by
  have H := Lib.hid (iuint8_any l w hl hn)
  have Hsz := Lib.hid (show (str l).size ≤ 281474976710656 by rw [str_size]; omega)
  have He := Lib.hid he
  clear hl hn he
  generalize hs : str l = s at *
  clear hs
  go_enter Tryz.func88, Tryz.ntmps88
  go_wp2_with fail
  refine H.out.mono ?_
  rintro e w1 ⟨hb, v, hv, hg, rfl | rfl⟩
  · have Hg := Lib.hid hg
    have Hv := Lib.hid hv
    clear hg hv
    go_wp2
    go_ret2
    exact ⟨hb, v, .nilIface, Hv.out, Hg.out, rfl⟩
  · have Hg := Lib.hid hg
    have Hv := Lib.hid hv
    clear hg hv
    obtain ⟨⟨t, p, hc⟩, _⟩ := He.out.below hb
    have HT := Lib.hid (Tryz.strconv_toError_syntax ⟨#[80, 97, 114, 115, 101, 85, 105, 110, 116]⟩ s 16 8 (.iface t p) w1 Hsz.out hc (.inr ⟨t, p, rfl⟩))
    clear hc
    go_wp2_with fail
    refine HT.out.mono ?_
    rintro e w2 ⟨M, rfl, _, _, hb2⟩
    go_wp2
    go_ret2
    exact ⟨hb.trans (hb2.mono hb.size), v, _, Hv.out, Hg.out, rfl⟩
end Go.Proofs.YtpnfnmeilhiebaaGreatDoor

/- The walk of the reference's Number. -/
namespace Go.Proofs.YtpnfnmeilhiebaaGreatDoor
open Go.RowKit

def stepN (b c : Nat) : Nat := if 48 ≤ c ∧ c ≤ 57 then (b * 10 + (c - 48)) % 18446744073709551616 else b

def numv (l : List Nat) : Nat := l.foldl stepN 0

theorem numv_decD (n : Nat) : numv (decD n) = n % 18446744073709551616 := by
  induction n using Nat.strongRecOn with
  | ind n ih =>
    by_cases h : n < 10
    · rw [decD_low h]
      unfold numv
      rw [List.foldl_cons, List.foldl_nil]
      unfold stepN
      rw [if_pos (by omega)]
      omega
    · rw [decD_high h]
      have h1 := ih (n / 10) (by omega)
      unfold numv at *
      rw [List.foldl_append, h1, List.foldl_cons, List.foldl_nil]
      unfold stepN
      rw [if_pos (by omega)]
      omega

theorem numv_decL (n : Int) : numv (decL n) = n.natAbs % 18446744073709551616 := by
  unfold decL
  split
  · have h := numv_decD n.natAbs
    unfold numv at *
    rw [List.foldl_cons, show stepN 0 45 = 0 from rfl, h]
  · exact numv_decD _

theorem numv_lt (l : List Nat) : numv l < 18446744073709551616 := by
  have h : ∀ (l : List Nat) (b : Nat), b < 18446744073709551616 → l.foldl stepN b < 18446744073709551616 := by
    intro l
    induction l with
    | nil => intro b hb; exact hb
    | cons c r ih =>
      intro b hb
      rw [List.foldl_cons]
      apply ih
      unfold stepN
      split
      · exact Nat.mod_lt _ (by omega)
      · exact hb
  exact h l 0 (by omega)

theorem num_found {x : Int} {l : List Nat} (h1 : -9223372036854775808 ≤ x) (h2 : x ≤ 9223372036854775807) (h : decL x = l) : x = IntKind.i64.wrap (numv l : Int) ∨ x = IntKind.i64.wrap (-IntKind.i64.wrap (numv l : Int)) := by
  have e := numv_decL x
  rw [h] at e
  rw [e, IntKind.wrap_i64, IntKind.wrap_i64]
  omega

theorem wrap_i64_range (x : Int) : -9223372036854775808 ≤ IntKind.i64.wrap x ∧ IntKind.i64.wrap x ≤ 9223372036854775807 := by
  rw [IntKind.wrap_i64]
  omega

theorem decL_byte (n : Int) : ∀ c ∈ decL n, c < 256 := by
  have hh : ∀ m, ∀ c ∈ decD m, c < 256 := fun m c hc => by have := decD_digit m c hc; omega
  intro c hc
  unfold decL at hc
  split at hc
  · rcases List.mem_cons.1 hc with rfl | hc
    · decide
    · exact hh _ c hc
  · exact hh _ c hc

/-- What Number answers. -/
def NumEnd (w : World) (l : List Nat) (e : Ending) (w' : World) : Prop :=
  ∃ m : Int, (-9223372036854775808 ≤ m ∧ m ≤ 9223372036854775807) ∧ e = .returned (.tuple #[.int .i64 m, .bool (decide (decL m = l))]) ∧ (decL m ≠ l → ∀ x : Int, -9223372036854775808 ≤ x → x ≤ 9223372036854775807 → decL x ≠ l) ∧ Below w.heap.size w w'

theorem stepN_digit {b c : Nat} (h1 : 48 ≤ (c : Int)) (h2 : (c : Int) ≤ 57) : IntKind.u64.wrap (IntKind.u64.wrap ((b : Int) * 10) + ((c : Int) - 48)) = ((stepN b c : Nat) : Int) := by
  unfold stepN
  rw [if_pos (show 48 ≤ c ∧ c ≤ 57 by omega), IntKind.wrap_u64, IntKind.wrap_u64]
  omega

theorem stepN_none {b c : Nat} (h1 : ¬ (48 ≤ (c : Int) ∧ (c : Int) ≤ 57)) : (b : Int) = ((stepN b c : Nat) : Int) := by
  unfold stepN
  rw [if_neg (show ¬ (48 ≤ c ∧ c ≤ 57) by omega)]

def NumRel (l : List Nat) (b i : Value) : Prop := ∃ k : Nat, k ≤ l.length ∧ i = .int .i64 k ∧ b = .int .u64 (numv (l.take k) : Nat)

theorem num_close {l : List Nat} {k b c : Nat} {x : Int} (h : k < l.length) (hn : numv (l.take (k + 1)) = stepN b c) (hx : x = ((stepN b c : Nat) : Int)) : NumRel l (.int .u64 x) (.int .i64 ((k : Int) + 1)) := by
  refine ⟨k + 1, by omega, by go_num, ?_⟩
  rw [hn, hx]

theorem num_next {l : List Nat} {k : Nat} (h : k < l.length) : numv (l.take (k + 1)) = stepN (numv (l.take k)) (l.getD k 0) := by
  rw [List.take_succ_eq_append_getElem h, List.getD_eq_getElem?_getD, List.getElem?_eq_getElem h]
  unfold numv
  rw [List.foldl_append]
  rfl

end Go.Proofs.YtpnfnmeilhiebaaGreatDoor

/- The walk of the reference's Unhex. -/
namespace Go.Proofs.YtpnfnmeilhiebaaGreatDoor
open Go.RowKit

/-- A new row of one byte. -/
theorem byte_row (w : World) {z : Int} {x : Nat} (h : z = (x : Int)) (hx : x < 256) : Bytes (w.alloc (.cells #[.int .u8 z] 5)) (some ⟨w.heap.size, 0, none⟩) 1 1 [x] := by
  subst h
  exact bytes_of_own (new_row w [x] (by simp)) (by simpa using hx)

def stepU (n c : Nat) : Nat := n * 16 + (if 48 ≤ c ∧ c ≤ 57 then c - 48 else if 97 ≤ c ∧ c ≤ 102 then c - 87 else 0)

theorem stepU_hexD {n d : Nat} (h : d < 16) : stepU n (hexD d) = n * 16 + d := by
  unfold stepU hexD
  split
  · rw [if_pos (by omega)]; omega
  · rw [if_neg (by omega), if_pos (by omega)]; omega

theorem stepU_lt {n c k : Nat} (h : n < k) : stepU n c < 16 * k := by
  unfold stepU
  split
  · omega
  · split <;> omega

/-- The bytes of the first pairs. -/
def outB (l : List Nat) (j : Nat) : List Nat := (List.range j).map fun i => stepU (stepU 0 (l.getD (2 * i) 0)) (l.getD (2 * i + 1) 0)

theorem outB_len (l : List Nat) (j : Nat) : (outB l j).length = j := by unfold outB; rw [List.length_map, List.length_range]

theorem outB_succ (l : List Nat) (j : Nat) : outB l (j + 1) = outB l j ++ [stepU (stepU 0 (l.getD (2 * j) 0)) (l.getD (2 * j + 1) 0)] := by
  unfold outB
  rw [List.range_succ, List.map_append]
  rfl

theorem outB_byte (l : List Nat) (j : Nat) : ∀ c ∈ outB l j, c < 256 := by
  intro c hc
  unfold outB at hc
  obtain ⟨i, _, rfl⟩ := List.mem_map.1 hc
  exact stepU_lt (k := 16) (stepU_lt (k := 1) (by omega))

theorem hex2_get : ∀ (b : List Nat) (i : Nat), i < b.length → (hex2 b).getD (2 * i) 0 = hexD (b.getD i 0 / 16) ∧ (hex2 b).getD (2 * i + 1) 0 = hexD (b.getD i 0 % 16)
  | [], i, h => by simp at h
  | c :: r, 0, _ => ⟨rfl, rfl⟩
  | c :: r, i + 1, h => by
    have ih := hex2_get r i (by simpa using h)
    unfold hex2 at *
    rw [List.flatMap_cons, show 2 * (i + 1) = 2 * i + 1 + 1 by omega]
    exact ih

theorem outB_hex2 (b : List Nat) (hb : ∀ c ∈ b, c < 256) : outB (hex2 b) ((hex2 b).length / 2) = b := by
  rw [hex2_len, Nat.mul_div_cancel_left _ (by omega)]
  apply List.ext_getElem
  · rw [outB_len]
  · intro i h1 h2
    obtain ⟨e1, e2⟩ := hex2_get b i h2
    have e3 : b.getD i 0 = b[i] := by rw [List.getD_eq_getElem?_getD, List.getElem?_eq_getElem h2]; rfl
    have := hb _ (List.getElem_mem h2)
    have e4 : (outB (hex2 b) b.length)[i] = stepU (stepU 0 ((hex2 b).getD (2 * i) 0)) ((hex2 b).getD (2 * i + 1) 0) := by simp [outB]
    rw [e4, e1, e2, e3, stepU_hexD (by omega), stepU_hexD (by omega)]
    omega

/-- What Unhex answers. -/
def UnhexEnd (w : World) (l : List Nat) (e : Ending) (w' : World) : Prop :=
  ∃ b : List Nat, (∀ c ∈ b, c < 256) ∧ 2 * b.length ≤ l.length ∧ e = .returned (.tuple #[.string (str b), .bool (decide (hex2 b = l))]) ∧ (hex2 b ≠ l → ∀ x : List Nat, (∀ c ∈ x, c < 256) → hex2 x ≠ l) ∧ Below w.heap.size w w'

def UnRel (w : World) (l : List Nat) (v i : Value) (wr : World) : Prop := ∃ j : Nat, 2 * j ≤ l.length ∧ i = .int .i64 ((2 * j : Nat) : Int) ∧ wr.ownsRow w.heap.size 5 1 v (outB l j).length (u8s (outB l j)) ∧ Below w.heap.size w wr

def InRel (c d J : Nat) (n k : Value) : Prop :=
  (n = .int .i64 0 ∧ k = .int .i64 (J : Int)) ∨ (n = .int .i64 ((stepU 0 c : Nat) : Int) ∧ k = .int .i64 ((J : Int) + 1)) ∨ (n = .int .i64 ((stepU (stepU 0 c) d : Nat) : Int) ∧ k = .int .i64 ((J : Int) + 2))

theorem stepU_is {n c : Nat} {x : Int} (h : x = (n : Int) * 16 + (if 48 ≤ (c : Int) ∧ (c : Int) ≤ 57 then (c : Int) - 48 else if 97 ≤ (c : Int) ∧ (c : Int) ≤ 102 then (c : Int) - 87 else 0)) : x = ((stepU n c : Nat) : Int) := by
  rw [h]
  unfold stepU
  by_cases h1 : 48 ≤ c ∧ c ≤ 57
  · rw [if_pos h1, if_pos (by omega)]; omega
  · rw [if_neg h1, if_neg (by omega)]
    by_cases h2 : 97 ≤ c ∧ c ≤ 102
    · rw [if_pos h2, if_pos (by omega)]; omega
    · rw [if_neg h2, if_neg (by omega)]; omega

end Go.Proofs.YtpnfnmeilhiebaaGreatDoor

