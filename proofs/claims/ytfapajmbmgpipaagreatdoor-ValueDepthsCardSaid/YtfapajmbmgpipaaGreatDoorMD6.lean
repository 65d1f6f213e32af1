import Derived.Test.YtfapajmbmgpipaaGreatDoorMD5
import Derived.Lib.ConvBytes
import Derived.Lib.SmallJoins
import Derived.Test.YtfapajmbmgpipaaGreatDoorMD2
import Derived.Laws.IdiomStrings
/- The walk of the library's ParseUint at base 16. -/
namespace Go.Proofs.YtfapajmbmgpipaaGreatDoor
open Go.RowKit Fl

/-- The small letter of a letter. -/
def low (c : Nat) : Nat := (bits .or .u8 (c : Int) 32).toNat

theorem low_all : ∀ c : Fin 256, 0 ≤ bits .or .u8 ((c.val : Nat) : Int) 32 ∧ bits .or .u8 ((c.val : Nat) : Int) 32 < 256 ∧ (97 ≤ c.val → c.val ≤ 102 → bits .or .u8 ((c.val : Nat) : Int) 32 = ((c.val : Nat) : Int)) := by decide +kernel

theorem low_is {c : Nat} (h : c < 256) : bits .or .u8 (c : Int) 32 = (low c : Int) ∧ low c < 256 ∧ (97 ≤ c → c ≤ 102 → low c = c) := by
  obtain ⟨h1, h2, h3⟩ := low_all ⟨c, h⟩
  refine ⟨(Int.toNat_of_nonneg h1).symm, ?_, fun h4 h5 => ?_⟩
  · have h6 : bits .or .u8 (c : Int) 32 < 256 := h2
    unfold low; omega
  · have h6 : bits .or .u8 (c : Int) 32 = (c : Int) := h3 h4 h5
    unfold low; omega

theorem lower_any (c : Nat) (w : World) (h : c < 256) :
    Calls Tryz.prog 114 #[.int .u8 (c : Int)] w fun e w' => e = .returned (.int .u8 (low c : Nat)) ∧ w = w' := by
  obtain ⟨e, _, _⟩ := low_is h
  go_enter Tryz.func114, Tryz.ntmps114
  go_wp2
  go_ret
  exact ⟨rfl, rfl⟩

/-- What the number gathered is: of the 16 digits of a number, its first ones. -/
def Gathers (l : List Nat) (k acc : Nat) : Prop := ∀ x, x < 18446744073709551616 → l = hexs x 16 → acc = x / 16 ^ (16 - k)

theorem gathers_zero (l : List Nat) : Gathers l 0 0 := by
  intro x hx _
  rw [Nat.div_eq_of_lt (by simpa using hx)]

theorem gathers_byte {l : List Nat} {k x : Nat} (h : l = hexs x 16) (hk : k < l.length) : k < 16 ∧ l.getD k 0 = hexD (x / 16 ^ (15 - k) % 16) := by
  subst h
  rw [hexs_len] at hk
  refine ⟨hk, ?_⟩
  rw [hexs_get x 16 k hk, show (16 : Nat) = 2 ^ 4 by decide, ← Nat.pow_mul]

theorem gathers_next {l : List Nat} {k acc d : Nat} (h : Gathers l k acc) (hk : k < l.length) (hd : ∀ y, y < 16 → l.getD k 0 = hexD y → d = y) : Gathers l (k + 1) (acc * 16 + d) := by
  intro x hx e
  obtain ⟨hk16, hb⟩ := gathers_byte e hk
  have h1 := h x hx e
  have h2 : d = x / 16 ^ (15 - k) % 16 := hd _ (Nat.mod_lt _ (by omega)) hb
  have h3 : x / 16 ^ (16 - k) = x / 16 ^ (15 - k) / 16 := by
    rw [show 16 - k = (15 - k) + 1 by omega, Nat.pow_succ, Nat.div_div_eq_div_mul]
  rw [show 16 - (k + 1) = 15 - k by omega, h1, h3, h2]
  omega

theorem gathers_end {l : List Nat} {acc : Nat} (h : Gathers l l.length acc) : ∀ x, x < 18446744073709551616 → l = hexs x 16 → acc = x := by
  intro x hx e
  have h1 := h x hx e
  have h2 : l.length = 16 := by rw [e, hexs_len]
  rw [h2, Nat.sub_self, Nat.pow_zero, Nat.div_one] at h1
  exact h1

/-- Where the number gathered would be too great, the bytes are no 16 digits. -/
theorem gathers_big {l : List Nat} {k acc v : Nat} (h : Gathers l k acc) (hk : k < l.length) (hb : 1152921504606846976 ≤ acc) : ∀ x, x < 18446744073709551616 → l = hexs x 16 → v = x := by
  intro x hx e
  obtain ⟨hk16, _⟩ := gathers_byte e hk
  have h1 := h x hx e
  have h3 : x / 16 ^ (16 - k) ≤ x / 16 ^ 1 := Nat.div_le_div_left (Nat.pow_le_pow_right (by omega) (by omega)) (by omega)
  rw [Nat.pow_one] at h3
  omega

/-- Where a byte is no digit, the bytes are no 16 digits. -/
theorem gathers_no {l : List Nat} {k v : Nat} (hk : k < l.length) (hd : ∀ y, y < 16 → l.getD k 0 ≠ hexD y) : ∀ x, x < 18446744073709551616 → l = hexs x 16 → v = x := by
  intro x hx e
  obtain ⟨_, hb⟩ := gathers_byte e hk
  exact absurd hb (hd _ (Nat.mod_lt _ (by omega)))

theorem hexD_digit {c y : Nat} (h : c = hexD y) (hy : y < 16) (h1 : c ≤ 57) : c - 48 = y := by
  unfold hexD at h
  split at h <;> omega

theorem hexD_letter {c y : Nat} (h : c = hexD y) (hy : y < 16) (h1 : ¬ (48 ≤ c ∧ c ≤ 57)) : 97 ≤ c ∧ c ≤ 102 ∧ c - 87 = y := by
  unfold hexD at h
  split at h <;> omega

/-- How ParseUint ends at base 16. -/
def UintEnd (w : World) (l : List Nat) (e : Ending) (w' : World) : Prop :=
  Below w.heap.size w w' ∧ ∃ v : Nat, v < 18446744073709551616 ∧ (∀ x, x < 18446744073709551616 → l = hexs x 16 → v = x) ∧
    (e = .returned (.tuple #[.int .u64 (v : Int), .nilIface]) ∨ e = .returned (.tuple #[.int .u64 (v : Int), .iface 130 (.int .i64 1)]) ∨ e = .returned (.tuple #[.int .u64 (v : Int), .iface 130 (.int .i64 2)]))
end Go.Proofs.YtfapajmbmgpipaaGreatDoor

/- The bytes of a string as a new slice. -/
namespace Go.Proofs.YtfapajmbmgpipaaGreatDoor
open Go.RowKit

set_option maxRecDepth 100000 in
/-- '[]byte(s)': new memory. -/
theorem bytes_of_str (l : List Nat) (w : World) (hl : ∀ x ∈ l, x < 256) (hn : l.length ≤ 1000000) :
    ∃ c w', (convert 9 28 (.string (str l))).run Tryz.prog w = .ok (.slice (some ⟨w.heap.size, 0, none⟩) l.length c) w' ∧ Bytes w' (some ⟨w.heap.size, 0, none⟩) l.length c l ∧ Below w.heap.size w w' := by
  have hr := run_bytes_of_string (P := Tryz.prog) w 9 28 5 (str l) Tryz.underlying9 Tryz.underlying28 Tryz.underlying5
  have hge := grownCap_ge w (str l).size 0 5
  have hcm := grownCap_le_maxLen w (str l).size 0 5 (by rw [maxLen_nat, str_size]; omega)
  rw [maxLen_nat] at hcm
  rw [str_size] at hr hge hcm
  obtain ⟨c, hc⟩ : ∃ c, c = grownCap w l.length 0 5 := ⟨_, rfl⟩
  rw [← hc] at hr hge hcm
  refine ⟨c, _, hr, ⟨rfl, hge, hcm, hl, (fun h => (by cases h)), fun _ => ⟨w.heap.size, 0, rfl, fun i hi => ?_⟩⟩, ((Below.refl _ _).drew).alloc (Nat.le_refl _) _⟩
  rw [Nat.zero_add]
  have hsz : i < (str l).data.size := by
    have := str_size l
    show i < (str l).size
    omega
  have h1 := bytesRow_at (str l) c i hsz
  have h2 : (w.drew.alloc (.cells (bytesRow (str l) c) 5 ((bytesRow (str l) c).size, (bytesRow (str l) c).size + 1))).cell? ⟨w.heap.size, i, none⟩ = (bytesRow (str l) c)[i]? := cell_of_row _ _ _ _ _ _ (heap_alloc_new w.drew _)
  rw [h2, h1]
  congr 2
  have h3 : (str l).data[i] = UInt8.ofNat (l.getD i 0) := by
    rw [List.getD_eq_getElem?_getD, List.getElem?_eq_getElem hi]
    have h5 : i < (l.map UInt8.ofNat).length := by rw [List.length_map]; exact hi
    show ((l.map UInt8.ofNat).toArray)[i]'(by simpa using h5) = _
    rw [List.getElem_toArray]
    exact List.getElem_map _
  rw [h3]
  have h4 : l.getD i 0 < 256 := by
    rw [List.getD_eq_getElem?_getD, List.getElem?_eq_getElem hi]
    exact hl _ (List.getElem_mem _)
  simp [UInt8.toNat_ofNat']
  simp at h4
  omega
end Go.Proofs.YtfapajmbmgpipaaGreatDoor

/- The walk of the library's ParseUint at base 16: the loop. -/
namespace Go.Proofs.YtfapajmbmgpipaaGreatDoor
open Go.RowKit Fl

theorem lower_under (w : World) : Calls Tryz.prog 114 #[.int .u8 95] w fun e w' => e = .returned (.int .u8 127) ∧ w = w' := by
  have h := lower_any 95 w (by omega)
  rw [show low 95 = 127 by decide +kernel] at h
  exact h

def URel (l : List Nat) (u n i : Value) : Prop := ∃ (k : Nat) (a : Int), u = .bool false ∧ n = .int .u64 a ∧ i = .int .i64 (k : Int) ∧ k ≤ l.length ∧ Hid (∃ acc : Nat, a = (acc : Int) ∧ acc < 18446744073709551616 ∧ Gathers l k acc)

set_option maxRecDepth 100000 in
set_option maxHeartbeats 3200000 in
theorem iuint_any (l : List Nat) (w : World) (hl : ∀ x ∈ l, x < 256) (hn : l.length ≤ 1000000) :
    Calls Tryz.prog 103 #[.string (str l), .int .i64 16, .int .i64 64] w (UintEnd w l) := by
  by_cases h0 : l = []
  · have hq : (str l).toList.isEmpty = true := by rw [h0, str_list]; rfl
    have Hno := Lib.hid (show ∀ x, x < 18446744073709551616 → l = hexs x 16 → 0 = x by
      intro x _ e
      have := congrArg List.length e
      rw [hexs_len, h0] at this
      exact absurd this (by simp))
    clear hl hn h0
    generalize str l = s at *
    go_enter Tryz.func103, Tryz.ntmps103
    go_wp2
    go_ret2
    exact ⟨Below.refl _ _, 0, by omega, Hno.out, .inr (.inr rfl)⟩
  · have hq : (str l).toList.isEmpty = false := by
      rw [str_list, List.isEmpty_eq_false_iff]
      simpa using h0
    obtain ⟨c0, w1, hconv, hby, hbel⟩ := bytes_of_str l w hl hn
    obtain ⟨b0, o0, e0, hcell⟩ := hby.cell (by cases l with | nil => exact absurd rfl h0 | cons _ _ => simp)
    cases e0
    have Hcell := Lib.hid hcell
    have Hl := Lib.hid hl
    have Hst := Lib.hid (gathers_zero l)
    have Hbel := Lib.hid hbel
    have hmv : IntKind.u64.wrap (IntKind.u64.wrap 18446744073709551616 - 1) = 18446744073709551615 := by decide +kernel
    clear hcell hl h0 hby hbel
    go_enter Tryz.func103, Tryz.ntmps103
    go_wp2
    go_loop [12, 13, 101] (fun u n i => URel l u n i) (fun _ _ i => l.length - (intOf i).toNat)
    case atStart => exact ⟨0, 0, rfl, rfl, rfl, Nat.zero_le _, Lib.hid ⟨0, rfl, by omega, Hst.out⟩⟩
    case round =>
      obtain ⟨k, a, rfl, rfl, rfl, hk, HA⟩ := hrel
      obtain ⟨acc, ha, hacc, hga⟩ := HA.out
      by_cases hlt : k < l.length
      · have hc256 : l.getD k 0 < 256 := by
          rw [List.getD_eq_getElem?_getD, List.getElem?_eq_getElem hlt]
          exact Hl.out _ (List.getElem_mem _)
        have hcl := Hcell.out k hlt
        rw [Nat.zero_add] at hcl
        obtain ⟨c, e0⟩ : ∃ c, l.getD k 0 = c := ⟨_, rfl⟩
        rw [e0] at hc256 hcl
        by_cases hdig : 48 ≤ c ∧ c ≤ 57
        · have i1 : (48 : Int) ≤ (c : Int) := by omega
          have i2 : (c : Int) ≤ 57 := by omega
          have d95 : ((c : Int) == 95) = false := beq_eq_false_iff_ne.2 (by omega)
          by_cases hcut : 1152921504606846976 ≤ acc
          · have Hno := Lib.hid (gathers_big (v := 18446744073709551615) hga hlt hcut)
            have icut : 1152921504606846976 ≤ a := by omega
            clear hga ha hacc HA hdig hcut
            go_wp2
            all_goals go_ret2
            all_goals exact ⟨Hbel.out, 18446744073709551615, by omega, Hno.out, .inr (.inl rfl)⟩
          · have Hn := Lib.hid (gathers_next (d := c - 48) hga hlt (fun y hy e => hexD_digit (e0.symm.trans e) hy hdig.2))
            have icut : a < 1152921504606846976 := by omega
            have i0 : 0 ≤ a := by omega
            have iov : a * 16 + ((c : Int) - 48) < 18446744073709551616 := by omega
            have Hlt2 := Lib.hid (show acc * 16 + (c - 48) < 18446744073709551616 by omega)
            have Hv := Lib.hid (show a * 16 + ((c : Int) - 48) = ((acc * 16 + (c - 48) : Nat) : Int) by omega)
            clear hga ha hacc HA hdig hcut
            go_wp2
            all_goals go_round
            all_goals try (case measure => simp [intOf]; omega)
            all_goals exact ⟨k + 1, a * 16 + ((c : Int) - 48), rfl, (by first | rfl | (congr 1; omega)), by go_num, by omega, Lib.hid ⟨_, Hv.out, Hlt2.out, Hn.out⟩⟩
        · obtain ⟨_, hlow, hsame⟩ := low_is hc256
          have HL := Lib.hid (fun w => lower_any c w hc256)
          by_cases h95 : c = 95
          · have Hno := Lib.hid (gathers_no (v := 0) hlt (fun y hy e => by have := hexD_letter (e0.symm.trans e) hy hdig; omega))
            have HL2 := Lib.hid (lower_under)
            clear hga ha hacc HA hdig hsame hlow HL
            subst h95
            go_wp2_with ((with_reducible refine (HL2.out _).mono ?_); rintro e w' ⟨rfl, rfl⟩)
            all_goals go_ret2
            all_goals exact ⟨Hbel.out, 0, by omega, Hno.out, .inr (.inr rfl)⟩
          have d95 : ((c : Int) == 95) = false := beq_eq_false_iff_ne.2 (by omega)
          generalize low c = lc at *
          rcases (show c < 48 ∨ 57 < c by omega) with h48 | h48
          · have j1 : (c : Int) < 48 := by omega
            by_cases hr : 97 ≤ lc ∧ lc ≤ 122
            · have i1 : (97 : Int) ≤ (lc : Int) := by omega
              have i2 : (lc : Int) ≤ 122 := by omega
              by_cases h16 : 103 ≤ lc
              · have i3 : (103 : Int) ≤ (lc : Int) := by omega
                have Hno := Lib.hid (gathers_no (v := 0) hlt (fun y hy e => by have := hexD_letter (e0.symm.trans e) hy hdig; omega))
                clear hga ha hacc HA hdig hsame
                go_wp2_with ((with_reducible refine (HL.out _).mono ?_); rintro e w' ⟨rfl, rfl⟩)
                all_goals go_ret2
                all_goals exact ⟨Hbel.out, 0, by omega, Hno.out, .inr (.inr rfl)⟩
              · have i3 : (lc : Int) ≤ 102 := by omega
                by_cases hcut : 1152921504606846976 ≤ acc
                · have Hno := Lib.hid (gathers_big (v := 18446744073709551615) hga hlt hcut)
                  have icut : 1152921504606846976 ≤ a := by omega
                  clear hga ha hacc HA hdig hcut hsame
                  go_wp2_with ((with_reducible refine (HL.out _).mono ?_); rintro e w' ⟨rfl, rfl⟩)
                  all_goals go_ret2
                  all_goals exact ⟨Hbel.out, 18446744073709551615, by omega, Hno.out, .inr (.inl rfl)⟩
                · have Hn := Lib.hid (gathers_next (d := lc - 87) hga hlt (fun y hy e => by have := hexD_letter (e0.symm.trans e) hy hdig; omega))
                  have icut : a < 1152921504606846976 := by omega
                  have i0 : 0 ≤ a := by omega
                  have iov : a * 16 + ((lc : Int) - 97 + 10) < 18446744073709551616 := by omega
                  have Hlt2 := Lib.hid (show acc * 16 + (lc - 87) < 18446744073709551616 by omega)
                  have Hv := Lib.hid (show a * 16 + ((lc : Int) - 97 + 10) = ((acc * 16 + (lc - 87) : Nat) : Int) by omega)
                  clear hga ha hacc HA hdig hcut hsame
                  go_wp2_with ((with_reducible refine (HL.out _).mono ?_); rintro e w' ⟨rfl, rfl⟩)
                  all_goals go_round
                  all_goals try (case measure => simp [intOf]; omega)
                  all_goals exact ⟨k + 1, a * 16 + ((lc : Int) - 97 + 10), rfl, (by first | rfl | (congr 1; omega)), by go_num, by omega, Lib.hid ⟨_, Hv.out, Hlt2.out, Hn.out⟩⟩
            · by_cases h97 : lc < 97
              · have i1 : (lc : Int) < 97 := by omega
                have Hno := Lib.hid (gathers_no (v := 0) hlt (fun y hy e => by have := hexD_letter (e0.symm.trans e) hy hdig; omega))
                clear hga ha hacc HA hdig hsame
                go_wp2_with ((with_reducible refine (HL.out _).mono ?_); rintro e w' ⟨rfl, rfl⟩)
                all_goals go_ret2
                all_goals exact ⟨Hbel.out, 0, by omega, Hno.out, .inr (.inr rfl)⟩
              · have i1 : (122 : Int) < (lc : Int) := by omega
                have Hno := Lib.hid (gathers_no (v := 0) hlt (fun y hy e => by have := hexD_letter (e0.symm.trans e) hy hdig; omega))
                clear hga ha hacc HA hdig hsame
                go_wp2_with ((with_reducible refine (HL.out _).mono ?_); rintro e w' ⟨rfl, rfl⟩)
                all_goals go_ret2
                all_goals exact ⟨Hbel.out, 0, by omega, Hno.out, .inr (.inr rfl)⟩
          · have j1 : (57 : Int) < (c : Int) := by omega
            by_cases hr : 97 ≤ lc ∧ lc ≤ 122
            · have i1 : (97 : Int) ≤ (lc : Int) := by omega
              have i2 : (lc : Int) ≤ 122 := by omega
              by_cases h16 : 103 ≤ lc
              · have i3 : (103 : Int) ≤ (lc : Int) := by omega
                have Hno := Lib.hid (gathers_no (v := 0) hlt (fun y hy e => by have := hexD_letter (e0.symm.trans e) hy hdig; omega))
                clear hga ha hacc HA hdig hsame
                go_wp2_with ((with_reducible refine (HL.out _).mono ?_); rintro e w' ⟨rfl, rfl⟩)
                all_goals go_ret2
                all_goals exact ⟨Hbel.out, 0, by omega, Hno.out, .inr (.inr rfl)⟩
              · have i3 : (lc : Int) ≤ 102 := by omega
                by_cases hcut : 1152921504606846976 ≤ acc
                · have Hno := Lib.hid (gathers_big (v := 18446744073709551615) hga hlt hcut)
                  have icut : 1152921504606846976 ≤ a := by omega
                  clear hga ha hacc HA hdig hcut hsame
                  go_wp2_with ((with_reducible refine (HL.out _).mono ?_); rintro e w' ⟨rfl, rfl⟩)
                  all_goals go_ret2
                  all_goals exact ⟨Hbel.out, 18446744073709551615, by omega, Hno.out, .inr (.inl rfl)⟩
                · have Hn := Lib.hid (gathers_next (d := lc - 87) hga hlt (fun y hy e => by have := hexD_letter (e0.symm.trans e) hy hdig; omega))
                  have icut : a < 1152921504606846976 := by omega
                  have i0 : 0 ≤ a := by omega
                  have iov : a * 16 + ((lc : Int) - 97 + 10) < 18446744073709551616 := by omega
                  have Hlt2 := Lib.hid (show acc * 16 + (lc - 87) < 18446744073709551616 by omega)
                  have Hv := Lib.hid (show a * 16 + ((lc : Int) - 97 + 10) = ((acc * 16 + (lc - 87) : Nat) : Int) by omega)
                  clear hga ha hacc HA hdig hcut hsame
                  go_wp2_with ((with_reducible refine (HL.out _).mono ?_); rintro e w' ⟨rfl, rfl⟩)
                  all_goals go_round
                  all_goals try (case measure => simp [intOf]; omega)
                  all_goals exact ⟨k + 1, a * 16 + ((lc : Int) - 97 + 10), rfl, (by first | rfl | (congr 1; omega)), by go_num, by omega, Lib.hid ⟨_, Hv.out, Hlt2.out, Hn.out⟩⟩
            · by_cases h97 : lc < 97
              · have i1 : (lc : Int) < 97 := by omega
                have Hno := Lib.hid (gathers_no (v := 0) hlt (fun y hy e => by have := hexD_letter (e0.symm.trans e) hy hdig; omega))
                clear hga ha hacc HA hdig hsame
                go_wp2_with ((with_reducible refine (HL.out _).mono ?_); rintro e w' ⟨rfl, rfl⟩)
                all_goals go_ret2
                all_goals exact ⟨Hbel.out, 0, by omega, Hno.out, .inr (.inr rfl)⟩
              · have i1 : (122 : Int) < (lc : Int) := by omega
                have Hno := Lib.hid (gathers_no (v := 0) hlt (fun y hy e => by have := hexD_letter (e0.symm.trans e) hy hdig; omega))
                clear hga ha hacc HA hdig hsame
                go_wp2_with ((with_reducible refine (HL.out _).mono ?_); rintro e w' ⟨rfl, rfl⟩)
                all_goals go_ret2
                all_goals exact ⟨Hbel.out, 0, by omega, Hno.out, .inr (.inr rfl)⟩
      · obtain rfl : k = l.length := by omega
        have Hend := Lib.hid (gathers_end hga)
        have Hacc := Lib.hid hacc
        subst ha
        clear hga hacc HA hlt
        go_wp2
        go_ret2
        exact ⟨Hbel.out, acc, Hacc.out, Hend.out, .inl rfl⟩
end Go.Proofs.YtfapajmbmgpipaaGreatDoor

/- The walk of strconv.ParseUint at base 16, where the errors' variables hold errors. -/
namespace Go.Proofs.YtfapajmbmgpipaaGreatDoor
open Go.RowKit Fl

/-- The two variables of the library's errors hold errors. -/
def Errs (w : World) : Prop := (∃ t p, w.cell? ⟨2, 0, none⟩ = some (.iface t p)) ∧ (∃ t p, w.cell? ⟨3, 0, none⟩ = some (.iface t p))

theorem Errs.below {w w' : World} (h : Errs w) (hb : Below w.heap.size w w') : Errs w' := by
  obtain ⟨⟨t, p, h1⟩, ⟨t', p', h2⟩⟩ := h
  exact ⟨⟨t, p, by rw [hb.cell (World.block_lt_of_cell? _ _ h1)]; exact h1⟩, ⟨t', p', by rw [hb.cell (World.block_lt_of_cell? _ _ h2)]; exact h2⟩⟩

set_option maxRecDepth 100000 in
theorem puint_any (l : List Nat) (w : World) (hl : ∀ x ∈ l, x < 256) (hn : l.length ≤ 1000000) (he : Errs w) :
    Calls Tryz.prog 96 #[.string (str l), .int .i64 16, .int .i64 64] w fun e w' => Below w.heap.size w w' ∧ ∃ (v : Nat) (er : Value), v < 18446744073709551616 ∧ (∀ x, x < 18446744073709551616 → l = hexs x 16 → v = x) ∧ e = .returned (.tuple #[.int .u64 (v : Int), er]) := by
  have H := Lib.hid (iuint_any l w hl hn)
  have Hsz := Lib.hid (show (str l).size ≤ 281474976710656 by rw [str_size]; omega)
  have He := Lib.hid he
  clear hl hn he
  generalize hs : str l = s at *
  clear hs
  go_enter Tryz.func96, Tryz.ntmps96
  go_wp2_with fail
  refine H.out.mono ?_
  rintro e w1 ⟨hb, v, hv, hg, rfl | rfl | rfl⟩
  · have Hg := Lib.hid hg
    have Hv := Lib.hid hv
    clear hg hv
    go_wp2
    go_ret2
    exact ⟨hb, v, .nilIface, Hv.out, Hg.out, rfl⟩
  · have Hg := Lib.hid hg
    have Hv := Lib.hid hv
    clear hg hv
    obtain ⟨_, ⟨t, p, hc⟩⟩ := He.out.below hb
    have HT := Lib.hid (Tryz.strconv_toError_range ⟨#[80, 97, 114, 115, 101, 85, 105, 110, 116]⟩ s 16 64 (.iface t p) w1 Hsz.out hc (.inr ⟨t, p, rfl⟩))
    clear hc
    go_wp2_with fail
    refine HT.out.mono ?_
    rintro e w2 ⟨M, rfl, _, _, hb2⟩
    go_wp2
    go_ret2
    exact ⟨hb.trans (hb2.mono hb.size), v, _, Hv.out, Hg.out, rfl⟩
  · have Hg := Lib.hid hg
    have Hv := Lib.hid hv
    clear hg hv
    obtain ⟨⟨t, p, hc⟩, _⟩ := He.out.below hb
    have HT := Lib.hid (Tryz.strconv_toError_syntax ⟨#[80, 97, 114, 115, 101, 85, 105, 110, 116]⟩ s 16 64 (.iface t p) w1 Hsz.out hc (.inr ⟨t, p, rfl⟩))
    clear hc
    go_wp2_with fail
    refine HT.out.mono ?_
    rintro e w2 ⟨M, rfl, _, _, hb2⟩
    go_wp2
    go_ret2
    exact ⟨hb.trans (hb2.mono hb.size), v, _, Hv.out, Hg.out, rfl⟩
end Go.Proofs.YtfapajmbmgpipaaGreatDoor

