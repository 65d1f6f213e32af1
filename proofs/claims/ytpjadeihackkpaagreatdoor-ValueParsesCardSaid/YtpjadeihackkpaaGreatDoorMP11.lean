import Derived.Test.YtpjadeihackkpaaGreatDoorMP3
import Derived.Laws.IdiomStrings
import Derived.Test.YtpjadeihackkpaaGreatDoorMP10
/- The bytes of a string as a new slice. -/
namespace Go.Proofs.YtpjadeihackkpaaGreatDoor
open Go.RowKit

set_option maxRecDepth 100000 in
/-- '[]byte(s)': new memory. -/
theorem bytes_of_str (l : List Nat) (w : World) (hl : ∀ x ∈ l, x < 256) (hn : l.length ≤ 1000000) :
    ∃ c w', (convert 9 28 (.string (str l))).run Tryz.prog w = .ok (.slice (some ⟨w.heap.size, 0, none⟩) l.length c) w' ∧ Bytes w' (some ⟨w.heap.size, 0, none⟩) l.length c l ∧ Below w.heap.size w w' := by
  have hr := run_bytes_of_string (P := Tryz.prog) w 9 28 5 (str l) Tryz.underlying9 Tryz.underlying28 Tryz.underlying5
  have hge := grownCap_ge w (str l).size 0 5
  have hcm := grownCap_le_maxLen w (str l).size 0 5 (by rw [maxLen_nat, str_size]; omega)
  rw [maxLen_nat] at hcm
  rw [str_size] at hr hge hcm
  obtain ⟨c, hc⟩ : ∃ c, c = grownCap w l.length 0 5 := ⟨_, rfl⟩
  rw [← hc] at hr hge hcm
  refine ⟨c, _, hr, ⟨rfl, hge, hcm, hl, (fun h => (by cases h)), fun _ => ⟨w.heap.size, 0, rfl, fun i hi => ?_⟩⟩, ((Below.refl _ _).drew).alloc (Nat.le_refl _) _⟩
  rw [Nat.zero_add]
  have hsz : i < (str l).data.size := by
    have := str_size l
    show i < (str l).size
    omega
  have h1 := bytesRow_at (str l) c i hsz
  have h2 : (w.drew.alloc (.cells (bytesRow (str l) c) 5 ((bytesRow (str l) c).size, (bytesRow (str l) c).size + 1))).cell? ⟨w.heap.size, i, none⟩ = (bytesRow (str l) c)[i]? := cell_of_row _ _ _ _ _ _ (heap_alloc_new w.drew _)
  rw [h2, h1]
  congr 2
  have h3 : (str l).data[i] = UInt8.ofNat (l.getD i 0) := by
    rw [List.getD_eq_getElem?_getD, List.getElem?_eq_getElem hi]
    have h5 : i < (l.map UInt8.ofNat).length := by rw [List.length_map]; exact hi
    show ((l.map UInt8.ofNat).toArray)[i]'(by simpa using h5) = _
    rw [List.getElem_toArray]
    exact List.getElem_map _
  rw [h3]
  have h4 : l.getD i 0 < 256 := by
    rw [List.getD_eq_getElem?_getD, List.getElem?_eq_getElem hi]
    exact hl _ (List.getElem_mem _)
  simp [UInt8.toNat_ofNat']
  simp at h4
  omega
end Go.Proofs.YtpjadeihackkpaaGreatDoor

/- The walk of the library's ParseUint at base 16: the loop. -/
namespace Go.Proofs.YtpjadeihackkpaaGreatDoor
open Go.RowKit Fl

theorem lower_under (w : World) : Calls Tryz.prog 113 #[.int .u8 95] w fun e w' => e = .returned (.int .u8 127) ∧ w = w' := by
  have h := lower_any 95 w (by omega)
  rw [show low 95 = 127 by decide +kernel] at h
  exact h

def URel (l : List Nat) (u n i : Value) : Prop := ∃ (k : Nat) (a : Int), u = .bool false ∧ n = .int .u64 a ∧ i = .int .i64 (k : Int) ∧ k ≤ l.length ∧ Hid (∃ acc : Nat, a = (acc : Int) ∧ acc < 18446744073709551616 ∧ Gathers l k acc)

set_option maxRecDepth 100000 in
set_option maxHeartbeats 3200000 in
theorem iuint_any (l : List Nat) (w : World) (hl : ∀ x ∈ l, x < 256) (hn : l.length ≤ 1000000) :
    Calls Tryz.prog 102 #[.string (str l), .int .i64 16, .int .i64 64] w (UintEnd w l) := by
  by_cases h0 : l = []
  · have hq : (str l).toList.isEmpty = true := by rw [h0, str_list]; rfl
    have Hno := Lib.hid (show ∀ x, x < 18446744073709551616 → l = hexs x 16 → 0 = x by
      intro x _ e
      have := congrArg List.length e
      rw [hexs_len, h0] at this
      exact absurd this (by simp))
    clear hl hn h0
    generalize str l = s at *
    go_enter Tryz.func102, Tryz.ntmps102
    go_wp2
    go_ret2
    exact ⟨Below.refl _ _, 0, by omega, Hno.out, .inr (.inr rfl)⟩
  · have hq : (str l).toList.isEmpty = false := by
      rw [str_list, List.isEmpty_eq_false_iff]
      simpa using h0
    obtain ⟨c0, w1, hconv, hby, hbel⟩ := bytes_of_str l w hl hn
    obtain ⟨b0, o0, e0, hcell⟩ := hby.cell (by cases l with | nil => exact absurd rfl h0 | cons _ _ => simp)
    cases e0
    have Hcell := Lib.hid hcell
    have Hl := Lib.hid hl
    have Hst := Lib.hid (gathers_zero l)
    have Hbel := Lib.hid hbel
    have hmv : IntKind.u64.wrap (IntKind.u64.wrap 18446744073709551616 - 1) = 18446744073709551615 := by decide +kernel
    clear hcell hl h0 hby hbel
    go_enter Tryz.func102, Tryz.ntmps102
    go_wp2
    go_loop [12, 13, 101] (fun u n i => URel l u n i) (fun _ _ i => l.length - (intOf i).toNat)
    case atStart => exact ⟨0, 0, rfl, rfl, rfl, Nat.zero_le _, Lib.hid ⟨0, rfl, by omega, Hst.out⟩⟩
    case round =>
      obtain ⟨k, a, rfl, rfl, rfl, hk, HA⟩ := hrel
      obtain ⟨acc, ha, hacc, hga⟩ := HA.out
      by_cases hlt : k < l.length
      · have hc256 : l.getD k 0 < 256 := by
          rw [List.getD_eq_getElem?_getD, List.getElem?_eq_getElem hlt]
          exact Hl.out _ (List.getElem_mem _)
        have hcl := Hcell.out k hlt
        rw [Nat.zero_add] at hcl
        obtain ⟨c, e0⟩ : ∃ c, l.getD k 0 = c := ⟨_, rfl⟩
        rw [e0] at hc256 hcl
        by_cases hdig : 48 ≤ c ∧ c ≤ 57
        · have i1 : (48 : Int) ≤ (c : Int) := by omega
          have i2 : (c : Int) ≤ 57 := by omega
          have d95 : ((c : Int) == 95) = false := beq_eq_false_iff_ne.2 (by omega)
          by_cases hcut : 1152921504606846976 ≤ acc
          · have Hno := Lib.hid (gathers_big (v := 18446744073709551615) hga hlt hcut)
            have icut : 1152921504606846976 ≤ a := by omega
            clear hga ha hacc HA hdig hcut
            go_wp2
            all_goals go_ret2
            all_goals exact ⟨Hbel.out, 18446744073709551615, by omega, Hno.out, .inr (.inl rfl)⟩
          · have Hn := Lib.hid (gathers_next (d := c - 48) hga hlt (fun y hy e => hexD_digit (e0.symm.trans e) hy hdig.2))
            have icut : a < 1152921504606846976 := by omega
            have i0 : 0 ≤ a := by omega
            have iov : a * 16 + ((c : Int) - 48) < 18446744073709551616 := by omega
            have Hlt2 := Lib.hid (show acc * 16 + (c - 48) < 18446744073709551616 by omega)
            have Hv := Lib.hid (show a * 16 + ((c : Int) - 48) = ((acc * 16 + (c - 48) : Nat) : Int) by omega)
            clear hga ha hacc HA hdig hcut
            go_wp2
            all_goals go_round
            all_goals try (case measure => simp [intOf]; omega)
            all_goals exact ⟨k + 1, a * 16 + ((c : Int) - 48), rfl, (by first | rfl | (congr 1; omega)), by go_num, by omega, Lib.hid ⟨_, Hv.out, Hlt2.out, Hn.out⟩⟩
        · obtain ⟨_, hlow, hsame⟩ := low_is hc256
          have HL := Lib.hid (fun w => lower_any c w hc256)
          by_cases h95 : c = 95
          · have Hno := Lib.hid (gathers_no (v := 0) hlt (fun y hy e => by have := hexD_letter (e0.symm.trans e) hy hdig; omega))
            have HL2 := Lib.hid (lower_under)
            clear hga ha hacc HA hdig hsame hlow HL
            subst h95
            go_wp2_with ((with_reducible refine (HL2.out _).mono ?_); rintro e w' ⟨rfl, rfl⟩)
            all_goals go_ret2
            all_goals exact ⟨Hbel.out, 0, by omega, Hno.out, .inr (.inr rfl)⟩
          have d95 : ((c : Int) == 95) = false := beq_eq_false_iff_ne.2 (by omega)
          generalize low c = lc at *
          rcases (show c < 48 ∨ 57 < c by omega) with h48 | h48
          · have j1 : (c : Int) < 48 := by omega
            by_cases hr : 97 ≤ lc ∧ lc ≤ 122
            · have i1 : (97 : Int) ≤ (lc : Int) := by omega
              have i2 : (lc : Int) ≤ 122 := by omega
              by_cases h16 : 103 ≤ lc
              · have i3 : (103 : Int) ≤ (lc : Int) := by omega
                have Hno := Lib.hid (gathers_no (v := 0) hlt (fun y hy e => by have := hexD_letter (e0.symm.trans e) hy hdig; omega))
                clear hga ha hacc HA hdig hsame
                go_wp2_with ((with_reducible refine (HL.out _).mono ?_); rintro e w' ⟨rfl, rfl⟩)
                all_goals go_ret2
                all_goals exact ⟨Hbel.out, 0, by omega, Hno.out, .inr (.inr rfl)⟩
              · have i3 : (lc : Int) ≤ 102 := by omega
                by_cases hcut : 1152921504606846976 ≤ acc
                · have Hno := Lib.hid (gathers_big (v := 18446744073709551615) hga hlt hcut)
                  have icut : 1152921504606846976 ≤ a := by omega
                  clear hga ha hacc HA hdig hcut hsame
                  go_wp2_with ((with_reducible refine (HL.out _).mono ?_); rintro e w' ⟨rfl, rfl⟩)
                  all_goals go_ret2
                  all_goals exact ⟨Hbel.out, 18446744073709551615, by omega, Hno.out, .inr (.inl rfl)⟩
                · have Hn := Lib.hid (gathers_next (d := lc - 87) hga hlt (fun y hy e => by have := hexD_letter (e0.symm.trans e) hy hdig; omega))
                  have icut : a < 1152921504606846976 := by omega
                  have i0 : 0 ≤ a := by omega
                  have iov : a * 16 + ((lc : Int) - 97 + 10) < 18446744073709551616 := by omega
                  have Hlt2 := Lib.hid (show acc * 16 + (lc - 87) < 18446744073709551616 by omega)
                  have Hv := Lib.hid (show a * 16 + ((lc : Int) - 97 + 10) = ((acc * 16 + (lc - 87) : Nat) : Int) by omega)
                  clear hga ha hacc HA hdig hcut hsame
                  go_wp2_with ((with_reducible refine (HL.out _).mono ?_); rintro e w' ⟨rfl, rfl⟩)
                  all_goals go_round
                  all_goals try (case measure => simp [intOf]; omega)
                  all_goals exact ⟨k + 1, a * 16 + ((lc : Int) - 97 + 10), rfl, (by first | rfl | (congr 1; omega)), by go_num, by omega, Lib.hid ⟨_, Hv.out, Hlt2.out, Hn.out⟩⟩
            · by_cases h97 : lc < 97
              · have i1 : (lc : Int) < 97 := by omega
                have Hno := Lib.hid (gathers_no (v := 0) hlt (fun y hy e => by have := hexD_letter (e0.symm.trans e) hy hdig; omega))
                clear hga ha hacc HA hdig hsame
                go_wp2_with ((with_reducible refine (HL.out _).mono ?_); rintro e w' ⟨rfl, rfl⟩)
                all_goals go_ret2
                all_goals exact ⟨Hbel.out, 0, by omega, Hno.out, .inr (.inr rfl)⟩
              · have i1 : (122 : Int) < (lc : Int) := by omega
                have Hno := Lib.hid (gathers_no (v := 0) hlt (fun y hy e => by have := hexD_letter (e0.symm.trans e) hy hdig; omega))
                clear hga ha hacc HA hdig hsame
                go_wp2_with ((with_reducible refine (HL.out _).mono ?_); rintro e w' ⟨rfl, rfl⟩)
                all_goals go_ret2
                all_goals exact ⟨Hbel.out, 0, by omega, Hno.out, .inr (.inr rfl)⟩
          · have j1 : (57 : Int) < (c : Int) := by omega
            by_cases hr : 97 ≤ lc ∧ lc ≤ 122
            · have i1 : (97 : Int) ≤ (lc : Int) := by omega
              have i2 : (lc : Int) ≤ 122 := by omega
              by_cases h16 : 103 ≤ lc
              · have i3 : (103 : Int) ≤ (lc : Int) := by omega
                have Hno := Lib.hid (gathers_no (v := 0) hlt (fun y hy e => by have := hexD_letter (e0.symm.trans e) hy hdig; omega))
                clear hga ha hacc HA hdig hsame
                go_wp2_with ((with_reducible refine (HL.out _).mono ?_); rintro e w' ⟨rfl, rfl⟩)
                all_goals go_ret2
                all_goals exact ⟨Hbel.out, 0, by omega, Hno.out, .inr (.inr rfl)⟩
              · have i3 : (lc : Int) ≤ 102 := by omega
                by_cases hcut : 1152921504606846976 ≤ acc
                · have Hno := Lib.hid (gathers_big (v := 18446744073709551615) hga hlt hcut)
                  have icut : 1152921504606846976 ≤ a := by omega
                  clear hga ha hacc HA hdig hcut hsame
                  go_wp2_with ((with_reducible refine (HL.out _).mono ?_); rintro e w' ⟨rfl, rfl⟩)
                  all_goals go_ret2
                  all_goals exact ⟨Hbel.out, 18446744073709551615, by omega, Hno.out, .inr (.inl rfl)⟩
                · have Hn := Lib.hid (gathers_next (d := lc - 87) hga hlt (fun y hy e => by have := hexD_letter (e0.symm.trans e) hy hdig; omega))
                  have icut : a < 1152921504606846976 := by omega
                  have i0 : 0 ≤ a := by omega
                  have iov : a * 16 + ((lc : Int) - 97 + 10) < 18446744073709551616 := by omega
                  have Hlt2 := Lib.hid (show acc * 16 + (lc - 87) < 18446744073709551616 by omega)
                  have Hv := Lib.hid (show a * 16 + ((lc : Int) - 97 + 10) = ((acc * 16 + (lc - 87) : Nat) : Int) by omega)
                  clear hga ha hacc HA hdig hcut hsame
                  go_wp2_with ((with_reducible refine (HL.out _).mono ?_); rintro e w' ⟨rfl, rfl⟩)
                  all_goals go_round
                  all_goals try (case measure => simp [intOf]; omega)
                  all_goals exact ⟨k + 1, a * 16 + ((lc : Int) - 97 + 10), rfl, (by first | rfl | (congr 1; omega)), by go_num, by omega, Lib.hid ⟨_, Hv.out, Hlt2.out, Hn.out⟩⟩
            · by_cases h97 : lc < 97
              · have i1 : (lc : Int) < 97 := by omega
                have Hno := Lib.hid (gathers_no (v := 0) hlt (fun y hy e => by have := hexD_letter (e0.symm.trans e) hy hdig; omega))
                clear hga ha hacc HA hdig hsame
                go_wp2_with ((with_reducible refine (HL.out _).mono ?_); rintro e w' ⟨rfl, rfl⟩)
                all_goals go_ret2
                all_goals exact ⟨Hbel.out, 0, by omega, Hno.out, .inr (.inr rfl)⟩
              · have i1 : (122 : Int) < (lc : Int) := by omega
                have Hno := Lib.hid (gathers_no (v := 0) hlt (fun y hy e => by have := hexD_letter (e0.symm.trans e) hy hdig; omega))
                clear hga ha hacc HA hdig hsame
                go_wp2_with ((with_reducible refine (HL.out _).mono ?_); rintro e w' ⟨rfl, rfl⟩)
                all_goals go_ret2
                all_goals exact ⟨Hbel.out, 0, by omega, Hno.out, .inr (.inr rfl)⟩
      · obtain rfl : k = l.length := by omega
        have Hend := Lib.hid (gathers_end hga)
        have Hacc := Lib.hid hacc
        subst ha
        clear hga hacc HA hlt
        go_wp2
        go_ret2
        exact ⟨Hbel.out, acc, Hacc.out, Hend.out, .inl rfl⟩
end Go.Proofs.YtpjadeihackkpaaGreatDoor

/- The walk of strconv.ParseUint at base 16, where the errors' variables hold errors. -/
namespace Go.Proofs.YtpjadeihackkpaaGreatDoor
open Go.RowKit Fl

/-- The two variables of the library's errors hold errors. -/
def Errs (w : World) : Prop := (∃ t p, w.cell? ⟨2, 0, none⟩ = some (.iface t p)) ∧ (∃ t p, w.cell? ⟨3, 0, none⟩ = some (.iface t p))

theorem Errs.below {w w' : World} (h : Errs w) (hb : Below w.heap.size w w') : Errs w' := by
  obtain ⟨⟨t, p, h1⟩, ⟨t', p', h2⟩⟩ := h
  exact ⟨⟨t, p, by rw [hb.cell (World.block_lt_of_cell? _ _ h1)]; exact h1⟩, ⟨t', p', by rw [hb.cell (World.block_lt_of_cell? _ _ h2)]; exact h2⟩⟩

set_option maxRecDepth 100000 in
theorem puint_any (l : List Nat) (w : World) (hl : ∀ x ∈ l, x < 256) (hn : l.length ≤ 1000000) (he : Errs w) :
    Calls Tryz.prog 95 #[.string (str l), .int .i64 16, .int .i64 64] w fun e w' => Below w.heap.size w w' ∧ ∃ (v : Nat) (er : Value), v < 18446744073709551616 ∧ (∀ x, x < 18446744073709551616 → l = hexs x 16 → v = x) ∧ e = .returned (.tuple #[.int .u64 (v : Int), er]) := by
  have H := Lib.hid (iuint_any l w hl hn)
  have Hsz := Lib.hid (show (str l).size ≤ 281474976710656 by rw [str_size]; omega)
  have He := Lib.hid he
  clear hl hn he
  generalize hs : str l = s at *
  clear hs
  go_enter Tryz.func95, Tryz.ntmps95
  go_wp2_with fail
  refine H.out.mono ?_
  rintro e w1 ⟨hb, v, hv, hg, rfl | rfl | rfl⟩
  · have Hg := Lib.hid hg
    have Hv := Lib.hid hv
    clear hg hv
    go_wp2
    go_ret2
    exact ⟨hb, v, .nilIface, Hv.out, Hg.out, rfl⟩
  · have Hg := Lib.hid hg
    have Hv := Lib.hid hv
    clear hg hv
    obtain ⟨_, ⟨t, p, hc⟩⟩ := He.out.below hb
    have HT := Lib.hid (Tryz.strconv_toError_range ⟨#[80, 97, 114, 115, 101, 85, 105, 110, 116]⟩ s 16 64 (.iface t p) w1 Hsz.out hc (.inr ⟨t, p, rfl⟩))
    clear hc
    go_wp2_with fail
    refine HT.out.mono ?_
    rintro e w2 ⟨M, rfl, _, _, hb2⟩
    go_wp2
    go_ret2
    exact ⟨hb.trans (hb2.mono hb.size), v, _, Hv.out, Hg.out, rfl⟩
  · have Hg := Lib.hid hg
    have Hv := Lib.hid hv
    clear hg hv
    obtain ⟨⟨t, p, hc⟩, _⟩ := He.out.below hb
    have HT := Lib.hid (Tryz.strconv_toError_syntax ⟨#[80, 97, 114, 115, 101, 85, 105, 110, 116]⟩ s 16 64 (.iface t p) w1 Hsz.out hc (.inr ⟨t, p, rfl⟩))
    clear hc
    go_wp2_with fail
    refine HT.out.mono ?_
    rintro e w2 ⟨M, rfl, _, _, hb2⟩
    go_wp2
    go_ret2
    exact ⟨hb.trans (hb2.mono hb.size), v, _, Hv.out, Hg.out, rfl⟩
end Go.Proofs.YtpjadeihackkpaaGreatDoor

/- The walk of the library's ParseUint at base 16 and 8 bits: two bytes. -/
namespace Go.Proofs.YtpjadeihackkpaaGreatDoor
open Go.RowKit Fl

/-- Of two digits of a byte, what is gathered of the first k. -/
def Gath8 (l : List Nat) (k acc : Nat) : Prop := ∀ x y, x < 16 → y < 16 → l = [hexD x, hexD y] → (k = 0 → acc = 0) ∧ (k = 1 → acc = x) ∧ (k = 2 → acc = 16 * x + y)

theorem gath8_zero (l : List Nat) : Gath8 l 0 0 := fun x y _ _ _ => ⟨fun _ => rfl, fun h => by omega, fun h => by omega⟩

theorem gath8_next {l : List Nat} {k acc d : Nat} (h : Gath8 l k acc) (h2 : l.length = 2) (hk : k < l.length) (hd : ∀ z, z < 16 → l.getD k 0 = hexD z → d = z) : Gath8 l (k + 1) (acc * 16 + d) := by
  intro x y hx hy e
  obtain ⟨g0, g1, _⟩ := h x y hx hy e
  subst e
  have hk2 : k = 0 ∨ k = 1 := by simp at hk; omega
  rcases hk2 with rfl | rfl
  · have := hd x hx rfl
    have := g0 rfl
    exact ⟨fun h => by omega, fun _ => by omega, fun h => by omega⟩
  · have := hd y hy rfl
    have := g1 rfl
    exact ⟨fun h => by omega, fun h => by omega, fun _ => by omega⟩

theorem gath8_no {l : List Nat} {k : Nat} (h2 : l.length = 2) (hk : k < l.length) (hd : ∀ z, z < 16 → l.getD k 0 = hexD z → False) {v : Nat} : ∀ x y, x < 16 → y < 16 → l = [hexD x, hexD y] → v = 16 * x + y := by
  intro x y hx hy e
  subst e
  have hk2 : k = 0 ∨ k = 1 := by simp at hk; omega
  rcases hk2 with rfl | rfl
  · exact (hd x hx rfl).elim
  · exact (hd y hy rfl).elim

theorem gath8_end {l : List Nat} {acc : Nat} (h2 : l.length = 2) (h : Gath8 l l.length acc) : ∀ x y, x < 16 → y < 16 → l = [hexD x, hexD y] → acc = 16 * x + y := fun x y hx hy e => (h x y hx hy e).2.2 h2

/-- What ParseUint answers. -/
def UintEnd8 (w : World) (l : List Nat) (e : Ending) (w' : World) : Prop := Below w.heap.size w w' ∧ ∃ v : Nat, v < 256 ∧ (∀ x y, x < 16 → y < 16 → l = [hexD x, hexD y] → v = 16 * x + y) ∧ (e = .returned (.tuple #[.int .u64 (v : Int), .nilIface]) ∨ e = .returned (.tuple #[.int .u64 (v : Int), .iface 129 (.int .i64 2)]))

def URel8 (l : List Nat) (u n i : Value) : Prop := ∃ (k : Nat) (a : Int), u = .bool false ∧ n = .int .u64 a ∧ i = .int .i64 (k : Int) ∧ k ≤ l.length ∧ Hid (∃ acc : Nat, a = (acc : Int) ∧ acc < 16 ^ k ∧ Gath8 l k acc)

theorem lt_pow8 {acc k : Nat} (h : acc < 16 ^ k) (hk : k < 2) : acc < 16 := by
  rcases (show k = 0 ∨ k = 1 by omega) with rfl | rfl <;> omega

theorem pow8_next {acc k d : Nat} (h : acc < 16 ^ k) (hd : d < 16) : acc * 16 + d < 16 ^ (k + 1) := by
  rw [Nat.pow_succ]; omega

set_option maxRecDepth 100000 in
set_option maxHeartbeats 3200000 in
theorem iuint8_any (l : List Nat) (w : World) (hl : ∀ x ∈ l, x < 256) (hn : l.length = 2) :
    Calls Tryz.prog 102 #[.string (str l), .int .i64 16, .int .i64 8] w (UintEnd8 w l) := by
  have h0 : l ≠ [] := fun e => by rw [e] at hn; simp at hn
  have hq : (str l).toList.isEmpty = false := by
    rw [str_list, List.isEmpty_eq_false_iff]
    simpa using h0
  obtain ⟨c0, w1, hconv, hby, hbel⟩ := bytes_of_str l w hl (by omega)
  obtain ⟨b0, o0, e0, hcell⟩ := hby.cell (by cases l with | nil => exact absurd rfl h0 | cons _ _ => simp)
  cases e0
  have Hcell := Lib.hid hcell
  have Hl := Lib.hid hl
  have Hst := Lib.hid (gath8_zero l)
  have Hbel := Lib.hid hbel
  have Hn := Lib.hid hn
  have hlb : l.length ≤ 1000000 := by omega
  clear hcell hl h0 hby hbel hn
  go_enter Tryz.func102, Tryz.ntmps102
  go_wp2
  go_loop [12, 13, 101] (fun u n i => URel8 l u n i) (fun _ _ i => l.length - (intOf i).toNat)
  case atStart => exact ⟨0, 0, rfl, rfl, rfl, Nat.zero_le _, Lib.hid ⟨0, rfl, by omega, Hst.out⟩⟩
  case round =>
    obtain ⟨k, a, rfl, rfl, rfl, hk, HA⟩ := hrel
    obtain ⟨acc, ha, hacc, hga⟩ := HA.out
    by_cases hlt : k < l.length
    · have hc256 : l.getD k 0 < 256 := by
        rw [List.getD_eq_getElem?_getD, List.getElem?_eq_getElem hlt]
        exact Hl.out _ (List.getElem_mem _)
      have hcl := Hcell.out k hlt
      rw [Nat.zero_add] at hcl
      obtain ⟨c, e0⟩ : ∃ c, l.getD k 0 = c := ⟨_, rfl⟩
      rw [e0] at hc256 hcl
      by_cases hdig : 48 ≤ c ∧ c ≤ 57
      · have i1 : (48 : Int) ≤ (c : Int) := by omega
        have i2 : (c : Int) ≤ 57 := by omega
        have d95 : ((c : Int) == 95) = false := beq_eq_false_iff_ne.2 (by omega)
        have Hnx := Lib.hid (gath8_next (d := c - 48) hga Hn.out hlt (fun y hy e => hexD_digit (e0.symm.trans e) hy hdig.2))
        have hlo := lt_pow8 hacc (by have := Hn.out; omega)
        have icut : a < 1152921504606846976 := by omega
        have i0 : 0 ≤ a := by omega
        have iov : a * 16 + ((c : Int) - 48) ≤ 255 := by omega
        have Hlt2 := Lib.hid (pow8_next (d := c - 48) hacc (by omega))
        have Hv := Lib.hid (show a * 16 + ((c : Int) - 48) = ((acc * 16 + (c - 48) : Nat) : Int) by omega)
        clear hga ha hacc HA hdig  hlo
        go_wp2
        all_goals go_round
        all_goals try (case measure => simp [intOf]; omega)
        all_goals exact ⟨k + 1, a * 16 + ((c : Int) - 48), rfl, (by first | rfl | (congr 1; omega)), by go_num, by omega, Lib.hid ⟨_, Hv.out, Hlt2.out, Hnx.out⟩⟩
      · obtain ⟨_, hlow, hsame⟩ := low_is hc256
        have HL := Lib.hid (fun w => lower_any c w hc256)
        by_cases h95 : c = 95
        · have Hno := Lib.hid (gath8_no (v := 0) Hn.out hlt (fun y hy e => by have := hexD_letter (e0.symm.trans e) hy hdig; omega))
          have HL2 := Lib.hid (lower_under)
          clear hga ha hacc HA hdig hsame hlow HL
          subst h95
          go_wp2_with ((with_reducible refine (HL2.out _).mono ?_); rintro e w' ⟨rfl, rfl⟩)
          all_goals go_ret2
          all_goals exact ⟨Hbel.out, 0, by omega, Hno.out, .inr rfl⟩
        have d95 : ((c : Int) == 95) = false := beq_eq_false_iff_ne.2 (by omega)
        generalize low c = lc at *
        rcases (show c < 48 ∨ 57 < c by omega) with h48 | h48
        · have j1 : (c : Int) < 48 := by omega
          by_cases hr : 97 ≤ lc ∧ lc ≤ 122
          · have i1 : (97 : Int) ≤ (lc : Int) := by omega
            have i2 : (lc : Int) ≤ 122 := by omega
            by_cases h16 : 103 ≤ lc
            · have i3 : (103 : Int) ≤ (lc : Int) := by omega
              have Hno := Lib.hid (gath8_no (v := 0) Hn.out hlt (fun y hy e => by have := hexD_letter (e0.symm.trans e) hy hdig; omega))
              clear hga ha hacc HA hdig hsame
              go_wp2_with ((with_reducible refine (HL.out _).mono ?_); rintro e w' ⟨rfl, rfl⟩)
              all_goals go_ret2
              all_goals exact ⟨Hbel.out, 0, by omega, Hno.out, .inr rfl⟩
            · have i3 : (lc : Int) ≤ 102 := by omega
              have Hnx := Lib.hid (gath8_next (d := lc - 87) hga Hn.out hlt (fun y hy e => by have := hexD_letter (e0.symm.trans e) hy hdig; omega))
              have hlo := lt_pow8 hacc (by have := Hn.out; omega)
              have icut : a < 1152921504606846976 := by omega
              have i0 : 0 ≤ a := by omega
              have iov : a * 16 + ((lc : Int) - 97 + 10) ≤ 255 := by omega
              have Hlt2 := Lib.hid (pow8_next (d := lc - 87) hacc (by omega))
              have Hv := Lib.hid (show a * 16 + ((lc : Int) - 97 + 10) = ((acc * 16 + (lc - 87) : Nat) : Int) by omega)
              clear hga ha hacc HA hdig hsame hlo
              go_wp2_with ((with_reducible refine (HL.out _).mono ?_); rintro e w' ⟨rfl, rfl⟩)
              all_goals go_round
              all_goals try (case measure => simp [intOf]; omega)
              all_goals exact ⟨k + 1, a * 16 + ((lc : Int) - 97 + 10), rfl, (by first | rfl | (congr 1; omega)), by go_num, by omega, Lib.hid ⟨_, Hv.out, Hlt2.out, Hnx.out⟩⟩
          · by_cases h97 : lc < 97
            · have i1 : (lc : Int) < 97 := by omega
              have Hno := Lib.hid (gath8_no (v := 0) Hn.out hlt (fun y hy e => by have := hexD_letter (e0.symm.trans e) hy hdig; omega))
              clear hga ha hacc HA hdig hsame
              go_wp2_with ((with_reducible refine (HL.out _).mono ?_); rintro e w' ⟨rfl, rfl⟩)
              all_goals go_ret2
              all_goals exact ⟨Hbel.out, 0, by omega, Hno.out, .inr rfl⟩
            · have i1 : (122 : Int) < (lc : Int) := by omega
              have Hno := Lib.hid (gath8_no (v := 0) Hn.out hlt (fun y hy e => by have := hexD_letter (e0.symm.trans e) hy hdig; omega))
              clear hga ha hacc HA hdig hsame
              go_wp2_with ((with_reducible refine (HL.out _).mono ?_); rintro e w' ⟨rfl, rfl⟩)
              all_goals go_ret2
              all_goals exact ⟨Hbel.out, 0, by omega, Hno.out, .inr rfl⟩
        · have j1 : (57 : Int) < (c : Int) := by omega
          by_cases hr : 97 ≤ lc ∧ lc ≤ 122
          · have i1 : (97 : Int) ≤ (lc : Int) := by omega
            have i2 : (lc : Int) ≤ 122 := by omega
            by_cases h16 : 103 ≤ lc
            · have i3 : (103 : Int) ≤ (lc : Int) := by omega
              have Hno := Lib.hid (gath8_no (v := 0) Hn.out hlt (fun y hy e => by have := hexD_letter (e0.symm.trans e) hy hdig; omega))
              clear hga ha hacc HA hdig hsame
              go_wp2_with ((with_reducible refine (HL.out _).mono ?_); rintro e w' ⟨rfl, rfl⟩)
              all_goals go_ret2
              all_goals exact ⟨Hbel.out, 0, by omega, Hno.out, .inr rfl⟩
            · have i3 : (lc : Int) ≤ 102 := by omega
              have Hnx := Lib.hid (gath8_next (d := lc - 87) hga Hn.out hlt (fun y hy e => by have := hexD_letter (e0.symm.trans e) hy hdig; omega))
              have hlo := lt_pow8 hacc (by have := Hn.out; omega)
              have icut : a < 1152921504606846976 := by omega
              have i0 : 0 ≤ a := by omega
              have iov : a * 16 + ((lc : Int) - 97 + 10) ≤ 255 := by omega
              have Hlt2 := Lib.hid (pow8_next (d := lc - 87) hacc (by omega))
              have Hv := Lib.hid (show a * 16 + ((lc : Int) - 97 + 10) = ((acc * 16 + (lc - 87) : Nat) : Int) by omega)
              clear hga ha hacc HA hdig hsame hlo
              go_wp2_with ((with_reducible refine (HL.out _).mono ?_); rintro e w' ⟨rfl, rfl⟩)
              all_goals go_round
              all_goals try (case measure => simp [intOf]; omega)
              all_goals exact ⟨k + 1, a * 16 + ((lc : Int) - 97 + 10), rfl, (by first | rfl | (congr 1; omega)), by go_num, by omega, Lib.hid ⟨_, Hv.out, Hlt2.out, Hnx.out⟩⟩
          · by_cases h97 : lc < 97
            · have i1 : (lc : Int) < 97 := by omega
              have Hno := Lib.hid (gath8_no (v := 0) Hn.out hlt (fun y hy e => by have := hexD_letter (e0.symm.trans e) hy hdig; omega))
              clear hga ha hacc HA hdig hsame
              go_wp2_with ((with_reducible refine (HL.out _).mono ?_); rintro e w' ⟨rfl, rfl⟩)
              all_goals go_ret2
              all_goals exact ⟨Hbel.out, 0, by omega, Hno.out, .inr rfl⟩
            · have i1 : (122 : Int) < (lc : Int) := by omega
              have Hno := Lib.hid (gath8_no (v := 0) Hn.out hlt (fun y hy e => by have := hexD_letter (e0.symm.trans e) hy hdig; omega))
              clear hga ha hacc HA hdig hsame
              go_wp2_with ((with_reducible refine (HL.out _).mono ?_); rintro e w' ⟨rfl, rfl⟩)
              all_goals go_ret2
              all_goals exact ⟨Hbel.out, 0, by omega, Hno.out, .inr rfl⟩
    · obtain rfl : k = l.length := by omega
      have Hend := Lib.hid (gath8_end Hn.out hga)
      have Hacc := Lib.hid (show acc < 256 by have := Hn.out; rw [this] at hacc; exact hacc)
      subst ha
      clear hga hacc HA hlt
      go_wp2
      go_ret2
      exact ⟨Hbel.out, acc, Hacc.out, Hend.out, .inl rfl⟩

set_option maxRecDepth 100000 in
theorem uint8_any (l : List Nat) (w : World) (hl : ∀ x ∈ l, x < 256) (hn : l.length = 2) (he : Errs w) :
    Calls Tryz.prog 95 #[.string (str l), .int .i64 16, .int .i64 8] w fun e w' => Below w.heap.size w w' ∧ ∃ (v : Nat) (er : Value), v < 256 ∧ (∀ x y, x < 16 → y < 16 → l = [hexD x, hexD y] → v = 16 * x + y) ∧ e = .returned (.tuple #[.int .u64 (v : Int), er]) := by
  have H := Lib.hid (iuint8_any l w hl hn)
  have Hsz := Lib.hid (show (str l).size ≤ 281474976710656 by rw [str_size]; omega)
  have He := Lib.hid he
  clear hl hn he
  generalize hs : str l = s at *
  clear hs
  go_enter Tryz.func95, Tryz.ntmps95
  go_wp2_with fail
  refine H.out.mono ?_
  rintro e w1 ⟨hb, v, hv, hg, rfl | rfl⟩
  · have Hg := Lib.hid hg
    have Hv := Lib.hid hv
    clear hg hv
    go_wp2
    go_ret2
    exact ⟨hb, v, .nilIface, Hv.out, Hg.out, rfl⟩
  · have Hg := Lib.hid hg
    have Hv := Lib.hid hv
    clear hg hv
    obtain ⟨⟨t, p, hc⟩, _⟩ := He.out.below hb
    have HT := Lib.hid (Tryz.strconv_toError_syntax ⟨#[80, 97, 114, 115, 101, 85, 105, 110, 116]⟩ s 16 8 (.iface t p) w1 Hsz.out hc (.inr ⟨t, p, rfl⟩))
    clear hc
    go_wp2_with fail
    refine HT.out.mono ?_
    rintro e w2 ⟨M, rfl, _, _, hb2⟩
    go_wp2
    go_ret2
    exact ⟨hb.trans (hb2.mono hb.size), v, _, Hv.out, Hg.out, rfl⟩
end Go.Proofs.YtpjadeihackkpaaGreatDoor

