import Derived.Test.YtfapajmbmgpipaaGreatDoorMD6
import Derived.Test.YtfapajmbmgpipaaGreatDoorMD4
import Derived.Test.YtfapajmbmgpipaaGreatDoorMD2
/- The walk of the library's ParseUint at base 16 and 8 bits: two bytes. -/
namespace Go.Proofs.YtfapajmbmgpipaaGreatDoor
open Go.RowKit Fl

/-- Of two digits of a byte, what is gathered of the first k. -/
def Gath8 (l : List Nat) (k acc : Nat) : Prop := ∀ x y, x < 16 → y < 16 → l = [hexD x, hexD y] → (k = 0 → acc = 0) ∧ (k = 1 → acc = x) ∧ (k = 2 → acc = 16 * x + y)

theorem gath8_zero (l : List Nat) : Gath8 l 0 0 := fun x y _ _ _ => ⟨fun _ => rfl, fun h => by omega, fun h => by omega⟩

theorem gath8_next {l : List Nat} {k acc d : Nat} (h : Gath8 l k acc) (h2 : l.length = 2) (hk : k < l.length) (hd : ∀ z, z < 16 → l.getD k 0 = hexD z → d = z) : Gath8 l (k + 1) (acc * 16 + d) := by
  intro x y hx hy e
  obtain ⟨g0, g1, _⟩ := h x y hx hy e
  subst e
  have hk2 : k = 0 ∨ k = 1 := by simp at hk; omega
  rcases hk2 with rfl | rfl
  · have := hd x hx rfl
    have := g0 rfl
    exact ⟨fun h => by omega, fun _ => by omega, fun h => by omega⟩
  · have := hd y hy rfl
    have := g1 rfl
    exact ⟨fun h => by omega, fun h => by omega, fun _ => by omega⟩

theorem gath8_no {l : List Nat} {k : Nat} (h2 : l.length = 2) (hk : k < l.length) (hd : ∀ z, z < 16 → l.getD k 0 = hexD z → False) {v : Nat} : ∀ x y, x < 16 → y < 16 → l = [hexD x, hexD y] → v = 16 * x + y := by
  intro x y hx hy e
  subst e
  have hk2 : k = 0 ∨ k = 1 := by simp at hk; omega
  rcases hk2 with rfl | rfl
  · exact (hd x hx rfl).elim
  · exact (hd y hy rfl).elim

theorem gath8_end {l : List Nat} {acc : Nat} (h2 : l.length = 2) (h : Gath8 l l.length acc) : ∀ x y, x < 16 → y < 16 → l = [hexD x, hexD y] → acc = 16 * x + y := fun x y hx hy e => (h x y hx hy e).2.2 h2

/-- What ParseUint answers. -/
def UintEnd8 (w : World) (l : List Nat) (e : Ending) (w' : World) : Prop := Below w.heap.size w w' ∧ ∃ v : Nat, v < 256 ∧ (∀ x y, x < 16 → y < 16 → l = [hexD x, hexD y] → v = 16 * x + y) ∧ (e = .returned (.tuple #[.int .u64 (v : Int), .nilIface]) ∨ e = .returned (.tuple #[.int .u64 (v : Int), .iface 130 (.int .i64 2)]))

def URel8 (l : List Nat) (u n i : Value) : Prop := ∃ (k : Nat) (a : Int), u = .bool false ∧ n = .int .u64 a ∧ i = .int .i64 (k : Int) ∧ k ≤ l.length ∧ Hid (∃ acc : Nat, a = (acc : Int) ∧ acc < 16 ^ k ∧ Gath8 l k acc)

theorem lt_pow8 {acc k : Nat} (h : acc < 16 ^ k) (hk : k < 2) : acc < 16 := by
  rcases (show k = 0 ∨ k = 1 by omega) with rfl | rfl <;> omega

theorem pow8_next {acc k d : Nat} (h : acc < 16 ^ k) (hd : d < 16) : acc * 16 + d < 16 ^ (k + 1) := by
  rw [Nat.pow_succ]; omega

set_option maxRecDepth 100000 in
set_option maxHeartbeats 3200000 in
theorem iuint8_any (l : List Nat) (w : World) (hl : ∀ x ∈ l, x < 256) (hn : l.length = 2) :
    Calls Tryz.prog 103 #[.string (str l), .int .i64 16, .int .i64 8] w (UintEnd8 w l) := by
  have h0 : l ≠ [] := fun e => by rw [e] at hn; simp at hn
  have hq : (str l).toList.isEmpty = false := by
    rw [str_list, List.isEmpty_eq_false_iff]
    simpa using h0
  obtain ⟨c0, w1, hconv, hby, hbel⟩ := bytes_of_str l w hl (by omega)
  obtain ⟨b0, o0, e0, hcell⟩ := hby.cell (by cases l with | nil => exact absurd rfl h0 | cons _ _ => simp)
  cases e0
  have Hcell := Lib.hid hcell
  have Hl := Lib.hid hl
  have Hst := Lib.hid (gath8_zero l)
  have Hbel := Lib.hid hbel
  have Hn := Lib.hid hn
  have hlb : l.length ≤ 1000000 := by omega
  clear hcell hl h0 hby hbel hn
  go_enter Tryz.func103, Tryz.ntmps103
  go_wp2
  go_loop [12, 13, 101] (fun u n i => URel8 l u n i) (fun _ _ i => l.length - (intOf i).toNat)
  case atStart => exact ⟨0, 0, rfl, rfl, rfl, Nat.zero_le _, Lib.hid ⟨0, rfl, by omega, Hst.out⟩⟩
  case round =>
    obtain ⟨k, a, rfl, rfl, rfl, hk, HA⟩ := hrel
    obtain ⟨acc, ha, hacc, hga⟩ := HA.out
    by_cases hlt : k < l.length
    · have hc256 : l.getD k 0 < 256 := by
        rw [List.getD_eq_getElem?_getD, List.getElem?_eq_getElem hlt]
        exact Hl.out _ (List.getElem_mem _)
      have hcl := Hcell.out k hlt
      rw [Nat.zero_add] at hcl
      obtain ⟨c, e0⟩ : ∃ c, l.getD k 0 = c := ⟨_, rfl⟩
      rw [e0] at hc256 hcl
      by_cases hdig : 48 ≤ c ∧ c ≤ 57
      · have i1 : (48 : Int) ≤ (c : Int) := by omega
        have i2 : (c : Int) ≤ 57 := by omega
        have d95 : ((c : Int) == 95) = false := beq_eq_false_iff_ne.2 (by omega)
        have Hnx := Lib.hid (gath8_next (d := c - 48) hga Hn.out hlt (fun y hy e => hexD_digit (e0.symm.trans e) hy hdig.2))
        have hlo := lt_pow8 hacc (by have := Hn.out; omega)
        have icut : a < 1152921504606846976 := by omega
        have i0 : 0 ≤ a := by omega
        have iov : a * 16 + ((c : Int) - 48) ≤ 255 := by omega
        have Hlt2 := Lib.hid (pow8_next (d := c - 48) hacc (by omega))
        have Hv := Lib.hid (show a * 16 + ((c : Int) - 48) = ((acc * 16 + (c - 48) : Nat) : Int) by omega)
        clear hga ha hacc HA hdig  hlo
        go_wp2
        all_goals go_round
        all_goals try (case measure => simp [intOf]; omega)
        all_goals exact ⟨k + 1, a * 16 + ((c : Int) - 48), rfl, (by first | rfl | (congr 1; omega)), by go_num, by omega, Lib.hid ⟨_, Hv.out, Hlt2.out, Hnx.out⟩⟩
      · obtain ⟨_, hlow, hsame⟩ := low_is hc256
        have HL := Lib.hid (fun w => lower_any c w hc256)
        by_cases h95 : c = 95
        · have Hno := Lib.hid (gath8_no (v := 0) Hn.out hlt (fun y hy e => by have := hexD_letter (e0.symm.trans e) hy hdig; omega))
          have HL2 := Lib.hid (lower_under)
          clear hga ha hacc HA hdig hsame hlow HL
          subst h95
          go_wp2_with ((with_reducible refine (HL2.out _).mono ?_); rintro e w' ⟨rfl, rfl⟩)
          all_goals go_ret2
          all_goals exact ⟨Hbel.out, 0, by omega, Hno.out, .inr rfl⟩
        have d95 : ((c : Int) == 95) = false := beq_eq_false_iff_ne.2 (by omega)
        generalize low c = lc at *
        rcases (show c < 48 ∨ 57 < c by omega) with h48 | h48
        · have j1 : (c : Int) < 48 := by omega
          by_cases hr : 97 ≤ lc ∧ lc ≤ 122
          · have i1 : (97 : Int) ≤ (lc : Int) := by omega
            have i2 : (lc : Int) ≤ 122 := by omega
            by_cases h16 : 103 ≤ lc
            · have i3 : (103 : Int) ≤ (lc : Int) := by omega
              have Hno := Lib.hid (gath8_no (v := 0) Hn.out hlt (fun y hy e => by have := hexD_letter (e0.symm.trans e) hy hdig; omega))
              clear hga ha hacc HA hdig hsame
              go_wp2_with ((with_reducible refine (HL.out _).mono ?_); rintro e w' ⟨rfl, rfl⟩)
              all_goals go_ret2
              all_goals exact ⟨Hbel.out, 0, by omega, Hno.out, .inr rfl⟩
            · have i3 : (lc : Int) ≤ 102 := by omega
              have Hnx := Lib.hid (gath8_next (d := lc - 87) hga Hn.out hlt (fun y hy e => by have := hexD_letter (e0.symm.trans e) hy hdig; omega))
              have hlo := lt_pow8 hacc (by have := Hn.out; omega)
              have icut : a < 1152921504606846976 := by omega
              have i0 : 0 ≤ a := by omega
              have iov : a * 16 + ((lc : Int) - 97 + 10) ≤ 255 := by omega
              have Hlt2 := Lib.hid (pow8_next (d := lc - 87) hacc (by omega))
              have Hv := Lib.hid (show a * 16 + ((lc : Int) - 97 + 10) = ((acc * 16 + (lc - 87) : Nat) : Int) by omega)
              clear hga ha hacc HA hdig hsame hlo
              go_wp2_with ((with_reducible refine (HL.out _).mono ?_); rintro e w' ⟨rfl, rfl⟩)
              all_goals go_round
              all_goals try (case measure => simp [intOf]; omega)
              all_goals exact ⟨k + 1, a * 16 + ((lc : Int) - 97 + 10), rfl, (by first | rfl | (congr 1; omega)), by go_num, by omega, Lib.hid ⟨_, Hv.out, Hlt2.out, Hnx.out⟩⟩
          · by_cases h97 : lc < 97
            · have i1 : (lc : Int) < 97 := by omega
              have Hno := Lib.hid (gath8_no (v := 0) Hn.out hlt (fun y hy e => by have := hexD_letter (e0.symm.trans e) hy hdig; omega))
              clear hga ha hacc HA hdig hsame
              go_wp2_with ((with_reducible refine (HL.out _).mono ?_); rintro e w' ⟨rfl, rfl⟩)
              all_goals go_ret2
              all_goals exact ⟨Hbel.out, 0, by omega, Hno.out, .inr rfl⟩
            · have i1 : (122 : Int) < (lc : Int) := by omega
              have Hno := Lib.hid (gath8_no (v := 0) Hn.out hlt (fun y hy e => by have := hexD_letter (e0.symm.trans e) hy hdig; omega))
              clear hga ha hacc HA hdig hsame
              go_wp2_with ((with_reducible refine (HL.out _).mono ?_); rintro e w' ⟨rfl, rfl⟩)
              all_goals go_ret2
              all_goals exact ⟨Hbel.out, 0, by omega, Hno.out, .inr rfl⟩
        · have j1 : (57 : Int) < (c : Int) := by omega
          by_cases hr : 97 ≤ lc ∧ lc ≤ 122
          · have i1 : (97 : Int) ≤ (lc : Int) := by omega
            have i2 : (lc : Int) ≤ 122 := by omega
            by_cases h16 : 103 ≤ lc
            · have i3 : (103 : Int) ≤ (lc : Int) := by omega
              have Hno := Lib.hid (gath8_no (v := 0) Hn.out hlt (fun y hy e => by have := hexD_letter (e0.symm.trans e) hy hdig; omega))
              clear hga ha hacc HA hdig hsame
              go_wp2_with ((with_reducible refine (HL.out _).mono ?_); rintro e w' ⟨rfl, rfl⟩)
              all_goals go_ret2
              all_goals exact ⟨Hbel.out, 0, by omega, Hno.out, .inr rfl⟩
            · have i3 : (lc : Int) ≤ 102 := by omega
              have Hnx := Lib.hid (gath8_next (d := lc - 87) hga Hn.out hlt (fun y hy e => by have := hexD_letter (e0.symm.trans e) hy hdig; omega))
              have hlo := lt_pow8 hacc (by have := Hn.out; omega)
              have icut : a < 1152921504606846976 := by omega
              have i0 : 0 ≤ a := by omega
              have iov : a * 16 + ((lc : Int) - 97 + 10) ≤ 255 := by omega
              have Hlt2 := Lib.hid (pow8_next (d := lc - 87) hacc (by omega))
              have Hv := Lib.hid (show a * 16 + ((lc : Int) - 97 + 10) = ((acc * 16 + (lc - 87) : Nat) : Int) by omega)
              clear hga ha hacc HA hdig hsame hlo
              go_wp2_with ((with_reducible refine (HL.out _).mono ?_); rintro e w' ⟨rfl, rfl⟩)
              all_goals go_round
              all_goals try (case measure => simp [intOf]; omega)
              all_goals exact ⟨k + 1, a * 16 + ((lc : Int) - 97 + 10), rfl, (by first | rfl | (congr 1; omega)), by go_num, by omega, Lib.hid ⟨_, Hv.out, Hlt2.out, Hnx.out⟩⟩
          · by_cases h97 : lc < 97
            · have i1 : (lc : Int) < 97 := by omega
              have Hno := Lib.hid (gath8_no (v := 0) Hn.out hlt (fun y hy e => by have := hexD_letter (e0.symm.trans e) hy hdig; omega))
              clear hga ha hacc HA hdig hsame
              go_wp2_with ((with_reducible refine (HL.out _).mono ?_); rintro e w' ⟨rfl, rfl⟩)
              all_goals go_ret2
              all_goals exact ⟨Hbel.out, 0, by omega, Hno.out, .inr rfl⟩
            · have i1 : (122 : Int) < (lc : Int) := by omega
              have Hno := Lib.hid (gath8_no (v := 0) Hn.out hlt (fun y hy e => by have := hexD_letter (e0.symm.trans e) hy hdig; omega))
              clear hga ha hacc HA hdig hsame
              go_wp2_with ((with_reducible refine (HL.out _).mono ?_); rintro e w' ⟨rfl, rfl⟩)
              all_goals go_ret2
              all_goals exact ⟨Hbel.out, 0, by omega, Hno.out, .inr rfl⟩
    · obtain rfl : k = l.length := by omega
      have Hend := Lib.hid (gath8_end Hn.out hga)
      have Hacc := Lib.hid (show acc < 256 by have := Hn.out; rw [this] at hacc; exact hacc)
      subst ha
      clear hga hacc HA hlt
      go_wp2
      go_ret2
      exact ⟨Hbel.out, acc, Hacc.out, Hend.out, .inl rfl⟩

set_option maxRecDepth 100000 in
theorem uint8_any (l : List Nat) (w : World) (hl : ∀ x ∈ l, x < 256) (hn : l.length = 2) (he : Errs w) :
    Calls Tryz.prog 96 #[.string (str l), .int .i64 16, .int .i64 8] w fun e w' => Below w.heap.size w w' ∧ ∃ (v : Nat) (er : Value), v < 256 ∧ (∀ x y, x < 16 → y < 16 → l = [hexD x, hexD y] → v = 16 * x + y) ∧ e = .returned (.tuple #[.int .u64 (v : Int), er]) := by
  have H := Lib.hid (iuint8_any l w hl hn)
  have Hsz := Lib.hid (show (str l).size ≤ 281474976710656 by rw [str_size]; omega)
  have He := Lib.hid he
  clear hl hn he
  generalize hs : str l = s at *
  clear hs
  go_enter Tryz.func96, Tryz.ntmps96
  go_wp2_with fail
  refine H.out.mono ?_
  rintro e w1 ⟨hb, v, hv, hg, rfl | rfl⟩
  · have Hg := Lib.hid hg
    have Hv := Lib.hid hv
    clear hg hv
    go_wp2
    go_ret2
    exact ⟨hb, v, .nilIface, Hv.out, Hg.out, rfl⟩
  · have Hg := Lib.hid hg
    have Hv := Lib.hid hv
    clear hg hv
    obtain ⟨⟨t, p, hc⟩, _⟩ := He.out.below hb
    have HT := Lib.hid (Tryz.strconv_toError_syntax ⟨#[80, 97, 114, 115, 101, 85, 105, 110, 116]⟩ s 16 8 (.iface t p) w1 Hsz.out hc (.inr ⟨t, p, rfl⟩))
    clear hc
    go_wp2_with fail
    refine HT.out.mono ?_
    rintro e w2 ⟨M, rfl, _, _, hb2⟩
    go_wp2
    go_ret2
    exact ⟨hb.trans (hb2.mono hb.size), v, _, Hv.out, Hg.out, rfl⟩
end Go.Proofs.YtfapajmbmgpipaaGreatDoor

/- Values as trees: what a world holds of them, and how it is kept while only new memory is made. -/
namespace Go.Proofs.YtfapajmbmgpipaaGreatDoor
open Go.RowKit Fl

/-- A value. -/
inductive V where
  | mk (k n : Int) (f : Nat) (s : List Nat) (l : List V)

def V.kind : V → Int | .mk k _ _ _ _ => k
def V.n : V → Int | .mk _ n _ _ _ => n
def V.f : V → Nat | .mk _ _ f _ _ => f
def V.s : V → List Nat | .mk _ _ _ s _ => s
def V.l : V → List V | .mk _ _ _ _ l => l

/-- The five cells of a value. -/
abbrev cells5 (k n : Int) (f : Nat) (s : List Nat) (a : Option Addr) (len cap : Nat) : Array Value := #[.int .i64 k, .int .i64 n, .float .f64 f, .string (str s), .slice a len cap]

mutual
/-- The cells x hold the value v. -/
def VIn (w : World) : V → Array Value → Prop
  | .mk k n f s l, x => (-9223372036854775808 ≤ k ∧ k ≤ 9223372036854775807) ∧ (-9223372036854775808 ≤ n ∧ n ≤ 9223372036854775807) ∧ f < 18446744073709551616 ∧ (∀ c ∈ s, c < 256) ∧ s.length ≤ 9223372036854775807 ∧
    ∃ a cap, x = cells5 k n f s a l.length cap ∧ l.length ≤ cap ∧ cap ≤ 9223372036854775807 ∧ (l = [] ∨ ∃ b o, a = some ⟨b, o, none⟩ ∧ VsIn w l b o)
/-- The values l lie one behind the other. -/
def VsIn (w : World) : List V → Nat → Nat → Prop
  | [], _, _ => True
  | v :: r, b, o => (∃ x : Array Value, x.size = 5 ∧ (∀ j, j < 5 → w.cell? ⟨b, o + j, none⟩ = x[j]?) ∧ VIn w v x) ∧ VsIn w r b (o + 5)
end

theorem VIn.size {w : World} {v : V} {x : Array Value} (h : VIn w v x) : x.size = 5 := by
  obtain ⟨k, n, f, s, l⟩ := v
  rw [VIn] at h
  obtain ⟨_, _, _, _, _, a, cap, rfl, _⟩ := h
  rfl

mutual
theorem VIn.keep {w w' : World} (hw : ∀ p : Addr, p.block < w.heap.size → w'.cell? p = w.cell? p) : ∀ (v : V) (x : Array Value), VIn w v x → VIn w' v x
  | .mk k n f s l, x, h => by
    rw [VIn] at h ⊢
    obtain ⟨h1, h2, h3, h4, h5, a, cap, h6, h7, h8, h9⟩ := h
    refine ⟨h1, h2, h3, h4, h5, a, cap, h6, h7, h8, ?_⟩
    rcases h9 with h9 | ⟨b, o, ha, hv⟩
    · exact .inl h9
    · exact .inr ⟨b, o, ha, VsIn.keep hw l b o hv⟩
theorem VsIn.keep {w w' : World} (hw : ∀ p : Addr, p.block < w.heap.size → w'.cell? p = w.cell? p) : ∀ (l : List V) (b o : Nat), VsIn w l b o → VsIn w' l b o
  | [], _, _, _ => by rw [VsIn]; trivial
  | v :: r, b, o, h => by
    rw [VsIn] at h ⊢
    obtain ⟨⟨x, hx, hc, hv⟩, hr⟩ := h
    refine ⟨⟨x, hx, fun j hj => ?_, VIn.keep hw v x hv⟩, VsIn.keep hw r b (o + 5) hr⟩
    have h1 := hc j hj
    rw [hw _ (World.block_lt_of_cell? _ _ (h1.trans (Array.getElem?_eq_getElem (by omega))))]
    exact h1
end

theorem VIn.below {w w' : World} {v : V} {x : Array Value} (h : VIn w v x) (hb : Below w.heap.size w w') : VIn w' v x := VIn.keep (fun _ hp => hb.cell hp) v x h

/-- An element of a list of values. -/
theorem VsIn.get {w : World} : ∀ {l : List V} {b o : Nat}, VsIn w l b o → ∀ (i : Nat) (v : V), l[i]? = some v → ∃ x : Array Value, x.size = 5 ∧ (∀ j, j < 5 → w.cell? ⟨b, o + 5 * i + j, none⟩ = x[j]?) ∧ VIn w v x
  | [], _, _, _, i, v, h => by simp at h
  | u :: r, b, o, h, i, v, hi => by
    rw [VsIn] at h
    obtain ⟨⟨x, hx, hc, hv⟩, hr⟩ := h
    cases i with
    | zero =>
      simp at hi
      subst hi
      exact ⟨x, hx, fun j hj => hc j hj, hv⟩
    | succ i =>
      obtain ⟨y, hy, hd, hu⟩ := VsIn.get hr i v (by simpa using hi)
      exact ⟨y, hy, fun j hj => by rw [← hd j hj]; congr 2; omega, hu⟩

mutual
theorem V.ind {p : V → Prop} (h : ∀ v : V, (∀ u ∈ v.l, p u) → p v) : ∀ v : V, p v
  | .mk _ _ _ _ l => h _ (V.inds h l)
theorem V.inds {p : V → Prop} (h : ∀ v : V, (∀ u ∈ v.l, p u) → p v) : ∀ l : List V, ∀ u ∈ l, p u
  | [], u, hu => by cases hu
  | v :: r, u, hu => by
    rcases List.mem_cons.1 hu with e | e
    · rw [e]; exact V.ind h v
    · exact V.inds h r u e
end

/-- A value in its parts. -/
theorem VIn.parts {w : World} {v : V} {x : Array Value} (h : VIn w v x) : (-9223372036854775808 ≤ v.kind ∧ v.kind ≤ 9223372036854775807) ∧ (-9223372036854775808 ≤ v.n ∧ v.n ≤ 9223372036854775807) ∧ v.f < 18446744073709551616 ∧ (∀ c ∈ v.s, c < 256) ∧ v.s.length ≤ 9223372036854775807 ∧
    ∃ a cap, x = cells5 v.kind v.n v.f v.s a v.l.length cap ∧ v.l.length ≤ cap ∧ cap ≤ 9223372036854775807 ∧ (v.l = [] ∨ ∃ b o, a = some ⟨b, o, none⟩ ∧ VsIn w v.l b o) := by
  obtain ⟨k, n, f, s, l⟩ := v
  rw [VIn] at h
  exact h

theorem get_mem {l : List V} {i : Nat} (h : i < l.length) : l[i]? = some l[i] ∧ l[i] ∈ l := ⟨List.getElem?_eq_getElem h, List.getElem_mem h⟩

/-- The box of a value: its cells in new memory. -/
theorem box_cell (w : World) (x : Array Value) (t : TypeId) (j : Nat) : (w.alloc (.cells x t)).cell? ⟨w.heap.size, j, none⟩ = x[j]? := cell_of_row _ _ _ _ _ _ (heap_alloc_new w _)

/-- An element of a list of values, cell by cell. -/
theorem VsIn.elem {w : World} {l : List V} {b o j : Nat} (h : VsIn w l b o) (hj : j < l.length) : ∃ a cap, VIn w l[j] (cells5 l[j].kind l[j].n l[j].f l[j].s a l[j].l.length cap) ∧
    w.cell? ⟨b, o + j * 5, none⟩ = some (.int .i64 l[j].kind) ∧ w.cell? ⟨b, o + j * 5 + 1, none⟩ = some (.int .i64 l[j].n) ∧ w.cell? ⟨b, o + j * 5 + 2, none⟩ = some (.float .f64 l[j].f) ∧
    w.cell? ⟨b, o + j * 5 + 3, none⟩ = some (.string (str l[j].s)) ∧ w.cell? ⟨b, o + j * 5 + 4, none⟩ = some (.slice a l[j].l.length cap) := by
  obtain ⟨x, _, hc, hv⟩ := h.get j _ (get_mem hj).1
  obtain ⟨_, _, _, _, _, a, cap, rfl, _⟩ := hv.parts
  rw [Nat.mul_comm] at hc
  exact ⟨a, cap, hv, hc 0 (by omega), hc 1 (by omega), hc 2 (by omega), hc 3 (by omega), hc 4 (by omega)⟩

/-- Where the list of a value lies. -/
theorem VIn.list {w : World} {v : V} {k n : Int} {f : Nat} {s : List Nat} {a : Option Addr} {len cap : Nat} (h : VIn w v (cells5 k n f s a len cap)) (hn : v.l ≠ []) : ∃ b o, a = some ⟨b, o, none⟩ ∧ VsIn w v.l b o := by
  obtain ⟨_, _, _, _, _, a', cap', e, _, _, hs⟩ := h.parts
  have ea : a = a' := by
    unfold cells5 at e
    simp at e
    exact e.2.2.2.2.1
  subst ea
  exact hs.resolve_left hn
end Go.Proofs.YtfapajmbmgpipaaGreatDoor

/- The block of a result that is a value. -/
namespace Go.Proofs.YtfapajmbmgpipaaGreatDoor
open Go.RowKit Fl

/-- The block of a result: five words, none of them frozen. -/
theorem res_cells {w : World} {g : Nat} {t : TypeId} (h : w.heap[g]? = some (.cells #[.int .i64 0, .int .i64 0, .float .f64 0, .string ⟨#[]⟩, .slice none 0 0] t (0, 0))) :
    (w.cell? ⟨g, 0, none⟩ = some (.int .i64 0) ∧ w.cell? ⟨g, 1, none⟩ = some (.int .i64 0) ∧ w.cell? ⟨g, 2, none⟩ = some (.float .f64 0) ∧ w.cell? ⟨g, 3, none⟩ = some (.string ⟨#[]⟩) ∧ w.cell? ⟨g, 4, none⟩ = some (.slice none 0 0)) ∧
    (w.frozen? ⟨g, 0, none⟩ = false ∧ w.frozen? ⟨g, 1, none⟩ = false ∧ w.frozen? ⟨g, 2, none⟩ = false ∧ w.frozen? ⟨g, 3, none⟩ = false ∧ w.frozen? ⟨g, 4, none⟩ = false) := by
  refine ⟨⟨?_, ?_, ?_, ?_, ?_⟩, ⟨?_, ?_, ?_, ?_, ?_⟩⟩
  · rw [cell_of_row _ _ _ _ _ _ h]; rfl
  · rw [cell_of_row _ _ _ _ _ _ h]; rfl
  · rw [cell_of_row _ _ _ _ _ _ h]; rfl
  · rw [cell_of_row _ _ _ _ _ _ h]; rfl
  · rw [cell_of_row _ _ _ _ _ _ h]; rfl
  · simp [World.frozen?, h]
  · simp [World.frozen?, h]
  · simp [World.frozen?, h]
  · simp [World.frozen?, h]
  · simp [World.frozen?, h]

theorem set5 {w w1 : World} (h : Below w.heap.size w w1) (a b c d e : Value) : Below w.heap.size w (((((w1.setCell ⟨w.heap.size, 0, none⟩ a).setCell ⟨w.heap.size, 1, none⟩ b).setCell ⟨w.heap.size, 2, none⟩ c).setCell ⟨w.heap.size, 3, none⟩ d).setCell ⟨w.heap.size, 4, none⟩ e) :=
  ((((h.setCell (Nat.le_refl _) _).setCell (Nat.le_refl _) _).setCell (Nat.le_refl _) _).setCell (Nat.le_refl _) _).setCell (Nat.le_refl _) _
theorem new5 (w : World) (a b c d e : Value) (t : TypeId) : (w.alloc (.cells #[a, b, c, d, e] t)).cell? ⟨w.heap.size, 0, none⟩ = some a ∧ (w.alloc (.cells #[a, b, c, d, e] t)).cell? ⟨w.heap.size, 1, none⟩ = some b ∧ (w.alloc (.cells #[a, b, c, d, e] t)).cell? ⟨w.heap.size, 2, none⟩ = some c ∧
    (w.alloc (.cells #[a, b, c, d, e] t)).cell? ⟨w.heap.size, 3, none⟩ = some d ∧ (w.alloc (.cells #[a, b, c, d, e] t)).cell? ⟨w.heap.size, 4, none⟩ = some e :=
  ⟨box_cell w _ _ 0, box_cell w _ _ 1, box_cell w _ _ 2, box_cell w _ _ 3, box_cell w _ _ 4⟩
end Go.Proofs.YtfapajmbmgpipaaGreatDoor

/- Which values are valid, as plain functions. -/
namespace Go.Proofs.YtfapajmbmgpipaaGreatDoor
open Go.RowKit Fl

/-- The fields that a kind does not have are zero. -/
def FieldsOk (v : V) : Prop := (v.kind = 1 ∨ v.n = 0) ∧ (v.kind = 2 ∨ bitsB v.f = 0) ∧ (v.kind = 3 ∨ v.s = []) ∧ (v.kind = 4 ∨ v.l = [])

instance (v : V) : Decidable (v.l = []) := by
  cases h : v.l with
  | nil => exact isTrue rfl
  | cons _ _ => exact isFalse (by simp)

instance (v : V) : Decidable (FieldsOk v) := by
  unfold FieldsOk
  infer_instance

/-- Valid, of a depth of at most t. -/
def rightN : Nat → V → Bool
  | 0, v => decide (FieldsOk v) && decide (v.kind ≠ 4) && decide (0 ≤ v.kind ∧ v.kind ≤ 4)
  | t + 1, v => decide (FieldsOk v) && v.l.all (rightN t) && decide (0 ≤ v.kind ∧ v.kind ≤ 4)

theorem rightN_fields {t : Nat} {v : V} (h : ¬ FieldsOk v) : rightN t v = false := by
  cases t <;> simp [rightN, h]

theorem rightN_kind {t : Nat} {v : V} (h : ¬ (0 ≤ v.kind ∧ v.kind ≤ 4)) : rightN t v = false := by
  cases t <;> (unfold rightN; rw [decide_eq_false h, Bool.and_false])

/-- A value that is no list. -/
theorem rightN_plain {t : Nat} {v : V} (h : FieldsOk v) (h4 : v.kind ≠ 4) (hk : 0 ≤ v.kind ∧ v.kind ≤ 4) : rightN t v = true := by
  have hl : v.l = [] := h.2.2.2.resolve_left h4
  cases t
  · unfold rightN
    rw [decide_eq_true h, decide_eq_true h4, decide_eq_true hk]; rfl
  · unfold rightN
    rw [decide_eq_true h, hl, decide_eq_true hk]; rfl

theorem rightN_list {t : Nat} {v : V} (h : FieldsOk v) (h4 : v.kind = 4) : rightN (t + 1) v = v.l.all (rightN t) := by
  unfold rightN
  rw [decide_eq_true h, decide_eq_true (by omega), Bool.true_and, Bool.and_true]
end Go.Proofs.YtfapajmbmgpipaaGreatDoor

