/- The walk of the code's Text. -/
import Derived.Test.YthfpnkanccoolaaDoorNumF2
import Derived.Test.YthfpnkanccoolaaDoorNumW
import Derived.Test.YthfpnkanccoolaaDoorShelf
namespace Go.Proofs.YthfpnkanccoolaaDoor
open Go.RowKit Fl

set_option maxRecDepth 100000 in
theorem ifmt_any (x : Nat) (w : World) (hx : x < 18446744073709551616) (ht : Tab16 w) :
    Calls Tryd.prog 42 #[.int .u64 (x : Int), .int .i64 16] w fun e w' => (∃ m, 1 ≤ m ∧ m ≤ 16 ∧ x < 16 ^ m ∧ e = .returned (.string (str ((hexs x 16).drop (16 - m))))) ∧ Below w.heap.size w w' := by
  have H := Lib.hid (fbits_any x w hx ht)
  clear hx ht
  go_enter Tryd.func42, Tryd.ntmps42
  go_wp2_with fail
  refine H.out.mono ?_
  rintro e w' ⟨⟨m, h1, h2, h3, rfl⟩, hb⟩
  have Hm := Lib.hid (And.intro h1 (And.intro h2 h3))
  generalize hs : str ((hexs x 16).drop (16 - m)) = s
  have Hs := Lib.hid hs
  clear h1 h2 h3 hs
  go_wp2
  go_ret
  exact ⟨⟨m, Hm.out.1, Hm.out.2.1, Hm.out.2.2, by rw [Hs.out]; rfl⟩, hb⟩

theorem fmt_any (x : Nat) (w : World) (hx : x < 18446744073709551616) (ht : Tab16 w) :
    Calls Tryd.prog 37 #[.int .u64 (x : Int), .int .i64 16] w fun e w' => (∃ m, 1 ≤ m ∧ m ≤ 16 ∧ x < 16 ^ m ∧ e = .returned (.string (str ((hexs x 16).drop (16 - m))))) ∧ Below w.heap.size w w' := by
  have H := Lib.hid (ifmt_any x w hx ht)
  clear hx ht
  go_enter Tryd.func37, Tryd.ntmps37
  go_wp2_with fail
  refine H.out.mono ?_
  rintro e w' ⟨⟨m, h1, h2, h3, rfl⟩, hb⟩
  have Hm := Lib.hid (And.intro h1 (And.intro h2 h3))
  generalize hs : str ((hexs x 16).drop (16 - m)) = s
  have Hs := Lib.hid hs
  clear h1 h2 h3 hs
  go_wp2
  go_ret
  exact ⟨⟨m, Hm.out.1, Hm.out.2.1, Hm.out.2.2, by rw [Hs.out]; rfl⟩, hb⟩

/-- The leading digits of a small number are 0. -/
theorem hexs_low {x m : Nat} (hm : m ≤ 16) (h : x < 16 ^ m) : hexs x 16 = List.replicate (16 - m) 48 ++ (hexs x 16).drop (16 - m) := by
  have e : (hexs x 16).take (16 - m) = List.replicate (16 - m) 48 := by
    apply List.ext_getElem
    · rw [List.length_take, hexs_len, List.length_replicate]; omega
    · intro i h1 h2
      rw [List.length_replicate] at h2
      rw [List.getElem_replicate, List.getElem_take]
      have e1 := hexs_get x 16 i (by omega)
      rw [List.getD_eq_getElem?_getD, List.getElem?_eq_getElem (by rw [hexs_len]; omega)] at e1
      have e2 : (hexs x 16)[i]'(by rw [hexs_len]; omega) = hexD (x / 2 ^ (4 * (15 - i)) % 16) := e1
      have h3 : x / 2 ^ (4 * (15 - i)) = 0 := by
        apply Nat.div_eq_of_lt
        have h4 : (16 : Nat) ^ m ≤ 2 ^ (4 * (15 - i)) := by
          rw [show (16 : Nat) = 2 ^ 4 by decide, ← Nat.pow_mul]
          exact Nat.pow_le_pow_right (by omega) (by omega)
        omega
      rw [h3] at e2
      exact e2
  conv => lhs; rw [← List.take_append_drop (16 - m) (hexs x 16), e]

theorem rep_str (c : Nat) : (⟨(Lib.repeatL (⟨#[48]⟩ : ByteArray).data.toList c).toArray⟩ : ByteArray) = str (List.replicate c 48) := by
  unfold str
  congr 2
  induction c with
  | zero => rfl
  | succ c ih =>
    rw [List.replicate_succ, List.map_cons, ← ih]
    rfl

theorem rep_any (m : Nat) (hm : m ≤ 16) (w : World) :
    Calls Tryd.prog 38 #[.string ⟨#[48]⟩, .int .i64 (16 - (m : Int))] w fun e w' => e = .returned (.string (str (List.replicate (16 - m) 48))) ∧ Below w.heap.size w w' := by
  have h := Tryd.strings_Repeat ⟨#[48]⟩ (16 - m) w (by omega) (by show 1 * (16 - m) ≤ _; omega)
  rw [rep_str] at h
  rw [show (16 - (m : Int)) = ((16 - m : Nat) : Int) by omega]
  exact h

theorem textL_ne {x : Nat} (h : x ∈ special) : textL x ≠ [] := by
  rcases textL_special h with ⟨_, t⟩ | ⟨_, t⟩ | ⟨_, t⟩ | ⟨_, t⟩ | ⟨_, t⟩ <;> (rw [t]; simp)

set_option maxRecDepth 100000 in
set_option maxHeartbeats 800000 in
theorem text_any (b : Nat) (w : World) (hb : b < 18446744073709551616) (ht : Tab16 w) :
    Calls Tryd.prog 21 #[.float .f64 b] w fun e w' => e = .returned (.string (str (textL (bitsB b)))) ∧ Below w.heap.size w w' := by
  have H1 := Lib.hid (bits_any b w hb)
  have hlt := bitsB_lt hb
  clear hb
  generalize bitsB b = x at *
  have H2 := Lib.hid (word_any x w hlt)
  by_cases hs : x ∈ special
  · have Hl := Lib.hid (show wordL x = textL x from if_pos hs)
    rw [Hl.out] at H2
    have hq : (str (textL x)).toList.isEmpty = false := by
      rw [str_list, List.isEmpty_eq_false_iff]
      simpa using textL_ne hs
    clear hs Hl hlt ht
    generalize str (textL x) = s at *
    go_enter Tryd.func21, Tryd.ntmps21
    go_wp2_with fail
    refine H1.out.mono ?_
    rintro e w' ⟨rfl, rfl⟩
    go_wp2_with fail
    refine H2.out.mono ?_
    rintro e w' ⟨rfl, hbel⟩
    go_wp2
    go_ret
    exact ⟨rfl, hbel⟩
  · have Hl := Lib.hid (show wordL x = [] from if_neg hs)
    have Hx := Lib.hid (textL_hex hs)
    rw [Hl.out] at H2
    have Ht := Lib.hid ht
    have Hlt := Lib.hid hlt
    have HR := Lib.hid (fun (m : Nat) (hm : m ≤ 16) (w : World) => rep_any m hm w)
    clear hs Hl hlt ht
    rw [Hx.out]
    go_enter Tryd.func21, Tryd.ntmps21
    go_wp2_with fail
    refine H1.out.mono ?_
    rintro e w' ⟨rfl, rfl⟩
    go_wp2_with fail
    refine H2.out.mono ?_
    rintro e w1 ⟨rfl, hbel⟩
    have hq : (str []).toList.isEmpty = true := by rw [str_list]; rfl
    have Ht1 : Tab16 w1 := by
      have h := Ht.out
      unfold Tab16 at h ⊢
      rw [hbel.cell (World.block_lt_of_cell? _ _ h)]
      exact h
    go_wp2_with fail
    refine (fmt_any x w1 Hlt.out Ht1).mono ?_
    rintro e w2 ⟨⟨m, m1, m2, m3, rfl⟩, hbel2⟩
    have Hlow := Lib.hid (hexs_low m2 m3)
    have hsz : (str ((hexs x 16).drop (16 - m))).size = m := by rw [str_size, List.length_drop, hexs_len]; omega
    have Hm2 := Lib.hid m2
    generalize hD : (hexs x 16).drop (16 - m) = D at *
    clear hD
    have HD := Lib.hid (show ∀ L, str [120] ++ str L ++ str D = str (120 :: (L ++ D)) from fun L => by rw [str_append, str_append]; rfl)
    generalize str D = s at *
    have hm16 : (m : Int) ≤ 16 := by omega
    clear m1 m2 m3 Ht1
    go_wp2_with fail
    refine (HR.out m Hm2.out w2).mono ?_
    rintro e w3 ⟨rfl, hbel3⟩
    have HDr := Lib.hid (HD.out (List.replicate (16 - m) 48))
    have hrsz : (str (List.replicate (16 - m) 48)).size = 16 - m := by rw [str_size, List.length_replicate]
    have hrs : (str (List.replicate (16 - m) 48)).size ≤ 16 := by omega
    have Hbel := Lib.hid ((hbel.trans (hbel2.mono hbel.size)).trans (hbel3.mono (hbel.trans (hbel2.mono hbel.size)).size))
    generalize str (List.replicate (16 - m) 48) = r at *
    have hssz : s.size ≤ 16 := by omega
    clear hrsz hbel hbel2 hbel3
    go_wp2
    go_ret
    exact ⟨by rw [Hlow.out, ← HDr.out]; rfl, Hbel.out⟩
end Go.Proofs.YthfpnkanccoolaaDoor
