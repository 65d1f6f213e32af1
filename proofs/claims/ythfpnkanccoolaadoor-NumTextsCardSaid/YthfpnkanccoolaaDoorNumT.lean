/- The walk of the reference's Text: it returns the plain text. -/
import Derived.Test.YthfpnkanccoolaaDoorNumR
import Derived.Test.YthfpnkanccoolaaDoorStr
namespace Go.Proofs.YthfpnkanccoolaaDoor
open Go.RowKit Fl

def hexD (d : Nat) : Nat := if d < 10 then 48 + d else 87 + d
/-- The first j of the 16 digits. -/
def hexs (x : Nat) : Nat → List Nat
  | 0 => []
  | j + 1 => hexs x j ++ [hexD (x / 2 ^ (4 * (15 - j)) % 16)]

def textL (x : Nat) : List Nat :=
  if x = Q then [110, 97, 110] else if x = I then [105, 110, 102] else if x = W + I then [45, 105, 110, 102] else if x = 0 then [48] else if x = W then [45, 48] else 120 :: hexs x 16

theorem and15 {y : Nat} (h : y < 18446744073709551616) : bits .and .u64 (y : Int) 15 = ((y % 16 : Nat) : Int) := by
  have h1 := u64_and_nat y 15 h (by omega)
  have h2 := Nat.and_two_pow_sub_one_eq_mod y 4
  rw [show (2 : Nat) ^ 4 - 1 = 15 by decide, show (2 : Nat) ^ 4 = 16 by decide] at h2
  rw [h2] at h1
  exact h1

theorem digit_int (x u : Nat) : (x : Int) / 2 ^ (4 * u) = ((x / 2 ^ (4 * u) : Nat) : Int) := by
  rw [Int.natCast_ediv, Int.natCast_pow]
  rfl

theorem hexs_len (x j : Nat) : (hexs x j).length = j := by
  induction j with
  | zero => rfl
  | succ j ih => rw [hexs, List.length_append, ih]; rfl

theorem digit_all : ∀ d : Fin 16, (ByteArray.mk #[48, 49, 50, 51, 52, 53, 54, 55, 56, 57, 97, 98, 99, 100, 101, 102]).extract d.val (d.val + 1) = str [hexD d.val] := by decide +kernel

theorem digit_cat {d : Nat} (h : d < 16) (L : List Nat) : str L ++ (ByteArray.mk #[48, 49, 50, 51, 52, 53, 54, 55, 56, 57, 97, 98, 99, 100, 101, 102]).extract d (d + 1) = str (L ++ [hexD d]) := by
  rw [digit_all ⟨d, h⟩, str_append]

def TextRel (x : Nat) (s i : Value) : Prop := ∃ t : Nat, t ≤ 16 ∧ i = .int .i64 ((t : Int) - 1) ∧ s = .string (str (120 :: hexs x (16 - t)))

set_option maxRecDepth 100000 in
set_option maxHeartbeats 800000 in
theorem rtext_any (b : Nat) (w : World) (hb : b < 18446744073709551616) :
    Calls Tryd.prog 23 #[.float .f64 b] w fun e w' => e = .returned (.string (str (textL (bitsB b)))) ∧ w = w' := by
  have H1 := Lib.hid (rbits_any b w hb)
  have hlt := bitsB_lt hb
  clear hb
  generalize bitsB b = x at *
  by_cases c1 : x = Q
  · have Hf := Lib.hid (show textL x = [110, 97, 110] from if_pos c1)
    have d1 : ((x : Int) == 9221120237041090561) = true := beq_iff_eq.2 (by rw [c1]; rfl)
    rw [Hf.out]
    clear c1 hlt
    go_enter Tryd.func23, Tryd.ntmps23
    go_wp2_with fail
    refine H1.out.mono ?_
    rintro e w' ⟨rfl, rfl⟩
    go_wp2
    go_ret
    exact ⟨rfl, rfl⟩
  have d1 : ((x : Int) == 9221120237041090561) = false := beq_eq_false_iff_ne.2 (by unfold Q at c1; omega)
  by_cases c2 : x = I
  · have Hf := Lib.hid (show textL x = [105, 110, 102] by unfold textL; rw [if_neg c1, if_pos c2])
    have d2 : ((x : Int) == 9218868437227405312) = true := beq_iff_eq.2 (by rw [c2]; rfl)
    rw [Hf.out]
    clear c1 c2 hlt
    go_enter Tryd.func23, Tryd.ntmps23
    go_wp2_with fail
    refine H1.out.mono ?_
    rintro e w' ⟨rfl, rfl⟩
    go_wp2
    go_ret
    exact ⟨rfl, rfl⟩
  have d2 : ((x : Int) == 9218868437227405312) = false := beq_eq_false_iff_ne.2 (by unfold I at c2; omega)
  by_cases c3 : x = W + I
  · have Hf := Lib.hid (show textL x = [45, 105, 110, 102] by unfold textL; rw [if_neg c1, if_neg c2, if_pos c3])
    have d3 : ((x : Int) == 18442240474082181120) = true := beq_iff_eq.2 (by rw [c3]; rfl)
    rw [Hf.out]
    clear c1 c2 c3 hlt
    go_enter Tryd.func23, Tryd.ntmps23
    go_wp2_with fail
    refine H1.out.mono ?_
    rintro e w' ⟨rfl, rfl⟩
    go_wp2
    go_ret
    exact ⟨rfl, rfl⟩
  have d3 : ((x : Int) == 18442240474082181120) = false := beq_eq_false_iff_ne.2 (by unfold I W at c3; omega)
  by_cases c4 : x = 0
  · have Hf := Lib.hid (show textL x = [48] by unfold textL; rw [if_neg c1, if_neg c2, if_neg c3, if_pos c4])
    have d4 : ((x : Int) == 0) = true := beq_iff_eq.2 (by omega)
    rw [Hf.out]
    clear c1 c2 c3 c4 hlt
    go_enter Tryd.func23, Tryd.ntmps23
    go_wp2_with fail
    refine H1.out.mono ?_
    rintro e w' ⟨rfl, rfl⟩
    go_wp2
    go_ret
    exact ⟨rfl, rfl⟩
  have d4 : ((x : Int) == 0) = false := beq_eq_false_iff_ne.2 (by omega)
  by_cases c5 : x = W
  · have Hf := Lib.hid (show textL x = [45, 48] by unfold textL; rw [if_neg c1, if_neg c2, if_neg c3, if_neg c4, if_pos c5])
    have d5 : ((x : Int) == 9223372036854775808) = true := beq_iff_eq.2 (by rw [c5]; rfl)
    rw [Hf.out]
    clear c1 c2 c3 c4 c5 hlt
    go_enter Tryd.func23, Tryd.ntmps23
    go_wp2_with fail
    refine H1.out.mono ?_
    rintro e w' ⟨rfl, rfl⟩
    go_wp2
    go_ret
    exact ⟨rfl, rfl⟩
  have d5 : ((x : Int) == 9223372036854775808) = false := beq_eq_false_iff_ne.2 (by unfold W at c5; omega)
  have Hf := Lib.hid (show textL x = 120 :: hexs x 16 by unfold textL; rw [if_neg c1, if_neg c2, if_neg c3, if_neg c4, if_neg c5])
  rw [Hf.out]
  clear c1 c2 c3 c4 c5
  go_enter Tryd.func23, Tryd.ntmps23
  go_wp2_with fail
  refine H1.out.mono ?_
  rintro e w' ⟨rfl, rfl⟩
  go_wp2
  go_loop [4, 5] (fun s i => TextRel x s i) (fun _ i => (intOf i + 1).toNat)
  case atStart => exact ⟨16, Nat.le_refl _, rfl, rfl⟩
  case round =>
    obtain ⟨t, ht, rfl, rfl⟩ := hrel
    by_cases h0 : t = 0
    · subst h0
      go_wp2
      go_ret
      exact ⟨rfl, rfl⟩
    · obtain ⟨u, rfl⟩ : ∃ u, t = u + 1 := ⟨t - 1, by omega⟩
      rw [show (((u + 1 : Nat) : Int) - 1) = (u : Int) by omega]
      have hu : u ≤ 15 := by omega
      have hy : x / 2 ^ (4 * u) < 18446744073709551616 := Nat.lt_of_le_of_lt (Nat.div_le_self _ _) hlt
      have ha := and15 hy
      rw [← digit_int] at ha
      have hd : x / 2 ^ (4 * u) % 16 < 16 := Nat.mod_lt _ (by omega)
      generalize hdd : x / 2 ^ (4 * u) % 16 = d at ha hd
      have Hd := Lib.hid hdd
      clear hdd hy h0 ht
      generalize hL : (120 :: hexs x (16 - (u + 1))) = L
      have HL := Lib.hid hL
      have hsz : (str L).size ≤ 16 := by rw [str_size, ← hL, List.length_cons, hexs_len]; omega
      clear hL
      have hcat := digit_cat hd L
      go_wp2
      go_round
      case rel =>
        refine ⟨u, by omega, rfl, ?_⟩
        have e : 16 - u = (16 - (u + 1)) + 1 := by omega
        have e2 : 15 - (16 - (u + 1)) = u := by omega
        rw [e, hexs, e2, Hd.out, ← List.cons_append, HL.out]
      case measure => simp [intOf]
end Go.Proofs.YthfpnkanccoolaaDoor
