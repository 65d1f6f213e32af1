import Derived.Test.YtpjadeihackkpaaGreatDoorMP3
import Derived.Test.YtpjadeihackkpaaGreatDoorMP2
/- The walks of the code's functions on bits and order. -/
namespace Go.Proofs.YtpjadeihackkpaaGreatDoor
open Go.RowKit Fl

theorem isnan_is (b : Nat) (w : World) (v : Bool) (hb : b < 18446744073709551616) (hv : decide (I < b % W) = v) :
    Calls Tryz.prog 85 #[.float .f64 b] w fun e w' => e = .returned (.bool v) ∧ w = w' := by
  have e := self_order hb
  rw [hv] at e
  clear hv
  go_enter Tryz.func85, Tryz.ntmps85
  go_wp2
  go_ret
  exact ⟨rfl, rfl⟩

theorem and_high (b : Nat) (h : b < 18446744073709551616) : bits .and .u64 (b : Int) 9223372036854775808 = if W ≤ b then 9223372036854775808 else 0 := by
  have h1 := u64_and_nat b 9223372036854775808 h (by omega)
  have h2 : b &&& 9223372036854775808 = if W ≤ b then 9223372036854775808 else 0 := by
    have h4 : b.testBit 63 = decide (W ≤ b) := by
      rw [Nat.testBit_eq_decide_div_mod_eq, show (2 : Nat) ^ 63 = 9223372036854775808 by decide, decide_eq_decide]
      unfold W
      omega
    rw [show (9223372036854775808 : Nat) = 2 ^ 63 by decide]
    apply Nat.eq_of_testBit_eq
    intro i
    rw [Nat.testBit_and, Nat.testBit_two_pow]
    by_cases hi : i = 63
    · subst hi
      rw [h4]
      by_cases hw : W ≤ b
      · rw [if_pos hw, decide_eq_true hw, Nat.testBit_two_pow]; simp
      · rw [if_neg hw, decide_eq_false hw]; simp
    · rw [decide_eq_false (fun e => hi e.symm)]
      split
      · rw [Nat.testBit_two_pow, decide_eq_false (fun e => hi e.symm)]; simp
      · simp
  rw [h2] at h1
  have h5 : bits .and .u64 (b : Int) 9223372036854775808 = ((if W ≤ b then 9223372036854775808 else 0 : Nat) : Int) := h1
  rw [h5]
  split <;> rfl

theorem or_high (b : Nat) (h : b < W) : bits .or .u64 (b : Int) 9223372036854775808 = ((b + W : Nat) : Int) := by
  have h1 := u64_or_nat b 9223372036854775808 (by unfold W at h; omega) (by omega)
  have h2 := Nat.two_pow_add_eq_or_of_lt (i := 63) (b := b) (by rw [show (2 : Nat) ^ 63 = W by decide]; exact h) 1
  rw [show (2 : Nat) ^ 63 * 1 = 9223372036854775808 by decide, Nat.or_comm] at h2
  rw [← h2] at h1
  have h3 : bits .or .u64 (b : Int) 9223372036854775808 = ((9223372036854775808 + b : Nat) : Int) := h1
  rw [h3, Nat.add_comm]
  rfl

set_option maxRecDepth 100000 in
theorem bits_any (b : Nat) (w : World) (hb : b < 18446744073709551616) :
    Calls Tryz.prog 65 #[.float .f64 b] w fun e w' => e = .returned (.int .u64 (bitsB b : Nat)) ∧ w = w' := by
  have hx := run_bits
  by_cases h : I < b % W
  · have Hv := Lib.hid (isnan_is b w true hb (decide_eq_true h))
    have Hf := Lib.hid (show ((bitsB b : Nat) : Int) = 9221120237041090561 by unfold bitsB; rw [if_pos h]; rfl)
    clear h
    go_enter Tryz.func65, Tryz.ntmps65
    go_wp2_with fail
    refine Hv.out.mono ?_
    rintro e w' ⟨rfl, rfl⟩
    go_wp2
    go_ret
    exact ⟨ret_u64 Hf.out.symm, rfl⟩
  · have Hv := Lib.hid (isnan_is b w false hb (decide_eq_false h))
    have Hf := Lib.hid (show ((bitsB b : Nat) : Int) = (b : Int) by unfold bitsB; rw [if_neg h])
    clear h
    go_enter Tryz.func65, Tryz.ntmps65
    go_wp2_with fail
    refine Hv.out.mono ?_
    rintro e w' ⟨rfl, rfl⟩
    go_wp2
    go_ret
    exact ⟨ret_u64 Hf.out.symm, rfl⟩

theorem ofB_bits {b : Nat} : ofB b = if bitsB b = b then some b else none := by
  unfold ofB bitsB
  by_cases h : I < b % W
  · rw [if_pos h]
    by_cases hq : b = Q
    · rw [if_neg (fun h => h.2 hq), if_pos hq.symm]
    · rw [if_pos ⟨h, hq⟩, if_neg (fun e => hq e.symm)]
  · rw [if_neg h, if_neg (fun h2 => h h2.1), if_pos rfl]

set_option maxRecDepth 100000 in
theorem of_any (b : Nat) (w : World) (hb : b < 18446744073709551616) :
    Calls Tryz.prog 70 #[.int .u64 (b : Int)] w fun e w' => e = .returned (.tuple #[.float .f64 ((ofB b).getD 0), .bool (ofB b).isSome]) ∧ w = w' := by
  have hx := run_frombits b
  have H1 := Lib.hid (bits_any b w hb)
  by_cases h : bitsB b = b
  · have Hf := Lib.hid (show ofB b = some b by rw [ofB_bits, if_pos h])
    have hne : (((bitsB b : Nat) : Int) != (b : Int)) = false := by rw [h]; exact bne_self_eq_false _
    rw [Hf.out]
    clear h hb
    generalize bitsB b = x at *
    go_enter Tryz.func70, Tryz.ntmps70
    go_wp2_with fail
    refine H1.out.mono ?_
    rintro e w' ⟨rfl, rfl⟩
    go_wp2
    go_ret2
    exact ⟨rfl, rfl⟩
  · have Hf := Lib.hid (show ofB b = none by rw [ofB_bits, if_neg h])
    have hne : (((bitsB b : Nat) : Int) != (b : Int)) = true := by rw [bne_iff_ne]; omega
    rw [Hf.out]
    clear h hb
    generalize bitsB b = x at *
    go_enter Tryz.func70, Tryz.ntmps70
    go_wp2_with fail
    refine H1.out.mono ?_
    rintro e w' ⟨rfl, rfl⟩
    go_wp2
    go_ret2
    exact ⟨rfl, rfl⟩

theorem same_any (a b : Nat) (w : World) (ha : a < 18446744073709551616) (hb : b < 18446744073709551616) :
    Calls Tryz.prog 47 #[.float .f64 a, .float .f64 b] w fun e w' => e = .returned (.bool (decide (bitsB a = bitsB b))) ∧ w = w' := by
  have H1 := Lib.hid (bits_any a w ha)
  have H2 := Lib.hid (bits_any b w hb)
  clear ha hb
  generalize bitsB a = x at *
  generalize bitsB b = y at *
  go_enter Tryz.func47, Tryz.ntmps47
  go_wp2_with fail
  refine H1.out.mono ?_
  rintro e w' ⟨rfl, rfl⟩
  go_wp2_with fail
  refine H2.out.mono ?_
  rintro e w' ⟨rfl, rfl⟩
  go_wp2
  go_ret
  refine ⟨ret_bool ?_, rfl⟩
  rw [Bool.eq_iff_iff]
  simp
  omega

end Go.Proofs.YtpjadeihackkpaaGreatDoor

/- Which values are valid, as plain functions. -/
namespace Go.Proofs.YtpjadeihackkpaaGreatDoor
open Go.RowKit Fl

/-- The fields that a kind does not have are zero. -/
def FieldsOk (v : V) : Prop := (v.kind = 1 ∨ v.n = 0) ∧ (v.kind = 2 ∨ bitsB v.f = 0) ∧ (v.kind = 3 ∨ v.s = []) ∧ (v.kind = 4 ∨ v.l = [])

instance (v : V) : Decidable (v.l = []) := by
  cases h : v.l with
  | nil => exact isTrue rfl
  | cons _ _ => exact isFalse (by simp)

instance (v : V) : Decidable (FieldsOk v) := by
  unfold FieldsOk
  infer_instance

/-- Valid, of a depth of at most t. -/
def rightN : Nat → V → Bool
  | 0, v => decide (FieldsOk v) && decide (v.kind ≠ 4) && decide (0 ≤ v.kind ∧ v.kind ≤ 4)
  | t + 1, v => decide (FieldsOk v) && v.l.all (rightN t) && decide (0 ≤ v.kind ∧ v.kind ≤ 4)

theorem rightN_fields {t : Nat} {v : V} (h : ¬ FieldsOk v) : rightN t v = false := by
  cases t <;> simp [rightN, h]

theorem rightN_kind {t : Nat} {v : V} (h : ¬ (0 ≤ v.kind ∧ v.kind ≤ 4)) : rightN t v = false := by
  cases t <;> (unfold rightN; rw [decide_eq_false h, Bool.and_false])

/-- A value that is no list. -/
theorem rightN_plain {t : Nat} {v : V} (h : FieldsOk v) (h4 : v.kind ≠ 4) (hk : 0 ≤ v.kind ∧ v.kind ≤ 4) : rightN t v = true := by
  have hl : v.l = [] := h.2.2.2.resolve_left h4
  cases t
  · unfold rightN
    rw [decide_eq_true h, decide_eq_true h4, decide_eq_true hk]; rfl
  · unfold rightN
    rw [decide_eq_true h, hl, decide_eq_true hk]; rfl

theorem rightN_list {t : Nat} {v : V} (h : FieldsOk v) (h4 : v.kind = 4) : rightN (t + 1) v = v.l.all (rightN t) := by
  unfold rightN
  rw [decide_eq_true h, decide_eq_true (by omega), Bool.true_and, Bool.and_true]
end Go.Proofs.YtpjadeihackkpaaGreatDoor

/- The walk of the reference's Text: it returns the plain text. -/
namespace Go.Proofs.YtpjadeihackkpaaGreatDoor
open Go.RowKit Fl

def hexD (d : Nat) : Nat := if d < 10 then 48 + d else 87 + d
/-- The first j of the 16 digits. -/
def hexs (x : Nat) : Nat → List Nat
  | 0 => []
  | j + 1 => hexs x j ++ [hexD (x / 2 ^ (4 * (15 - j)) % 16)]

def textL (x : Nat) : List Nat :=
  if x = Q then [110, 97, 110] else if x = I then [105, 110, 102] else if x = W + I then [45, 105, 110, 102] else if x = 0 then [48] else if x = W then [45, 48] else 120 :: hexs x 16

theorem and15 {y : Nat} (h : y < 18446744073709551616) : bits .and .u64 (y : Int) 15 = ((y % 16 : Nat) : Int) := by
  have h1 := u64_and_nat y 15 h (by omega)
  have h2 := Nat.and_two_pow_sub_one_eq_mod y 4
  rw [show (2 : Nat) ^ 4 - 1 = 15 by decide, show (2 : Nat) ^ 4 = 16 by decide] at h2
  rw [h2] at h1
  exact h1

theorem digit_int (x u : Nat) : (x : Int) / 2 ^ (4 * u) = ((x / 2 ^ (4 * u) : Nat) : Int) := by
  rw [Int.natCast_ediv, Int.natCast_pow]
  rfl

theorem hexs_len (x j : Nat) : (hexs x j).length = j := by
  induction j with
  | zero => rfl
  | succ j ih => rw [hexs, List.length_append, ih]; rfl

theorem digit_all : ∀ d : Fin 16, (ByteArray.mk #[48, 49, 50, 51, 52, 53, 54, 55, 56, 57, 97, 98, 99, 100, 101, 102]).extract d.val (d.val + 1) = str [hexD d.val] := by decide +kernel

theorem digit_cat {d : Nat} (h : d < 16) (L : List Nat) : str L ++ (ByteArray.mk #[48, 49, 50, 51, 52, 53, 54, 55, 56, 57, 97, 98, 99, 100, 101, 102]).extract d (d + 1) = str (L ++ [hexD d]) := by
  rw [digit_all ⟨d, h⟩, str_append]

def TextRel (x : Nat) (s i : Value) : Prop := ∃ t : Nat, t ≤ 16 ∧ i = .int .i64 ((t : Int) - 1) ∧ s = .string (str (120 :: hexs x (16 - t)))

set_option maxRecDepth 100000 in
set_option maxHeartbeats 800000 in
theorem rtext_any (b : Nat) (w : World) (hb : b < 18446744073709551616) :
    Calls Tryz.prog 49 #[.float .f64 b] w fun e w' => e = .returned (.string (str (textL (bitsB b)))) ∧ w = w' := by
  have H1 := Lib.hid (rbits_any b w hb)
  have hlt := bitsB_lt hb
  clear hb
  generalize bitsB b = x at *
  by_cases c1 : x = Q
  · have Hf := Lib.hid (show textL x = [110, 97, 110] from if_pos c1)
    have d1 : ((x : Int) == 9221120237041090561) = true := beq_iff_eq.2 (by rw [c1]; rfl)
    rw [Hf.out]
    clear c1 hlt
    go_enter Tryz.func49, Tryz.ntmps49
    go_wp2_with fail
    refine H1.out.mono ?_
    rintro e w' ⟨rfl, rfl⟩
    go_wp2
    go_ret
    exact ⟨rfl, rfl⟩
  have d1 : ((x : Int) == 9221120237041090561) = false := beq_eq_false_iff_ne.2 (by unfold Q at c1; omega)
  by_cases c2 : x = I
  · have Hf := Lib.hid (show textL x = [105, 110, 102] by unfold textL; rw [if_neg c1, if_pos c2])
    have d2 : ((x : Int) == 9218868437227405312) = true := beq_iff_eq.2 (by rw [c2]; rfl)
    rw [Hf.out]
    clear c1 c2 hlt
    go_enter Tryz.func49, Tryz.ntmps49
    go_wp2_with fail
    refine H1.out.mono ?_
    rintro e w' ⟨rfl, rfl⟩
    go_wp2
    go_ret
    exact ⟨rfl, rfl⟩
  have d2 : ((x : Int) == 9218868437227405312) = false := beq_eq_false_iff_ne.2 (by unfold I at c2; omega)
  by_cases c3 : x = W + I
  · have Hf := Lib.hid (show textL x = [45, 105, 110, 102] by unfold textL; rw [if_neg c1, if_neg c2, if_pos c3])
    have d3 : ((x : Int) == 18442240474082181120) = true := beq_iff_eq.2 (by rw [c3]; rfl)
    rw [Hf.out]
    clear c1 c2 c3 hlt
    go_enter Tryz.func49, Tryz.ntmps49
    go_wp2_with fail
    refine H1.out.mono ?_
    rintro e w' ⟨rfl, rfl⟩
    go_wp2
    go_ret
    exact ⟨rfl, rfl⟩
  have d3 : ((x : Int) == 18442240474082181120) = false := beq_eq_false_iff_ne.2 (by unfold I W at c3; omega)
  by_cases c4 : x = 0
  · have Hf := Lib.hid (show textL x = [48] by unfold textL; rw [if_neg c1, if_neg c2, if_neg c3, if_pos c4])
    have d4 : ((x : Int) == 0) = true := beq_iff_eq.2 (by omega)
    rw [Hf.out]
    clear c1 c2 c3 c4 hlt
    go_enter Tryz.func49, Tryz.ntmps49
    go_wp2_with fail
    refine H1.out.mono ?_
    rintro e w' ⟨rfl, rfl⟩
    go_wp2
    go_ret
    exact ⟨rfl, rfl⟩
  have d4 : ((x : Int) == 0) = false := beq_eq_false_iff_ne.2 (by omega)
  by_cases c5 : x = W
  · have Hf := Lib.hid (show textL x = [45, 48] by unfold textL; rw [if_neg c1, if_neg c2, if_neg c3, if_neg c4, if_pos c5])
    have d5 : ((x : Int) == 9223372036854775808) = true := beq_iff_eq.2 (by rw [c5]; rfl)
    rw [Hf.out]
    clear c1 c2 c3 c4 c5 hlt
    go_enter Tryz.func49, Tryz.ntmps49
    go_wp2_with fail
    refine H1.out.mono ?_
    rintro e w' ⟨rfl, rfl⟩
    go_wp2
    go_ret
    exact ⟨rfl, rfl⟩
  have d5 : ((x : Int) == 9223372036854775808) = false := beq_eq_false_iff_ne.2 (by unfold W at c5; omega)
  have Hf := Lib.hid (show textL x = 120 :: hexs x 16 by unfold textL; rw [if_neg c1, if_neg c2, if_neg c3, if_neg c4, if_neg c5])
  rw [Hf.out]
  clear c1 c2 c3 c4 c5
  go_enter Tryz.func49, Tryz.ntmps49
  go_wp2_with fail
  refine H1.out.mono ?_
  rintro e w' ⟨rfl, rfl⟩
  go_wp2
  go_loop [4, 5] (fun s i => TextRel x s i) (fun _ i => (intOf i + 1).toNat)
  case atStart => exact ⟨16, Nat.le_refl _, rfl, rfl⟩
  case round =>
    obtain ⟨t, ht, rfl, rfl⟩ := hrel
    by_cases h0 : t = 0
    · subst h0
      go_wp2
      go_ret
      exact ⟨rfl, rfl⟩
    · obtain ⟨u, rfl⟩ : ∃ u, t = u + 1 := ⟨t - 1, by omega⟩
      rw [show (((u + 1 : Nat) : Int) - 1) = (u : Int) by omega]
      have hu : u ≤ 15 := by omega
      have hy : x / 2 ^ (4 * u) < 18446744073709551616 := Nat.lt_of_le_of_lt (Nat.div_le_self _ _) hlt
      have ha := and15 hy
      rw [← digit_int] at ha
      have hd : x / 2 ^ (4 * u) % 16 < 16 := Nat.mod_lt _ (by omega)
      generalize hdd : x / 2 ^ (4 * u) % 16 = d at ha hd
      have Hd := Lib.hid hdd
      clear hdd hy h0 ht
      generalize hL : (120 :: hexs x (16 - (u + 1))) = L
      have HL := Lib.hid hL
      have hsz : (str L).size ≤ 16 := by rw [str_size, ← hL, List.length_cons, hexs_len]; omega
      clear hL
      have hcat := digit_cat hd L
      go_wp2
      go_round
      case rel =>
        refine ⟨u, by omega, rfl, ?_⟩
        have e : 16 - u = (16 - (u + 1)) + 1 := by omega
        have e2 : 15 - (16 - (u + 1)) = u := by omega
        rw [e, hexs, e2, Hd.out, ← List.cons_append, HL.out]
      case measure => simp [intOf]
end Go.Proofs.YtpjadeihackkpaaGreatDoor

/- Decimal forms: the walks of the reference's digits and Decimal. -/
namespace Go.Proofs.YtpjadeihackkpaaGreatDoor
open Go.RowKit

/-- The decimal digits of a number. -/
def decD (n : Nat) : List Nat := if h : n < 10 then [48 + n] else decD (n / 10) ++ [48 + n % 10]
  termination_by n
  decreasing_by omega

theorem decD_low {n : Nat} (h : n < 10) : decD n = [48 + n] := by rw [decD, dif_pos h]
theorem decD_high {n : Nat} (h : ¬ n < 10) : decD n = decD (n / 10) ++ [48 + n % 10] := by rw [decD, dif_neg h]

theorem decD_len : ∀ (k n : Nat), n < 10 ^ (k + 1) → (decD n).length ≤ k + 1
  | 0, n, h => by rw [decD_low (by simpa using h)]; simp
  | k + 1, n, h => by
    by_cases h1 : n < 10
    · rw [decD_low h1]; simp
    · rw [decD_high h1, List.length_append]
      have h2 : n / 10 < 10 ^ (k + 1) := by
        rw [Nat.div_lt_iff_lt_mul (by omega), ← Nat.pow_succ]
        exact h
      have h3 := decD_len k (n / 10) h2
      simp only [List.length_cons, List.length_nil]
      omega

theorem decD_len20 {n : Nat} (h : n < 18446744073709551616) : (decD n).length ≤ 20 := decD_len 19 n (by omega)

theorem decD_byte : ∀ (k n : Nat), n < 10 ^ (k + 1) → ∀ c ∈ decD n, 48 ≤ c ∧ c ≤ 57
  | 0, n, h, c, hc => by
    have h10 : n < 10 := by simpa using h
    rw [decD_low h10] at hc
    have : c = 48 + n := by simpa using hc
    omega
  | k + 1, n, h, c, hc => by
    by_cases h1 : n < 10
    · rw [decD_low h1] at hc
      have : c = 48 + n := by simpa using hc
      omega
    · rw [decD_high h1, List.mem_append] at hc
      have h2 : n / 10 < 10 ^ (k + 1) := by
        rw [Nat.div_lt_iff_lt_mul (by omega), ← Nat.pow_succ]
        exact h
      rcases hc with hc | hc
      · exact decD_byte k (n / 10) h2 c hc
      · have : c = 48 + n % 10 := by simpa using hc
        omega

theorem ten_all : ∀ d : Fin 10, (ByteArray.mk #[48, 49, 50, 51, 52, 53, 54, 55, 56, 57]).extract d.val (d.val + 1) = str [48 + d.val] := by decide +kernel
theorem ten_at {d : Nat} (h : d < 10) : (ByteArray.mk #[48, 49, 50, 51, 52, 53, 54, 55, 56, 57]).extract d (d + 1) = str [48 + d] := ten_all ⟨d, h⟩

def DecRel (N : Nat) (x s : Value) : Prop := ∃ (n : Nat) (t : List Nat), x = .int .u64 (n : Int) ∧ s = .string (str ((48 + n % 10) :: t)) ∧ n ≤ N ∧ decD n ++ t = decD N

set_option maxRecDepth 100000 in
set_option maxHeartbeats 800000 in
theorem rdigits_any (N : Nat) (w : World) (hN : N < 18446744073709551616) :
    Calls Tryz.prog 66 #[.int .u64 (N : Int)] w fun e w' => e = .returned (.string (str (decD N))) ∧ w = w' := by
  have hd : N % 10 < 10 := Nat.mod_lt _ (by omega)
  have hex := ten_at hd
  have hmod : (N : Int) % 10 = ((N % 10 : Nat) : Int) := by omega
  have Hst := Lib.hid (show DecRel N (.int .u64 (N : Int)) (.string (str [48 + N % 10])) from ⟨N, [], rfl, rfl, Nat.le_refl _, by simp⟩)
  generalize hdd : N % 10 = d at *
  clear hdd
  go_enter Tryz.func66, Tryz.ntmps66
  go_wp2
  clear hex hmod hd
  go_loop [0, 3] (fun x s => DecRel N x s) (fun x _ => (intOf x).toNat)
  case atStart => exact Hst.out
  case round =>
    obtain ⟨n, t, rfl, rfl, hn, ht⟩ := hrel
    have hlen := decD_len20 hN
    rw [← ht, List.length_append] at hlen
    by_cases h10 : n < 10
    · have Hf := Lib.hid (show (48 + n % 10) :: t = decD N from by rw [← ht, decD_low h10, Nat.mod_eq_of_lt h10]; rfl)
      have hge : ¬ ((10 : Int) ≤ (n : Int)) := by omega
      clear ht hlen
      generalize hs : str ((48 + n % 10) :: t) = s
      have Hs := Lib.hid hs
      clear hs
      go_wp2
      go_ret
      exact ⟨by rw [← Hf.out, Hs.out]; rfl, rfl⟩
    · have hge : (10 : Int) ≤ (n : Int) := by omega
      have hd2 : n / 10 % 10 < 10 := Nat.mod_lt _ (by omega)
      have hex := ten_at hd2
      have hdiv : (n : Int) / 10 = ((n / 10 : Nat) : Int) := by omega
      have hmod : ((n / 10 : Nat) : Int) % 10 = ((n / 10 % 10 : Nat) : Int) := by omega
      have hcat := str_append [48 + n / 10 % 10] ((48 + n % 10) :: t)
      have hsz : (str ((48 + n % 10) :: t)).size ≤ 1000 := by rw [str_size, List.length_cons]; omega
      have hsz1 : (str [48 + n / 10 % 10]).size = 1 := by rw [str_size]; rfl
      have Hnext := Lib.hid (show DecRel N (.int .u64 ((n / 10 : Nat) : Int)) (.string (str ([48 + n / 10 % 10] ++ ((48 + n % 10) :: t)))) from ⟨n / 10, _, rfl, rfl, by omega, by rw [← ht, decD_high h10, List.append_assoc]; rfl⟩)
      have Hms := Lib.hid (show n / 10 < n by omega)
      have hm64 : n / 10 < 18446744073709551616 := by omega
      clear ht hlen
      generalize hS : str ([48 + n / 10 % 10] ++ ((48 + n % 10) :: t)) = S at *
      clear hS
      generalize str ((48 + n % 10) :: t) = s at *
      generalize n / 10 % 10 = d2 at *
      generalize n / 10 = m at *
      generalize str [48 + d2] = s1 at *
      go_wp2
      go_round
      case rel => exact Hnext.out
      case measure => simp [intOf]; have := Hms.out; omega

/-- The decimal form of a number with a sign. -/
def decL (n : Int) : List Nat := if n < 0 then 45 :: decD n.natAbs else decD n.natAbs

set_option maxRecDepth 100000 in
theorem rdecimal_any (n : Int) (w : World) (h1 : -9223372036854775808 ≤ n) (h2 : n ≤ 9223372036854775807) :
    Calls Tryz.prog 48 #[.int .i64 n] w fun e w' => e = .returned (.string (str (decL n))) ∧ w = w' := by
  by_cases hneg : n < 0
  · have H := Lib.hid (rdigits_any n.natAbs w (by omega))
    obtain ⟨m, hm⟩ : ∃ m : Int, m = (n.natAbs : Int) := ⟨_, rfl⟩
    have hmm : -(n + 1) + 1 = m := by omega
    have hm0 : 1 ≤ m ∧ m ≤ 9223372036854775808 := by omega
    have hf : decL n = 45 :: decD n.natAbs := if_pos hneg
    have hcat := str_append [45] (decD n.natAbs)
    have hsz : (str (decD n.natAbs)).size ≤ 1000 := by have := decD_len20 (n := n.natAbs) (by omega); rw [str_size]; omega
    have hS : str (decL n) = str [45] ++ str (decD n.natAbs) := by rw [hcat, hf]; rfl
    rw [← hm] at H
    have HS := Lib.hid hS
    clear hm hf hcat hS
    generalize str (decD n.natAbs) = s at *
    go_enter Tryz.func48, Tryz.ntmps48
    go_wp2_with fail
    refine H.out.mono ?_
    rintro e w' ⟨rfl, rfl⟩
    go_wp2
    go_ret
    exact ⟨by rw [HS.out]; rfl, rfl⟩
  · have H := Lib.hid (rdigits_any n.natAbs w (by omega))
    have hm : (n.natAbs : Int) = n := by omega
    have hf : decL n = decD n.natAbs := if_neg hneg
    rw [hm] at H
    rw [← hf] at H
    clear hm hf
    generalize str (decL n) = s at *
    go_enter Tryz.func48, Tryz.ntmps48
    go_wp2_with fail
    refine H.out.mono ?_
    rintro e w' ⟨rfl, rfl⟩
    go_wp2
    go_ret
    exact ⟨rfl, rfl⟩
end Go.Proofs.YtpjadeihackkpaaGreatDoor

