import Derived.Test.YtpnfnmeilhiebaaGreatDoorMP8
import Derived.Test.YtpnfnmeilhiebaaGreatDoorMP1
import Derived.Deep.QuietTactic
import Derived.BigQuiet
/- Decimal forms: the walks of the reference's digits and Decimal. -/
namespace Go.Proofs.YtpnfnmeilhiebaaGreatDoor
open Go.RowKit

/-- The decimal digits of a number. -/
def decD (n : Nat) : List Nat := if h : n < 10 then [48 + n] else decD (n / 10) ++ [48 + n % 10]
  termination_by n
  decreasing_by omega

theorem decD_low {n : Nat} (h : n < 10) : decD n = [48 + n] := by rw [decD, dif_pos h]
theorem decD_high {n : Nat} (h : ¬ n < 10) : decD n = decD (n / 10) ++ [48 + n % 10] := by rw [decD, dif_neg h]

theorem decD_len : ∀ (k n : Nat), n < 10 ^ (k + 1) → (decD n).length ≤ k + 1
  | 0, n, h => by rw [decD_low (by simpa using h)]; simp
  | k + 1, n, h => by
    by_cases h1 : n < 10
    · rw [decD_low h1]; simp
    · rw [decD_high h1, List.length_append]
      have h2 : n / 10 < 10 ^ (k + 1) := by
        rw [Nat.div_lt_iff_lt_mul (by omega), ← Nat.pow_succ]
        exact h
      have h3 := decD_len k (n / 10) h2
      simp only [List.length_cons, List.length_nil]
      omega

theorem decD_len20 {n : Nat} (h : n < 18446744073709551616) : (decD n).length ≤ 20 := decD_len 19 n (by omega)

theorem decD_byte : ∀ (k n : Nat), n < 10 ^ (k + 1) → ∀ c ∈ decD n, 48 ≤ c ∧ c ≤ 57
  | 0, n, h, c, hc => by
    have h10 : n < 10 := by simpa using h
    rw [decD_low h10] at hc
    have : c = 48 + n := by simpa using hc
    omega
  | k + 1, n, h, c, hc => by
    by_cases h1 : n < 10
    · rw [decD_low h1] at hc
      have : c = 48 + n := by simpa using hc
      omega
    · rw [decD_high h1, List.mem_append] at hc
      have h2 : n / 10 < 10 ^ (k + 1) := by
        rw [Nat.div_lt_iff_lt_mul (by omega), ← Nat.pow_succ]
        exact h
      rcases hc with hc | hc
      · exact decD_byte k (n / 10) h2 c hc
      · have : c = 48 + n % 10 := by simpa using hc
        omega

theorem ten_all : ∀ d : Fin 10, (ByteArray.mk #[48, 49, 50, 51, 52, 53, 54, 55, 56, 57]).extract d.val (d.val + 1) = str [48 + d.val] := by decide +kernel
theorem ten_at {d : Nat} (h : d < 10) : (ByteArray.mk #[48, 49, 50, 51, 52, 53, 54, 55, 56, 57]).extract d (d + 1) = str [48 + d] := ten_all ⟨d, h⟩

def DecRel (N : Nat) (x s : Value) : Prop := ∃ (n : Nat) (t : List Nat), x = .int .u64 (n : Int) ∧ s = .string (str ((48 + n % 10) :: t)) ∧ n ≤ N ∧ decD n ++ t = decD N

set_option maxRecDepth 100000 in
set_option maxHeartbeats 800000 in
theorem rdigits_any (N : Nat) (w : World) (hN : N < 18446744073709551616) :
    Calls Tryz.prog 62 #[.int .u64 (N : Int)] w fun e w' => e = .returned (.string (str (decD N))) ∧ w = w' := by
  have hd : N % 10 < 10 := Nat.mod_lt _ (by omega)
  have hex := ten_at hd
  have hmod : (N : Int) % 10 = ((N % 10 : Nat) : Int) := by omega
  have Hst := Lib.hid (show DecRel N (.int .u64 (N : Int)) (.string (str [48 + N % 10])) from ⟨N, [], rfl, rfl, Nat.le_refl _, by simp⟩)
  generalize hdd : N % 10 = d at *
  clear hdd
  go_enter Tryz.func62, Tryz.ntmps62
  go_wp2
  clear hex hmod hd
  go_loop [0, 3] (fun x s => DecRel N x s) (fun x _ => (intOf x).toNat)
  case atStart => exact Hst.out
  case round =>
    obtain ⟨n, t, rfl, rfl, hn, ht⟩ := hrel
    have hlen := decD_len20 hN
    rw [← ht, List.length_append] at hlen
    by_cases h10 : n < 10
    · have Hf := Lib.hid (show (48 + n % 10) :: t = decD N from by rw [← ht, decD_low h10, Nat.mod_eq_of_lt h10]; rfl)
      have hge : ¬ ((10 : Int) ≤ (n : Int)) := by omega
      clear ht hlen
      generalize hs : str ((48 + n % 10) :: t) = s
      have Hs := Lib.hid hs
      clear hs
      go_wp2
      go_ret
      exact ⟨by rw [← Hf.out, Hs.out]; rfl, rfl⟩
    · have hge : (10 : Int) ≤ (n : Int) := by omega
      have hd2 : n / 10 % 10 < 10 := Nat.mod_lt _ (by omega)
      have hex := ten_at hd2
      have hdiv : (n : Int) / 10 = ((n / 10 : Nat) : Int) := by omega
      have hmod : ((n / 10 : Nat) : Int) % 10 = ((n / 10 % 10 : Nat) : Int) := by omega
      have hcat := str_append [48 + n / 10 % 10] ((48 + n % 10) :: t)
      have hsz : (str ((48 + n % 10) :: t)).size ≤ 1000 := by rw [str_size, List.length_cons]; omega
      have hsz1 : (str [48 + n / 10 % 10]).size = 1 := by rw [str_size]; rfl
      have Hnext := Lib.hid (show DecRel N (.int .u64 ((n / 10 : Nat) : Int)) (.string (str ([48 + n / 10 % 10] ++ ((48 + n % 10) :: t)))) from ⟨n / 10, _, rfl, rfl, by omega, by rw [← ht, decD_high h10, List.append_assoc]; rfl⟩)
      have Hms := Lib.hid (show n / 10 < n by omega)
      have hm64 : n / 10 < 18446744073709551616 := by omega
      clear ht hlen
      generalize hS : str ([48 + n / 10 % 10] ++ ((48 + n % 10) :: t)) = S at *
      clear hS
      generalize str ((48 + n % 10) :: t) = s at *
      generalize n / 10 % 10 = d2 at *
      generalize n / 10 = m at *
      generalize str [48 + d2] = s1 at *
      go_wp2
      go_round
      case rel => exact Hnext.out
      case measure => simp [intOf]; have := Hms.out; omega

/-- The decimal form of a number with a sign. -/
def decL (n : Int) : List Nat := if n < 0 then 45 :: decD n.natAbs else decD n.natAbs

set_option maxRecDepth 100000 in
theorem rdecimal_any (n : Int) (w : World) (h1 : -9223372036854775808 ≤ n) (h2 : n ≤ 9223372036854775807) :
    Calls Tryz.prog 45 #[.int .i64 n] w fun e w' => e = .returned (.string (str (decL n))) ∧ w = w' := by
  by_cases hneg : n < 0
  · have H := Lib.hid (rdigits_any n.natAbs w (by omega))
    obtain ⟨m, hm⟩ : ∃ m : Int, m = (n.natAbs : Int) := ⟨_, rfl⟩
    have hmm : -(n + 1) + 1 = m := by omega
    have hm0 : 1 ≤ m ∧ m ≤ 9223372036854775808 := by omega
    have hf : decL n = 45 :: decD n.natAbs := if_pos hneg
    have hcat := str_append [45] (decD n.natAbs)
    have hsz : (str (decD n.natAbs)).size ≤ 1000 := by have := decD_len20 (n := n.natAbs) (by omega); rw [str_size]; omega
    have hS : str (decL n) = str [45] ++ str (decD n.natAbs) := by rw [hcat, hf]; rfl
    rw [← hm] at H
    have HS := Lib.hid hS
    clear hm hf hcat hS
    generalize str (decD n.natAbs) = s at *
    go_enter Tryz.func45, Tryz.ntmps45
    go_wp2_with fail
    refine H.out.mono ?_
    rintro e w' ⟨rfl, rfl⟩
    go_wp2
    go_ret
    exact ⟨by rw [HS.out]; rfl, rfl⟩
  · have H := Lib.hid (rdigits_any n.natAbs w (by omega))
    have hm : (n.natAbs : Int) = n := by omega
    have hf : decL n = decD n.natAbs := if_neg hneg
    rw [hm] at H
    rw [← hf] at H
    clear hm hf
    generalize str (decL n) = s at *
    go_enter Tryz.func45, Tryz.ntmps45
    go_wp2_with fail
    refine H.out.mono ?_
    rintro e w' ⟨rfl, rfl⟩
    go_wp2
    go_ret
    exact ⟨rfl, rfl⟩
end Go.Proofs.YtpnfnmeilhiebaaGreatDoor

/- Texts of numbers as lists: the digits are read again, and a text is that of one number alone. -/
namespace Go.Proofs.YtpnfnmeilhiebaaGreatDoor
open Go.RowKit Fl

/-- One byte of a text, read as a digit where it is one. -/
def stepH (b c : Nat) : Nat :=
  let b1 := if 48 ≤ c ∧ c ≤ 57 then (b * 16 + (c - 48)) % 18446744073709551616 else b
  if 97 ≤ c ∧ c ≤ 102 then (b1 * 16 + (c - 97) + 10) % 18446744073709551616 else b1

def hexv (l : List Nat) (b : Nat) : Nat := l.foldl stepH b

theorem stepH_digit {b d : Nat} (h : d < 16) (hb : b * 16 + d < 18446744073709551616) : stepH b (hexD d) = b * 16 + d := by
  unfold stepH hexD
  by_cases h1 : d < 10
  · rw [if_pos h1]
    simp only
    rw [if_pos (show 48 ≤ 48 + d ∧ 48 + d ≤ 57 by omega), if_neg (show ¬ (97 ≤ 48 + d ∧ 48 + d ≤ 102) by omega)]
    omega
  · rw [if_neg h1]
    simp only
    rw [if_neg (show ¬ (48 ≤ 87 + d ∧ 87 + d ≤ 57) by omega), if_pos (show 97 ≤ 87 + d ∧ 87 + d ≤ 102 by omega)]
    omega

theorem hexv_hexs {x : Nat} (hx : x < 18446744073709551616) : ∀ j : Nat, j ≤ 16 → hexv (hexs x j) 0 = x / 2 ^ (4 * (16 - j)) := by
  intro j
  induction j with
  | zero =>
    intro _
    have hp : (2 : Nat) ^ (4 * (16 - 0)) = 18446744073709551616 := by decide
    have h : x / 2 ^ (4 * (16 - 0)) = 0 := Nat.div_eq_of_lt (by rw [hp]; exact hx)
    rw [h]; rfl
  | succ j ih =>
    intro hj
    have h1 := ih (by omega)
    have e : hexv (hexs x (j + 1)) 0 = stepH (hexv (hexs x j) 0) (hexD (x / 2 ^ (4 * (15 - j)) % 16)) := by
      unfold hexv
      rw [hexs, List.foldl_append]; rfl
    rw [e, h1]
    have e2 : 4 * (16 - j) = 4 * (15 - j) + 4 := by omega
    have e3 : 16 - (j + 1) = 15 - j := by omega
    rw [e2, e3, Nat.pow_add, ← Nat.div_div_eq_div_mul]
    generalize hy : x / 2 ^ (4 * (15 - j)) = y
    have hle : y ≤ x := by rw [← hy]; exact Nat.div_le_self _ _
    have h4 : (2 : Nat) ^ 4 = 16 := by decide
    rw [h4]
    have h5 : y / 16 * 16 + y % 16 = y := by omega
    rw [stepH_digit (Nat.mod_lt _ (by omega)) (by omega), h5]

theorem hexv_text {x : Nat} (hx : x < 18446744073709551616) : hexv (hexs x 16) 0 = x := by
  rw [hexv_hexs hx 16 (Nat.le_refl _)]
  simp

/-- The numbers whose texts are words. -/
def special : List Nat := [Q, I, W + I, 0, W]

theorem textL_hex {x : Nat} (h : x ∉ special) : textL x = 120 :: hexs x 16 := by
  unfold special at h
  simp only [List.mem_cons, List.not_mem_nil, or_false, not_or] at h
  obtain ⟨h1, h2, h3, h4, h5⟩ := h
  unfold textL
  rw [if_neg h1, if_neg h2, if_neg h3, if_neg h4, if_neg h5]

theorem textL_special {x : Nat} (h : x ∈ special) : (x = Q ∧ textL x = [110, 97, 110]) ∨ (x = I ∧ textL x = [105, 110, 102]) ∨ (x = W + I ∧ textL x = [45, 105, 110, 102]) ∨ (x = 0 ∧ textL x = [48]) ∨ (x = W ∧ textL x = [45, 48]) := by
  unfold special at h
  simp only [List.mem_cons, List.not_mem_nil, or_false] at h
  have a1 : I ≠ Q := by decide
  have a2 : W + I ≠ Q := by decide
  have a3 : W + I ≠ I := by decide
  have a4 : (0 : Nat) ≠ Q := by decide
  have a5 : (0 : Nat) ≠ I := by decide
  have a6 : (0 : Nat) ≠ W + I := by decide
  have a7 : W ≠ Q := by decide
  have a8 : W ≠ I := by decide
  have a9 : W ≠ W + I := by decide
  have b1 : W ≠ 0 := by decide
  unfold textL
  rcases h with h | h | h | h | h
  · exact .inl ⟨h, if_pos h⟩
  · exact .inr (.inl ⟨h, by rw [h, if_neg a1, if_pos rfl]⟩)
  · exact .inr (.inr (.inl ⟨h, by rw [h, if_neg a2, if_neg a3, if_pos rfl]⟩))
  · exact .inr (.inr (.inr (.inl ⟨h, by rw [h, if_neg a4, if_neg a5, if_neg a6, if_pos rfl]⟩)))
  · exact .inr (.inr (.inr (.inr ⟨h, by rw [h, if_neg a7, if_neg a8, if_neg a9, if_neg b1, if_pos rfl]⟩)))

/-- A text is that of one number alone. -/
theorem textL_inj {x y : Nat} (hx : x < 18446744073709551616) (hy : y < 18446744073709551616) (h : textL x = textL y) : x = y := by
  by_cases sx : x ∈ special <;> by_cases sy : y ∈ special
  · rcases textL_special sx with ⟨ex, tx⟩ | ⟨ex, tx⟩ | ⟨ex, tx⟩ | ⟨ex, tx⟩ | ⟨ex, tx⟩ <;> rcases textL_special sy with ⟨ey, ty⟩ | ⟨ey, ty⟩ | ⟨ey, ty⟩ | ⟨ey, ty⟩ | ⟨ey, ty⟩ <;> first | (rw [ex, ey]; done) | (rw [tx, ty] at h; simp at h)
  · rw [textL_hex sy] at h
    rcases textL_special sx with ⟨ex, tx⟩ | ⟨ex, tx⟩ | ⟨ex, tx⟩ | ⟨ex, tx⟩ | ⟨ex, tx⟩ <;> (rw [tx] at h; simp at h)
  · rw [textL_hex sx] at h
    rcases textL_special sy with ⟨ey, ty⟩ | ⟨ey, ty⟩ | ⟨ey, ty⟩ | ⟨ey, ty⟩ | ⟨ey, ty⟩ <;> (rw [ty] at h; simp at h)
  · rw [textL_hex sx, textL_hex sy] at h
    have h1 : hexs x 16 = hexs y 16 := (List.cons.inj h).2
    rw [← hexv_text hx, h1, hexv_text hy]

theorem textL_byte (x : Nat) : ∀ c ∈ textL x, c < 256 := by
  have hh : ∀ j, ∀ c ∈ hexs x j, c < 256 := by
    intro j
    induction j with
    | zero => intro c hc; cases hc
    | succ j ih =>
      intro c hc
      rw [hexs] at hc
      rcases List.mem_append.1 hc with hc | hc
      · exact ih c hc
      · have e : c = hexD (x / 2 ^ (4 * (15 - j)) % 16) := by simpa using hc
        have hm : x / 2 ^ (4 * (15 - j)) % 16 < 16 := Nat.mod_lt _ (by omega)
        rw [e]
        unfold hexD
        split <;> omega
  by_cases s : x ∈ special
  · rcases textL_special s with ⟨_, t⟩ | ⟨_, t⟩ | ⟨_, t⟩ | ⟨_, t⟩ | ⟨_, t⟩ <;> (rw [t]; decide)
  · rw [textL_hex s]
    intro c hc
    rcases List.mem_cons.1 hc with rfl | hc
    · omega
    · exact hh 16 c hc

/-- Every text is that of what its digits say, or of one of the words' numbers. -/
theorem text_found {s : List Nat} {x : Nat} (hx : x < 18446744073709551616) (h : textL x = s) : x = hexv s.tail 0 ∨ x ∈ special := by
  by_cases sx : x ∈ special
  · exact .inr sx
  · left
    rw [← h, textL_hex sx]
    exact (hexv_text hx).symm
end Go.Proofs.YtpnfnmeilhiebaaGreatDoor

/- The walk of the reference's Parse: it finds the number whose text it is, or says that there is none. -/
namespace Go.Proofs.YtpnfnmeilhiebaaGreatDoor
open Go.RowKit Fl

theorem get_str {l : List Nat} (hl : ∀ x ∈ l, x < 256) : ∀ (k : Nat) (h : k < (str l).size), ((((str l)[k]'h).toNat : Nat) : Int) = ((l.getD k 0 : Nat) : Int) := by
  intro k h
  have hk : k < l.length := by rw [str_size] at h; exact h
  have h5 : k < (l.map UInt8.ofNat).length := by rw [List.length_map]; exact hk
  have e : (str l)[k]'h = UInt8.ofNat (l.getD k 0) := by
    rw [List.getD_eq_getElem?_getD, List.getElem?_eq_getElem hk]
    show ((l.map UInt8.ofNat).toArray)[k]'(by simpa using h5) = _
    rw [List.getElem_toArray]
    exact List.getElem_map _
  rw [e]
  have h4 : l.getD k 0 < 256 := by
    rw [List.getD_eq_getElem?_getD, List.getElem?_eq_getElem hk]
    exact hl _ (List.getElem_mem _)
  rw [UInt8.toNat_ofNat']
  congr 1
  exact Nat.mod_eq_of_lt h4

theorem bitsB_idem (b : Nat) : bitsB (bitsB b) = bitsB b := by
  by_cases h : I < b % W
  · have e : bitsB b = Q := if_pos h
    rw [e]; decide
  · have e : bitsB b = b := if_neg h
    rw [e, e]

theorem bitsB_special {x : Nat} (h : x ∈ special) : bitsB x = x := by
  unfold special at h
  simp only [List.mem_cons, List.not_mem_nil, or_false] at h
  rcases h with rfl | rfl | rfl | rfl | rfl <;> decide

theorem hexv_lt (l : List Nat) : ∀ b, b < 18446744073709551616 → hexv l b < 18446744073709551616 := by
  induction l with
  | nil => intro b h; exact h
  | cons c l ih =>
    intro b h
    refine ih _ ?_
    unfold stepH
    simp only
    split
    · omega
    · split <;> omega

/-- What Parse answers: the number whose text it is; or nothing, if there is none. -/
def ParseEnd (w : World) (l : List Nat) (e : Ending) (w' : World) : Prop :=
  Below w.heap.size w w' ∧ ((∃ b, b < 18446744073709551616 ∧ textL (bitsB b) = l ∧ e = .returned (.tuple #[.float .f64 b, .bool true])) ∨ ((∀ b, b < 18446744073709551616 → textL (bitsB b) ≠ l) ∧ e = .returned (.tuple #[.float .f64 0, .bool false])))

/-- The numbers that Parse tries. -/
def cands (l : List Nat) : List Nat := [hexv l.tail 0, Q, I, W + I, 0, W]

theorem six_at (a b c d e f : Nat) : ([a, b, c, d, e, f] : List Nat).getD 0 0 = a ∧ ([a, b, c, d, e, f] : List Nat).getD 1 0 = b ∧ ([a, b, c, d, e, f] : List Nat).getD 2 0 = c ∧ ([a, b, c, d, e, f] : List Nat).getD 3 0 = d ∧ ([a, b, c, d, e, f] : List Nat).getD 4 0 = e ∧ ([a, b, c, d, e, f] : List Nat).getD 5 0 = f :=
  ⟨rfl, rfl, rfl, rfl, rfl, rfl⟩

theorem cands_at (l : List Nat) : (cands l).getD 0 0 = hexv l.tail 0 ∧ (cands l).getD 1 0 = Q ∧ (cands l).getD 2 0 = I ∧ (cands l).getD 3 0 = W + I ∧ (cands l).getD 4 0 = 0 ∧ (cands l).getD 5 0 = W :=
  six_at _ _ _ _ _ _

theorem cands_lt {l : List Nat} {k : Nat} (h : k < 6) : (cands l).getD k 0 < 18446744073709551616 := by
  have h0 := hexv_lt l.tail 0 (by decide)
  obtain ⟨e0, e1, e2, e3, e4, e5⟩ := cands_at l
  have b1 : Q < 18446744073709551616 := by decide
  have b2 : I < 18446744073709551616 := by decide
  have b3 : W + I < 18446744073709551616 := by decide
  have b5 : W < 18446744073709551616 := by decide
  rcases (show k = 0 ∨ k = 1 ∨ k = 2 ∨ k = 3 ∨ k = 4 ∨ k = 5 by omega) with rfl | rfl | rfl | rfl | rfl | rfl
  · rw [e0]; exact h0
  · rw [e1]; exact b1
  · rw [e2]; exact b2
  · rw [e3]; exact b3
  · rw [e4]; omega
  · rw [e5]; exact b5

theorem cands_all {l : List Nat} (h : ∀ k, k < 6 → textL (bitsB ((cands l).getD k 0)) ≠ l) : ∀ b, b < 18446744073709551616 → textL (bitsB b) ≠ l := by
  obtain ⟨e0, e1, e2, e3, e4, e5⟩ := cands_at l
  have g0 := h 0 (by omega)
  have g1 := h 1 (by omega)
  have g2 := h 2 (by omega)
  have g3 := h 3 (by omega)
  have g4 := h 4 (by omega)
  have g5 := h 5 (by omega)
  rw [e0] at g0
  rw [e1] at g1
  rw [e2] at g2
  rw [e3] at g3
  rw [e4] at g4
  rw [e5] at g5
  clear h e0 e1 e2 e3 e4 e5
  intro b hb e
  rcases text_found (bitsB_lt hb) e with h1 | h1
  · rw [← h1, bitsB_idem] at g0
    exact g0 e
  · have e2 := bitsB_special h1
    rw [← e2] at e
    have h2 := h1
    unfold special at h2
    simp only [List.mem_cons, List.not_mem_nil, or_false] at h2
    rcases h2 with h2 | h2 | h2 | h2 | h2
    · rw [h2] at e; exact g1 e
    · rw [h2] at e; exact g2 e
    · rw [h2] at e; exact g3 e
    · rw [h2] at e; exact g4 e
    · rw [h2] at e; exact g5 e

theorem step_digit {b c : Nat} (h1 : 48 ≤ (c : Int)) (h2 : (c : Int) ≤ 57) : IntKind.u64.wrap (IntKind.u64.wrap ((b : Int) * 16) + ((c : Int) - 48)) = ((stepH b c : Nat) : Int) := by
  unfold stepH
  simp only
  rw [if_pos (show 48 ≤ c ∧ c ≤ 57 by omega), if_neg (show ¬ (97 ≤ c ∧ c ≤ 102) by omega), IntKind.wrap_u64, IntKind.wrap_u64]
  omega

theorem step_letter {b c : Nat} (h1 : 97 ≤ (c : Int)) (h2 : (c : Int) ≤ 102) : IntKind.u64.wrap (IntKind.u64.wrap (IntKind.u64.wrap ((b : Int) * 16) + ((c : Int) - 97)) + 10) = ((stepH b c : Nat) : Int) := by
  unfold stepH
  simp only
  rw [if_neg (show ¬ (48 ≤ c ∧ c ≤ 57) by omega), if_pos (show 97 ≤ c ∧ c ≤ 102 by omega), IntKind.wrap_u64, IntKind.wrap_u64, IntKind.wrap_u64]
  omega

theorem step_none {b c : Nat} (h1 : ¬ (48 ≤ (c : Int) ∧ (c : Int) ≤ 57)) (h2 : ¬ (97 ≤ (c : Int) ∧ (c : Int) ≤ 102)) : (b : Int) = ((stepH b c : Nat) : Int) := by
  unfold stepH
  simp only
  rw [if_neg (show ¬ (48 ≤ c ∧ c ≤ 57) by omega), if_neg (show ¬ (97 ≤ c ∧ c ≤ 102) by omega)]

def HexRel (l : List Nat) (b i : Value) : Prop := ∃ k : Nat, 1 ≤ k ∧ k ≤ max l.length 1 ∧ i = .int .i64 k ∧ b = .int .u64 (hexv (l.tail.take (k - 1)) 0 : Nat)

theorem hex_close {l : List Nat} {k b c : Nat} {x : Int} (h1 : 1 ≤ k) (h : k < l.length) (hn : hexv (l.tail.take (k + 1 - 1)) 0 = stepH b c) (hx : x = ((stepH b c : Nat) : Int)) : HexRel l (.int .u64 x) (.int .i64 ((k : Int) + 1)) := by
  refine ⟨k + 1, by omega, by omega, by go_num, ?_⟩
  rw [hn, hx]

theorem hex_next {l : List Nat} {k : Nat} (h1 : 1 ≤ k) (h : k < l.length) : hexv (l.tail.take (k + 1 - 1)) 0 = stepH (hexv (l.tail.take (k - 1)) 0) (l.getD k 0) := by
  obtain ⟨j, rfl⟩ : ∃ j, k = j + 1 := ⟨k - 1, by omega⟩
  have hj : j < l.tail.length := by rw [List.length_tail]; omega
  simp only [Nat.add_sub_cancel]
  rw [List.take_succ_eq_append_getElem hj]
  unfold hexv
  rw [List.foldl_append]
  have e : l.tail[j] = l.getD (j + 1) 0 := by
    rw [List.getD_eq_getElem?_getD, List.getElem?_eq_getElem h]
    exact List.getElem_tail _
  rw [e]
  rfl

def FindRel (l : List Nat) (i : Value) : Prop := ∃ k : Nat, k ≤ 6 ∧ i = .int .i64 k ∧ ∀ j, j < k → textL (bitsB ((cands l).getD j 0)) ≠ l

theorem cand_cells (w : World) (l : List Nat) (c0 : Nat) (hc : cands l = [c0, Q, I, W + I, 0, W]) {j : Nat} (h : j < 6) :
    (w.alloc (.cells #[.int .u64 (c0 : Int), .int .u64 9221120237041090561, .int .u64 9218868437227405312, .int .u64 18442240474082181120, .int .u64 0, .int .u64 9223372036854775808] 44)).cell? ⟨w.heap.size, j, none⟩ = some (.int .u64 (((cands l).getD j 0 : Nat) : Int)) := by
  obtain ⟨e0, e1, e2, e3, e4, e5⟩ := six_at c0 Q I (W + I) 0 W
  rw [cell_of_row _ _ _ _ _ _ (heap_alloc_new w _), hc]
  rcases (show j = 0 ∨ j = 1 ∨ j = 2 ∨ j = 3 ∨ j = 4 ∨ j = 5 by omega) with rfl | rfl | rfl | rfl | rfl | rfl
  · rw [e0]; rfl
  · rw [e1]; rfl
  · rw [e2]; rfl
  · rw [e3]; rfl
  · rw [e4]; rfl
  · rw [e5]; rfl

end Go.Proofs.YtpnfnmeilhiebaaGreatDoor

/- The walk of the reference's Hex. -/
namespace Go.Proofs.YtpnfnmeilhiebaaGreatDoor
open Go.RowKit

/-- Two digits for each byte. -/
def hex2 (l : List Nat) : List Nat := l.flatMap fun c => [hexD (c / 16), hexD (c % 16)]

theorem hex2_len (l : List Nat) : (hex2 l).length = 2 * l.length := by
  induction l with
  | nil => rfl
  | cons c r ih =>
    unfold hex2 at *
    rw [List.flatMap_cons, List.length_append, ih, List.length_cons]
    simp only [List.length_cons, List.length_nil]
    omega

theorem hex2_take {l : List Nat} {j : Nat} (h : j < l.length) : hex2 (l.take (j + 1)) = hex2 (l.take j) ++ [hexD (l.getD j 0 / 16)] ++ [hexD (l.getD j 0 % 16)] := by
  rw [List.take_succ_eq_append_getElem h]
  unfold hex2
  rw [List.flatMap_append, List.getD_eq_getElem?_getD, List.getElem?_eq_getElem h]
  simp

theorem sixteen_at {d : Nat} (h : d < 16) : (ByteArray.mk #[48, 49, 50, 51, 52, 53, 54, 55, 56, 57, 97, 98, 99, 100, 101, 102]).extract d (d + 1) = str [hexD d] := digit_all ⟨d, h⟩

set_option maxRecDepth 100000 in
set_option maxHeartbeats 3200000 in
theorem rhex_any (l : List Nat) (w : World) (hl : ∀ x ∈ l, x < 256) (hn : l.length ≤ 1000000) :
    Calls Tryz.prog 47 #[.string (str l)] w fun e w' => e = .returned (.string (str (hex2 l))) ∧ Below w.heap.size w w' := by
  have hsz := str_size l
  have hg := get_str hl
  have HL := Lib.hid hl
  clear hl
  go_enter Tryz.func47, Tryz.ntmps47
  go_wp2
  go_loopw [3, 4] (fun s i wr => ∃ j : Nat, j ≤ l.length ∧ i = .int .i64 (j : Int) ∧ s = .string (str (hex2 (l.take j))) ∧ Below w.heap.size w wr) (fun _ i _ => l.length - (intOf i).toNat)
  case atStart => exact ⟨0, Nat.zero_le _, rfl, by rw [List.take_zero]; rfl, Below.refl _ _⟩
  case round =>
    obtain ⟨j, hj, rfl, rfl, hb⟩ := hrel
    by_cases hlt : j < l.length
    · have hc8 : l.getD j 0 < 256 := by
        rw [List.getD_eq_getElem?_getD, List.getElem?_eq_getElem hlt]
        exact HL.out _ (List.getElem_mem _)
      have hgj := hg j (by rw [hsz]; exact hlt)
      have Htk := Lib.hid (hex2_take hlt)
      have hji : (j : Int) < ((str l).size : Int) := by omega
      have hsl : (str (hex2 (l.take j))).size ≤ 2000000 := by rw [str_size, hex2_len, List.length_take]; omega
      generalize l.getD j 0 = c at *
      have e1 := sixteen_at (show c / 16 < 16 by omega)
      have e2 := sixteen_at (show c % 16 < 16 by omega)
      have hdiv : (c : Int) / 16 = ((c / 16 : Nat) : Int) := by omega
      have hmod : (c : Int) % 16 = ((c % 16 : Nat) : Int) := by omega
      have h1 : c / 16 < 16 := by omega
      have h2 : c % 16 < 16 := by omega
      generalize c / 16 = d1 at *
      generalize c % 16 = d2 at *
      have cat1 := str_append (hex2 (l.take j)) [hexD d1]
      have cat2 := str_append (hex2 (l.take j) ++ [hexD d1]) [hexD d2]
      have hs1 : (str (hex2 (l.take j) ++ [hexD d1])).size ≤ 2000001 := by rw [← cat1]; show ByteArray.size _ ≤ _; rw [ByteArray.size_append, str_size [hexD d1]]; simp only [List.length_cons, List.length_nil]; omega
      have hs2 : (str [hexD d1]).size = 1 := by rw [str_size]; rfl
      have hs3 : (str [hexD d2]).size = 1 := by rw [str_size]; rfl
      rw [← Htk.out] at cat2
      have Hlt := Lib.hid hlt
      clear hg Htk
      go_wp2
      go_quiet (fail)
      go_wp2
      have hbn : Below w.heap.size w (wr.drewN nq) := hb.trans ⟨rfl, rfl, rfl, Nat.le_refl _, fun _ _ => rfl⟩
      go_roundw
      case rel => exact ⟨j + 1, Hlt.out, by go_num, rfl, hbn⟩
      case measure => simp [intOf]; have := Hlt.out; omega
    · have hji : ¬ ((j : Int) < ((str l).size : Int)) := by omega
      rw [List.take_of_length_le (by omega)]
      clear hg hlt
      go_wp2
      go_ret
      exact ⟨rfl, hb⟩
end Go.Proofs.YtpnfnmeilhiebaaGreatDoor

