import Derived.Test.YtfapajmbmgpipaaGreatDoorMD3
import Derived.Deep.QuietTactic
import Derived.BigQuiet
import Derived.Test.YtfapajmbmgpipaaGreatDoorMD7
import Derived.Test.YtfapajmbmgpipaaGreatDoorMD5
/- Decimal forms: the walks of the reference's digits and Decimal. -/
namespace Go.Proofs.YtfapajmbmgpipaaGreatDoor
open Go.RowKit

/-- The decimal digits of a number. -/
def decD (n : Nat) : List Nat := if h : n < 10 then [48 + n] else decD (n / 10) ++ [48 + n % 10]
termination_by n
decreasing_by omega

theorem decD_low {n : Nat} (h : n < 10) : decD n = [48 + n] := by rw [decD, dif_pos h]
theorem decD_high {n : Nat} (h : ¬ n < 10) : decD n = decD (n / 10) ++ [48 + n % 10] := by rw [decD, dif_neg h]

theorem decD_len : ∀ (k n : Nat), n < 10 ^ (k + 1) → (decD n).length ≤ k + 1
  | 0, n, h => by rw [decD_low (by simpa using h)]; simp
  | k + 1, n, h => by
    by_cases h1 : n < 10
    · rw [decD_low h1]; simp
    · rw [decD_high h1, List.length_append]
      have h2 : n / 10 < 10 ^ (k + 1) := by
        rw [Nat.div_lt_iff_lt_mul (by omega), ← Nat.pow_succ]
        exact h
      have h3 := decD_len k (n / 10) h2
      simp only [List.length_cons, List.length_nil]
      omega

theorem decD_len20 {n : Nat} (h : n < 18446744073709551616) : (decD n).length ≤ 20 := decD_len 19 n (by omega)

theorem decD_byte : ∀ (k n : Nat), n < 10 ^ (k + 1) → ∀ c ∈ decD n, 48 ≤ c ∧ c ≤ 57
  | 0, n, h, c, hc => by
    have h10 : n < 10 := by simpa using h
    rw [decD_low h10] at hc
    have : c = 48 + n := by simpa using hc
    omega
  | k + 1, n, h, c, hc => by
    by_cases h1 : n < 10
    · rw [decD_low h1] at hc
      have : c = 48 + n := by simpa using hc
      omega
    · rw [decD_high h1, List.mem_append] at hc
      have h2 : n / 10 < 10 ^ (k + 1) := by
        rw [Nat.div_lt_iff_lt_mul (by omega), ← Nat.pow_succ]
        exact h
      rcases hc with hc | hc
      · exact decD_byte k (n / 10) h2 c hc
      · have : c = 48 + n % 10 := by simpa using hc
        omega

theorem ten_all : ∀ d : Fin 10, (ByteArray.mk #[48, 49, 50, 51, 52, 53, 54, 55, 56, 57]).extract d.val (d.val + 1) = str [48 + d.val] := by decide +kernel
theorem ten_at {d : Nat} (h : d < 10) : (ByteArray.mk #[48, 49, 50, 51, 52, 53, 54, 55, 56, 57]).extract d (d + 1) = str [48 + d] := ten_all ⟨d, h⟩

def DecRel (N : Nat) (x s : Value) : Prop := ∃ (n : Nat) (t : List Nat), x = .int .u64 (n : Int) ∧ s = .string (str ((48 + n % 10) :: t)) ∧ n ≤ N ∧ decD n ++ t = decD N

set_option maxRecDepth 100000 in
set_option maxHeartbeats 800000 in
theorem rdigits_any (N : Nat) (w : World) (hN : N < 18446744073709551616) :
    Calls Tryz.prog 67 #[.int .u64 (N : Int)] w fun e w' => e = .returned (.string (str (decD N))) ∧ w = w' := by
  have hd : N % 10 < 10 := Nat.mod_lt _ (by omega)
  have hex := ten_at hd
  have hmod : (N : Int) % 10 = ((N % 10 : Nat) : Int) := by omega
  have Hst := Lib.hid (show DecRel N (.int .u64 (N : Int)) (.string (str [48 + N % 10])) from ⟨N, [], rfl, rfl, Nat.le_refl _, by simp⟩)
  generalize hdd : N % 10 = d at *
  clear hdd
  go_enter Tryz.func67, Tryz.ntmps67
  go_wp2
  clear hex hmod hd
  go_loop [0, 3] (fun x s => DecRel N x s) (fun x _ => (intOf x).toNat)
  case atStart => exact Hst.out
  case round =>
    obtain ⟨n, t, rfl, rfl, hn, ht⟩ := hrel
    have hlen := decD_len20 hN
    rw [← ht, List.length_append] at hlen
    by_cases h10 : n < 10
    · have Hf := Lib.hid (show (48 + n % 10) :: t = decD N from by rw [← ht, decD_low h10, Nat.mod_eq_of_lt h10]; rfl)
      have hge : ¬ ((10 : Int) ≤ (n : Int)) := by omega
      clear ht hlen
      generalize hs : str ((48 + n % 10) :: t) = s
      have Hs := Lib.hid hs
      clear hs
      go_wp2
      go_ret
      exact ⟨by rw [← Hf.out, Hs.out]; rfl, rfl⟩
    · have hge : (10 : Int) ≤ (n : Int) := by omega
      have hd2 : n / 10 % 10 < 10 := Nat.mod_lt _ (by omega)
      have hex := ten_at hd2
      have hdiv : (n : Int) / 10 = ((n / 10 : Nat) : Int) := by omega
      have hmod : ((n / 10 : Nat) : Int) % 10 = ((n / 10 % 10 : Nat) : Int) := by omega
      have hcat := str_append [48 + n / 10 % 10] ((48 + n % 10) :: t)
      have hsz : (str ((48 + n % 10) :: t)).size ≤ 1000 := by rw [str_size, List.length_cons]; omega
      have hsz1 : (str [48 + n / 10 % 10]).size = 1 := by rw [str_size]; rfl
      have Hnext := Lib.hid (show DecRel N (.int .u64 ((n / 10 : Nat) : Int)) (.string (str ([48 + n / 10 % 10] ++ ((48 + n % 10) :: t)))) from ⟨n / 10, _, rfl, rfl, by omega, by rw [← ht, decD_high h10, List.append_assoc]; rfl⟩)
      have Hms := Lib.hid (show n / 10 < n by omega)
      have hm64 : n / 10 < 18446744073709551616 := by omega
      clear ht hlen
      generalize hS : str ([48 + n / 10 % 10] ++ ((48 + n % 10) :: t)) = S at *
      clear hS
      generalize str ((48 + n % 10) :: t) = s at *
      generalize n / 10 % 10 = d2 at *
      generalize n / 10 = m at *
      generalize str [48 + d2] = s1 at *
      go_wp2
      go_round
      case rel => exact Hnext.out
      case measure => simp [intOf]; have := Hms.out; omega

/-- The decimal form of a number with a sign. -/
def decL (n : Int) : List Nat := if n < 0 then 45 :: decD n.natAbs else decD n.natAbs

set_option maxRecDepth 100000 in
theorem rdecimal_any (n : Int) (w : World) (h1 : -9223372036854775808 ≤ n) (h2 : n ≤ 9223372036854775807) :
    Calls Tryz.prog 49 #[.int .i64 n] w fun e w' => e = .returned (.string (str (decL n))) ∧ w = w' := by
  by_cases hneg : n < 0
  · have H := Lib.hid (rdigits_any n.natAbs w (by omega))
    obtain ⟨m, hm⟩ : ∃ m : Int, m = (n.natAbs : Int) := ⟨_, rfl⟩
    have hmm : -(n + 1) + 1 = m := by omega
    have hm0 : 1 ≤ m ∧ m ≤ 9223372036854775808 := by omega
    have hf : decL n = 45 :: decD n.natAbs := if_pos hneg
    have hcat := str_append [45] (decD n.natAbs)
    have hsz : (str (decD n.natAbs)).size ≤ 1000 := by have := decD_len20 (n := n.natAbs) (by omega); rw [str_size]; omega
    have hS : str (decL n) = str [45] ++ str (decD n.natAbs) := by rw [hcat, hf]; rfl
    rw [← hm] at H
    have HS := Lib.hid hS
    clear hm hf hcat hS
    generalize str (decD n.natAbs) = s at *
    go_enter Tryz.func49, Tryz.ntmps49
    go_wp2_with fail
    refine H.out.mono ?_
    rintro e w' ⟨rfl, rfl⟩
    go_wp2
    go_ret
    exact ⟨by rw [HS.out]; rfl, rfl⟩
  · have H := Lib.hid (rdigits_any n.natAbs w (by omega))
    have hm : (n.natAbs : Int) = n := by omega
    have hf : decL n = decD n.natAbs := if_neg hneg
    rw [hm] at H
    rw [← hf] at H
    clear hm hf
    generalize str (decL n) = s at *
    go_enter Tryz.func49, Tryz.ntmps49
    go_wp2_with fail
    refine H.out.mono ?_
    rintro e w' ⟨rfl, rfl⟩
    go_wp2
    go_ret
    exact ⟨rfl, rfl⟩
end Go.Proofs.YtfapajmbmgpipaaGreatDoor

/- The walk of the reference's Hex. -/
namespace Go.Proofs.YtfapajmbmgpipaaGreatDoor
open Go.RowKit

/-- Two digits for each byte. -/
def hex2 (l : List Nat) : List Nat := l.flatMap fun c => [hexD (c / 16), hexD (c % 16)]

theorem hex2_len (l : List Nat) : (hex2 l).length = 2 * l.length := by
  induction l with
  | nil => rfl
  | cons c r ih =>
    unfold hex2 at *
    rw [List.flatMap_cons, List.length_append, ih, List.length_cons]
    simp only [List.length_cons, List.length_nil]
    omega

theorem hex2_take {l : List Nat} {j : Nat} (h : j < l.length) : hex2 (l.take (j + 1)) = hex2 (l.take j) ++ [hexD (l.getD j 0 / 16)] ++ [hexD (l.getD j 0 % 16)] := by
  rw [List.take_succ_eq_append_getElem h]
  unfold hex2
  rw [List.flatMap_append, List.getD_eq_getElem?_getD, List.getElem?_eq_getElem h]
  simp

theorem sixteen_at {d : Nat} (h : d < 16) : (ByteArray.mk #[48, 49, 50, 51, 52, 53, 54, 55, 56, 57, 97, 98, 99, 100, 101, 102]).extract d (d + 1) = str [hexD d] := digit_all ⟨d, h⟩

set_option maxRecDepth 100000 in
set_option maxHeartbeats 3200000 in
theorem rhex_any (l : List Nat) (w : World) (hl : ∀ x ∈ l, x < 256) (hn : l.length ≤ 1000000) :
    Calls Tryz.prog 51 #[.string (str l)] w fun e w' => e = .returned (.string (str (hex2 l))) ∧ Below w.heap.size w w' := by
  have hsz := str_size l
  have hg := get_str hl
  have HL := Lib.hid hl
  clear hl
  go_enter Tryz.func51, Tryz.ntmps51
  go_wp2
  go_loopw [3, 4] (fun s i wr => ∃ j : Nat, j ≤ l.length ∧ i = .int .i64 (j : Int) ∧ s = .string (str (hex2 (l.take j))) ∧ Below w.heap.size w wr) (fun _ i _ => l.length - (intOf i).toNat)
  case atStart => exact ⟨0, Nat.zero_le _, rfl, by rw [List.take_zero]; rfl, Below.refl _ _⟩
  case round =>
    obtain ⟨j, hj, rfl, rfl, hb⟩ := hrel
    by_cases hlt : j < l.length
    · have hc8 : l.getD j 0 < 256 := by
        rw [List.getD_eq_getElem?_getD, List.getElem?_eq_getElem hlt]
        exact HL.out _ (List.getElem_mem _)
      have hgj := hg j (by rw [hsz]; exact hlt)
      have Htk := Lib.hid (hex2_take hlt)
      have hji : (j : Int) < ((str l).size : Int) := by omega
      have hsl : (str (hex2 (l.take j))).size ≤ 2000000 := by rw [str_size, hex2_len, List.length_take]; omega
      generalize l.getD j 0 = c at *
      have e1 := sixteen_at (show c / 16 < 16 by omega)
      have e2 := sixteen_at (show c % 16 < 16 by omega)
      have hdiv : (c : Int) / 16 = ((c / 16 : Nat) : Int) := by omega
      have hmod : (c : Int) % 16 = ((c % 16 : Nat) : Int) := by omega
      have h1 : c / 16 < 16 := by omega
      have h2 : c % 16 < 16 := by omega
      generalize c / 16 = d1 at *
      generalize c % 16 = d2 at *
      have cat1 := str_append (hex2 (l.take j)) [hexD d1]
      have cat2 := str_append (hex2 (l.take j) ++ [hexD d1]) [hexD d2]
      have hs1 : (str (hex2 (l.take j) ++ [hexD d1])).size ≤ 2000001 := by rw [← cat1]; show ByteArray.size _ ≤ _; rw [ByteArray.size_append, str_size [hexD d1]]; simp only [List.length_cons, List.length_nil]; omega
      have hs2 : (str [hexD d1]).size = 1 := by rw [str_size]; rfl
      have hs3 : (str [hexD d2]).size = 1 := by rw [str_size]; rfl
      rw [← Htk.out] at cat2
      have Hlt := Lib.hid hlt
      clear hg Htk
      go_wp2
      go_quiet (fail)
      go_wp2
      have hbn : Below w.heap.size w (wr.drewN nq) := hb.trans ⟨rfl, rfl, rfl, Nat.le_refl _, fun _ _ => rfl⟩
      go_roundw
      case rel => exact ⟨j + 1, Hlt.out, by go_num, rfl, hbn⟩
      case measure => simp [intOf]; have := Hlt.out; omega
    · have hji : ¬ ((j : Int) < ((str l).size : Int)) := by omega
      rw [List.take_of_length_le (by omega)]
      clear hg hlt
      go_wp2
      go_ret
      exact ⟨rfl, hb⟩
end Go.Proofs.YtfapajmbmgpipaaGreatDoor

/- The walk of the reference's text. -/
namespace Go.Proofs.YtfapajmbmgpipaaGreatDoor
open Go.RowKit Fl

/-- Texts with one space between each two. -/
def joinS : List (List Nat) → List Nat
  | [] => []
  | [x] => x
  | x :: y :: r => x ++ 32 :: joinS (y :: r)

theorem joinS_snoc : ∀ (a : List (List Nat)) (x : List Nat), joinS (a ++ [x]) = if a = [] then x else joinS a ++ [32] ++ x
  | [], x => rfl
  | [y], x => by simp [joinS]
  | y :: z :: r, x => by
    have ih := joinS_snoc (z :: r) x
    rw [if_neg (by simp)] at ih
    rw [List.cons_append, List.cons_append, joinS, ← List.cons_append, ih, if_neg (by simp), joinS]
    simp

mutual
/-- The text of a value. -/
def textV : V → List Nat
  | .mk k n f s l => if k = 1 then decL n else if k = 2 then 35 :: textL (bitsB f) else if k = 3 then 34 :: (hex2 s ++ [34]) else if k = 4 then 91 :: (joinS (textVs l) ++ [93]) else [110, 105, 108]
def textVs : List V → List (List Nat)
  | [] => []
  | v :: r => textV v :: textVs r
end

theorem textVs_map : ∀ l : List V, textVs l = l.map textV
  | [] => rfl
  | v :: r => by rw [textVs, textVs_map r, List.map_cons]

theorem textVs_take {l : List V} {j : Nat} (h : j < l.length) : joinS (textVs (l.take (j + 1))) = if j = 0 then textV l[j] else joinS (textVs (l.take j)) ++ [32] ++ textV l[j] := by
  rw [textVs_map, textVs_map, List.take_succ_eq_append_getElem h, List.map_append, List.map_cons, List.map_nil, joinS_snoc]
  by_cases hj : j = 0
  · subst hj; simp
  · rw [if_neg hj, if_neg]
    intro e
    have h2 := congrArg List.length e
    rw [List.length_map, List.length_take, List.length_nil] at h2
    omega

theorem joinS_le : ∀ (a : List (List Nat)) (x : List Nat), x ∈ a → x.length ≤ (joinS a).length
  | [y], x, h => by
    have e : x = y := by simpa using h
    rw [e, joinS]; omega
  | y :: z :: r, x, h => by
    rw [joinS, List.length_append, List.length_cons]
    rcases List.mem_cons.1 h with e | e
    · rw [e]; omega
    · have := joinS_le (z :: r) x e
      omega

theorem joinS_take_le : ∀ (a : List (List Nat)) (j : Nat), (joinS (a.take j)).length ≤ (joinS a).length
  | [], j => by simp
  | [y], 0 => by simp [joinS]
  | [y], j + 1 => by simp
  | y :: z :: r, 0 => by simp [joinS]
  | y :: z :: r, 1 => by
    rw [List.take_succ_cons, List.take_zero, joinS, joinS, List.length_append]
    omega
  | y :: z :: r, j + 2 => by
    have ih := joinS_take_le (z :: r) (j + 1)
    rw [List.take_succ_cons] at ih
    rw [List.take_succ_cons, List.take_succ_cons, joinS, joinS, List.length_append, List.length_append, List.length_cons, List.length_cons]
    omega

theorem textVs_mem {l : List V} {u : V} (h : u ∈ l) : (textV u).length ≤ (joinS (textVs l)).length := by
  rw [textVs_map]
  exact joinS_le _ _ (List.mem_map_of_mem h)

theorem textVs_take_le (l : List V) (j : Nat) : (joinS (textVs (l.take j))).length ≤ (joinS (textVs l)).length := by
  rw [textVs_map, textVs_map, List.map_take]
  exact joinS_take_le _ _
end Go.Proofs.YtfapajmbmgpipaaGreatDoor

/- Which values are the same, as a plain function; the order of values; what is counted. -/
namespace Go.Proofs.YtfapajmbmgpipaaGreatDoor
open Go.RowKit Fl

mutual
/-- Two values are the same. -/
def sameV : V → V → Bool
  | .mk k n f s l, .mk k' n' f' s' l' => decide (k = k' ∧ n = n' ∧ s = s' ∧ bitsB f = bitsB f') && sameL l l'
def sameL : List V → List V → Bool
  | [], [] => true
  | v :: r, v' :: r' => sameV v v' && sameL r r'
  | _, _ => false
end

theorem sameL_len : ∀ {l l' : List V}, sameL l l' = true → l.length = l'.length
  | [], [], _ => rfl
  | [], _ :: _, h => by simp [sameL] at h
  | _ :: _, [], h => by simp [sameL] at h
  | v :: r, v' :: r', h => by
    rw [sameL, Bool.and_eq_true] at h
    rw [List.length_cons, List.length_cons, sameL_len h.2]

theorem sameL_iff : ∀ {l l' : List V}, sameL l l' = true ↔ l.length = l'.length ∧ ∀ (i : Nat) (u u' : V), l[i]? = some u → l'[i]? = some u' → sameV u u' = true
  | [], [] => by simp [sameL]
  | [], _ :: _ => by simp [sameL]
  | _ :: _, [] => by simp [sameL]
  | v :: r, v' :: r' => by
    rw [sameL, Bool.and_eq_true, sameL_iff, List.length_cons, List.length_cons]
    constructor
    · rintro ⟨h1, h2, h3⟩
      refine ⟨by omega, fun i u u' hu hu' => ?_⟩
      cases i with
      | zero =>
        simp at hu hu'
        rw [← hu, ← hu']
        exact h1
      | succ i => exact h3 i u u' (by simpa using hu) (by simpa using hu')
    · rintro ⟨h1, h2⟩
      exact ⟨h2 0 v v' rfl rfl, by omega, fun i u u' hu hu' => h2 (i + 1) u u' (by simpa using hu) (by simpa using hu')⟩

mutual
theorem sameV_refl : ∀ v : V, sameV v v = true
  | .mk k n f s l => by rw [sameV, sameL_refl l]; simp
theorem sameL_refl : ∀ l : List V, sameL l l = true
  | [] => by rw [sameL]
  | v :: r => by rw [sameL, sameV_refl v, sameL_refl r]; rfl
end

mutual
theorem sameV_symm : ∀ v v' : V, sameV v v' = true → sameV v' v = true
  | .mk k n f s l, .mk k' n' f' s' l', h => by
    rw [sameV, Bool.and_eq_true, decide_eq_true_eq] at h ⊢
    obtain ⟨⟨h1, h2, h3, h4⟩, h5⟩ := h
    exact ⟨⟨h1.symm, h2.symm, h3.symm, h4.symm⟩, sameL_symm l l' h5⟩
theorem sameL_symm : ∀ l l' : List V, sameL l l' = true → sameL l' l = true
  | [], [], h => h
  | [], _ :: _, h => by simp [sameL] at h
  | _ :: _, [], h => by simp [sameL] at h
  | v :: r, v' :: r', h => by
    rw [sameL, Bool.and_eq_true] at h ⊢
    exact ⟨sameV_symm v v' h.1, sameL_symm r r' h.2⟩
end

mutual
theorem sameV_trans : ∀ u v w : V, sameV u v = true → sameV v w = true → sameV u w = true
  | .mk k n f s l, .mk k' n' f' s' l', .mk k'' n'' f'' s'' l'', h, h' => by
    rw [sameV, Bool.and_eq_true, decide_eq_true_eq] at h h' ⊢
    obtain ⟨⟨h1, h2, h3, h4⟩, h5⟩ := h
    obtain ⟨⟨g1, g2, g3, g4⟩, g5⟩ := h'
    exact ⟨⟨h1.trans g1, h2.trans g2, h3.trans g3, h4.trans g4⟩, sameL_trans l l' l'' h5 g5⟩
theorem sameL_trans : ∀ a b c : List V, sameL a b = true → sameL b c = true → sameL a c = true
  | [], [], c, _, h => h
  | [], _ :: _, _, h, _ => by simp [sameL] at h
  | _ :: _, [], _, h, _ => by simp [sameL] at h
  | _ :: _, _ :: _, [], _, h => by simp [sameL] at h
  | u :: r, v :: r', w :: r'', h, h' => by
    rw [sameL, Bool.and_eq_true] at h h' ⊢
    exact ⟨sameV_trans u v w h.1 h'.1, sameL_trans r r' r'' h.2 h'.2⟩
end

mutual
/-- How many values there are in a value. -/
def countV : V → Nat
  | .mk _ _ _ _ l => 1 + countL l
def countL : List V → Nat
  | [] => 0
  | v :: r => countV v + countL r
end

mutual
/-- How many values and bytes there are in a value. -/
def bulkV : V → Nat
  | .mk _ _ _ s l => 1 + min s.length 1000 + bulkL l
def bulkL : List V → Nat
  | [] => 0
  | v :: r => bulkV v + bulkL r
end
end Go.Proofs.YtfapajmbmgpipaaGreatDoor

