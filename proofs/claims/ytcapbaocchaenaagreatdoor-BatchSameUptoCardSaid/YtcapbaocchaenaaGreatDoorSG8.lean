import Derived.Test.YtcapbaocchaenaaGreatDoorSG3
import Derived.Deep.RegionHeld
/- The walks of the code's functions on bits and order. -/
namespace Go.Proofs.YtcapbaocchaenaaGreatDoor
open Go.RowKit Fl

theorem isnan_is (b : Nat) (w : World) (v : Bool) (hb : b < 18446744073709551616) (hv : decide (I < b % W) = v) :
    Calls Tryz.prog 179 #[.float .f64 b] w fun e w' => e = .returned (.bool v) ∧ w = w' := by
  have e := self_order hb
  rw [hv] at e
  clear hv
  go_enter Tryz.func179, Tryz.ntmps179
  go_wp2
  go_ret
  exact ⟨rfl, rfl⟩

theorem and_high (b : Nat) (h : b < 18446744073709551616) : bits .and .u64 (b : Int) 9223372036854775808 = if W ≤ b then 9223372036854775808 else 0 := by
  have h1 := u64_and_nat b 9223372036854775808 h (by omega)
  have h2 : b &&& 9223372036854775808 = if W ≤ b then 9223372036854775808 else 0 := by
    have h4 : b.testBit 63 = decide (W ≤ b) := by
      rw [Nat.testBit_eq_decide_div_mod_eq, show (2 : Nat) ^ 63 = 9223372036854775808 by decide, decide_eq_decide]
      unfold W
      omega
    rw [show (9223372036854775808 : Nat) = 2 ^ 63 by decide]
    apply Nat.eq_of_testBit_eq
    intro i
    rw [Nat.testBit_and, Nat.testBit_two_pow]
    by_cases hi : i = 63
    · subst hi
      rw [h4]
      by_cases hw : W ≤ b
      · rw [if_pos hw, decide_eq_true hw, Nat.testBit_two_pow]; simp
      · rw [if_neg hw, decide_eq_false hw]; simp
    · rw [decide_eq_false (fun e => hi e.symm)]
      split
      · rw [Nat.testBit_two_pow, decide_eq_false (fun e => hi e.symm)]; simp
      · simp
  rw [h2] at h1
  have h5 : bits .and .u64 (b : Int) 9223372036854775808 = ((if W ≤ b then 9223372036854775808 else 0 : Nat) : Int) := h1
  rw [h5]
  split <;> rfl

theorem or_high (b : Nat) (h : b < W) : bits .or .u64 (b : Int) 9223372036854775808 = ((b + W : Nat) : Int) := by
  have h1 := u64_or_nat b 9223372036854775808 (by unfold W at h; omega) (by omega)
  have h2 := Nat.two_pow_add_eq_or_of_lt (i := 63) (b := b) (by rw [show (2 : Nat) ^ 63 = W by decide]; exact h) 1
  rw [show (2 : Nat) ^ 63 * 1 = 9223372036854775808 by decide, Nat.or_comm] at h2
  rw [← h2] at h1
  have h3 : bits .or .u64 (b : Int) 9223372036854775808 = ((9223372036854775808 + b : Nat) : Int) := h1
  rw [h3, Nat.add_comm]
  rfl

set_option maxRecDepth 100000 in
theorem bits_any (b : Nat) (w : World) (hb : b < 18446744073709551616) :
    Calls Tryz.prog 165 #[.float .f64 b] w fun e w' => e = .returned (.int .u64 (bitsB b : Nat)) ∧ w = w' := by
  have hx := run_bits
  by_cases h : I < b % W
  · have Hv := Lib.hid (isnan_is b w true hb (decide_eq_true h))
    have Hf := Lib.hid (show ((bitsB b : Nat) : Int) = 9221120237041090561 by unfold bitsB; rw [if_pos h]; rfl)
    clear h
    go_enter Tryz.func165, Tryz.ntmps165
    go_wp2_with fail
    refine Hv.out.mono ?_
    rintro e w' ⟨rfl, rfl⟩
    go_wp2
    go_ret
    exact ⟨ret_u64 Hf.out.symm, rfl⟩
  · have Hv := Lib.hid (isnan_is b w false hb (decide_eq_false h))
    have Hf := Lib.hid (show ((bitsB b : Nat) : Int) = (b : Int) by unfold bitsB; rw [if_neg h])
    clear h
    go_enter Tryz.func165, Tryz.ntmps165
    go_wp2_with fail
    refine Hv.out.mono ?_
    rintro e w' ⟨rfl, rfl⟩
    go_wp2
    go_ret
    exact ⟨ret_u64 Hf.out.symm, rfl⟩

theorem same_any (a b : Nat) (w : World) (ha : a < 18446744073709551616) (hb : b < 18446744073709551616) :
    Calls Tryz.prog 146 #[.float .f64 a, .float .f64 b] w fun e w' => e = .returned (.bool (decide (bitsB a = bitsB b))) ∧ w = w' := by
  have H1 := Lib.hid (bits_any a w ha)
  have H2 := Lib.hid (bits_any b w hb)
  clear ha hb
  generalize bitsB a = x at *
  generalize bitsB b = y at *
  go_enter Tryz.func146, Tryz.ntmps146
  go_wp2_with fail
  refine H1.out.mono ?_
  rintro e w' ⟨rfl, rfl⟩
  go_wp2_with fail
  refine H2.out.mono ?_
  rintro e w' ⟨rfl, rfl⟩
  go_wp2
  go_ret
  refine ⟨ret_bool ?_, rfl⟩
  rw [Bool.eq_iff_iff]
  simp
  omega

set_option maxRecDepth 100000 in
theorem rank_any (b : Nat) (w : World) (hb : b < 18446744073709551616) :
    Calls Tryz.prog 177 #[.float .f64 b] w fun e w' => e = .returned (.int .u64 (rankB (bitsB b) : Nat)) ∧ w = w' := by
  have H1 := Lib.hid (bits_any b w hb)
  have hlt := bitsB_lt hb
  clear hb
  generalize bitsB b = x at *
  have ha := and_high x hlt
  by_cases h : W ≤ x
  · rw [if_pos h] at ha
    have Hf := Lib.hid (show ((rankB x : Nat) : Int) = bits .xor .u64 IntKind.u64.max (x : Int) by rw [not_u64 x hlt]; unfold rankB; rw [if_pos h])
    clear h
    go_enter Tryz.func177, Tryz.ntmps177
    go_wp2_with fail
    refine H1.out.mono ?_
    rintro e w' ⟨rfl, rfl⟩
    go_wp2
    go_ret
    exact ⟨ret_u64 Hf.out.symm, rfl⟩
  · rw [if_neg h] at ha
    have hor := or_high x (Nat.lt_of_not_le h)
    have Hf := Lib.hid (show ((rankB x : Nat) : Int) = ((x + W : Nat) : Int) by unfold rankB; rw [if_neg h])
    have h' : x < 9223372036854775808 := by unfold W at h; omega
    rw [← Hf.out] at hor
    clear h Hf
    generalize rankB x = y at *
    go_enter Tryz.func177, Tryz.ntmps177
    go_wp2_with fail
    refine H1.out.mono ?_
    rintro e w' ⟨rfl, rfl⟩
    go_wp2
    go_ret
    exact ⟨rfl, rfl⟩
end Go.Proofs.YtcapbaocchaenaaGreatDoor

/- Which values are valid, as plain functions. -/
namespace Go.Proofs.YtcapbaocchaenaaGreatDoor
open Go.RowKit Fl

/-- The fields that a kind does not have are zero. -/
def FieldsOk (v : V) : Prop := (v.kind = 1 ∨ v.n = 0) ∧ (v.kind = 2 ∨ bitsB v.f = 0) ∧ (v.kind = 3 ∨ v.s = []) ∧ (v.kind = 4 ∨ v.l = [])

instance (v : V) : Decidable (v.l = []) := by
  cases h : v.l with
  | nil => exact isTrue rfl
  | cons _ _ => exact isFalse (by simp)

instance (v : V) : Decidable (FieldsOk v) := by
  unfold FieldsOk
  infer_instance

/-- Valid, of a depth of at most t. -/
def rightN : Nat → V → Bool
  | 0, v => decide (FieldsOk v) && decide (v.kind ≠ 4) && decide (0 ≤ v.kind ∧ v.kind ≤ 4)
  | t + 1, v => decide (FieldsOk v) && v.l.all (rightN t) && decide (0 ≤ v.kind ∧ v.kind ≤ 4)

theorem rightN_fields {t : Nat} {v : V} (h : ¬ FieldsOk v) : rightN t v = false := by
  cases t <;> simp [rightN, h]

theorem rightN_kind {t : Nat} {v : V} (h : ¬ (0 ≤ v.kind ∧ v.kind ≤ 4)) : rightN t v = false := by
  cases t <;> (unfold rightN; rw [decide_eq_false h, Bool.and_false])

/-- A value that is no list. -/
theorem rightN_plain {t : Nat} {v : V} (h : FieldsOk v) (h4 : v.kind ≠ 4) (hk : 0 ≤ v.kind ∧ v.kind ≤ 4) : rightN t v = true := by
  have hl : v.l = [] := h.2.2.2.resolve_left h4
  cases t
  · unfold rightN
    rw [decide_eq_true h, decide_eq_true h4, decide_eq_true hk]; rfl
  · unfold rightN
    rw [decide_eq_true h, hl, decide_eq_true hk]; rfl

theorem rightN_list {t : Nat} {v : V} (h : FieldsOk v) (h4 : v.kind = 4) : rightN (t + 1) v = v.l.all (rightN t) := by
  unfold rightN
  rw [decide_eq_true h, decide_eq_true (by omega), Bool.true_and, Bool.and_true]
end Go.Proofs.YtcapbaocchaenaaGreatDoor

/- The walks of the code's Compare, Add and Scale. -/
namespace Go.Proofs.YtcapbaocchaenaaGreatDoor
open Go.RowKit Fl

theorem cisnan_any (x : Nat) (w : World) :
    Calls Tryz.prog 183 #[.int .u64 (x : Int)] w fun e w' => e = .returned (.bool false) ∧ w = w' := by
  have h : ((x : Int) != (x : Int)) = false := bne_self_eq_false _
  go_enter Tryz.func183, Tryz.ntmps183
  go_wp2
  go_ret
  exact ⟨rfl, rfl⟩

theorem cmp_any (x y : Nat) (w : World) :
    Calls Tryz.prog 176 #[.int .u64 (x : Int), .int .u64 (y : Int)] w fun e w' => e = .returned (.int .i64 (cmpR x y)) ∧ w = w' := by
  have H1 := Lib.hid (cisnan_any x w)
  have H2 := Lib.hid (cisnan_any y w)
  by_cases h1 : x < y
  · have Hf := Lib.hid (show cmpR x y = -1 from if_pos h1)
    go_enter Tryz.func176, Tryz.ntmps176
    go_wp2_with fail
    refine H1.out.mono ?_
    rintro e w' ⟨rfl, rfl⟩
    go_wp2_with fail
    refine H2.out.mono ?_
    rintro e w' ⟨rfl, rfl⟩
    go_wp2
    go_ret
    exact ⟨ret_i64 Hf.out.symm, rfl⟩
  · by_cases h2 : y < x
    · have Hf := Lib.hid (show cmpR x y = 1 by unfold cmpR; rw [if_neg h1, if_pos h2])
      go_enter Tryz.func176, Tryz.ntmps176
      go_wp2_with fail
      refine H1.out.mono ?_
      rintro e w' ⟨rfl, rfl⟩
      go_wp2_with fail
      refine H2.out.mono ?_
      rintro e w' ⟨rfl, rfl⟩
      go_wp2
      go_ret
      exact ⟨ret_i64 Hf.out.symm, rfl⟩
    · have Hf := Lib.hid (show cmpR x y = 0 by unfold cmpR; rw [if_neg h1, if_neg h2])
      go_enter Tryz.func176, Tryz.ntmps176
      go_wp2_with fail
      refine H1.out.mono ?_
      rintro e w' ⟨rfl, rfl⟩
      go_wp2_with fail
      refine H2.out.mono ?_
      rintro e w' ⟨rfl, rfl⟩
      go_wp2
      go_ret
      exact ⟨ret_i64 Hf.out.symm, rfl⟩

set_option maxRecDepth 100000 in
theorem compare_any (a b : Nat) (w : World) (ha : a < 18446744073709551616) (hb : b < 18446744073709551616) :
    Calls Tryz.prog 160 #[.float .f64 a, .float .f64 b] w fun e w' => e = .returned (.int .i64 (cmpB a b)) ∧ w = w' := by
  have H1 := Lib.hid (rank_any a w ha)
  have H2 := Lib.hid (rank_any b w hb)
  have H3 := Lib.hid (cmp_any (rankB (bitsB a)) (rankB (bitsB b)) w)
  unfold cmpB
  clear ha hb
  generalize rankB (bitsB a) = x at *
  generalize rankB (bitsB b) = y at *
  go_enter Tryz.func160, Tryz.ntmps160
  go_wp2_with fail
  refine H1.out.mono ?_
  rintro e w' ⟨rfl, rfl⟩
  go_wp2_with fail
  refine H2.out.mono ?_
  rintro e w' ⟨rfl, rfl⟩
  go_wp2_with fail
  refine H3.out.mono ?_
  rintro e w' ⟨rfl, rfl⟩
  go_wp2
  go_ret
  exact ⟨rfl, rfl⟩

end Go.Proofs.YtcapbaocchaenaaGreatDoor

/- Which values are the same, as a plain function; the order of values; what is counted. -/
namespace Go.Proofs.YtcapbaocchaenaaGreatDoor
open Go.RowKit Fl

mutual
/-- Two values are the same. -/
def sameV : V → V → Bool
  | .mk k n f s l, .mk k' n' f' s' l' => decide (k = k' ∧ n = n' ∧ s = s' ∧ bitsB f = bitsB f') && sameL l l'
def sameL : List V → List V → Bool
  | [], [] => true
  | v :: r, v' :: r' => sameV v v' && sameL r r'
  | _, _ => false
end

theorem sameL_len : ∀ {l l' : List V}, sameL l l' = true → l.length = l'.length
  | [], [], _ => rfl
  | [], _ :: _, h => by simp [sameL] at h
  | _ :: _, [], h => by simp [sameL] at h
  | v :: r, v' :: r', h => by
    rw [sameL, Bool.and_eq_true] at h
    rw [List.length_cons, List.length_cons, sameL_len h.2]

theorem sameL_iff : ∀ {l l' : List V}, sameL l l' = true ↔ l.length = l'.length ∧ ∀ (i : Nat) (u u' : V), l[i]? = some u → l'[i]? = some u' → sameV u u' = true
  | [], [] => by simp [sameL]
  | [], _ :: _ => by simp [sameL]
  | _ :: _, [] => by simp [sameL]
  | v :: r, v' :: r' => by
    rw [sameL, Bool.and_eq_true, sameL_iff, List.length_cons, List.length_cons]
    constructor
    · rintro ⟨h1, h2, h3⟩
      refine ⟨by omega, fun i u u' hu hu' => ?_⟩
      cases i with
      | zero =>
        simp at hu hu'
        rw [← hu, ← hu']
        exact h1
      | succ i => exact h3 i u u' (by simpa using hu) (by simpa using hu')
    · rintro ⟨h1, h2⟩
      exact ⟨h2 0 v v' rfl rfl, by omega, fun i u u' hu hu' => h2 (i + 1) u u' (by simpa using hu) (by simpa using hu')⟩

mutual
theorem sameV_refl : ∀ v : V, sameV v v = true
  | .mk k n f s l => by rw [sameV, sameL_refl l]; simp
theorem sameL_refl : ∀ l : List V, sameL l l = true
  | [] => by rw [sameL]
  | v :: r => by rw [sameL, sameV_refl v, sameL_refl r]; rfl
end

mutual
theorem sameV_symm : ∀ v v' : V, sameV v v' = true → sameV v' v = true
  | .mk k n f s l, .mk k' n' f' s' l', h => by
    rw [sameV, Bool.and_eq_true, decide_eq_true_eq] at h ⊢
    obtain ⟨⟨h1, h2, h3, h4⟩, h5⟩ := h
    exact ⟨⟨h1.symm, h2.symm, h3.symm, h4.symm⟩, sameL_symm l l' h5⟩
theorem sameL_symm : ∀ l l' : List V, sameL l l' = true → sameL l' l = true
  | [], [], h => h
  | [], _ :: _, h => by simp [sameL] at h
  | _ :: _, [], h => by simp [sameL] at h
  | v :: r, v' :: r', h => by
    rw [sameL, Bool.and_eq_true] at h ⊢
    exact ⟨sameV_symm v v' h.1, sameL_symm r r' h.2⟩
end

mutual
theorem sameV_trans : ∀ u v w : V, sameV u v = true → sameV v w = true → sameV u w = true
  | .mk k n f s l, .mk k' n' f' s' l', .mk k'' n'' f'' s'' l'', h, h' => by
    rw [sameV, Bool.and_eq_true, decide_eq_true_eq] at h h' ⊢
    obtain ⟨⟨h1, h2, h3, h4⟩, h5⟩ := h
    obtain ⟨⟨g1, g2, g3, g4⟩, g5⟩ := h'
    exact ⟨⟨h1.trans g1, h2.trans g2, h3.trans g3, h4.trans g4⟩, sameL_trans l l' l'' h5 g5⟩
theorem sameL_trans : ∀ a b c : List V, sameL a b = true → sameL b c = true → sameL a c = true
  | [], [], c, _, h => h
  | [], _ :: _, _, h, _ => by simp [sameL] at h
  | _ :: _, [], _, h, _ => by simp [sameL] at h
  | _ :: _, _ :: _, [], _, h => by simp [sameL] at h
  | u :: r, v :: r', w :: r'', h, h' => by
    rw [sameL, Bool.and_eq_true] at h h' ⊢
    exact ⟨sameV_trans u v w h.1 h'.1, sameL_trans r r' r'' h.2 h'.2⟩
end

mutual
/-- How many values there are in a value. -/
def countV : V → Nat
  | .mk _ _ _ _ l => 1 + countL l
def countL : List V → Nat
  | [] => 0
  | v :: r => countV v + countL r
end

mutual
/-- How many values and bytes there are in a value. -/
def bulkV : V → Nat
  | .mk _ _ _ s l => 1 + min s.length 1000 + bulkL l
def bulkL : List V → Nat
  | [] => 0
  | v :: r => bulkV v + bulkL r
end
end Go.Proofs.YtcapbaocchaenaaGreatDoor

/- The walk of the reference's Same. -/
namespace Go.Proofs.YtcapbaocchaenaaGreatDoor
open Go.RowKit Fl

theorem cell_below {w w' : World} (hb : Below w.heap.size w w') {p : Addr} {v : Value} (h : w.cell? p = some v) : w'.cell? p = some v := by
  rw [hb.cell (World.block_lt_of_cell? _ _ h)]
  exact h

set_option maxRecDepth 100000 in
set_option maxHeartbeats 6400000 in
theorem vsame_any : ∀ (v v' : V) (x x' : Array Value) (w : World), VIn w v x → VIn w v' x' →
    Calls Tryz.prog 80 #[.agg x, .agg x'] w fun e w' => e = .returned (.bool (sameV v v')) ∧ Below w.heap.size w w' := by
  refine V.ind ?_
  intro v ih v' x x' w h h'
  obtain ⟨k, n, f, s, l⟩ := v
  obtain ⟨k', n', f', s', l'⟩ := v'
  obtain ⟨_, _, hf, hs, _, a, cap, rfl, hcap, hmax, _⟩ := h.parts
  obtain ⟨_, _, hf', hs', _, a', cap', rfl, hcap', hmax', _⟩ := h'.parts
  change VIn w (V.mk k n f s l) (cells5 k n f s a l.length cap) at h
  change VIn w (V.mk k' n' f' s' l') (cells5 k' n' f' s' a' l'.length cap') at h'
  change l.length ≤ cap at hcap
  change l'.length ≤ cap' at hcap'
  change f < 18446744073709551616 at hf
  change f' < 18446744073709551616 at hf'
  change ∀ c ∈ s, c < 256 at hs
  change ∀ c ∈ s', c < 256 at hs'
  change ∀ u ∈ l, _ at ih
  have IH := Lib.hid ih
  have HR := Lib.hid (fun w => rsame_any f f' w hf hf')
  have hb1 := (Below.refl w.heap.size w).alloc (Nat.le_refl _) (.cells (cells5 k n f s a l.length cap) 43)
  have hb2 := hb1.alloc hb1.size (.cells (cells5 k' n' f' s' a' l'.length cap') 43)
  have Hb := Lib.hid hb2
  have HV := Lib.hid (h.below hb2)
  have HV' := Lib.hid (h'.below hb2)
  have Hdef := Lib.hid (show sameV (V.mk k n f s l) (V.mk k' n' f' s' l') = (decide (k = k' ∧ n = n' ∧ s = s' ∧ bitsB f = bitsB f') && sameL l l') from by rw [sameV])
  have hc4 : ((w.alloc (.cells #[.int .i64 k, .int .i64 n, .float .f64 f, .string (str s), .slice a l.length cap] 43)).alloc (.cells #[.int .i64 k', .int .i64 n', .float .f64 f', .string (str s'), .slice a' l'.length cap'] 43)).cell? ⟨w.heap.size, 4, none⟩ = some (.slice a l.length cap) :=
    cell_below ((Below.refl _ _).alloc (Nat.le_refl _) _) (box_cell w (cells5 k n f s a l.length cap) 43 4)
  have hc4' : ((w.alloc (.cells #[.int .i64 k, .int .i64 n, .float .f64 f, .string (str s), .slice a l.length cap] 43)).alloc (.cells #[.int .i64 k', .int .i64 n', .float .f64 f', .string (str s'), .slice a' l'.length cap'] 43)).cell? ⟨w.heap.size + 1, 4, none⟩ = some (.slice a' l'.length cap') := by
    have h1 := box_cell (w.alloc (.cells (cells5 k n f s a l.length cap) 43)) (cells5 k' n' f' s' a' l'.length cap') 43 4
    rw [show (w.alloc (.cells (cells5 k n f s a l.length cap) 43)).heap.size = w.heap.size + 1 from by simp] at h1
    exact h1
  clear h h' hb1 hb2 ih hf hf'
  change Calls _ _ #[.agg #[.int .i64 k, .int .i64 n, .float .f64 f, .string (str s), .slice a l.length cap], .agg #[.int .i64 k', .int .i64 n', .float .f64 f', .string (str s'), .slice a' l'.length cap']] _ _
  by_cases q1 : k = k'
  · have d1 : (k != k') = false := by rw [q1]; exact bne_self_eq_false _
    by_cases q2 : n = n'
    · have d2 : (n != n') = false := by rw [q2]; exact bne_self_eq_false _
      by_cases q3 : s = s'
      · have d3 : ((str s).toList == (str s').toList) = true := by rw [q3]; exact str_eq s'
        by_cases q4 : bitsB f = bitsB f'
        · rw [decide_eq_true q4] at HR
          by_cases q5 : l.length = l'.length
          · have d5 : ((l.length : Int) != (l'.length : Int)) = false := by rw [q5]; exact bne_self_eq_false _
            have Hd := Lib.hid (show sameV (V.mk k n f s l) (V.mk k' n' f' s' l') = sameL l l' from by rw [Hdef.out, decide_eq_true ⟨q1, q2, q3, q4⟩, Bool.true_and])
            have Hlen := Lib.hid q5
            clear q1 q2 q3 q4 q5 hs hs' Hdef
            go_enter Tryz.func80, Tryz.ntmps80
            go_wp2_with ((with_reducible refine (HR.out _).mono ?_); rintro e w' ⟨rfl, rfl⟩)
            have hwz : ((w.alloc (.cells #[.int .i64 k, .int .i64 n, .float .f64 f, .string (str s), .slice a l.length cap] 43)).alloc (.cells #[.int .i64 k', .int .i64 n', .float .f64 f', .string (str s'), .slice a' l'.length cap'] 43)).heap.size = w.heap.size + 2 := by simp
            generalize (w.alloc (.cells #[.int .i64 k, .int .i64 n, .float .f64 f, .string (str s), .slice a l.length cap] 43)).alloc (.cells #[.int .i64 k', .int .i64 n', .float .f64 f', .string (str s'), .slice a' l'.length cap'] 43) = w1 at *
            go_loopw [5] (fun i wr => ∃ j : Nat, j ≤ l.length ∧ i = .int .i64 (j : Int) ∧ (∀ k u u', k < j → l[k]? = some u → l'[k]? = some u' → sameV u u' = true) ∧ Below w1.heap.size w1 wr) (fun i _ => l.length - (intOf i).toNat)
            case atStart => exact ⟨0, Nat.zero_le _, rfl, fun k u u' hk _ _ => absurd hk (by omega), Below.refl _ _⟩
            case round =>
              obtain ⟨j, hj, rfl, hall, hbr⟩ := hrel
              have hcr := cell_below hbr hc4
              have hcr' := cell_below hbr hc4'
              have Hall := Lib.hid hall
              have Hbr := Lib.hid hbr
              by_cases hlt : j < l.length
              · have hlt' : j < l'.length := by have := Hlen.out; omega
                obtain ⟨b, o, rfl, hvs⟩ := (HV.out.below hbr).list (by show l ≠ []; intro e; rw [e] at hlt; simp at hlt)
                obtain ⟨b', o', rfl, hvs'⟩ := (HV'.out.below hbr).list (by show l' ≠ []; intro e; rw [e] at hlt'; simp at hlt')
                change VsIn wr l b o at hvs
                change VsIn wr l' b' o' at hvs'
                obtain ⟨p, pc, hvy, c0, c1, c2, c3, c4⟩ := hvs.elem hlt
                obtain ⟨p', pc', hvy', c0', c1', c2', c3', c4'⟩ := hvs'.elem hlt'
                have hdr : Below wr.heap.size wr wr.drew := (Below.refl _ _).drew
                have HI := Lib.hid (IH.out _ (get_mem hlt).2 l'[j] _ _ wr.drew (hvy.below hdr) (hvy'.below hdr))
                have Hget := Lib.hid (get_mem hlt).1
                have Hget' := Lib.hid (get_mem hlt').1
                generalize l[j] = u at *
                generalize l'[j] = u' at *
                have Hlt := Lib.hid hlt
                have hji : (j : Int) < (l.length : Int) := by omega
                have hji' : (j : Int) < (l'.length : Int) := by omega
                clear hall hbr hvs hvy hvs' hvy' hlt hlt' hdr
                go_wp2
                go_region_held (fun w' => w'.cell? ⟨w.heap.size, 4, none⟩ = some (.slice (some ⟨b, o, none⟩) l.length cap) ∧ w'.cell? ⟨w.heap.size + 1, 4, none⟩ = some (.slice (some ⟨b', o', none⟩) l'.length cap') ∧ w'.cell? ⟨b, o + j * 5, none⟩ = some (.int .i64 u.kind) ∧ w'.cell? ⟨b, o + j * 5 + 1, none⟩ = some (.int .i64 u.n) ∧ w'.cell? ⟨b, o + j * 5 + 2, none⟩ = some (.float .f64 u.f) ∧ w'.cell? ⟨b, o + j * 5 + 3, none⟩ = some (.string (str u.s)) ∧ w'.cell? ⟨b, o + j * 5 + 4, none⟩ = some (.slice p u.l.length pc) ∧ w'.cell? ⟨b', o' + j * 5, none⟩ = some (.int .i64 u'.kind) ∧ w'.cell? ⟨b', o' + j * 5 + 1, none⟩ = some (.int .i64 u'.n) ∧ w'.cell? ⟨b', o' + j * 5 + 2, none⟩ = some (.float .f64 u'.f) ∧ w'.cell? ⟨b', o' + j * 5 + 3, none⟩ = some (.string (str u'.s)) ∧ w'.cell? ⟨b', o' + j * 5 + 4, none⟩ = some (.slice p' u'.l.length pc'))
                  (first | exact ⟨hcr, hcr', c0, c1, c2, c3, c4, c0', c1', c2', c3', c4'⟩ | exact ⟨cell_below hb2 hcr, cell_below hb2 hcr', cell_below hb2 c0, cell_below hb2 c1, cell_below hb2 c2, cell_below hb2 c3, cell_below hb2 c4, cell_below hb2 c0', cell_below hb2 c1', cell_below hb2 c2', cell_below hb2 c3', cell_below hb2 c4'⟩)
                  (first | (go_at_call 80; (with_reducible refine HI.out.mono ?_); rintro e w2 ⟨rfl, hb2⟩))
                have Hb2 := Lib.hid hb2
                clear hb2 c0 c1 c2 c3 c4 c0' c1' c2' c3' c4' hcr hcr' hc4 hc4'
                have hbw : Below w1.heap.size w1 w2 := Hbr.out.trans ((((Below.refl _ _).drew).trans (Hb2.out.mono (Nat.le_refl _))).mono Hbr.out.size)
                cases hres : sameV u u' with
                | false =>
                  have Hf := Lib.hid (show sameV (V.mk k n f s l) (V.mk k' n' f' s' l') = false from by
                    rw [Hd.out]
                    cases hsl : sameL l l' with
                    | false => rfl
                    | true => rw [(sameL_iff.1 hsl).2 j u u' Hget.out Hget'.out] at hres; cases hres)
                  have hbz : Below w.heap.size w w2 := Hb.out.trans (hbw.mono (by omega))
                  clear hres
                  go_wp2
                  go_ret
                  exact ⟨ret_bool Hf.out.symm, hbz⟩
                | true =>
                  have Hres := Lib.hid hres
                  clear hres
                  go_wp2
                  go_roundw
                  case rel =>
                    refine ⟨j + 1, Hlt.out, by go_num, fun k u1 u1' hk hu hu' => ?_, hbw⟩
                    rcases Nat.lt_or_eq_of_le (Nat.le_of_lt_succ hk) with h1 | h1
                    · exact Hall.out k u1 u1' h1 hu hu'
                    · rw [h1, Hget.out] at hu
                      rw [h1, Hget'.out] at hu'
                      cases hu
                      cases hu'
                      exact Hres.out
                  case measure => simp [intOf]; have := Hlt.out; omega
              · have hbw : Below w.heap.size w wr := Hb.out.trans (hbr.mono (by omega))
                have Hf := Lib.hid (show sameV (V.mk k n f s l) (V.mk k' n' f' s' l') = true from by
                  rw [Hd.out, sameL_iff]
                  refine ⟨Hlen.out, fun i u u' hu hu' => ?_⟩
                  have hi : i < l.length := (List.getElem?_eq_some_iff.1 hu).1
                  exact hall i u u' (by omega) hu hu')
                have hji : ¬ ((j : Int) < (l.length : Int)) := by omega
                clear hall hbr hlt
                go_wp2
                go_ret
                exact ⟨ret_bool Hf.out.symm, hbw⟩
          · have d5 : ((l.length : Int) != (l'.length : Int)) = true := by rw [bne_iff_ne]; omega
            have Hf := Lib.hid (show sameV (V.mk k n f s l) (V.mk k' n' f' s' l') = false from by
              rw [Hdef.out]
              cases hsl : sameL l l' with
              | false => rw [Bool.and_false]
              | true => exact absurd (sameL_len hsl) q5)
            clear q1 q2 q3 q4 q5 hs hs'
            go_enter Tryz.func80, Tryz.ntmps80
            go_wp2_with ((with_reducible refine (HR.out _).mono ?_); rintro e w' ⟨rfl, rfl⟩)
            go_ret
            exact ⟨ret_bool Hf.out.symm, Hb.out⟩
        · rw [decide_eq_false q4] at HR
          have Hf := Lib.hid (show sameV (V.mk k n f s l) (V.mk k' n' f' s' l') = false from by rw [Hdef.out, decide_eq_false (fun h => q4 h.2.2.2), Bool.false_and])
          clear q1 q2 q3 q4 hs hs'
          go_enter Tryz.func80, Tryz.ntmps80
          go_wp2_with ((with_reducible refine (HR.out _).mono ?_); rintro e w' ⟨rfl, rfl⟩)
          go_ret
          exact ⟨ret_bool Hf.out.symm, Hb.out⟩
      · have d3 : ((str s).toList == (str s').toList) = false := str_ne hs hs' q3
        have Hf := Lib.hid (show sameV (V.mk k n f s l) (V.mk k' n' f' s' l') = false from by rw [Hdef.out, decide_eq_false (fun h => q3 h.2.2.1), Bool.false_and])
        clear q1 q2 q3 hs hs'
        go_enter Tryz.func80, Tryz.ntmps80
        go_wp2
        go_ret
        exact ⟨ret_bool Hf.out.symm, Hb.out⟩
    · have d2 : (n != n') = true := bne_iff_ne.2 q2
      have Hf := Lib.hid (show sameV (V.mk k n f s l) (V.mk k' n' f' s' l') = false from by rw [Hdef.out, decide_eq_false (fun h => q2 h.2.1), Bool.false_and])
      clear q1 q2 hs hs'
      go_enter Tryz.func80, Tryz.ntmps80
      go_wp2
      go_ret
      exact ⟨ret_bool Hf.out.symm, Hb.out⟩
  · have d1 : (k != k') = true := bne_iff_ne.2 q1
    have Hf := Lib.hid (show sameV (V.mk k n f s l) (V.mk k' n' f' s' l') = false from by rw [Hdef.out, decide_eq_false (fun h => q1 h.1), Bool.false_and])
    clear q1 hs hs'
    go_enter Tryz.func80, Tryz.ntmps80
    go_wp2
    go_ret
    exact ⟨ret_bool Hf.out.symm, Hb.out⟩
end Go.Proofs.YtcapbaocchaenaaGreatDoor

/- The order of values, as a plain function. -/
namespace Go.Proofs.YtcapbaocchaenaaGreatDoor
open Go.RowKit Fl

def ordI (a b : Int) : Int := if a < b then -1 else if b < a then 1 else 0

/-- The order of texts. -/
def cmpT : List Nat → List Nat → Int
  | [], [] => 0
  | [], _ :: _ => -1
  | _ :: _, [] => 1
  | c :: r, c' :: r' => if c < c' then -1 else if c' < c then 1 else cmpT r r'

theorem cmpT_self : ∀ a : List Nat, cmpT a a = 0
  | [] => rfl
  | c :: r => by
    rw [cmpT, if_neg (by omega), if_neg (by omega)]
    exact cmpT_self r

theorem cmpT_zero : ∀ {a b : List Nat}, cmpT a b = 0 → a = b
  | [], [], _ => rfl
  | [], _ :: _, h => by simp [cmpT] at h
  | _ :: _, [], h => by simp [cmpT] at h
  | c :: r, c' :: r', h => by
    rw [cmpT] at h
    by_cases h1 : c < c'
    · rw [if_pos h1] at h; omega
    · rw [if_neg h1] at h
      by_cases h2 : c' < c
      · rw [if_pos h2] at h; omega
      · rw [if_neg h2] at h
        rw [cmpT_zero h, show c = c' by omega]
end Go.Proofs.YtcapbaocchaenaaGreatDoor

/- The order of values is total, and only the same valid values are equal: plain mathematics. -/
namespace Go.Proofs.YtcapbaocchaenaaGreatDoor
open Go.RowKit Fl

theorem ordI_zero {a b : Int} : ordI a b = 0 ↔ a = b := by
  unfold ordI
  split
  · omega
  · split <;> omega

mutual
/-- Every float is a word. -/
def wordsV : V → Prop
  | .mk _ _ f _ l => f < 18446744073709551616 ∧ wordsL l
def wordsL : List V → Prop
  | [] => True
  | v :: r => wordsV v ∧ wordsL r
end

mutual
theorem VIn.words {w : World} : ∀ (v : V) (x : Array Value), VIn w v x → wordsV v
  | .mk k n f s l, x, h => by
    rw [VIn] at h
    obtain ⟨_, _, hf, _, _, a, cap, _, _, _, h9⟩ := h
    rw [wordsV]
    refine ⟨hf, ?_⟩
    rcases h9 with rfl | ⟨b, o, _, hv⟩
    · rw [wordsL]; trivial
    · exact VsIn.words l b o hv
theorem VsIn.words {w : World} : ∀ (l : List V) (b o : Nat), VsIn w l b o → wordsL l
  | [], _, _, _ => by rw [wordsL]; trivial
  | v :: r, b, o, h => by
    rw [VsIn] at h
    obtain ⟨⟨x, _, _, hv⟩, hr⟩ := h
    rw [wordsL]
    exact ⟨VIn.words v x hv, VsIn.words r b (o + 5) hr⟩
end

end Go.Proofs.YtcapbaocchaenaaGreatDoor

