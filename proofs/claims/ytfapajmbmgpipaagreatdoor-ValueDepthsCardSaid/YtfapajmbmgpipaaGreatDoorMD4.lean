import Derived.Test.YtfapajmbmgpipaaGreatDoorMD3
import Derived.Test.YtfapajmbmgpipaaGreatDoorMD2
/- The walk of the library's FormatUint at base 16: the digits. -/
namespace Go.Proofs.YtfapajmbmgpipaaGreatDoor
open Go.RowKit Fl

theorem zero65 : Tryz.zeroCells163 = Array.replicate 65 (.int .u8 0) := by kernel_rfl

/-- The row of digits behind j rounds. -/
def fcell (x j p : Nat) : Value := if 65 ≤ p + j then .int .u8 (hexD (x / 16 ^ (64 - p) % 16) : Nat) else .int .u8 0

def FRel (x : Nat) (w : World) (u i : Value) (wr : World) : Prop :=
  ∃ j q : Nat, q + j = 65 ∧ j ≤ 15 ∧ i = .int .i64 (q : Int) ∧ u = .int .u64 ((x / 16 ^ j : Nat) : Int) ∧ wr.rowIs w.heap.size 163 65 (fcell x j) ∧ Below w.heap.size w wr

theorem fRel_start (x : Nat) (w : World) : FRel x w (.int .u64 (x : Int)) (.int .i64 65) (w.alloc (.cells Tryz.zeroCells163 163)) := by
  refine ⟨0, 65, rfl, by omega, rfl, by rw [Nat.pow_zero, Nat.div_one], ?_, (Below.refl _ _).alloc (Nat.le_refl _) _⟩
  have h := World.rowIs_alloc w Tryz.zeroCells163 163 (fun _ => .int .u8 0) (fun i hi => by
    rw [zero65] at hi ⊢
    rw [Array.size_replicate] at hi
    rw [Array.getElem?_replicate, if_pos hi])
  rw [zero65, Array.size_replicate] at h
  rw [zero65]
  exact h.congr (fun i hi => by unfold fcell; rw [if_neg (by omega)])

theorem fcell_set {x j p : Nat} (h : p + 1 + j = 65) (k : Nat) (hk : k < 65) : (if k = p then Value.int .u8 (hexD (x / 16 ^ j % 16) : Nat) else fcell x j k) = fcell x (j + 1) k := by
  unfold fcell
  by_cases e : k = p
  · subst e
    rw [if_pos rfl, if_pos (show 65 ≤ k + (j + 1) by omega), show 64 - k = j by omega]
  · rw [if_neg e]
    by_cases h2 : 65 ≤ k + j
    · rw [if_pos h2, if_pos (by omega)]
    · rw [if_neg h2, if_neg (by omega)]

theorem dig_all : ∀ d : Fin 16, ∀ h : d.val < (ByteArray.mk #[48, 49, 50, 51, 52, 53, 54, 55, 56, 57, 97, 98, 99, 100, 101, 102, 103, 104, 105, 106, 107, 108, 109, 110, 111, 112, 113, 114, 115, 116, 117, 118, 119, 120, 121, 122]).size, (((ByteArray.mk #[48, 49, 50, 51, 52, 53, 54, 55, 56, 57, 97, 98, 99, 100, 101, 102, 103, 104, 105, 106, 107, 108, 109, 110, 111, 112, 113, 114, 115, 116, 117, 118, 119, 120, 121, 122])[d.val]'h).toNat : Int) = (hexD d.val : Nat) := by decide +kernel

theorem dig_at {d : Nat} (hd : d < 16) (h : d < (ByteArray.mk #[48, 49, 50, 51, 52, 53, 54, 55, 56, 57, 97, 98, 99, 100, 101, 102, 103, 104, 105, 106, 107, 108, 109, 110, 111, 112, 113, 114, 115, 116, 117, 118, 119, 120, 121, 122]).size) : (((ByteArray.mk #[48, 49, 50, 51, 52, 53, 54, 55, 56, 57, 97, 98, 99, 100, 101, 102, 103, 104, 105, 106, 107, 108, 109, 110, 111, 112, 113, 114, 115, 116, 117, 118, 119, 120, 121, 122])[d]'h).toNat : Int) = (hexD d : Nat) := dig_all ⟨d, hd⟩ h

theorem slice65 (B p : Nat) (h : p < 65) (w : World) :
    (Instr.sliceAt 163 (.pointer (some ⟨B, 0, none⟩)) (some (.int .i64 (p : Int))) none none).run Tryz.prog w = .ok (.slice (some ⟨B, p, none⟩) (65 - p) (65 - p)) w := by
  have e := run_sliceAt_array_l (P := Tryz.prog) w 163 ⟨B, 0, none⟩ (by kernel_rfl) .i64 (p : Int) (by omega) (by rw [show Tryz.prog.arrayLen 163 = 65 by kernel_rfl]; omega)
  have es : (sizeOf (Tryz.prog.elem 163)).run Tryz.prog w = .ok 1 w := by kernel_rfl
  rw [e, es, show Tryz.prog.arrayLen 163 = 65 by kernel_rfl]
  show Result.ok (slicedAt ⟨B, 0, none⟩ (p : Int).toNat 65 65 1) w = _
  unfold slicedAt
  rw [if_neg (by omega), Int.toNat_natCast]
  simp [Addr.add]
  exact fun h => h.symm

theorem hexs_get (x n : Nat) : ∀ i, i < n → (hexs x n).getD i 0 = hexD (x / 2 ^ (4 * (15 - i)) % 16) := by
  induction n with
  | zero => intro i hi; omega
  | succ n ih =>
    intro i hi
    rw [hexs, List.getD_eq_getElem?_getD]
    rcases Nat.lt_or_eq_of_le (Nat.le_of_lt_succ hi) with h | h
    · rw [List.getElem?_append_left (by rw [hexs_len]; exact h), ← List.getD_eq_getElem?_getD]
      exact ih i h
    · subst h
      rw [List.getElem?_append_right (by rw [hexs_len]; exact Nat.le_refl _), hexs_len, Nat.sub_self]
      rfl

/-- The digits as bytes of a slice. -/
theorem digits_bytes {w : World} {B x j p : Nat} (hp : p + 1 + j = 65) (hj : j ≤ 15) (h : w.rowIs B 163 65 (fcell x (j + 1))) : Bytes w (some ⟨B, p, none⟩) (65 - p) (65 - p) ((hexs x 16).drop (16 - (j + 1))) := by
  refine ⟨by rw [List.length_drop, hexs_len]; omega, Nat.le_refl _, by omega, ?_, (fun h => by cases h), fun _ => ⟨B, p, rfl, fun i hi => ?_⟩⟩
  · intro c hc
    obtain ⟨k, hk, rfl⟩ := List.getElem_of_mem (List.mem_of_mem_drop hc)
    have hk2 : k < 16 := by rw [hexs_len] at hk; exact hk
    have e := hexs_get x 16 k hk2
    rw [List.getD_eq_getElem?_getD, List.getElem?_eq_getElem hk] at e
    have e2 : (hexs x 16)[k] = hexD (x / 2 ^ (4 * (15 - k)) % 16) := e
    have hm : x / 2 ^ (4 * (15 - k)) % 16 < 16 := Nat.mod_lt _ (by omega)
    have h5 : hexD (x / 2 ^ (4 * (15 - k)) % 16) < 256 := by
      unfold hexD
      split <;> omega
    rw [← e2] at h5
    exact h5
  · rw [h.cell (by omega)]
    unfold fcell
    rw [if_pos (by omega), List.getD_eq_getElem?_getD, List.getElem?_drop, ← List.getD_eq_getElem?_getD, hexs_get x 16 _ (by omega)]
    rw [show 64 - (p + i) = 15 - (16 - (j + 1) + i) by omega, show (16 : Nat) = 2 ^ 4 by decide, ← Nat.pow_mul]

set_option maxRecDepth 100000 in
set_option maxHeartbeats 1600000 in
theorem fbits_any (x : Nat) (w : World) (hx : x < 18446744073709551616) (ht : Tab16 w) :
    Calls Tryz.prog 129 #[.slice none 0 0, .int .u64 (x : Int), .int .i64 16, .bool false, .bool false] w fun e w' => (∃ m, 1 ≤ m ∧ m ≤ 16 ∧ x < 16 ^ m ∧ e = .returned (.tuple #[.slice none 0 0, .string (str ((hexs x 16).drop (16 - m)))])) ∧ Below w.heap.size w w' := by
  have HP := Lib.hid (fun w : World => pow2_any w)
  have HT := Lib.hid (fun w : World => tz_any w)
  have Ht := Lib.hid ht
  have Hst := Lib.hid (fRel_start x w)
  clear ht
  go_enter Tryz.func129, Tryz.ntmps129
  go_wp2_with fail
  refine (HP.out _).mono ?_
  rintro e w' ⟨rfl, rfl⟩
  go_wp2_with fail
  refine (HT.out _ ?_).mono ?_
  · have h := Ht.out
    unfold Tab16 at h ⊢
    rw [((Below.refl w.heap.size w).alloc (Nat.le_refl _) _).cell (World.block_lt_of_cell? _ _ h)]
    exact h
  rintro e w' ⟨rfl, rfl⟩
  go_wp2
  go_loopw [1, 13] (fun u i wr => FRel x w u i wr) (fun _ i _ => (intOf i).toNat)
  case atStart => exact Hst.out
  case round =>
    obtain ⟨j, q, hqj, hj, rfl, rfl, hrow, hbel⟩ := hrel
    obtain ⟨p, rfl⟩ : ∃ p, q = p + 1 := ⟨q - 1, by omega⟩
    have hult : x / 16 ^ j < 18446744073709551616 := Nat.lt_of_le_of_lt (Nat.div_le_self _ _) hx
    have Hn := Lib.hid (show x / 16 ^ j / 16 = x / 16 ^ (j + 1) by rw [Nat.div_div_eq_div_mul, ← Nat.pow_succ])
    have Hset := Lib.hid (fun k hk => fcell_set (x := x) hqj k hk)
    have Hp := Lib.hid (hrow.cell (show p < 65 by omega))
    have Hz := Lib.hid (hrow.frozen p)
    have hp65 : p < 65 := by omega
    generalize fcell x j p = old at *
    generalize hU : x / 16 ^ j = u at *
    by_cases h16 : 16 ≤ u
    · have ha := and15 hult
      have hd : u % 16 < 16 := Nat.mod_lt _ (by omega)
      have hdig := dig_at hd
      have hcell := Hp.out
      have hfz := Hz.out
      have hj2 : j < 15 := by
        rcases Nat.lt_or_eq_of_le hj with h | h
        · exact h
        · rw [h] at hU
          have : x / 16 ^ 15 < 16 := Nat.div_lt_of_lt_mul (by omega)
          omega
      have Hset2 := Lib.hid (show ∀ k, k < 65 → (if k = p then Value.int .u8 (hexD (u % 16) : Nat) else fcell x j k) = fcell x (j + 1) k by
        intro k hk
        have h := Hset.out k hk
        exact h)
      clear hU hx Hset
      generalize u % 16 = d at *
      go_wp2
      go_round
      case rel =>
        refine ⟨j + 1, p, by omega, by omega, rfl, congrArg (Value.int .u64) (congrArg Nat.cast Hn.out), ?_, hbel.setCell (Nat.le_refl _) _⟩
        exact (hrow.set p _).congr (fun k hk => Hset2.out k hk)
      case measure => simp [intOf]
    · have hd : u < 16 := by omega
      have hdig := dig_at hd
      have hcell := Hp.out
      have hfz := Hz.out
      have hsl := slice65 w.heap.size p hp65
      have Hset2 := Lib.hid (show ∀ k, k < 65 → (if k = p then Value.int .u8 (hexD u : Nat) else fcell x j k) = fcell x (j + 1) k by
        intro k hk
        have h := Hset.out k hk
        rw [Nat.mod_eq_of_lt hd] at h
        exact h)
      have hrow2 := (hrow.set p (.int .u8 (hexD u : Nat))).congr (fun k hk => Hset2.out k hk)
      have hby := digits_bytes (by omega) hj hrow2
      have hconv := convert_bytes hby 28 5 9 Tryz.underlying28 Tryz.underlying5 Tryz.underlying9
      have Hlast := Lib.hid (show x < 16 ^ (j + 1) by
        rw [← hU] at hd
        have h := (Nat.div_lt_iff_lt_mul (Nat.pow_pos (by omega))).1 hd
        rw [Nat.pow_succ, Nat.mul_comm]
        exact h)
      have Hbel := Lib.hid (hbel.setCell (show w.heap.size ≤ (Addr.mk w.heap.size p none).block from Nat.le_refl _) (.int .u8 (hexD u : Nat)))
      clear hx hU Hset Hset2 hrow2 hby
      go_wp2
      go_ret2
      exact ⟨⟨j + 1, by omega, by omega, Hlast.out, by rw [show 16 - (j + 1) = 15 - j by omega]; rfl⟩, Hbel.out⟩
end Go.Proofs.YtfapajmbmgpipaaGreatDoor

/- The walk of the reference's Scale: it returns the plain answer. -/
namespace Go.Proofs.YtfapajmbmgpipaaGreatDoor
open Go.RowKit Fl

theorem floatOf (n : Nat) : floatOfInt .f64 (n : Int) = ofNat n := by
  have h : ¬ ((n : Int) < 0) := by omega
  show FloatKind.nearest .f64 (n : Int) = _
  unfold FloatKind.nearest
  rw [Int.natAbs_natCast, decide_eq_false h]
  rfl

/-- The product of ticks and a positive number or the infinity. -/
theorem prod_bits {n x : Nat} (hn : n < 18446744073709551616) (h0 : n ≠ 0) (hx : x ≤ I) : floatBits .mul .f64 (ofNat n) x = some (prodR n x) := by
  show Ieee.double.mul (ofNat n) x = _
  have hlt := ofNat_lt hn
  unfold prodR
  by_cases h : x = I
  · subst h
    rw [if_pos rfl]
    refine mul_inf hlt (fun e => ?_)
    have h1 : ofNat 1 ≤ ofNat n := ofNat_mono (by omega)
    have h2 : ofNat 1 = 1023 * B := by
      have := ofNat_pow (k := 0) (by omega)
      simpa using this
    rw [e, h2] at h1
    have := B_pos
    omega
  · rw [if_neg h]
    exact mul_pos hlt (by omega)

theorem order_top {p : Nat} (hp : p ≤ I) : Ieee.double.order p top = some (compare ((val p : Nat) : Int) ((val top : Nat) : Int)) := by
  have h1 : top < W := by decide
  have h2 : p < W := Nat.lt_of_le_of_lt hp I_lt
  have h3 : top ≤ I := by decide
  unfold Ieee.Format.order
  rw [read_pos h2, read_pos h1, order_sv false false hp h3]
  rfl

theorem order_low {p : Nat} (h : p < top) : FloatKind.f64.format.order p 4890909195324358656 = some .lt := by
  have h3 : top ≤ I := by decide
  have h1 : Ieee.double.order p top = some .lt := by
    rw [order_top (by omega), cmp_lt (by have := val_mono h; omega)]
  exact h1

theorem order_high {p : Nat} (h : top ≤ p) (hp : p ≤ I) : (FloatKind.f64.format.order p 4890909195324358656 == some .gt || FloatKind.f64.format.order p 4890909195324358656 == some .eq) = true := by
  show (Ieee.double.order p top == some .gt || Ieee.double.order p top == some .eq) = true
  rw [order_top hp]
  rcases Nat.lt_or_eq_of_le h with h1 | h1
  · rw [cmp_gt (by have := val_mono h1; omega)]; rfl
  · subst h1; rw [cmp_eq]; rfl

theorem to_ticks {p : Nat} (h : p < top) : floatToIntVal .f64 p .u64 = some ((val p / U : Nat) : Int) := by
  have h3 : top ≤ I := by decide
  have h1 : (FloatKind.f64.decode p).toInt .zero = some ((val p / U : Nat) : Int) := toInt_pos (by omega)
  have h2 := scale_low h
  have hmin : IntKind.u64.min = 0 := rfl
  have hmax : IntKind.u64.max = 18446744073709551615 := rfl
  unfold floatToIntVal
  rw [h1]
  generalize val p / U = v at h2 ⊢
  simp only
  rw [if_pos ⟨by rw [hmin]; omega, by rw [hmax]; omega⟩]

/-- What Scale answers. -/
def scaleB (n b : Nat) : Nat := if n = 0 ∨ bitsB b = Q ∨ bitsB b = 0 ∨ W ≤ bitsB b then 0 else scaleR n (bitsB b)

end Go.Proofs.YtfapajmbmgpipaaGreatDoor

/- The order of numbers by their bits, and how scaling keeps it. -/
namespace Go.Proofs.YtfapajmbmgpipaaGreatDoor
open Go.RowKit Fl

theorem rankB_inj {x y : Nat} (hx : x < 18446744073709551616) (hy : y < 18446744073709551616) (h : rankB x = rankB y) : x = y := by
  unfold rankB W at h
  split at h <;> split at h <;> omega

theorem cmpR_neg (x y : Nat) : cmpR y x = -cmpR x y := by
  unfold cmpR
  split <;> split <;> omega

theorem cmpR_zero {x y : Nat} : cmpR x y = 0 ↔ x = y := by
  unfold cmpR
  split
  · omega
  · split <;> omega

theorem cmpR_le {x y : Nat} : cmpR x y ≤ 0 ↔ x ≤ y := by
  unfold cmpR
  split
  · omega
  · split <;> omega

theorem cmpR_lt {x y : Nat} : cmpR x y < 0 ↔ x < y := by
  unfold cmpR
  split
  · omega
  · split <;> omega

theorem cmpB_neg (a b : Nat) : cmpB b a = -cmpB a b := cmpR_neg _ _

theorem cmpB_zero {a b : Nat} (ha : a < 18446744073709551616) (hb : b < 18446744073709551616) : cmpB a b = 0 ↔ bitsB a = bitsB b := by
  unfold cmpB
  rw [cmpR_zero]
  exact ⟨fun h => rankB_inj (bitsB_lt ha) (bitsB_lt hb) h, fun h => by rw [h]⟩

theorem cmpB_trans {a b c : Nat} (h1 : cmpB a b ≤ 0) (h2 : cmpB b c ≤ 0) : cmpB a c ≤ 0 := by
  unfold cmpB at *
  rw [cmpR_le] at *
  omega

/-- A word: its sign and its rung. -/
theorem read_word {a : Nat} (ha : a < 18446744073709551616) : Ieee.double.read a = datum (decide (W ≤ a)) (a % W) := by
  by_cases h : W ≤ a
  · have e : a = W + a % W := by unfold W at *; omega
    have hr : a % W < W := by unfold W; omega
    rw [decide_eq_true h]
    conv => lhs; rw [e]
    exact read_neg hr
  · have e : a % W = a := Nat.mod_eq_of_lt (by omega)
    rw [decide_eq_false h, e]
    exact read_pos (by omega)

theorem datum_nan {s : Bool} {r : Nat} (h : I < r) : datum s r = .nan s (r - I) := by
  unfold datum
  rw [if_neg (by omega), if_neg (by omega)]

theorem order_none {a b : Nat} (ha : a < 18446744073709551616) (h : I < a % W) : Ieee.double.order a b = none := by
  unfold Ieee.Format.order
  rw [read_word ha, datum_nan h]
  unfold Ieee.Datum.order
  rfl

theorem order_none' {a b : Nat} (hb : b < 18446744073709551616) (h : I < b % W) : Ieee.double.order a b = none := by
  unfold Ieee.Format.order
  rw [read_word hb, datum_nan h]
  generalize Ieee.double.read a = d
  cases d <;> rfl

theorem order_words {a b : Nat} (ha : a < 18446744073709551616) (hb : b < 18446744073709551616) (h : a % W ≤ I) (h' : b % W ≤ I) :
    Ieee.double.order a b = some (compare (sv (decide (W ≤ a)) (a % W)) (sv (decide (W ≤ b)) (b % W))) := by
  unfold Ieee.Format.order
  rw [read_word ha, read_word hb, order_sv _ _ h h']

theorem sv_lt {a b : Nat} (ha : a < 18446744073709551616) (hb : b < 18446744073709551616) (h : sv (decide (W ≤ a)) (a % W) < sv (decide (W ≤ b)) (b % W)) : rankB a < rankB b := by
  have hW : W = 9223372036854775808 := rfl
  by_cases h1 : W ≤ a <;> by_cases h2 : W ≤ b
  · rw [decide_eq_true h1, decide_eq_true h2] at h
    have h3 : val (b % W) < val (a % W) := by
      have h4 : -(val (a % W) : Int) < -(val (b % W) : Int) := h
      omega
    have h5 := val_lt_iff.1 h3
    have ma : a % W = a - W := by unfold W at *; omega
    have mb : b % W = b - W := by unfold W at *; omega
    rw [ma, mb] at h5
    unfold rankB
    rw [if_pos h1, if_pos h2]
    omega
  · unfold rankB
    rw [if_pos h1, if_neg h2]
    omega
  · rw [decide_eq_false h1, decide_eq_true h2] at h
    have h4 : (val (a % W) : Int) < -(val (b % W) : Int) := h
    omega
  · rw [decide_eq_false h1, decide_eq_false h2] at h
    have h3 : val (a % W) < val (b % W) := by
      have h4 : (val (a % W) : Int) < (val (b % W) : Int) := h
      omega
    have h5 := val_lt_iff.1 h3
    rw [Nat.mod_eq_of_lt (by omega), Nat.mod_eq_of_lt (by omega)] at h5
    unfold rankB
    rw [if_neg h1, if_neg h2]
    omega

theorem compare_lt_of {x y : Int} (h : compare x y = .lt) : x < y := by
  rcases Int.lt_trichotomy x y with h1 | h1 | h1
  · exact h1
  · subst h1; rw [cmp_eq] at h; cases h
  · rw [cmp_gt h1] at h; cases h

/-- What is less as a number is less in the order. -/
theorem less_cmp {a b : Nat} (ha : a < 18446744073709551616) (hb : b < 18446744073709551616) (h : Ieee.double.order a b = some .lt) : cmpB a b < 0 := by
  by_cases h1 : I < a % W
  · rw [order_none ha h1] at h; cases h
  by_cases h2 : I < b % W
  · rw [order_none' hb h2] at h; cases h
  rw [order_words ha hb (by omega) (by omega)] at h
  have h3 := sv_lt ha hb (compare_lt_of (Option.some.inj h))
  have e1 : bitsB a = a := if_neg h1
  have e2 : bitsB b = b := if_neg h2
  unfold cmpB
  rw [e1, e2, cmpR_lt]
  exact h3

/-- A number differs from itself just where it is none. -/
theorem self_order {b : Nat} (hb : b < 18446744073709551616) : (FloatKind.f64.format.order b b != some .eq) = decide (I < b % W) := by
  show (Ieee.double.order b b != some .eq) = _
  by_cases h : I < b % W
  · rw [order_none hb h, decide_eq_true h]; rfl
  · rw [order_words hb hb (by omega) (by omega), cmp_eq, decide_eq_false h]; rfl

theorem scaleB_le (n b : Nat) : scaleB n b ≤ 9223372036854775807 := by
  unfold scaleB
  split
  · omega
  · exact scaleR_le _ _

/-- A greater number scales ticks to no fewer ones. -/
theorem scaleB_mono {n x y : Nat} (hy : y < 18446744073709551616) (h : cmpB x y ≤ 0) (hn : ¬ I < y % W) : scaleB n x ≤ scaleB n y := by
  have hW : W = 9223372036854775808 := rfl
  have hI : I = 9218868437227405312 := rfl
  have hQ : Q = 9221120237041090561 := rfl
  unfold cmpB at h
  rw [cmpR_le] at h
  have ey : bitsB y = y := if_neg hn
  by_cases hz : n = 0 ∨ bitsB x = Q ∨ bitsB x = 0 ∨ W ≤ bitsB x
  · have : scaleB n x = 0 := if_pos hz
    rw [this]
    exact Nat.zero_le _
  · have hx : scaleB n x = scaleR n (bitsB x) := if_neg hz
    have c1 : n ≠ 0 := fun h => hz (.inl h)
    have c3 : bitsB x ≠ 0 := fun h => hz (.inr (.inr (.inl h)))
    have c4 : bitsB x < W := Nat.lt_of_not_le fun h => hz (.inr (.inr (.inr h)))
    have r1 : rankB (bitsB x) = bitsB x + W := if_neg (by omega)
    rw [r1, ey] at h
    have hyW : y < W := by
      rcases Nat.lt_or_ge y W with h1 | h1
      · exact h1
      · have r2 : rankB y = 18446744073709551615 - y := if_pos h1
        rw [r2] at h
        omega
    have r2 : rankB y = y + W := if_neg (by omega)
    rw [r2] at h
    have hyI : y ≤ I := by rw [Nat.mod_eq_of_lt hyW] at hn; omega
    have hz' : ¬ (n = 0 ∨ bitsB y = Q ∨ bitsB y = 0 ∨ W ≤ bitsB y) := by
      rw [ey]
      omega
    have hy2 : scaleB n y = scaleR n y := by
      unfold scaleB
      rw [if_neg hz', ey]
    rw [hx, hy2]
    exact scaleR_mono (by omega) hyI

theorem scaleB_one {k : Nat} (h : k < 2 * B) : scaleB k one = k := by
  have e : bitsB one = one := by decide
  by_cases h0 : k = 0
  · have : scaleB k one = 0 := if_pos (.inl h0)
    rw [this, h0]
  · have hz : ¬ (k = 0 ∨ bitsB one = Q ∨ bitsB one = 0 ∨ W ≤ bitsB one) := by
      rw [e]
      have a1 : one ≠ Q := by decide
      have a2 : one ≠ 0 := by decide
      have a3 : ¬ W ≤ one := by decide
      exact fun h => by rcases h with h | h | h | h <;> contradiction
    have : scaleB k one = scaleR k (bitsB one) := if_neg hz
    rw [this, e]
    exact scaleR_one h

theorem addN_comm (a b : Nat) : addN b a = addN a b := by
  unfold addN
  rw [Nat.add_comm]

theorem addN_le (a b : Nat) : addN a b ≤ 9223372036854775807 := by
  unfold addN
  split <;> omega
end Go.Proofs.YtfapajmbmgpipaaGreatDoor

/- The walks of the code's functions on bits and order. -/
namespace Go.Proofs.YtfapajmbmgpipaaGreatDoor
open Go.RowKit Fl

theorem isnan_is (b : Nat) (w : World) (v : Bool) (hb : b < 18446744073709551616) (hv : decide (I < b % W) = v) :
    Calls Tryz.prog 86 #[.float .f64 b] w fun e w' => e = .returned (.bool v) ∧ w = w' := by
  have e := self_order hb
  rw [hv] at e
  clear hv
  go_enter Tryz.func86, Tryz.ntmps86
  go_wp2
  go_ret
  exact ⟨rfl, rfl⟩

theorem and_high (b : Nat) (h : b < 18446744073709551616) : bits .and .u64 (b : Int) 9223372036854775808 = if W ≤ b then 9223372036854775808 else 0 := by
  have h1 := u64_and_nat b 9223372036854775808 h (by omega)
  have h2 : b &&& 9223372036854775808 = if W ≤ b then 9223372036854775808 else 0 := by
    have h4 : b.testBit 63 = decide (W ≤ b) := by
      rw [Nat.testBit_eq_decide_div_mod_eq, show (2 : Nat) ^ 63 = 9223372036854775808 by decide, decide_eq_decide]
      unfold W
      omega
    rw [show (9223372036854775808 : Nat) = 2 ^ 63 by decide]
    apply Nat.eq_of_testBit_eq
    intro i
    rw [Nat.testBit_and, Nat.testBit_two_pow]
    by_cases hi : i = 63
    · subst hi
      rw [h4]
      by_cases hw : W ≤ b
      · rw [if_pos hw, decide_eq_true hw, Nat.testBit_two_pow]; simp
      · rw [if_neg hw, decide_eq_false hw]; simp
    · rw [decide_eq_false (fun e => hi e.symm)]
      split
      · rw [Nat.testBit_two_pow, decide_eq_false (fun e => hi e.symm)]; simp
      · simp
  rw [h2] at h1
  have h5 : bits .and .u64 (b : Int) 9223372036854775808 = ((if W ≤ b then 9223372036854775808 else 0 : Nat) : Int) := h1
  rw [h5]
  split <;> rfl

theorem or_high (b : Nat) (h : b < W) : bits .or .u64 (b : Int) 9223372036854775808 = ((b + W : Nat) : Int) := by
  have h1 := u64_or_nat b 9223372036854775808 (by unfold W at h; omega) (by omega)
  have h2 := Nat.two_pow_add_eq_or_of_lt (i := 63) (b := b) (by rw [show (2 : Nat) ^ 63 = W by decide]; exact h) 1
  rw [show (2 : Nat) ^ 63 * 1 = 9223372036854775808 by decide, Nat.or_comm] at h2
  rw [← h2] at h1
  have h3 : bits .or .u64 (b : Int) 9223372036854775808 = ((9223372036854775808 + b : Nat) : Int) := h1
  rw [h3, Nat.add_comm]
  rfl

set_option maxRecDepth 100000 in
theorem bits_any (b : Nat) (w : World) (hb : b < 18446744073709551616) :
    Calls Tryz.prog 66 #[.float .f64 b] w fun e w' => e = .returned (.int .u64 (bitsB b : Nat)) ∧ w = w' := by
  have hx := run_bits
  by_cases h : I < b % W
  · have Hv := Lib.hid (isnan_is b w true hb (decide_eq_true h))
    have Hf := Lib.hid (show ((bitsB b : Nat) : Int) = 9221120237041090561 by unfold bitsB; rw [if_pos h]; rfl)
    clear h
    go_enter Tryz.func66, Tryz.ntmps66
    go_wp2_with fail
    refine Hv.out.mono ?_
    rintro e w' ⟨rfl, rfl⟩
    go_wp2
    go_ret
    exact ⟨ret_u64 Hf.out.symm, rfl⟩
  · have Hv := Lib.hid (isnan_is b w false hb (decide_eq_false h))
    have Hf := Lib.hid (show ((bitsB b : Nat) : Int) = (b : Int) by unfold bitsB; rw [if_neg h])
    clear h
    go_enter Tryz.func66, Tryz.ntmps66
    go_wp2_with fail
    refine Hv.out.mono ?_
    rintro e w' ⟨rfl, rfl⟩
    go_wp2
    go_ret
    exact ⟨ret_u64 Hf.out.symm, rfl⟩

theorem ofB_bits {b : Nat} : ofB b = if bitsB b = b then some b else none := by
  unfold ofB bitsB
  by_cases h : I < b % W
  · rw [if_pos h]
    by_cases hq : b = Q
    · rw [if_neg (fun h => h.2 hq), if_pos hq.symm]
    · rw [if_pos ⟨h, hq⟩, if_neg (fun e => hq e.symm)]
  · rw [if_neg h, if_neg (fun h2 => h h2.1), if_pos rfl]

set_option maxRecDepth 100000 in
theorem of_any (b : Nat) (w : World) (hb : b < 18446744073709551616) :
    Calls Tryz.prog 71 #[.int .u64 (b : Int)] w fun e w' => e = .returned (.tuple #[.float .f64 ((ofB b).getD 0), .bool (ofB b).isSome]) ∧ w = w' := by
  have hx := run_frombits b
  have H1 := Lib.hid (bits_any b w hb)
  by_cases h : bitsB b = b
  · have Hf := Lib.hid (show ofB b = some b by rw [ofB_bits, if_pos h])
    have hne : (((bitsB b : Nat) : Int) != (b : Int)) = false := by rw [h]; exact bne_self_eq_false _
    rw [Hf.out]
    clear h hb
    generalize bitsB b = x at *
    go_enter Tryz.func71, Tryz.ntmps71
    go_wp2_with fail
    refine H1.out.mono ?_
    rintro e w' ⟨rfl, rfl⟩
    go_wp2
    go_ret2
    exact ⟨rfl, rfl⟩
  · have Hf := Lib.hid (show ofB b = none by rw [ofB_bits, if_neg h])
    have hne : (((bitsB b : Nat) : Int) != (b : Int)) = true := by rw [bne_iff_ne]; omega
    rw [Hf.out]
    clear h hb
    generalize bitsB b = x at *
    go_enter Tryz.func71, Tryz.ntmps71
    go_wp2_with fail
    refine H1.out.mono ?_
    rintro e w' ⟨rfl, rfl⟩
    go_wp2
    go_ret2
    exact ⟨rfl, rfl⟩

theorem same_any (a b : Nat) (w : World) (ha : a < 18446744073709551616) (hb : b < 18446744073709551616) :
    Calls Tryz.prog 48 #[.float .f64 a, .float .f64 b] w fun e w' => e = .returned (.bool (decide (bitsB a = bitsB b))) ∧ w = w' := by
  have H1 := Lib.hid (bits_any a w ha)
  have H2 := Lib.hid (bits_any b w hb)
  clear ha hb
  generalize bitsB a = x at *
  generalize bitsB b = y at *
  go_enter Tryz.func48, Tryz.ntmps48
  go_wp2_with fail
  refine H1.out.mono ?_
  rintro e w' ⟨rfl, rfl⟩
  go_wp2_with fail
  refine H2.out.mono ?_
  rintro e w' ⟨rfl, rfl⟩
  go_wp2
  go_ret
  refine ⟨ret_bool ?_, rfl⟩
  rw [Bool.eq_iff_iff]
  simp
  omega

end Go.Proofs.YtfapajmbmgpipaaGreatDoor

