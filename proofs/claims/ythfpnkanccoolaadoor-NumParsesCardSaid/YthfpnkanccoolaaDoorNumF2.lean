/- The walk of the library's FormatUint at base 16: the digits. -/
import Derived.Test.YthfpnkanccoolaaDoorNumF
namespace Go.Proofs.YthfpnkanccoolaaDoor
open Go.RowKit Fl

theorem zero65 : Tryd.zeroCells86 = Array.replicate 65 (.int .u8 0) := by kernel_rfl

/-- The row of digits behind j rounds. -/
def fcell (x j p : Nat) : Value := if 65 ≤ p + j then .int .u8 (hexD (x / 16 ^ (64 - p) % 16) : Nat) else .int .u8 0

def FRel (x : Nat) (w : World) (u i : Value) (wr : World) : Prop :=
  ∃ j q : Nat, q + j = 65 ∧ j ≤ 15 ∧ i = .int .i64 (q : Int) ∧ u = .int .u64 ((x / 16 ^ j : Nat) : Int) ∧ wr.rowIs w.heap.size 86 65 (fcell x j) ∧ Below w.heap.size w wr

theorem fRel_start (x : Nat) (w : World) : FRel x w (.int .u64 (x : Int)) (.int .i64 65) (w.alloc (.cells Tryd.zeroCells86 86)) := by
  refine ⟨0, 65, rfl, by omega, rfl, by rw [Nat.pow_zero, Nat.div_one], ?_, (Below.refl _ _).alloc (Nat.le_refl _) _⟩
  have h := World.rowIs_alloc w Tryd.zeroCells86 86 (fun _ => .int .u8 0) (fun i hi => by
    rw [zero65] at hi ⊢
    rw [Array.size_replicate] at hi
    rw [Array.getElem?_replicate, if_pos hi])
  rw [zero65, Array.size_replicate] at h
  rw [zero65]
  exact h.congr (fun i hi => by unfold fcell; rw [if_neg (by omega)])

theorem fcell_set {x j p : Nat} (h : p + 1 + j = 65) (k : Nat) (hk : k < 65) : (if k = p then Value.int .u8 (hexD (x / 16 ^ j % 16) : Nat) else fcell x j k) = fcell x (j + 1) k := by
  unfold fcell
  by_cases e : k = p
  · subst e
    rw [if_pos rfl, if_pos (show 65 ≤ k + (j + 1) by omega), show 64 - k = j by omega]
  · rw [if_neg e]
    by_cases h2 : 65 ≤ k + j
    · rw [if_pos h2, if_pos (by omega)]
    · rw [if_neg h2, if_neg (by omega)]

theorem dig_all : ∀ d : Fin 16, ∀ h : d.val < (ByteArray.mk #[48, 49, 50, 51, 52, 53, 54, 55, 56, 57, 97, 98, 99, 100, 101, 102, 103, 104, 105, 106, 107, 108, 109, 110, 111, 112, 113, 114, 115, 116, 117, 118, 119, 120, 121, 122]).size, (((ByteArray.mk #[48, 49, 50, 51, 52, 53, 54, 55, 56, 57, 97, 98, 99, 100, 101, 102, 103, 104, 105, 106, 107, 108, 109, 110, 111, 112, 113, 114, 115, 116, 117, 118, 119, 120, 121, 122])[d.val]'h).toNat : Int) = (hexD d.val : Nat) := by decide +kernel

theorem dig_at {d : Nat} (hd : d < 16) (h : d < (ByteArray.mk #[48, 49, 50, 51, 52, 53, 54, 55, 56, 57, 97, 98, 99, 100, 101, 102, 103, 104, 105, 106, 107, 108, 109, 110, 111, 112, 113, 114, 115, 116, 117, 118, 119, 120, 121, 122]).size) : (((ByteArray.mk #[48, 49, 50, 51, 52, 53, 54, 55, 56, 57, 97, 98, 99, 100, 101, 102, 103, 104, 105, 106, 107, 108, 109, 110, 111, 112, 113, 114, 115, 116, 117, 118, 119, 120, 121, 122])[d]'h).toNat : Int) = (hexD d : Nat) := dig_all ⟨d, hd⟩ h

theorem slice65 (B p : Nat) (h : p < 65) (w : World) :
    (Instr.sliceAt 86 (.pointer (some ⟨B, 0, none⟩)) (some (.int .i64 (p : Int))) none none).run Tryd.prog w = .ok (.slice (some ⟨B, p, none⟩) (65 - p) (65 - p)) w := by
  have e := run_sliceAt_array_l (P := Tryd.prog) w 86 ⟨B, 0, none⟩ (by kernel_rfl) .i64 (p : Int) (by omega) (by rw [show Tryd.prog.arrayLen 86 = 65 by kernel_rfl]; omega)
  have es : (sizeOf (Tryd.prog.elem 86)).run Tryd.prog w = .ok 1 w := by kernel_rfl
  rw [e, es, show Tryd.prog.arrayLen 86 = 65 by kernel_rfl]
  show Result.ok (slicedAt ⟨B, 0, none⟩ (p : Int).toNat 65 65 1) w = _
  unfold slicedAt
  rw [if_neg (by omega), Int.toNat_natCast]
  simp [Addr.add]
  exact fun h => h.symm

theorem hexs_get (x n : Nat) : ∀ i, i < n → (hexs x n).getD i 0 = hexD (x / 2 ^ (4 * (15 - i)) % 16) := by
  induction n with
  | zero => intro i hi; omega
  | succ n ih =>
    intro i hi
    rw [hexs, List.getD_eq_getElem?_getD]
    rcases Nat.lt_or_eq_of_le (Nat.le_of_lt_succ hi) with h | h
    · rw [List.getElem?_append_left (by rw [hexs_len]; exact h), ← List.getD_eq_getElem?_getD]
      exact ih i h
    · subst h
      rw [List.getElem?_append_right (by rw [hexs_len]; exact Nat.le_refl _), hexs_len, Nat.sub_self]
      rfl

/-- The digits as bytes of a slice. -/
theorem digits_bytes {w : World} {B x j p : Nat} (hp : p + 1 + j = 65) (hj : j ≤ 15) (h : w.rowIs B 86 65 (fcell x (j + 1))) : Bytes w (some ⟨B, p, none⟩) (65 - p) (65 - p) ((hexs x 16).drop (16 - (j + 1))) := by
  refine ⟨by rw [List.length_drop, hexs_len]; omega, Nat.le_refl _, by omega, ?_, (fun h => by cases h), fun _ => ⟨B, p, rfl, fun i hi => ?_⟩⟩
  · intro c hc
    obtain ⟨k, hk, rfl⟩ := List.getElem_of_mem (List.mem_of_mem_drop hc)
    have hk2 : k < 16 := by rw [hexs_len] at hk; exact hk
    have e := hexs_get x 16 k hk2
    rw [List.getD_eq_getElem?_getD, List.getElem?_eq_getElem hk] at e
    have e2 : (hexs x 16)[k] = hexD (x / 2 ^ (4 * (15 - k)) % 16) := e
    have hm : x / 2 ^ (4 * (15 - k)) % 16 < 16 := Nat.mod_lt _ (by omega)
    have h5 : hexD (x / 2 ^ (4 * (15 - k)) % 16) < 256 := by
      unfold hexD
      split <;> omega
    rw [← e2] at h5
    exact h5
  · rw [h.cell (by omega)]
    unfold fcell
    rw [if_pos (by omega), List.getD_eq_getElem?_getD, List.getElem?_drop, ← List.getD_eq_getElem?_getD, hexs_get x 16 _ (by omega)]
    rw [show 64 - (p + i) = 15 - (16 - (j + 1) + i) by omega, show (16 : Nat) = 2 ^ 4 by decide, ← Nat.pow_mul]

set_option maxRecDepth 100000 in
set_option maxHeartbeats 1600000 in
theorem fbits_any (x : Nat) (w : World) (hx : x < 18446744073709551616) (ht : Tab16 w) :
    Calls Tryd.prog 54 #[.slice none 0 0, .int .u64 (x : Int), .int .i64 16, .bool false, .bool false] w fun e w' => (∃ m, 1 ≤ m ∧ m ≤ 16 ∧ x < 16 ^ m ∧ e = .returned (.tuple #[.slice none 0 0, .string (str ((hexs x 16).drop (16 - m)))])) ∧ Below w.heap.size w w' := by
  have HP := Lib.hid (fun w : World => pow2_any w)
  have HT := Lib.hid (fun w : World => tz_any w)
  have Ht := Lib.hid ht
  have Hst := Lib.hid (fRel_start x w)
  clear ht
  go_enter Tryd.func54, Tryd.ntmps54
  go_wp2_with fail
  refine (HP.out _).mono ?_
  rintro e w' ⟨rfl, rfl⟩
  go_wp2_with fail
  refine (HT.out _ ?_).mono ?_
  · have h := Ht.out
    unfold Tab16 at h ⊢
    rw [((Below.refl w.heap.size w).alloc (Nat.le_refl _) _).cell (World.block_lt_of_cell? _ _ h)]
    exact h
  rintro e w' ⟨rfl, rfl⟩
  go_wp2
  go_loopw [1, 13] (fun u i wr => FRel x w u i wr) (fun _ i _ => (intOf i).toNat)
  case atStart => exact Hst.out
  case round =>
    obtain ⟨j, q, hqj, hj, rfl, rfl, hrow, hbel⟩ := hrel
    obtain ⟨p, rfl⟩ : ∃ p, q = p + 1 := ⟨q - 1, by omega⟩
    have hult : x / 16 ^ j < 18446744073709551616 := Nat.lt_of_le_of_lt (Nat.div_le_self _ _) hx
    have Hn := Lib.hid (show x / 16 ^ j / 16 = x / 16 ^ (j + 1) by rw [Nat.div_div_eq_div_mul, ← Nat.pow_succ])
    have Hset := Lib.hid (fun k hk => fcell_set (x := x) hqj k hk)
    have Hp := Lib.hid (hrow.cell (show p < 65 by omega))
    have Hz := Lib.hid (hrow.frozen p)
    have hp65 : p < 65 := by omega
    generalize fcell x j p = old at *
    generalize hU : x / 16 ^ j = u at *
    by_cases h16 : 16 ≤ u
    · have ha := and15 hult
      have hd : u % 16 < 16 := Nat.mod_lt _ (by omega)
      have hdig := dig_at hd
      have hcell := Hp.out
      have hfz := Hz.out
      have hj2 : j < 15 := by
        rcases Nat.lt_or_eq_of_le hj with h | h
        · exact h
        · rw [h] at hU
          have : x / 16 ^ 15 < 16 := Nat.div_lt_of_lt_mul (by omega)
          omega
      have Hset2 := Lib.hid (show ∀ k, k < 65 → (if k = p then Value.int .u8 (hexD (u % 16) : Nat) else fcell x j k) = fcell x (j + 1) k by
        intro k hk
        have h := Hset.out k hk
        exact h)
      clear hU hx Hset
      generalize u % 16 = d at *
      go_wp2
      go_round
      case rel =>
        refine ⟨j + 1, p, by omega, by omega, rfl, congrArg (Value.int .u64) (congrArg Nat.cast Hn.out), ?_, hbel.setCell (Nat.le_refl _) _⟩
        exact (hrow.set p _).congr (fun k hk => Hset2.out k hk)
      case measure => simp [intOf]
    · have hd : u < 16 := by omega
      have hdig := dig_at hd
      have hcell := Hp.out
      have hfz := Hz.out
      have hsl := slice65 w.heap.size p hp65
      have Hset2 := Lib.hid (show ∀ k, k < 65 → (if k = p then Value.int .u8 (hexD u : Nat) else fcell x j k) = fcell x (j + 1) k by
        intro k hk
        have h := Hset.out k hk
        rw [Nat.mod_eq_of_lt hd] at h
        exact h)
      have hrow2 := (hrow.set p (.int .u8 (hexD u : Nat))).congr (fun k hk => Hset2.out k hk)
      have hby := digits_bytes (by omega) hj hrow2
      have hconv := convert_bytes hby 56 5 9 Tryd.underlying56 Tryd.underlying5 Tryd.underlying9
      have Hlast := Lib.hid (show x < 16 ^ (j + 1) by
        rw [← hU] at hd
        have h := (Nat.div_lt_iff_lt_mul (Nat.pow_pos (by omega))).1 hd
        rw [Nat.pow_succ, Nat.mul_comm]
        exact h)
      have Hbel := Lib.hid (hbel.setCell (show w.heap.size ≤ (Addr.mk w.heap.size p none).block from Nat.le_refl _) (.int .u8 (hexD u : Nat)))
      clear hx hU Hset Hset2 hrow2 hby
      go_wp2
      go_ret2
      exact ⟨⟨j + 1, by omega, by omega, Hlast.out, by rw [show 16 - (j + 1) = 15 - j by omega]; rfl⟩, Hbel.out⟩
end Go.Proofs.YthfpnkanccoolaaDoor
