import Derived.Test.YtcapbaocchaenaaGreatDoorSG15
import Derived.Deep.OwnRows
import Derived.Test.YtcapbaocchaenaaGreatDoorSG8
import Derived.Maps.OwnOps
import Derived.Maps.StringElems
import Derived.Test.YtcapbaocchaenaaGreatDoorShelf
import Derived.Lib.Repeat
import Derived.Test.YtcapbaocchaenaaGreatDoorSG12
import Derived.Lib.LaidTab
import Derived.Sort.Grow
import Derived.Lib.ItoaNum
import Derived.Test.YtcapbaocchaenaaGreatDoorSG1
/- The walk of the library's FormatUint at base 16. -/
namespace Go.Proofs.YtcapbaocchaenaaGreatDoor
open Go.RowKit Fl

/-- The one place of the library's table that base 16 asks for. -/
def Tab16 (w : World) : Prop := w.cell? ⟨3, 15, none⟩ = some (.int .u8 4)

theorem tz64_any (w : World) (ht : Tab16 w) :
    Calls Tryz.prog 167 #[.int .u64 16] w fun e w' => e = .returned (.int .i64 4) ∧ w = w' := by
  have hc := ht
  unfold Tab16 at hc
  have e0 : bits .and .u64 16 (IntKind.u64.wrap (-16)) = 16 := by decide +kernel
  have e1 : bits .and .u64 16 18446744073709551600 = 16 := by decide +kernel
  have e2 : IntKind.u64.wrap (16 * 285870213051353865) = 4573923408821661840 := by decide +kernel
  have e3 : IntKind.u64.wrap 4573923408821661840 = 4573923408821661840 := by decide +kernel
  go_enter Tryz.func167, Tryz.ntmps167
  go_wp2
  go_ret
  exact ⟨rfl, rfl⟩

theorem tz_any (w : World) (ht : Tab16 w) :
    Calls Tryz.prog 151 #[.int .u64 16] w fun e w' => e = .returned (.int .i64 4) ∧ w = w' := by
  have H := Lib.hid (tz64_any w ht)
  go_enter Tryz.func151, Tryz.ntmps151
  go_wp2_with fail
  refine H.out.mono ?_
  rintro e w' ⟨rfl, rfl⟩
  go_wp2
  go_ret
  exact ⟨rfl, rfl⟩

theorem pow2_any (w : World) :
    Calls Tryz.prog 150 #[.int .i64 16] w fun e w' => e = .returned (.bool true) ∧ w = w' := by
  have e1 : bits .and .i64 16 15 = 0 := by decide +kernel
  go_enter Tryz.func150, Tryz.ntmps150
  go_wp2
  go_ret
  exact ⟨rfl, rfl⟩
end Go.Proofs.YtcapbaocchaenaaGreatDoor

/- The walk of the library's FormatUint at base 16: the digits. -/
namespace Go.Proofs.YtcapbaocchaenaaGreatDoor
open Go.RowKit Fl

theorem zero65 : Tryz.zeroCells152 = Array.replicate 65 (.int .u8 0) := by kernel_rfl

/-- The row of digits behind j rounds. -/
def fcell (x j p : Nat) : Value := if 65 ≤ p + j then .int .u8 (hexD (x / 16 ^ (64 - p) % 16) : Nat) else .int .u8 0

def FRel (x : Nat) (w : World) (u i : Value) (wr : World) : Prop :=
  ∃ j q : Nat, q + j = 65 ∧ j ≤ 15 ∧ i = .int .i64 (q : Int) ∧ u = .int .u64 ((x / 16 ^ j : Nat) : Int) ∧ wr.rowIs w.heap.size 152 65 (fcell x j) ∧ Below w.heap.size w wr

theorem fRel_start (x : Nat) (w : World) : FRel x w (.int .u64 (x : Int)) (.int .i64 65) (w.alloc (.cells Tryz.zeroCells152 152)) := by
  refine ⟨0, 65, rfl, by omega, rfl, by rw [Nat.pow_zero, Nat.div_one], ?_, (Below.refl _ _).alloc (Nat.le_refl _) _⟩
  have h := World.rowIs_alloc w Tryz.zeroCells152 152 (fun _ => .int .u8 0) (fun i hi => by
    rw [zero65] at hi ⊢
    rw [Array.size_replicate] at hi
    rw [Array.getElem?_replicate, if_pos hi])
  rw [zero65, Array.size_replicate] at h
  rw [zero65]
  exact h.congr (fun i hi => by unfold fcell; rw [if_neg (by omega)])

theorem fcell_set {x j p : Nat} (h : p + 1 + j = 65) (k : Nat) (hk : k < 65) : (if k = p then Value.int .u8 (hexD (x / 16 ^ j % 16) : Nat) else fcell x j k) = fcell x (j + 1) k := by
  unfold fcell
  by_cases e : k = p
  · subst e
    rw [if_pos rfl, if_pos (show 65 ≤ k + (j + 1) by omega), show 64 - k = j by omega]
  · rw [if_neg e]
    by_cases h2 : 65 ≤ k + j
    · rw [if_pos h2, if_pos (by omega)]
    · rw [if_neg h2, if_neg (by omega)]

theorem dig_all : ∀ d : Fin 16, ∀ h : d.val < (ByteArray.mk #[48, 49, 50, 51, 52, 53, 54, 55, 56, 57, 97, 98, 99, 100, 101, 102, 103, 104, 105, 106, 107, 108, 109, 110, 111, 112, 113, 114, 115, 116, 117, 118, 119, 120, 121, 122]).size, (((ByteArray.mk #[48, 49, 50, 51, 52, 53, 54, 55, 56, 57, 97, 98, 99, 100, 101, 102, 103, 104, 105, 106, 107, 108, 109, 110, 111, 112, 113, 114, 115, 116, 117, 118, 119, 120, 121, 122])[d.val]'h).toNat : Int) = (hexD d.val : Nat) := by decide +kernel

theorem dig_at {d : Nat} (hd : d < 16) (h : d < (ByteArray.mk #[48, 49, 50, 51, 52, 53, 54, 55, 56, 57, 97, 98, 99, 100, 101, 102, 103, 104, 105, 106, 107, 108, 109, 110, 111, 112, 113, 114, 115, 116, 117, 118, 119, 120, 121, 122]).size) : (((ByteArray.mk #[48, 49, 50, 51, 52, 53, 54, 55, 56, 57, 97, 98, 99, 100, 101, 102, 103, 104, 105, 106, 107, 108, 109, 110, 111, 112, 113, 114, 115, 116, 117, 118, 119, 120, 121, 122])[d]'h).toNat : Int) = (hexD d : Nat) := dig_all ⟨d, hd⟩ h

theorem slice65 (B p : Nat) (h : p < 65) (w : World) :
    (Instr.sliceAt 152 (.pointer (some ⟨B, 0, none⟩)) (some (.int .i64 (p : Int))) none none).run Tryz.prog w = .ok (.slice (some ⟨B, p, none⟩) (65 - p) (65 - p)) w := by
  have e := run_sliceAt_array_l (P := Tryz.prog) w 152 ⟨B, 0, none⟩ (by kernel_rfl) .i64 (p : Int) (by omega) (by rw [show Tryz.prog.arrayLen 152 = 65 by kernel_rfl]; omega)
  have es : (sizeOf (Tryz.prog.elem 152)).run Tryz.prog w = .ok 1 w := by kernel_rfl
  rw [e, es, show Tryz.prog.arrayLen 152 = 65 by kernel_rfl]
  show Result.ok (slicedAt ⟨B, 0, none⟩ (p : Int).toNat 65 65 1) w = _
  unfold slicedAt
  rw [if_neg (by omega), Int.toNat_natCast]
  simp [Addr.add]
  exact fun h => h.symm

theorem hexs_get (x n : Nat) : ∀ i, i < n → (hexs x n).getD i 0 = hexD (x / 2 ^ (4 * (15 - i)) % 16) := by
  induction n with
  | zero => intro i hi; omega
  | succ n ih =>
    intro i hi
    rw [hexs, List.getD_eq_getElem?_getD]
    rcases Nat.lt_or_eq_of_le (Nat.le_of_lt_succ hi) with h | h
    · rw [List.getElem?_append_left (by rw [hexs_len]; exact h), ← List.getD_eq_getElem?_getD]
      exact ih i h
    · subst h
      rw [List.getElem?_append_right (by rw [hexs_len]; exact Nat.le_refl _), hexs_len, Nat.sub_self]
      rfl

/-- The digits as bytes of a slice. -/
theorem digits_bytes {w : World} {B x j p : Nat} (hp : p + 1 + j = 65) (hj : j ≤ 15) (h : w.rowIs B 152 65 (fcell x (j + 1))) : Bytes w (some ⟨B, p, none⟩) (65 - p) (65 - p) ((hexs x 16).drop (16 - (j + 1))) := by
  refine ⟨by rw [List.length_drop, hexs_len]; omega, Nat.le_refl _, by omega, ?_, (fun h => by cases h), fun _ => ⟨B, p, rfl, fun i hi => ?_⟩⟩
  · intro c hc
    obtain ⟨k, hk, rfl⟩ := List.getElem_of_mem (List.mem_of_mem_drop hc)
    have hk2 : k < 16 := by rw [hexs_len] at hk; exact hk
    have e := hexs_get x 16 k hk2
    rw [List.getD_eq_getElem?_getD, List.getElem?_eq_getElem hk] at e
    have e2 : (hexs x 16)[k] = hexD (x / 2 ^ (4 * (15 - k)) % 16) := e
    have hm : x / 2 ^ (4 * (15 - k)) % 16 < 16 := Nat.mod_lt _ (by omega)
    have h5 : hexD (x / 2 ^ (4 * (15 - k)) % 16) < 256 := by
      unfold hexD
      split <;> omega
    rw [← e2] at h5
    exact h5
  · rw [h.cell (by omega)]
    unfold fcell
    rw [if_pos (by omega), List.getD_eq_getElem?_getD, List.getElem?_drop, ← List.getD_eq_getElem?_getD, hexs_get x 16 _ (by omega)]
    rw [show 64 - (p + i) = 15 - (16 - (j + 1) + i) by omega, show (16 : Nat) = 2 ^ 4 by decide, ← Nat.pow_mul]

set_option maxRecDepth 100000 in
set_option maxHeartbeats 1600000 in
theorem fbits_any (x : Nat) (w : World) (hx : x < 18446744073709551616) (ht : Tab16 w) :
    Calls Tryz.prog 95 #[.slice none 0 0, .int .u64 (x : Int), .int .i64 16, .bool false, .bool false] w fun e w' => (∃ m, 1 ≤ m ∧ m ≤ 16 ∧ x < 16 ^ m ∧ e = .returned (.tuple #[.slice none 0 0, .string (str ((hexs x 16).drop (16 - m)))])) ∧ Below w.heap.size w w' := by
  have HP := Lib.hid (fun w : World => pow2_any w)
  have HT := Lib.hid (fun w : World => tz_any w)
  have Ht := Lib.hid ht
  have Hst := Lib.hid (fRel_start x w)
  clear ht
  go_enter Tryz.func95, Tryz.ntmps95
  go_wp2_with fail
  refine (HP.out _).mono ?_
  rintro e w' ⟨rfl, rfl⟩
  go_wp2_with fail
  refine (HT.out _ ?_).mono ?_
  · have h := Ht.out
    unfold Tab16 at h ⊢
    rw [((Below.refl w.heap.size w).alloc (Nat.le_refl _) _).cell (World.block_lt_of_cell? _ _ h)]
    exact h
  rintro e w' ⟨rfl, rfl⟩
  go_wp2
  go_loopw [1, 13] (fun u i wr => FRel x w u i wr) (fun _ i _ => (intOf i).toNat)
  case atStart => exact Hst.out
  case round =>
    obtain ⟨j, q, hqj, hj, rfl, rfl, hrow, hbel⟩ := hrel
    obtain ⟨p, rfl⟩ : ∃ p, q = p + 1 := ⟨q - 1, by omega⟩
    have hult : x / 16 ^ j < 18446744073709551616 := Nat.lt_of_le_of_lt (Nat.div_le_self _ _) hx
    have Hn := Lib.hid (show x / 16 ^ j / 16 = x / 16 ^ (j + 1) by rw [Nat.div_div_eq_div_mul, ← Nat.pow_succ])
    have Hset := Lib.hid (fun k hk => fcell_set (x := x) hqj k hk)
    have Hp := Lib.hid (hrow.cell (show p < 65 by omega))
    have Hz := Lib.hid (hrow.frozen p)
    have hp65 : p < 65 := by omega
    generalize fcell x j p = old at *
    generalize hU : x / 16 ^ j = u at *
    by_cases h16 : 16 ≤ u
    · have ha := and15 hult
      have hd : u % 16 < 16 := Nat.mod_lt _ (by omega)
      have hdig := dig_at hd
      have hcell := Hp.out
      have hfz := Hz.out
      have hj2 : j < 15 := by
        rcases Nat.lt_or_eq_of_le hj with h | h
        · exact h
        · rw [h] at hU
          have : x / 16 ^ 15 < 16 := Nat.div_lt_of_lt_mul (by omega)
          omega
      have Hset2 := Lib.hid (show ∀ k, k < 65 → (if k = p then Value.int .u8 (hexD (u % 16) : Nat) else fcell x j k) = fcell x (j + 1) k by
        intro k hk
        have h := Hset.out k hk
        exact h)
      clear hU hx Hset
      generalize u % 16 = d at *
      go_wp2
      go_round
      case rel =>
        refine ⟨j + 1, p, by omega, by omega, rfl, congrArg (Value.int .u64) (congrArg Nat.cast Hn.out), ?_, hbel.setCell (Nat.le_refl _) _⟩
        exact (hrow.set p _).congr (fun k hk => Hset2.out k hk)
      case measure => simp [intOf]
    · have hd : u < 16 := by omega
      have hdig := dig_at hd
      have hcell := Hp.out
      have hfz := Hz.out
      have hsl := slice65 w.heap.size p hp65
      have Hset2 := Lib.hid (show ∀ k, k < 65 → (if k = p then Value.int .u8 (hexD u : Nat) else fcell x j k) = fcell x (j + 1) k by
        intro k hk
        have h := Hset.out k hk
        rw [Nat.mod_eq_of_lt hd] at h
        exact h)
      have hrow2 := (hrow.set p (.int .u8 (hexD u : Nat))).congr (fun k hk => Hset2.out k hk)
      have hby := digits_bytes (by omega) hj hrow2
      have hconv := convert_bytes hby 28 5 9 Tryz.underlying28 Tryz.underlying5 Tryz.underlying9
      have Hlast := Lib.hid (show x < 16 ^ (j + 1) by
        rw [← hU] at hd
        have h := (Nat.div_lt_iff_lt_mul (Nat.pow_pos (by omega))).1 hd
        rw [Nat.pow_succ, Nat.mul_comm]
        exact h)
      have Hbel := Lib.hid (hbel.setCell (show w.heap.size ≤ (Addr.mk w.heap.size p none).block from Nat.le_refl _) (.int .u8 (hexD u : Nat)))
      clear hx hU Hset Hset2 hrow2 hby
      go_wp2
      go_ret2
      exact ⟨⟨j + 1, by omega, by omega, Hlast.out, by rw [show 16 - (j + 1) = 15 - j by omega]; rfl⟩, Hbel.out⟩
end Go.Proofs.YtcapbaocchaenaaGreatDoor

/- The walks of the code's words and word. -/
namespace Go.Proofs.YtcapbaocchaenaaGreatDoor
open Go.RowKit Go.Maps Fl

theorem mapKey : Keyed Tryz.prog 22 := int_keyed Tryz.underlying22

/-- What the map of the words holds. -/
def wordsD : DataW Unit := ((((DataW.map []).put (.int .u64 9221120237041090561) (.lit (.string [110, 97, 110]))).put (.int .u64 9218868437227405312) (.lit (.string [105, 110, 102]))).put (.int .u64 0) (.lit (.string [48])))

def OwnsWords (w : World) (b : Nat) : Prop := w.ownsMap Tryz.prog 22 (plainElem (H := Unit) Tryz.prog 9) b 3 wordsD

set_option maxRecDepth 100000 in
theorem words_any (w : World) :
    Calls Tryz.prog 214 #[] w fun e w' => (∃ b, e = .returned (.map (some b)) ∧ OwnsWords w' b ∧ w.heap.size ≤ b) ∧ Below w.heap.size w w' := by
  have hmm := @run_makeMap Tryz.prog
  have h0 := World.ownsMap_made (H := Unit) w Tryz.prog 22 (plainElem (H := Unit) Tryz.prog 9)
  obtain ⟨w1, r1, h1, g1⟩ := h0.update (key := .int .u64 9221120237041090561) (val := .string ⟨#[110, 97, 110]⟩) mapKey Tryz.underlying193 (by decide) (keyOf_int_mk Tryz.underlying22 (by decide)) (plainElem_string Tryz.underlying9 (by decide))
  obtain ⟨w2, r2, h2, g2⟩ := h1.update (key := .int .u64 9218868437227405312) (val := .string ⟨#[105, 110, 102]⟩) mapKey Tryz.underlying193 (by decide) (keyOf_int_mk Tryz.underlying22 (by decide)) (plainElem_string Tryz.underlying9 (by decide))
  obtain ⟨w3, r3, h3, g3⟩ := h2.update (key := .int .u64 0) (val := .string ⟨#[48]⟩) mapKey Tryz.underlying193 (by decide) (keyOf_int_mk Tryz.underlying22 (by decide)) (plainElem_string Tryz.underlying9 (by decide))
  have Hend := Lib.hid h3
  have b0 : Below w.heap.size w (w.alloc (.map #[] 0)) := (Below.refl _ _).alloc (Nat.le_refl _) _
  have Hb := Lib.hid (((b0.grown g1 b0.size (fun j hj => by cases hj; exact Nat.le_refl _)).grown g2 (b0.grown g1 b0.size (fun j hj => by cases hj; exact Nat.le_refl _)).size (fun j hj => by cases hj; exact Nat.le_refl _)).grown g3 ((b0.grown g1 b0.size (fun j hj => by cases hj; exact Nat.le_refl _)).grown g2 (b0.grown g1 b0.size (fun j hj => by cases hj; exact Nat.le_refl _)).size (fun j hj => by cases hj; exact Nat.le_refl _)).size (fun j hj => by cases hj; exact Nat.le_refl _))
  clear h0 h1 h2 h3 g1 g2 g3 b0
  go_enter Tryz.func214, Tryz.ntmps214
  go_wp2
  go_ret
  exact ⟨⟨w.heap.size, rfl, Hend.out, Nat.le_refl _⟩, Hb.out⟩

set_option maxRecDepth 100000 in
theorem words_at {w : World} {b : Nat} (h : OwnsWords w b) (k : Int) (l : List UInt8) (hk : (Lit.int .u64 k).wf = true) (hl : wordsD.atKey (.int .u64 k) (.lit (.string [])) = .lit (.string l)) :
    (Instr.lookup 193 (.map (some b)) (.int .u64 k) false).run Tryz.prog w = .ok (.string ⟨l.toArray⟩) w := by
  have hz : (zeroValue 9).run Tryz.prog w = .ok (.string ⟨#[]⟩) w := by kernel_rfl
  obtain ⟨v, ps, hrun, hv⟩ := World.ownsMap.lookup (H := Unit) h mapKey Tryz.underlying193 hz (plainElem_string (H := Unit) (s := ⟨#[]⟩) Tryz.underlying9 (by decide)) (key := .int .u64 k) (keyOf_int_mk Tryz.underlying22 hk)
  obtain ⟨s, rfl, hs, _⟩ := plainElem_string_inv Tryz.underlying9 hv
  have h1 : wordsD.atKey (.int .u64 k) (.lit (.string [])) = .lit (.string s.data.toList) := congrArg Prod.fst hs
  have h1 := hl.symm.trans h1
  have h2 : l = s.data.toList := Lit.string.inj (DataW.lit.inj h1)
  rw [hrun, h2]

/-- What word answers. -/
def wordL (x : Nat) : List Nat := if x ∈ special then textL x else []

theorem word_key (w : World) (b : Nat) (h : OwnsWords w b) :
    (Instr.lookup 193 (.map (some b)) (.int .u64 9221120237041090561) false).run Tryz.prog w = .ok (.string ⟨#[110, 97, 110]⟩) w ∧
    (Instr.lookup 193 (.map (some b)) (.int .u64 9218868437227405312) false).run Tryz.prog w = .ok (.string ⟨#[105, 110, 102]⟩) w ∧
    (Instr.lookup 193 (.map (some b)) (.int .u64 0) false).run Tryz.prog w = .ok (.string ⟨#[48]⟩) w :=
  ⟨words_at h _ _ (by decide) rfl, words_at h _ _ (by decide) rfl, words_at h _ _ (by decide) rfl⟩

set_option maxRecDepth 100000 in
set_option maxHeartbeats 800000 in
theorem word_any (x : Nat) (w : World) (hx : x < 18446744073709551616) :
    Calls Tryz.prog 212 #[.int .u64 (x : Int)] w fun e w' => e = .returned (.string (str (wordL x))) ∧ Below w.heap.size w w' := by
  have HW := Lib.hid (words_any w)
  by_cases hs : x ∈ special
  · have Hl := Lib.hid (show wordL x = textL x from if_pos hs)
    rcases textL_special hs with ⟨rfl, ht⟩ | ⟨rfl, ht⟩ | ⟨rfl, ht⟩ | ⟨rfl, ht⟩ | ⟨rfl, ht⟩
    · have Ht := Lib.hid ht
      clear hs ht hx
      rw [show ((Q : Nat) : Int) = 9221120237041090561 from rfl]
      go_enter Tryz.func212, Tryz.ntmps212
      go_wp2_with fail
      refine HW.out.mono ?_
      rintro e w' ⟨⟨b, rfl, hown, _⟩, hbel⟩
      obtain ⟨k1, k2, k3⟩ := word_key w' b hown
      go_wp2
      go_ret
      exact ⟨by rw [Hl.out, Ht.out]; rfl, hbel⟩
    · have Ht := Lib.hid ht
      clear hs ht hx
      rw [show ((I : Nat) : Int) = 9218868437227405312 from rfl]
      go_enter Tryz.func212, Tryz.ntmps212
      go_wp2_with fail
      refine HW.out.mono ?_
      rintro e w' ⟨⟨b, rfl, hown, _⟩, hbel⟩
      obtain ⟨k1, k2, k3⟩ := word_key w' b hown
      go_wp2
      go_ret
      exact ⟨by rw [Hl.out, Ht.out]; rfl, hbel⟩
    · have Ht := Lib.hid ht
      have e1 : bits .andNot .u64 18442240474082181120 9223372036854775808 = 9218868437227405312 := by decide +kernel
      clear hs ht hx
      rw [show ((W + I : Nat) : Int) = 18442240474082181120 from rfl]
      go_enter Tryz.func212, Tryz.ntmps212
      go_wp2_with fail
      refine HW.out.mono ?_
      rintro e w' ⟨⟨b, rfl, hown, _⟩, hbel⟩
      obtain ⟨k1, k2, k3⟩ := word_key w' b hown
      go_wp2
      go_ret
      exact ⟨by rw [Hl.out, Ht.out]; rfl, hbel⟩
    · have Ht := Lib.hid ht
      clear hs ht hx
      rw [show ((0 : Nat) : Int) = 0 from rfl]
      go_enter Tryz.func212, Tryz.ntmps212
      go_wp2_with fail
      refine HW.out.mono ?_
      rintro e w' ⟨⟨b, rfl, hown, _⟩, hbel⟩
      obtain ⟨k1, k2, k3⟩ := word_key w' b hown
      go_wp2
      go_ret
      exact ⟨by rw [Hl.out, Ht.out]; rfl, hbel⟩
    · have Ht := Lib.hid ht
      have e1 : bits .andNot .u64 9223372036854775808 9223372036854775808 = 0 := by decide +kernel
      clear hs ht hx
      rw [show ((W : Nat) : Int) = 9223372036854775808 from rfl]
      go_enter Tryz.func212, Tryz.ntmps212
      go_wp2_with fail
      refine HW.out.mono ?_
      rintro e w' ⟨⟨b, rfl, hown, _⟩, hbel⟩
      obtain ⟨k1, k2, k3⟩ := word_key w' b hown
      go_wp2
      go_ret
      exact ⟨by rw [Hl.out, Ht.out]; rfl, hbel⟩
  · have Hl := Lib.hid (show wordL x = [] from if_neg hs)
    have hn : x ≠ Q ∧ x ≠ I ∧ x ≠ W + I ∧ x ≠ 0 ∧ x ≠ W := by
      unfold special at hs
      simpa using hs
    obtain ⟨n1, n2, n3, n4, n5⟩ := hn
    have d1 : ((x : Int) == 9221120237041090561) = false := beq_eq_false_iff_ne.2 (by unfold Q at n1; omega)
    have d2 : ((x : Int) == 9218868437227405312) = false := beq_eq_false_iff_ne.2 (by unfold I at n2; omega)
    have d3 : ((x : Int) == 18442240474082181120) = false := beq_eq_false_iff_ne.2 (by unfold W I at n3; omega)
    have d4 : ((x : Int) == 0) = false := beq_eq_false_iff_ne.2 (by omega)
    have d5 : ((x : Int) == 9223372036854775808) = false := beq_eq_false_iff_ne.2 (by unfold W at n5; omega)
    clear hs n1 n2 n3 n4 n5
    go_enter Tryz.func212, Tryz.ntmps212
    go_wp2
    go_ret
    exact ⟨by rw [Hl.out]; rfl, Below.refl _ _⟩
end Go.Proofs.YtcapbaocchaenaaGreatDoor

/- The walk of the code's Text. -/
namespace Go.Proofs.YtcapbaocchaenaaGreatDoor
open Go.RowKit Fl

set_option maxRecDepth 100000 in
theorem ifmt_any (x : Nat) (w : World) (hx : x < 18446744073709551616) (ht : Tab16 w) :
    Calls Tryz.prog 60 #[.int .u64 (x : Int), .int .i64 16] w fun e w' => (∃ m, 1 ≤ m ∧ m ≤ 16 ∧ x < 16 ^ m ∧ e = .returned (.string (str ((hexs x 16).drop (16 - m))))) ∧ Below w.heap.size w w' := by
  have H := Lib.hid (fbits_any x w hx ht)
  clear hx ht
  go_enter Tryz.func60, Tryz.ntmps60
  go_wp2_with fail
  refine H.out.mono ?_
  rintro e w' ⟨⟨m, h1, h2, h3, rfl⟩, hb⟩
  have Hm := Lib.hid (And.intro h1 (And.intro h2 h3))
  generalize hs : str ((hexs x 16).drop (16 - m)) = s
  have Hs := Lib.hid hs
  clear h1 h2 h3 hs
  go_wp2
  go_ret
  exact ⟨⟨m, Hm.out.1, Hm.out.2.1, Hm.out.2.2, by rw [Hs.out]; rfl⟩, hb⟩

theorem fmt_any (x : Nat) (w : World) (hx : x < 18446744073709551616) (ht : Tab16 w) :
    Calls Tryz.prog 32 #[.int .u64 (x : Int), .int .i64 16] w fun e w' => (∃ m, 1 ≤ m ∧ m ≤ 16 ∧ x < 16 ^ m ∧ e = .returned (.string (str ((hexs x 16).drop (16 - m))))) ∧ Below w.heap.size w w' := by
  have H := Lib.hid (ifmt_any x w hx ht)
  clear hx ht
  go_enter Tryz.func32, Tryz.ntmps32
  go_wp2_with fail
  refine H.out.mono ?_
  rintro e w' ⟨⟨m, h1, h2, h3, rfl⟩, hb⟩
  have Hm := Lib.hid (And.intro h1 (And.intro h2 h3))
  generalize hs : str ((hexs x 16).drop (16 - m)) = s
  have Hs := Lib.hid hs
  clear h1 h2 h3 hs
  go_wp2
  go_ret
  exact ⟨⟨m, Hm.out.1, Hm.out.2.1, Hm.out.2.2, by rw [Hs.out]; rfl⟩, hb⟩

/-- The leading digits of a small number are 0. -/
theorem hexs_low {x m : Nat} (hm : m ≤ 16) (h : x < 16 ^ m) : hexs x 16 = List.replicate (16 - m) 48 ++ (hexs x 16).drop (16 - m) := by
  have e : (hexs x 16).take (16 - m) = List.replicate (16 - m) 48 := by
    apply List.ext_getElem
    · rw [List.length_take, hexs_len, List.length_replicate]; omega
    · intro i h1 h2
      rw [List.length_replicate] at h2
      rw [List.getElem_replicate, List.getElem_take]
      have e1 := hexs_get x 16 i (by omega)
      rw [List.getD_eq_getElem?_getD, List.getElem?_eq_getElem (by rw [hexs_len]; omega)] at e1
      have e2 : (hexs x 16)[i]'(by rw [hexs_len]; omega) = hexD (x / 2 ^ (4 * (15 - i)) % 16) := e1
      have h3 : x / 2 ^ (4 * (15 - i)) = 0 := by
        apply Nat.div_eq_of_lt
        have h4 : (16 : Nat) ^ m ≤ 2 ^ (4 * (15 - i)) := by
          rw [show (16 : Nat) = 2 ^ 4 by decide, ← Nat.pow_mul]
          exact Nat.pow_le_pow_right (by omega) (by omega)
        omega
      rw [h3] at e2
      exact e2
  conv => lhs; rw [← List.take_append_drop (16 - m) (hexs x 16), e]

theorem rep_str (c : Nat) : (⟨(Lib.repeatL (⟨#[48]⟩ : ByteArray).data.toList c).toArray⟩ : ByteArray) = str (List.replicate c 48) := by
  unfold str
  congr 2
  induction c with
  | zero => rfl
  | succ c ih =>
    rw [List.replicate_succ, List.map_cons, ← ih]
    rfl

theorem rep_any (m : Nat) (hm : m ≤ 16) (w : World) :
    Calls Tryz.prog 213 #[.string ⟨#[48]⟩, .int .i64 (16 - (m : Int))] w fun e w' => e = .returned (.string (str (List.replicate (16 - m) 48))) ∧ Below w.heap.size w w' := by
  have h := Tryz.strings_Repeat ⟨#[48]⟩ (16 - m) w (by omega) (by show 1 * (16 - m) ≤ _; omega)
  rw [rep_str] at h
  rw [show (16 - (m : Int)) = ((16 - m : Nat) : Int) by omega]
  exact h

theorem textL_ne {x : Nat} (h : x ∈ special) : textL x ≠ [] := by
  rcases textL_special h with ⟨_, t⟩ | ⟨_, t⟩ | ⟨_, t⟩ | ⟨_, t⟩ | ⟨_, t⟩ <;> (rw [t]; simp)

set_option maxRecDepth 100000 in
set_option maxHeartbeats 800000 in
theorem text_any (b : Nat) (w : World) (hb : b < 18446744073709551616) (ht : Tab16 w) :
    Calls Tryz.prog 211 #[.float .f64 b] w fun e w' => e = .returned (.string (str (textL (bitsB b)))) ∧ Below w.heap.size w w' := by
  have H1 := Lib.hid (bits_any b w hb)
  have hlt := bitsB_lt hb
  clear hb
  generalize bitsB b = x at *
  have H2 := Lib.hid (word_any x w hlt)
  by_cases hs : x ∈ special
  · have Hl := Lib.hid (show wordL x = textL x from if_pos hs)
    rw [Hl.out] at H2
    have hq : (str (textL x)).toList.isEmpty = false := by
      rw [str_list, List.isEmpty_eq_false_iff]
      simpa using textL_ne hs
    clear hs Hl hlt ht
    generalize str (textL x) = s at *
    go_enter Tryz.func211, Tryz.ntmps211
    go_wp2_with fail
    refine H1.out.mono ?_
    rintro e w' ⟨rfl, rfl⟩
    go_wp2_with fail
    refine H2.out.mono ?_
    rintro e w' ⟨rfl, hbel⟩
    go_wp2
    go_ret
    exact ⟨rfl, hbel⟩
  · have Hl := Lib.hid (show wordL x = [] from if_neg hs)
    have Hx := Lib.hid (textL_hex hs)
    rw [Hl.out] at H2
    have Ht := Lib.hid ht
    have Hlt := Lib.hid hlt
    have HR := Lib.hid (fun (m : Nat) (hm : m ≤ 16) (w : World) => rep_any m hm w)
    clear hs Hl hlt ht
    rw [Hx.out]
    go_enter Tryz.func211, Tryz.ntmps211
    go_wp2_with fail
    refine H1.out.mono ?_
    rintro e w' ⟨rfl, rfl⟩
    go_wp2_with fail
    refine H2.out.mono ?_
    rintro e w1 ⟨rfl, hbel⟩
    have hq : (str []).toList.isEmpty = true := by rw [str_list]; rfl
    have Ht1 : Tab16 w1 := by
      have h := Ht.out
      unfold Tab16 at h ⊢
      rw [hbel.cell (World.block_lt_of_cell? _ _ h)]
      exact h
    go_wp2_with fail
    refine (fmt_any x w1 Hlt.out Ht1).mono ?_
    rintro e w2 ⟨⟨m, m1, m2, m3, rfl⟩, hbel2⟩
    have Hlow := Lib.hid (hexs_low m2 m3)
    have hsz : (str ((hexs x 16).drop (16 - m))).size = m := by rw [str_size, List.length_drop, hexs_len]; omega
    have Hm2 := Lib.hid m2
    generalize hD : (hexs x 16).drop (16 - m) = D at *
    clear hD
    have HD := Lib.hid (show ∀ L, str [120] ++ str L ++ str D = str (120 :: (L ++ D)) from fun L => by rw [str_append, str_append]; rfl)
    generalize str D = s at *
    have hm16 : (m : Int) ≤ 16 := by omega
    clear m1 m2 m3 Ht1
    go_wp2_with fail
    refine (HR.out m Hm2.out w2).mono ?_
    rintro e w3 ⟨rfl, hbel3⟩
    have HDr := Lib.hid (HD.out (List.replicate (16 - m) 48))
    have hrsz : (str (List.replicate (16 - m) 48)).size = 16 - m := by rw [str_size, List.length_replicate]
    have hrs : (str (List.replicate (16 - m) 48)).size ≤ 16 := by omega
    have Hbel := Lib.hid ((hbel.trans (hbel2.mono hbel.size)).trans (hbel3.mono (hbel.trans (hbel2.mono hbel.size)).size))
    generalize str (List.replicate (16 - m) 48) = r at *
    have hssz : s.size ≤ 16 := by omega
    clear hrsz hbel hbel2 hbel3
    go_wp2
    go_ret
    exact ⟨by rw [Hlow.out, ← HDr.out]; rfl, Hbel.out⟩
end Go.Proofs.YtcapbaocchaenaaGreatDoor

/- The texts of contents that are no lists. -/
namespace Go.Proofs.YtcapbaocchaenaaGreatDoor
open Go.RowKit Go.Shelf Fl

/-- The table of powers of ten that strconv keeps. -/
def Pow10 (w : World) : Prop := Lib.TabIs Tryz.prog w "internal/strconv.uint64pow10" .u64 Lib.pow10Tab

theorem below_growN (B : Nat) (w : World) (hB : B ≤ w.heap.size) (k : Nat) (os : Array Obj) : Below B w (Sort.grow (w.drewN k) os) :=
  ⟨rfl, rfl, rfl, by show w.heap.size ≤ (w.heap ++ os).size; rw [Array.size_append]; omega, fun j hj => by
    show (w.heap ++ os)[j]? = w.heap[j]?
    rw [Array.getElem?_append_left (by omega)]⟩

theorem dec_digits : ∀ (n : Nat), Lib.decDigits n = (decD n).map UInt8.ofNat := by
  intro n
  induction n using Nat.strongRecOn with
  | _ n ih =>
    by_cases h : n < 10
    · rw [Lib.decDigits, dif_pos h, decD_low h]; rfl
    · rw [Lib.decDigits, dif_neg h, decD_high h, List.map_append, ih (n / 10) (by omega)]; rfl

theorem itoa_str (n : Int) : (⟨(Lib.itoa n).toArray⟩ : ByteArray) = str (decL n) := by
  unfold str
  congr 2
  unfold Lib.itoa decL
  split
  · rw [dec_digits]; rfl
  · rw [dec_digits, show n.toNat = n.natAbs by omega]

theorem nilText_any (w : World) : Calls Tryz.prog 203 #[.agg #[]] w fun e w' => e = .returned (.string (str [110, 105, 108])) ∧ Below w.heap.size w w' := by
  go_enter Tryz.func203, Tryz.ntmps203
  go_wp2
  go_ret
  exact ⟨rfl, (Below.refl _ _).alloc (Nat.le_refl _) _⟩

theorem intText_any (n : Int) (w : World) (h0 : -9223372036854775808 ≤ n) (h1 : n ≤ 9223372036854775807) (ht : Pow10 w) :
    Calls Tryz.prog 205 #[.int .i64 n] w fun e w' => e = .returned (.string (str (decL n))) ∧ Below w.heap.size w w' := by
  have H := Lib.hid (Tryz.strconv_FormatInt_10 n h0 h1 w ht)
  rw [itoa_str] at H
  clear h0 h1 ht
  go_enter Tryz.func205, Tryz.ntmps205
  go_wp2_with fail
  refine H.out.mono ?_
  rintro e w' ⟨rfl, k, os, rfl⟩
  go_wp2
  go_ret
  exact ⟨rfl, below_growN _ _ (Nat.le_refl _) _ _⟩

theorem tl_len (b : Nat) : (textL b).length ≤ 17 := by
  unfold textL
  split
  · simp
  split
  · simp
  split
  · simp
  split
  · simp
  split
  · simp
  · rw [List.length_cons, hexs_len]; omega

theorem floatText_any (b : Nat) (w : World) (hb : b < 18446744073709551616) (ht : Tab16 w) :
    Calls Tryz.prog 210 #[.float .f64 b] w fun e w' => e = .returned (.string (str (35 :: textL (bitsB b)))) ∧ Below w.heap.size w w' := by
  have H := Lib.hid (text_any b w hb ht)
  have hs : (⟨#[35]⟩ : ByteArray) ++ str (textL (bitsB b)) = str (35 :: textL (bitsB b)) := str_append [35] (textL (bitsB b))
  have Hs := Lib.hid hs
  have hq := str_size (textL (bitsB b))
  have hl := tl_len (bitsB b)
  clear hb ht hs
  rw [← Hs.out]
  go_enter Tryz.func210, Tryz.ntmps210
  go_wp2_with fail
  refine H.out.mono ?_
  rintro e w' ⟨rfl, hb⟩
  have Hb := Lib.hid hb
  clear hb
  go_wp2
  go_ret
  exact ⟨rfl, Hb.out⟩
end Go.Proofs.YtcapbaocchaenaaGreatDoor

