/- The walk of the reference's Parse: it finds the number whose text it is, or says that there is none. -/
import Derived.Test.YthfpnkanccoolaaDoorNumPM
import Derived.Test.YthfpnkanccoolaaDoorBytes
namespace Go.Proofs.YthfpnkanccoolaaDoor
open Go.RowKit Fl

theorem get_str {l : List Nat} (hl : ∀ x ∈ l, x < 256) : ∀ (k : Nat) (h : k < (str l).size), ((((str l)[k]'h).toNat : Nat) : Int) = ((l.getD k 0 : Nat) : Int) := by
  intro k h
  have hk : k < l.length := by rw [str_size] at h; exact h
  have h5 : k < (l.map UInt8.ofNat).length := by rw [List.length_map]; exact hk
  have e : (str l)[k]'h = UInt8.ofNat (l.getD k 0) := by
    rw [List.getD_eq_getElem?_getD, List.getElem?_eq_getElem hk]
    show ((l.map UInt8.ofNat).toArray)[k]'(by simpa using h5) = _
    rw [List.getElem_toArray]
    exact List.getElem_map _
  rw [e]
  have h4 : l.getD k 0 < 256 := by
    rw [List.getD_eq_getElem?_getD, List.getElem?_eq_getElem hk]
    exact hl _ (List.getElem_mem _)
  rw [UInt8.toNat_ofNat']
  congr 1
  exact Nat.mod_eq_of_lt h4

theorem bitsB_idem (b : Nat) : bitsB (bitsB b) = bitsB b := by
  by_cases h : I < b % W
  · have e : bitsB b = Q := if_pos h
    rw [e]; decide
  · have e : bitsB b = b := if_neg h
    rw [e, e]

theorem bitsB_special {x : Nat} (h : x ∈ special) : bitsB x = x := by
  unfold special at h
  simp only [List.mem_cons, List.not_mem_nil, or_false] at h
  rcases h with rfl | rfl | rfl | rfl | rfl <;> decide

theorem hexv_lt (l : List Nat) : ∀ b, b < 18446744073709551616 → hexv l b < 18446744073709551616 := by
  induction l with
  | nil => intro b h; exact h
  | cons c l ih =>
    intro b h
    refine ih _ ?_
    unfold stepH
    simp only
    split
    · omega
    · split <;> omega

/-- What Parse answers: the number whose text it is; or nothing, if there is none. -/
def ParseEnd (w : World) (l : List Nat) (e : Ending) (w' : World) : Prop :=
  Below w.heap.size w w' ∧ ((∃ b, b < 18446744073709551616 ∧ textL (bitsB b) = l ∧ e = .returned (.tuple #[.float .f64 b, .bool true])) ∨ ((∀ b, b < 18446744073709551616 → textL (bitsB b) ≠ l) ∧ e = .returned (.tuple #[.float .f64 0, .bool false])))

/-- The numbers that Parse tries. -/
def cands (l : List Nat) : List Nat := [hexv l.tail 0, Q, I, W + I, 0, W]

theorem six_at (a b c d e f : Nat) : ([a, b, c, d, e, f] : List Nat).getD 0 0 = a ∧ ([a, b, c, d, e, f] : List Nat).getD 1 0 = b ∧ ([a, b, c, d, e, f] : List Nat).getD 2 0 = c ∧ ([a, b, c, d, e, f] : List Nat).getD 3 0 = d ∧ ([a, b, c, d, e, f] : List Nat).getD 4 0 = e ∧ ([a, b, c, d, e, f] : List Nat).getD 5 0 = f :=
  ⟨rfl, rfl, rfl, rfl, rfl, rfl⟩

theorem cands_at (l : List Nat) : (cands l).getD 0 0 = hexv l.tail 0 ∧ (cands l).getD 1 0 = Q ∧ (cands l).getD 2 0 = I ∧ (cands l).getD 3 0 = W + I ∧ (cands l).getD 4 0 = 0 ∧ (cands l).getD 5 0 = W :=
  six_at _ _ _ _ _ _

theorem cands_lt {l : List Nat} {k : Nat} (h : k < 6) : (cands l).getD k 0 < 18446744073709551616 := by
  have h0 := hexv_lt l.tail 0 (by decide)
  obtain ⟨e0, e1, e2, e3, e4, e5⟩ := cands_at l
  have b1 : Q < 18446744073709551616 := by decide
  have b2 : I < 18446744073709551616 := by decide
  have b3 : W + I < 18446744073709551616 := by decide
  have b5 : W < 18446744073709551616 := by decide
  rcases (show k = 0 ∨ k = 1 ∨ k = 2 ∨ k = 3 ∨ k = 4 ∨ k = 5 by omega) with rfl | rfl | rfl | rfl | rfl | rfl
  · rw [e0]; exact h0
  · rw [e1]; exact b1
  · rw [e2]; exact b2
  · rw [e3]; exact b3
  · rw [e4]; omega
  · rw [e5]; exact b5

theorem cands_all {l : List Nat} (h : ∀ k, k < 6 → textL (bitsB ((cands l).getD k 0)) ≠ l) : ∀ b, b < 18446744073709551616 → textL (bitsB b) ≠ l := by
  obtain ⟨e0, e1, e2, e3, e4, e5⟩ := cands_at l
  have g0 := h 0 (by omega)
  have g1 := h 1 (by omega)
  have g2 := h 2 (by omega)
  have g3 := h 3 (by omega)
  have g4 := h 4 (by omega)
  have g5 := h 5 (by omega)
  rw [e0] at g0
  rw [e1] at g1
  rw [e2] at g2
  rw [e3] at g3
  rw [e4] at g4
  rw [e5] at g5
  clear h e0 e1 e2 e3 e4 e5
  intro b hb e
  rcases text_found (bitsB_lt hb) e with h1 | h1
  · rw [← h1, bitsB_idem] at g0
    exact g0 e
  · have e2 := bitsB_special h1
    rw [← e2] at e
    have h2 := h1
    unfold special at h2
    simp only [List.mem_cons, List.not_mem_nil, or_false] at h2
    rcases h2 with h2 | h2 | h2 | h2 | h2
    · rw [h2] at e; exact g1 e
    · rw [h2] at e; exact g2 e
    · rw [h2] at e; exact g3 e
    · rw [h2] at e; exact g4 e
    · rw [h2] at e; exact g5 e

theorem step_digit {b c : Nat} (h1 : 48 ≤ (c : Int)) (h2 : (c : Int) ≤ 57) : IntKind.u64.wrap (IntKind.u64.wrap ((b : Int) * 16) + ((c : Int) - 48)) = ((stepH b c : Nat) : Int) := by
  unfold stepH
  simp only
  rw [if_pos (show 48 ≤ c ∧ c ≤ 57 by omega), if_neg (show ¬ (97 ≤ c ∧ c ≤ 102) by omega), IntKind.wrap_u64, IntKind.wrap_u64]
  omega

theorem step_letter {b c : Nat} (h1 : 97 ≤ (c : Int)) (h2 : (c : Int) ≤ 102) : IntKind.u64.wrap (IntKind.u64.wrap (IntKind.u64.wrap ((b : Int) * 16) + ((c : Int) - 97)) + 10) = ((stepH b c : Nat) : Int) := by
  unfold stepH
  simp only
  rw [if_neg (show ¬ (48 ≤ c ∧ c ≤ 57) by omega), if_pos (show 97 ≤ c ∧ c ≤ 102 by omega), IntKind.wrap_u64, IntKind.wrap_u64, IntKind.wrap_u64]
  omega

theorem step_none {b c : Nat} (h1 : ¬ (48 ≤ (c : Int) ∧ (c : Int) ≤ 57)) (h2 : ¬ (97 ≤ (c : Int) ∧ (c : Int) ≤ 102)) : (b : Int) = ((stepH b c : Nat) : Int) := by
  unfold stepH
  simp only
  rw [if_neg (show ¬ (48 ≤ c ∧ c ≤ 57) by omega), if_neg (show ¬ (97 ≤ c ∧ c ≤ 102) by omega)]

def HexRel (l : List Nat) (b i : Value) : Prop := ∃ k : Nat, 1 ≤ k ∧ k ≤ max l.length 1 ∧ i = .int .i64 k ∧ b = .int .u64 (hexv (l.tail.take (k - 1)) 0 : Nat)

theorem hex_close {l : List Nat} {k b c : Nat} {x : Int} (h1 : 1 ≤ k) (h : k < l.length) (hn : hexv (l.tail.take (k + 1 - 1)) 0 = stepH b c) (hx : x = ((stepH b c : Nat) : Int)) : HexRel l (.int .u64 x) (.int .i64 ((k : Int) + 1)) := by
  refine ⟨k + 1, by omega, by omega, by go_num, ?_⟩
  rw [hn, hx]

theorem hex_next {l : List Nat} {k : Nat} (h1 : 1 ≤ k) (h : k < l.length) : hexv (l.tail.take (k + 1 - 1)) 0 = stepH (hexv (l.tail.take (k - 1)) 0) (l.getD k 0) := by
  obtain ⟨j, rfl⟩ : ∃ j, k = j + 1 := ⟨k - 1, by omega⟩
  have hj : j < l.tail.length := by rw [List.length_tail]; omega
  simp only [Nat.add_sub_cancel]
  rw [List.take_succ_eq_append_getElem hj]
  unfold hexv
  rw [List.foldl_append]
  have e : l.tail[j] = l.getD (j + 1) 0 := by
    rw [List.getD_eq_getElem?_getD, List.getElem?_eq_getElem h]
    exact List.getElem_tail _
  rw [e]
  rfl

def FindRel (l : List Nat) (i : Value) : Prop := ∃ k : Nat, k ≤ 6 ∧ i = .int .i64 k ∧ ∀ j, j < k → textL (bitsB ((cands l).getD j 0)) ≠ l

theorem cand_cells (w : World) (l : List Nat) (c0 : Nat) (hc : cands l = [c0, Q, I, W + I, 0, W]) {j : Nat} (h : j < 6) :
    (w.alloc (.cells #[.int .u64 (c0 : Int), .int .u64 9221120237041090561, .int .u64 9218868437227405312, .int .u64 18442240474082181120, .int .u64 0, .int .u64 9223372036854775808] 22)).cell? ⟨w.heap.size, j, none⟩ = some (.int .u64 (((cands l).getD j 0 : Nat) : Int)) := by
  obtain ⟨e0, e1, e2, e3, e4, e5⟩ := six_at c0 Q I (W + I) 0 W
  rw [cell_of_row _ _ _ _ _ _ (heap_alloc_new w _), hc]
  rcases (show j = 0 ∨ j = 1 ∨ j = 2 ∨ j = 3 ∨ j = 4 ∨ j = 5 by omega) with rfl | rfl | rfl | rfl | rfl | rfl
  · rw [e0]; rfl
  · rw [e1]; rfl
  · rw [e2]; rfl
  · rw [e3]; rfl
  · rw [e4]; rfl
  · rw [e5]; rfl

set_option maxRecDepth 100000 in
set_option maxHeartbeats 1600000 in
theorem rparse_any (l : List Nat) (w : World) (hl : ∀ x ∈ l, x < 256) (hn : l.length ≤ 1000000) :
    Calls Tryd.prog 24 #[.string (str l)] w (ParseEnd w l) := by
  have hsz := str_size l
  have hg := get_str hl
  have HL := Lib.hid hl
  have hx := run_frombits
  clear hl
  go_enter Tryd.func24, Tryd.ntmps24
  go_wp2
  go_loop [4, 5] (fun b i => HexRel l b i) (fun _ i => l.length - (intOf i).toNat)
  case atStart => exact ⟨1, Nat.le_refl _, by omega, rfl, rfl⟩
  case round =>
    obtain ⟨k, hk1, hk2, rfl, rfl⟩ := hrel
    by_cases hlt : k < l.length
    · have Hn := Lib.hid (hex_next hk1 hlt)
      have hc8 : l.getD k 0 < 256 := by
        rw [List.getD_eq_getElem?_getD, List.getElem?_eq_getElem hlt]
        exact HL.out _ (List.getElem_mem _)
      have hgk := hg k (by rw [hsz]; exact hlt)
      have hblt := hexv_lt (l.tail.take (k - 1)) 0 (by decide)
      generalize hexv (l.tail.take (k - 1)) 0 = b at *
      clear hg
      generalize l.getD k 0 = c at *
      have Hblt := Lib.hid hblt
      clear hblt hx
      go_wp2
      all_goals go_round
      all_goals try (case measure => simp [intOf]; omega)
      all_goals refine hex_close hk1 hlt Hn.out ?_
      all_goals first
        | (with_reducible exact step_digit (by assumption) (by assumption))
        | (with_reducible exact step_letter (by assumption) (by assumption))
        | exact step_none (by omega) (by omega)
    · have hkn : l.tail.take (k - 1) = l.tail := List.take_of_length_le (by rw [List.length_tail]; omega)
      rw [hkn]
      have hcl := fun j (h : j < 6) => cands_lt (l := l) h
      have Hcl := Lib.hid hcl
      have Hcd := Lib.hid (show cands l = [hexv l.tail 0, Q, I, W + I, 0, W] from rfl)
      have HX := Lib.hid hx
      have hend : ¬ ((k : Int) < ((str l).size : Int)) := by omega
      clear hkn hcl hg hx
      generalize hexv l.tail 0 = c0 at *
      go_wp2_with fail
      have HC := Lib.hid (fun j (h : j < 6) => cand_cells w l c0 Hcd.out h)
      have hbel : Below w.heap.size w (w.alloc (.cells #[.int .u64 (c0 : Int), .int .u64 9221120237041090561, .int .u64 9218868437227405312, .int .u64 18442240474082181120, .int .u64 0, .int .u64 9223372036854775808] 22)) := (Below.refl _ _).alloc (Nat.le_refl _) _
      generalize w.alloc (.cells #[.int .u64 (c0 : Int), .int .u64 9221120237041090561, .int .u64 9218868437227405312, .int .u64 18442240474082181120, .int .u64 0, .int .u64 9223372036854775808] 22) = w1 at *
      clear hend
      go_loop [8] (fun i => FindRel l i) (fun i => 6 - (intOf i).toNat)
      case atStart => exact ⟨0, by omega, rfl, fun j hj => absurd hj (by omega)⟩
      case round =>
        obtain ⟨j, hj, rfl, hno⟩ := hrel
        have Hno := Lib.hid hno
        clear hno
        by_cases h6 : j < 6
        · have hc := HC.out j h6
          have Hlt := Lib.hid (Hcl.out j h6)
          generalize hcb : (cands l).getD j 0 = cb at *
          have Hcb := Lib.hid hcb
          have hx1 := HX.out cb w1
          have HT := Lib.hid (rtext_any cb w1 Hlt.out)
          have hTb := textL_byte (bitsB cb)
          by_cases hT : textL (bitsB cb) = l
          · have hq : ((str (textL (bitsB cb))).toList == (str l).toList) = true := by rw [hT]; exact str_eq l
            have HTl := Lib.hid hT
            clear hcb hT hTb
            generalize hTe : textL (bitsB cb) = T at *
            have HTe := Lib.hid hTe
            clear hTe
            go_wp2_with fail
            refine HT.out.mono ?_
            rintro e w2 ⟨rfl, rfl⟩
            go_wp2
            go_ret2
            exact ⟨hbel, .inl ⟨cb, Hlt.out, by rw [HTe.out, HTl.out], rfl⟩⟩
          · have hq : ((str (textL (bitsB cb))).toList == (str l).toList) = false := str_ne hTb HL.out hT
            have HTl := Lib.hid hT
            clear hcb hT hTb
            generalize hTe : textL (bitsB cb) = T at *
            have HTe := Lib.hid hTe
            clear hTe
            go_wp2_with fail
            refine HT.out.mono ?_
            rintro e w2 ⟨rfl, rfl⟩
            go_wp2
            go_round
            case rel =>
              refine ⟨j + 1, h6, by go_num, fun i hi => ?_⟩
              rcases Nat.lt_or_eq_of_le (Nat.le_of_lt_succ hi) with h7 | h7
              · exact Hno.out i h7
              · rw [h7, Hcb.out, HTe.out]; exact HTl.out
            case measure => simp [intOf]; omega
        · obtain rfl : j = 6 := by omega
          go_wp2
          go_ret2
          exact ⟨hbel, .inr ⟨cands_all Hno.out, rfl⟩⟩
end Go.Proofs.YthfpnkanccoolaaDoor
