/- The walk of the code's Scale. -/
import Derived.Test.YthfpnkanccoolaaDoorNumK2
namespace Go.Proofs.YthfpnkanccoolaaDoor
open Go.RowKit Fl

theorem mul_runs (F b : Nat) (w : World) : ∃ r w1, (binOp .mul 23 (.float .f64 F) (.float .f64 b)).run Tryd.prog w = .ok (.float .f64 r) w1 ∧ Below w.heap.size w w1 := by
  cases h : floatBits .mul .f64 F b with
  | some r => exact ⟨r, w, run_float_arith w .mul 23 .f64 F b r h, Below.refl _ _⟩
  | none =>
    refine ⟨Question.cut (.nanBits .f64 F b) (w.tape w.drawn (.nanBits .f64 F b)), w.drew, ?_, Below.drew (Below.refl w.heap.size w)⟩
    unfold floatBits at h
    simp only at h
    simp [binOp, Op.floatArith, h, Question.forced]

theorem val_zero : val 0 = 0 := by decide

/-- A number is greater than 0 just where it is positive, or the infinity. -/
theorem gt_zero_no {b : Nat} (hb : b < 18446744073709551616) (hz : bitsB b = Q ∨ bitsB b = 0 ∨ W ≤ bitsB b) : (FloatKind.f64.format.order b 0 == some .gt) = false := by
  show (Ieee.double.order b 0 == some .gt) = false
  by_cases h : I < b % W
  · rw [order_none hb h]
    rfl
  · have e : bitsB b = b := if_neg h
    have hq : b ≠ Q := by
      intro hq
      rw [hq] at h
      exact h (by decide)
    have e0 : sv (decide (W ≤ 0)) (0 % W) = 0 := by decide
    rw [e] at hz
    rw [order_words hb (by omega) (by omega) (by decide), e0]
    by_cases h1 : W ≤ b
    · rw [decide_eq_true h1]
      have e1 : sv true (b % W) = -(val (b % W) : Int) := rfl
      rw [e1]
      rcases Nat.eq_zero_or_pos (val (b % W)) with h2 | h2
      · rw [h2]; decide
      · rw [cmp_lt (by omega)]; rfl
    · have h2 : b = 0 := by
        rcases hz with h | h | h
        · exact absurd h hq
        · exact h
        · exact absurd h h1
      rw [decide_eq_false h1, h2]
      decide

theorem gt_zero_yes {b : Nat} (hb : b < 18446744073709551616) (hz : ¬ (bitsB b = Q ∨ bitsB b = 0 ∨ W ≤ bitsB b)) : (FloatKind.f64.format.order b 0 == some .gt) = true := by
  show (Ieee.double.order b 0 == some .gt) = true
  by_cases h : I < b % W
  · exact absurd (.inl (if_pos h)) hz
  · have e : bitsB b = b := if_neg h
    have e0 : sv (decide (W ≤ 0)) (0 % W) = 0 := by decide
    rw [e] at hz
    have h1 : ¬ W ≤ b := fun h => hz (.inr (.inr h))
    have h2 : b ≠ 0 := fun h => hz (.inr (.inl h))
    rw [order_words hb (by omega) (by omega) (by decide), e0, decide_eq_false h1, Nat.mod_eq_of_lt (by omega)]
    have e1 : sv false b = (val b : Int) := rfl
    have h3 : val 0 < val b := val_lt_iff.2 (by omega)
    rw [e1, cmp_gt (by omega)]
    rfl

set_option maxRecDepth 100000 in
set_option maxHeartbeats 800000 in
theorem scale_any (n b : Nat) (w : World) (hn : n < 18446744073709551616) (hb : b < 18446744073709551616) :
    Calls Tryd.prog 25 #[.int .u64 (n : Int), .float .f64 b] w fun e w' => e = .returned (.int .u64 (scaleB n b : Nat)) ∧ Below w.heap.size w w' := by
  by_cases hz : n = 0 ∨ bitsB b = Q ∨ bitsB b = 0 ∨ W ≤ bitsB b
  · have Hf := Lib.hid (show ((scaleB n b : Nat) : Int) = 0 by unfold scaleB; rw [if_pos hz]; rfl)
    have hfo := floatOf n
    generalize ofNat n = F at *
    obtain ⟨r, w1, hm, hb1⟩ := mul_runs F b w
    by_cases c1 : n = 0
    · have d1 : ((n : Int) == 0) = true := beq_iff_eq.2 (by omega)
      clear hz c1
      go_enter Tryd.func25, Tryd.ntmps25
      go_wp2
      go_ret
      exact ⟨ret_u64 Hf.out.symm, hb1⟩
    · have d1 : ((n : Int) == 0) = false := beq_eq_false_iff_ne.2 (by omega)
      have hgt := gt_zero_no hb (hz.resolve_left c1)
      clear hz c1
      go_enter Tryd.func25, Tryd.ntmps25
      go_wp2
      go_ret
      exact ⟨ret_u64 Hf.out.symm, hb1⟩
  · have Hf := Lib.hid (show scaleB n b = scaleR n (bitsB b) from if_neg hz)
    have hnan : ¬ I < b % W := by
      intro h
      exact hz (.inr (.inl (if_pos h)))
    have hbb : bitsB b = b := if_neg hnan
    have hgt := gt_zero_yes hb (fun h => hz (.inr h))
    rw [hbb] at hz Hf
    have c1 : n ≠ 0 := fun h => hz (.inl h)
    have c4 : b < W := by
      rcases Nat.lt_or_ge b W with h | h
      · exact h
      · exact absurd (.inr (.inr (.inr h))) hz
    have c5 : b ≤ I := by rw [Nat.mod_eq_of_lt c4] at hnan; omega
    have d1 : ((n : Int) == 0) = false := beq_eq_false_iff_ne.2 (by omega)
    have hp := prod_bits hn c1 c5
    have hpI := prodR_le n b
    have hfo := floatOf n
    have Hr := Lib.hid (show scaleR n b = if top ≤ prodR n b then 9223372036854775807 else val (prodR n b) / U from rfl)
    generalize prodR n b = p at *
    generalize ofNat n = F at *
    have hm := fun w => run_float_arith (P := Tryd.prog) w .mul 23 .f64 F b p hp
    clear hnan hbb hz c1 c4 c5 hp hb
    by_cases ht : top ≤ p
    · have hord := order_high ht hpI
      have Hs := Lib.hid (show ((scaleB n b : Nat) : Int) = 9223372036854775807 by rw [Hf.out, Hr.out, if_pos ht]; rfl)
      clear ht hpI
      go_enter Tryd.func25, Tryd.ntmps25
      go_wp2
      go_ret
      exact ⟨ret_u64 Hs.out.symm, Below.refl _ _⟩
    · have hord := order_low (Nat.lt_of_not_le ht)
      have Hs := Lib.hid (show ((scaleB n b : Nat) : Int) = ((val p / U : Nat) : Int) by rw [Hf.out, Hr.out, if_neg ht])
      have hcv := fun w => run_convert_float_int (P := Tryd.prog) w 23 22 .f64 .u64 p _ (by kernel_rfl) Tryd.underlying22 (to_ticks (Nat.lt_of_not_le ht))
      generalize val p / U = v at *
      clear ht hpI
      go_enter Tryd.func25, Tryd.ntmps25
      go_wp2
      go_ret
      exact ⟨ret_u64 Hs.out.symm, Below.refl _ _⟩
end Go.Proofs.YthfpnkanccoolaaDoor
