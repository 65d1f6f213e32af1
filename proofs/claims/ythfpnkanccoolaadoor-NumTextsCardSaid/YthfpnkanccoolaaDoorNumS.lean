/- The walk of the reference's Scale: it returns the plain answer. -/
import Derived.Test.YthfpnkanccoolaaDoorNumR
namespace Go.Proofs.YthfpnkanccoolaaDoor
open Go.RowKit Fl

theorem floatOf (n : Nat) : floatOfInt .f64 (n : Int) = ofNat n := by
  have h : ¬ ((n : Int) < 0) := by omega
  show FloatKind.nearest .f64 (n : Int) = _
  unfold FloatKind.nearest
  rw [Int.natAbs_natCast, decide_eq_false h]
  rfl

/-- The product of ticks and a positive number or the infinity. -/
theorem prod_bits {n x : Nat} (hn : n < 18446744073709551616) (h0 : n ≠ 0) (hx : x ≤ I) : floatBits .mul .f64 (ofNat n) x = some (prodR n x) := by
  show Ieee.double.mul (ofNat n) x = _
  have hlt := ofNat_lt hn
  unfold prodR
  by_cases h : x = I
  · subst h
    rw [if_pos rfl]
    refine mul_inf hlt (fun e => ?_)
    have h1 : ofNat 1 ≤ ofNat n := ofNat_mono (by omega)
    have h2 : ofNat 1 = 1023 * B := by
      have := ofNat_pow (k := 0) (by omega)
      simpa using this
    rw [e, h2] at h1
    have := B_pos
    omega
  · rw [if_neg h]
    exact mul_pos hlt (by omega)

theorem order_top {p : Nat} (hp : p ≤ I) : Ieee.double.order p top = some (compare ((val p : Nat) : Int) ((val top : Nat) : Int)) := by
  have h1 : top < W := by decide
  have h2 : p < W := Nat.lt_of_le_of_lt hp I_lt
  have h3 : top ≤ I := by decide
  unfold Ieee.Format.order
  rw [read_pos h2, read_pos h1, order_sv false false hp h3]
  rfl

theorem order_low {p : Nat} (h : p < top) : FloatKind.f64.format.order p 4890909195324358656 = some .lt := by
  have h3 : top ≤ I := by decide
  have h1 : Ieee.double.order p top = some .lt := by
    rw [order_top (by omega), cmp_lt (by have := val_mono h; omega)]
  exact h1

theorem order_high {p : Nat} (h : top ≤ p) (hp : p ≤ I) : (FloatKind.f64.format.order p 4890909195324358656 == some .gt || FloatKind.f64.format.order p 4890909195324358656 == some .eq) = true := by
  show (Ieee.double.order p top == some .gt || Ieee.double.order p top == some .eq) = true
  rw [order_top hp]
  rcases Nat.lt_or_eq_of_le h with h1 | h1
  · rw [cmp_gt (by have := val_mono h1; omega)]; rfl
  · subst h1; rw [cmp_eq]; rfl

theorem to_ticks {p : Nat} (h : p < top) : floatToIntVal .f64 p .u64 = some ((val p / U : Nat) : Int) := by
  have h3 : top ≤ I := by decide
  have h1 : (FloatKind.f64.decode p).toInt .zero = some ((val p / U : Nat) : Int) := toInt_pos (by omega)
  have h2 := scale_low h
  have hmin : IntKind.u64.min = 0 := rfl
  have hmax : IntKind.u64.max = 18446744073709551615 := rfl
  unfold floatToIntVal
  rw [h1]
  generalize val p / U = v at h2 ⊢
  simp only
  rw [if_pos ⟨by rw [hmin]; omega, by rw [hmax]; omega⟩]

/-- What Scale answers. -/
def scaleB (n b : Nat) : Nat := if n = 0 ∨ bitsB b = Q ∨ bitsB b = 0 ∨ W ≤ bitsB b then 0 else scaleR n (bitsB b)

set_option maxRecDepth 100000 in
set_option maxHeartbeats 800000 in
theorem rscale_any (n b : Nat) (w : World) (hn : n < 18446744073709551616) (hb : b < 18446744073709551616) :
    Calls Tryd.prog 27 #[.int .u64 (n : Int), .float .f64 b] w fun e w' => e = .returned (.int .u64 (scaleB n b : Nat)) ∧ w = w' := by
  have H1 := Lib.hid (rbits_any b w hb)
  by_cases hz : n = 0 ∨ bitsB b = Q ∨ bitsB b = 0 ∨ W ≤ bitsB b
  · have Hf := Lib.hid (show ((scaleB n b : Nat) : Int) = 0 by unfold scaleB; rw [if_pos hz]; rfl)
    have hlt := bitsB_lt hb
    clear hb
    generalize bitsB b = x at *
    by_cases c1 : n = 0
    · have d1 : ((n : Int) == 0) = true := beq_iff_eq.2 (by omega)
      clear hz c1 hlt
      go_enter Tryd.func27, Tryd.ntmps27
      go_wp2_with fail
      refine H1.out.mono ?_
      rintro e w' ⟨rfl, rfl⟩
      go_wp2
      go_ret
      exact ⟨ret_u64 Hf.out.symm, rfl⟩
    have d1 : ((n : Int) == 0) = false := beq_eq_false_iff_ne.2 (by omega)
    by_cases c2 : x = Q
    · have d2 : ((x : Int) == 9221120237041090561) = true := beq_iff_eq.2 (by rw [c2]; rfl)
      clear hz c1 c2 hlt
      go_enter Tryd.func27, Tryd.ntmps27
      go_wp2_with fail
      refine H1.out.mono ?_
      rintro e w' ⟨rfl, rfl⟩
      go_wp2
      go_ret
      exact ⟨ret_u64 Hf.out.symm, rfl⟩
    have d2 : ((x : Int) == 9221120237041090561) = false := beq_eq_false_iff_ne.2 (by unfold Q at c2; omega)
    by_cases c3 : x = 0
    · have d3 : ((x : Int) == 0) = true := beq_iff_eq.2 (by omega)
      clear hz c1 c2 c3 hlt
      go_enter Tryd.func27, Tryd.ntmps27
      go_wp2_with fail
      refine H1.out.mono ?_
      rintro e w' ⟨rfl, rfl⟩
      go_wp2
      go_ret
      exact ⟨ret_u64 Hf.out.symm, rfl⟩
    have d3 : ((x : Int) == 0) = false := beq_eq_false_iff_ne.2 (by omega)
    have d4 : ((x : Int) / 9223372036854775808 == 1) = true := beq_iff_eq.2 (by unfold W at hz; omega)
    clear hz c1 c2 c3
    go_enter Tryd.func27, Tryd.ntmps27
    go_wp2_with fail
    refine H1.out.mono ?_
    rintro e w' ⟨rfl, rfl⟩
    go_wp2
    go_ret
    exact ⟨ret_u64 Hf.out.symm, rfl⟩
  · have Hf := Lib.hid (show scaleB n b = scaleR n (bitsB b) from if_neg hz)
    have hnan : ¬ I < b % W := by
      intro h
      exact hz (.inr (.inl (if_pos h)))
    have hbb : bitsB b = b := if_neg hnan
    rw [hbb] at H1 hz Hf
    have c1 : n ≠ 0 := fun h => hz (.inl h)
    have c2 : b ≠ Q := fun h => hz (.inr (.inl h))
    have c3 : b ≠ 0 := fun h => hz (.inr (.inr (.inl h)))
    have c4 : b < W := by
      rcases Nat.lt_or_ge b W with h | h
      · exact h
      · exact absurd (.inr (.inr (.inr h))) hz
    have c5 : b ≤ I := by rw [Nat.mod_eq_of_lt c4] at hnan; omega
    have d1 : ((n : Int) == 0) = false := beq_eq_false_iff_ne.2 (by omega)
    have d2 : ((b : Int) == 9221120237041090561) = false := beq_eq_false_iff_ne.2 (by unfold Q at c2; omega)
    have d3 : ((b : Int) == 0) = false := beq_eq_false_iff_ne.2 (by omega)
    have d4 : ((b : Int) / 9223372036854775808 == 1) = false := beq_eq_false_iff_ne.2 (by unfold W at c4; omega)
    have hp := prod_bits hn c1 c5
    have hpI := prodR_le n b
    have hfo := floatOf n
    have Hr := Lib.hid (show scaleR n b = if top ≤ prodR n b then 9223372036854775807 else val (prodR n b) / U from rfl)
    generalize prodR n b = p at *
    generalize ofNat n = F at *
    have hm := fun w => run_float_arith (P := Tryd.prog) w .mul 23 .f64 F b p hp
    clear hnan hbb hz c1 c2 c3 c4 c5 hp hb
    by_cases ht : top ≤ p
    · have hord := order_high ht hpI
      have Hs := Lib.hid (show ((scaleB n b : Nat) : Int) = 9223372036854775807 by rw [Hf.out, Hr.out, if_pos ht]; rfl)
      clear ht hpI
      go_enter Tryd.func27, Tryd.ntmps27
      go_wp2_with fail
      refine H1.out.mono ?_
      rintro e w' ⟨rfl, rfl⟩
      go_wp2
      go_ret
      exact ⟨ret_u64 Hs.out.symm, rfl⟩
    · have hord := order_low (Nat.lt_of_not_le ht)
      have Hs := Lib.hid (show ((scaleB n b : Nat) : Int) = ((val p / U : Nat) : Int) by rw [Hf.out, Hr.out, if_neg ht])
      have hcv := fun w => run_convert_float_int (P := Tryd.prog) w 23 22 .f64 .u64 p _ (by kernel_rfl) Tryd.underlying22 (to_ticks (Nat.lt_of_not_le ht))
      generalize val p / U = v at *
      clear ht hpI
      go_enter Tryd.func27, Tryd.ntmps27
      go_wp2_with fail
      refine H1.out.mono ?_
      rintro e w' ⟨rfl, rfl⟩
      go_wp2
      go_ret
      exact ⟨ret_u64 Hs.out.symm, rfl⟩
end Go.Proofs.YthfpnkanccoolaaDoor
