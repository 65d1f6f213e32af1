/- The walk of alive: the examples of the chapter hold. -/
import Derived.Test.YthfpnkanccoolaaDoorNumX
import Derived.Test.YthfpnkanccoolaaDoorNumC
namespace Go.Proofs.YthfpnkanccoolaaDoor
open Go.RowKit Fl

theorem Tab16.below {w w' : World} (h : Tab16 w) (hb : Below w.heap.size w w') : Tab16 w' := by
  unfold Tab16 at h ⊢
  rw [hb.cell (World.block_lt_of_cell? _ _ h)]
  exact h

theorem scale_one_half : scaleB 10 4609434218613702656 = 15 := by decide +kernel
theorem scale_nan : scaleB 10 9221120237041090561 = 0 := by decide +kernel
theorem bits_low : bitsB 9223372036854775808 = 9223372036854775808 := by decide +kernel
theorem text_low : textL 9223372036854775808 = [45, 48] := by decide +kernel

theorem text_minus (w : World) (ht : Tab16 w) : Calls Tryd.prog 21 #[.float .f64 9223372036854775808] w fun e w' => e = .returned (.string ⟨#[45, 48]⟩) ∧ Below w.heap.size w w' := by
  have h := text_any 9223372036854775808 w (by omega) ht
  rw [bits_low, text_low] at h
  exact h

theorem scale_half (w : World) : Calls Tryd.prog 25 #[.int .u64 10, .float .f64 4609434218613702656] w fun e w' => e = .returned (.int .u64 15) ∧ Below w.heap.size w w' := by
  have h := scale_any 10 4609434218613702656 w (by omega) (by omega)
  rw [scale_one_half] at h
  exact h

theorem scale_none (w : World) : Calls Tryd.prog 25 #[.int .u64 10, .float .f64 9221120237041090561] w fun e w' => e = .returned (.int .u64 0) ∧ Below w.heap.size w w' := by
  have h := scale_any 10 9221120237041090561 w (by omega) (by omega)
  rw [scale_nan] at h
  exact h

set_option maxRecDepth 100000 in
set_option maxHeartbeats 800000 in
theorem alive_any (w : World) (ht : Tab16 w) :
    Calls Tryd.prog 15 #[] w fun e w' => e = .returned (.bool true) ∧ Below w.heap.size w w' := by
  have HC := Lib.hid (copysign_zero w)
  have HX := Lib.hid (text_minus w ht)
  have HN := Lib.hid (fun w => nan_any w)
  have HS := Lib.hid (fun w => scale_half w)
  have HS2 := Lib.hid (fun w => scale_none w)
  clear ht
  go_enter Tryd.func15, Tryd.ntmps15
  go_wp2_with fail
  refine HC.out.mono ?_
  rintro e w' ⟨rfl, rfl⟩
  go_wp2_with fail
  refine HX.out.mono ?_
  rintro e w1 ⟨rfl, hb1⟩
  go_wp2_with fail
  refine (HS.out w1).mono ?_
  rintro e w2 ⟨rfl, hb2⟩
  go_wp2_with fail
  refine (HN.out w2).mono ?_
  rintro e w' ⟨rfl, rfl⟩
  go_wp2_with fail
  refine (HS2.out _).mono ?_
  rintro e w3 ⟨rfl, hb3⟩
  go_wp2
  go_ret
  exact ⟨rfl, (hb1.trans (hb2.mono hb1.size)).trans (hb3.mono (hb1.trans (hb2.mono hb1.size)).size)⟩
end Go.Proofs.YthfpnkanccoolaaDoor
