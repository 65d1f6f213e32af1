/- The walks of math.NaN and of math.Copysign. -/
import Derived.Test.YthfpnkanccoolaaDoorNumR
namespace Go.Proofs.YthfpnkanccoolaaDoor
open Go.RowKit Fl

set_option maxRecDepth 100000 in
theorem nan_any (w : World) : Calls Tryd.prog 32 #[] w fun e w' => e = .returned (.float .f64 9221120237041090561) ∧ w = w' := by
  have hx : ∀ w : World, (callFunc 11 #[.int .u64 9221120237041090561]).run Tryd.prog w = .ok (.value (.float .f64 9221120237041090561)) w := run_frombits 9221120237041090561
  go_enter Tryd.func32, Tryd.ntmps32
  go_wp2
  go_ret
  exact ⟨rfl, rfl⟩

set_option maxRecDepth 100000 in
/-- math.Copysign(0, -1) is -0. -/
theorem copysign_zero (w : World) : Calls Tryd.prog 31 #[.float .f64 0, .float .f64 13830554455654793216] w fun e w' => e = .returned (.float .f64 9223372036854775808) ∧ w = w' := by
  have h1 : ∀ w : World, (callFunc 12 #[.float .f64 0]).run Tryd.prog w = .ok (.value (.int .u64 0)) w := run_bits 0
  have h2 : ∀ w : World, (callFunc 12 #[.float .f64 13830554455654793216]).run Tryd.prog w = .ok (.value (.int .u64 13830554455654793216)) w := run_bits 13830554455654793216
  have h3 : ∀ w : World, (callFunc 11 #[.int .u64 9223372036854775808]).run Tryd.prog w = .ok (.value (.float .f64 9223372036854775808)) w := run_frombits 9223372036854775808
  have e1 : bits .andNot .u64 0 9223372036854775808 = 0 := by decide +kernel
  have e2 : bits .and .u64 13830554455654793216 9223372036854775808 = 9223372036854775808 := by decide +kernel
  have e3 : bits .or .u64 0 9223372036854775808 = 9223372036854775808 := by decide +kernel
  go_enter Tryd.func31, Tryd.ntmps31
  go_wp2
  go_ret
  exact ⟨rfl, rfl⟩
end Go.Proofs.YthfpnkanccoolaaDoor
