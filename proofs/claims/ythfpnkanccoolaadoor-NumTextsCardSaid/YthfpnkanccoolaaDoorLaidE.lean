/- What the listed variables of the library's errors give the walks. -/
import Derived.Test.YthfpnkanccoolaaDoorLaid
import Derived.Test.YthfpnkanccoolaaDoorNumU3
import Derived.Test.YthfpnkanccoolaaDoorNumPC
namespace Go.Proofs.YthfpnkanccoolaaDoor
open Go.RowKit

theorem star : "*" ++ "errors.errorString" = "*errors.errorString" := by decide
theorem rowE (u : TypeId) (h : Tryd.prog.typeName? 3 u = some "*errors.errorString") : u = 104 :=
  typeName_ptr_named (nm := "errors.errorString") (by rw [star]; kernel_rfl) (by kernel_rfl) (by decide) u (by rw [star]; exact h)
theorem gSyn : Tryd.prog.globalNamed "strconv.ErrSyntax" = some 3 := by kernel_rfl
theorem gRan : Tryd.prog.globalNamed "strconv.ErrRange" = some 4 := by kernel_rfl

theorem errs_of_laid {d1 d2 d3 : String × DataW Unit} {x y : List UInt8} {rest : List (String × DataW Unit)} {W : World}
    (h : laidMet Tryd.prog (d1 :: d2 :: d3 :: ("strconv.ErrRange", .iface "*errors.errorString" (.ptr (.agg [.lit (.string x)]))) :: ("strconv.ErrSyntax", .iface "*errors.errorString" (.ptr (.agg [.lit (.string y)]))) :: rest) W) : Errs W := by
  have h1 := h.tail.tail.tail
  obtain ⟨a, _, v, _, _, _⟩ := laid_sentinel h1 gRan (by kernel_rfl : (Tryd.prog.globals[4]?).map (·.type) = some 61) Tryd.underlying61 rowE Tryd.underlying104 Tryd.underlying106 rfl rfl Tryd.underlying9 (by kernel_rfl) (by kernel_rfl)
  obtain ⟨a', _, v', _, _, _⟩ := laid_sentinel h1.tail gSyn (by kernel_rfl : (Tryd.prog.globals[3]?).map (·.type) = some 61) Tryd.underlying61 rowE Tryd.underlying104 Tryd.underlying106 rfl rfl Tryd.underlying9 (by kernel_rfl) (by kernel_rfl)
  have c := World.var?_cell gRan v 0
  have c' := World.var?_cell gSyn v' 0
  exact ⟨⟨_, _, by simpa using c'⟩, ⟨_, _, by simpa using c⟩⟩
end Go.Proofs.YthfpnkanccoolaaDoor
