/- What the listed package-level variables give the walks, and how a statement over them is lifted. -/
import Derived.Test.YthfpnkanccoolaaDoorNumF
import Derived.Test.YthfpnkanccoolaaDoorLift
import Derived.Lib.LaidTab
import Derived.Stop.LaidErr
import Derived.ProofKit
import Derived.LaidMore
import Derived.OpenShut
import Derived.Stop.Joined
namespace Go.Proofs.YthfpnkanccoolaaDoor
open Go.RowKit

def deBruijn64 : List Int := [0, 1, 56, 2, 57, 49, 28, 3, 61, 58, 42, 50, 38, 29, 17, 4, 62, 47, 59, 36, 45, 43, 51, 22, 53, 39, 33, 30, 24, 18, 12, 5, 63, 55, 48, 27, 60, 41, 37, 16, 46, 35, 44, 21, 52, 32, 23, 11, 54, 26, 40, 15, 34, 20, 31, 10, 25, 14, 19, 9, 13, 8, 7, 6]

theorem gTab : Tryd.prog.globalNamed "math/bits.deBruijn64tab" = some 6 := by kernel_rfl

theorem tab_of_laid {d : DataW Unit} {rest : List (String × DataW Unit)} {W : World} (h : laidMet Tryd.prog (("math/bits.deBruijn32tab", d) :: ("math/bits.deBruijn64tab", Lib.tabData .u8 deBruijn64) :: rest) W) : Tab16 W :=
  Lib.TabIs.cell (Lib.tabIs_of_head gTab (by kernel_rfl : (Tryd.prog.globals[6]?).map (·.type) = some 103) Tryd.underlying103 Tryd.underlying5 (by kernel_rfl) (by kernel_rfl) (laidMet.tail h)) gTab 15 (by decide)
end Go.Proofs.YthfpnkanccoolaaDoor
