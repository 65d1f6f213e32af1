import Derived.Test.YtcapbaocchaenaaGreatSR12
import Derived.Test.YtcapbaocchaenaaGreatSR8
import Derived.Test.YtcapbaocchaenaaGreatSR3
import Derived.Test.YtcapbaocchaenaaGreatSR1
import Derived.Test.YtcapbaocchaenaaGreatSR14
import Derived.Deep.QuietTactic
import Derived.BigQuiet
import Derived.Deep.OwnRows
import Derived.Maps.OwnOps
import Derived.Maps.StringElems
import Derived.Test.YtcapbaocchaenaaGreatShelf
import Derived.Lib.Repeat
import Derived.Lib.LaidTab
import Derived.Sort.Grow
import Derived.Lib.ItoaNum
import Derived.Lib.SlBytesConst
import Derived.Lib.ItoaMem
import Derived.Deep.RegionLawGrows
import Derived.Deep.AppendLies
import Derived.Lib.SmallJoins
import Derived.Lib.Join
import Derived.Test.YtcapbaocchaenaaGreatSR19
/- The texts of contents that are no lists. -/
namespace Go.Proofs.YtcapbaocchaenaaGreat
open Go.RowKit Go.Shelf Fl

/-- The table of powers of ten that strconv keeps. -/
def Pow10 (w : World) : Prop := Lib.TabIs Tryz.prog w "internal/strconv.uint64pow10" .u64 Lib.pow10Tab

end Go.Proofs.YtcapbaocchaenaaGreat

/- The text of a content of bytes. -/

namespace Go.Proofs.YtcapbaocchaenaaGreat
open Go.RowKit Go.Shelf Fl

/-- What is written so far: the first row, which the program lays, or one of the call's own. -/
def TxtRel (w wr : World) (l : List Nat) (v : Value) : Prop :=
  (l = [34] ∧ v = .slice (some ⟨w.heap.size, 0, none⟩) 1 1 ∨ wr.ownsRow (w.heap.size + 1) 5 1 v l.length (u8s l)) ∧ wr.heap[w.heap.size]? = some (.cells #[.int .u8 34] 5 (1, 2)) ∧ Below w.heap.size w wr

theorem TxtRel.form {w W : World} {l : List Nat} {v : Value} (h : TxtRel w W l v) (hl : l ≠ []) : ∃ g cap, v = .slice (some ⟨g, 0, none⟩) l.length cap := by
  rcases h.1 with ⟨rfl, rfl⟩ | h1
  · exact ⟨_, _, rfl⟩
  · obtain ⟨g, cap, e, _⟩ := h1.form (by cases l with | nil => exact absurd rfl hl | cons _ _ => simp)
    exact ⟨g, cap, e⟩

end Go.Proofs.YtcapbaocchaenaaGreat

/- Text of the code. -/
namespace Go.Proofs.YtcapbaocchaenaaGreat
open Go.RowKit Go.Shelf Fl

theorem Pow10.below {w w' : World} (h : Pow10 w) (hb : Below w.heap.size w w') : Pow10 w' := by
  unfold Pow10 Lib.TabIs World.var? at h ⊢
  cases hg : Tryz.prog.globalNamed "internal/strconv.uint64pow10" with
  | none => rw [hg] at h; cases h
  | some g =>
    rw [hg] at h
    change (match w'.heap[g]? with | some (.cells cs _ _) => some cs | _ => none) = _
    change (match w.heap[g]? with | some (.cells cs _ _) => some cs | _ => none) = _ at h
    have hlt : g < w.heap.size := by
      rcases Nat.lt_or_ge g w.heap.size with h1 | h1
      · exact h1
      · rw [Array.getElem?_eq_none h1] at h; cases h
    rw [hb.block g hlt]
    exact h

end Go.Proofs.YtcapbaocchaenaaGreat

