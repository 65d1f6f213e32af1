import Derived.Test.YtmiepigieajpcaaGreatMB40
import Derived.Deep.RegionHeld
import Derived.Deep.RegionHeld3
import Derived.Deep.DrawnRows
import Derived.Deep.DeepCutAuto
import Derived.Deep.CutBlock
/- The example of the chapter. -/
namespace Go.Proofs.YtmiepigieajpcaaGreat
open Go.RowKit Go.Maps Go.Shelf

attribute [local go_sem ↓] Go.wp_at_zero Go.wp_at_succ

def z5 : List Nat := [0, 0, 0, 0, 0]
def W5 : WM := (putW (startW 1000 20) z5).1
def W55 : WM := (putW W5 z5).1
theorem w5_code : (putW (startW 1000 20) z5).2 = 0 := by decide +kernel
theorem w55_code : (putW W5 z5).2 = 0 := by decide +kernel
theorem w5_is : W5.n = 1 ∧ W5.size = 13 ∧ W5.wait = 1 ∧ W5.most = 20 ∧ W5.D.fs.length = 1 ∧ W5.D.room = 1000 := by decide +kernel
theorem w55_is : W55.n = 2 ∧ W55.size = 13 ∧ W55.wait = 1 := by decide +kernel

theorem bytes_row {w : World} {B : Nat} {l : List Nat} {t : TypeId} (h : w.heap[B]? = some (.cells (u8s l).toArray t (0, 0))) (hb : ∀ x ∈ l, x < 256) (hm : l.length ≤ 9223372036854775807) : Bytes w (some ⟨B, 0, none⟩) l.length l.length l := by
  refine ⟨rfl, Nat.le_refl _, hm, hb, fun h => (by cases h), fun _ => ⟨B, 0, rfl, fun i hi => ?_⟩⟩
  rw [Nat.zero_add, cell_of_row _ _ _ _ _ (0, 0) h]
  simp [u8s, List.getElem?_map, List.getElem?_eq_getElem hi, List.getD_eq_getElem?_getD]

theorem make_z5 (w : World) : (Instr.makeSlice 58 (.int .i64 5) (.int .i64 5)).run Tryz.prog w = .ok (.slice (some ⟨w.heap.size, 0, none⟩) 5 5) (w.alloc (.cells (u8s z5).toArray 5)) := by kernel_rfl

theorem two_rows {w w1 w2 : World} {o1 o2 : Obj} {Y : Nat → Prop} {g d : Nat} {W : WM} (h : LogEnd w (fun b => Y b ∨ (w1.heap.size ≤ b ∧ b < ((w1.alloc o1).alloc o2).drew.heap.size)) ((w1.alloc o1).alloc o2).drew g d W w2) (hg : g < w1.heap.size) :
    w2.heap[w1.heap.size]? = some o1 ∧ w2.heap[w1.heap.size + 1]? = some o2 := by
  have hz : ((w1.alloc o1).alloc o2).drew.heap.size = w1.heap.size + 2 := by show ((w1.alloc o1).alloc o2).heap.size = _; simp
  refine ⟨(h.2.1 _ (.inr ⟨Nat.le_refl _, by omega⟩) (by omega)).trans ?_, (h.2.1 _ (.inr ⟨Nat.le_succ _, by omega⟩) (by omega)).trans ?_⟩
  · exact (Below.heap_alloc (w1.alloc o1) o2 w1.heap.size (by simp)).trans (heap_alloc_new w1 o1)
  · have h2 := heap_alloc_new (w1.alloc o1) o2
    rw [World.size_alloc] at h2
    exact h2

end Go.Proofs.YtmiepigieajpcaaGreat

