import Derived.Test.YtehjgkkcpiblcaaGreatMB40
import Derived.Deep.RegionHeld
import Derived.Deep.RegionHeld3
import Derived.Deep.DrawnRows
import Derived.Deep.DeepCutAuto
import Derived.Deep.CutBlock
/- The example of the chapter. -/
namespace Go.Proofs.YtehjgkkcpiblcaaGreat
open Go.RowKit Go.Maps Go.Shelf

attribute [local go_sem ↓] Go.wp_at_zero Go.wp_at_succ

def z5 : List Nat := [0, 0, 0, 0, 0]
def W5 : WM := (putW (startW 1000 20) z5).1
def W55 : WM := (putW W5 z5).1
theorem w5_code : (putW (startW 1000 20) z5).2 = 0 := by decide +kernel
theorem w55_code : (putW W5 z5).2 = 0 := by decide +kernel
theorem w5_is : W5.n = 1 ∧ W5.size = 13 ∧ W5.wait = 1 ∧ W5.most = 20 ∧ W5.D.fs.length = 1 ∧ W5.D.room = 1000 := by decide +kernel
theorem w55_is : W55.n = 2 ∧ W55.size = 13 ∧ W55.wait = 1 := by decide +kernel

theorem bytes_row {w : World} {B : Nat} {l : List Nat} {t : TypeId} (h : w.heap[B]? = some (.cells (u8s l).toArray t (0, 0))) (hb : ∀ x ∈ l, x < 256) (hm : l.length ≤ 9223372036854775807) : Bytes w (some ⟨B, 0, none⟩) l.length l.length l := by
  refine ⟨rfl, Nat.le_refl _, hm, hb, fun h => (by cases h), fun _ => ⟨B, 0, rfl, fun i hi => ?_⟩⟩
  rw [Nat.zero_add, cell_of_row _ _ _ _ _ (0, 0) h]
  simp [u8s, List.getElem?_map, List.getElem?_eq_getElem hi, List.getD_eq_getElem?_getD]

theorem make_z5 (w : World) : (Instr.makeSlice 47 (.int .i64 5) (.int .i64 5)).run Tryz.prog w = .ok (.slice (some ⟨w.heap.size, 0, none⟩) 5 5) (w.alloc (.cells (u8s z5).toArray 5)) := by kernel_rfl

theorem two_rows {w w1 w2 : World} {o1 o2 : Obj} {Y : Nat → Prop} {g d : Nat} {W : WM} (h : LogEnd w (fun b => Y b ∨ (w1.heap.size ≤ b ∧ b < ((w1.alloc o1).alloc o2).drew.heap.size)) ((w1.alloc o1).alloc o2).drew g d W w2) (hg : g < w1.heap.size) :
    w2.heap[w1.heap.size]? = some o1 ∧ w2.heap[w1.heap.size + 1]? = some o2 := by
  have hz : ((w1.alloc o1).alloc o2).drew.heap.size = w1.heap.size + 2 := by show ((w1.alloc o1).alloc o2).heap.size = _; simp
  refine ⟨(h.2.1 _ (.inr ⟨Nat.le_refl _, by omega⟩) (by omega)).trans ?_, (h.2.1 _ (.inr ⟨Nat.le_succ _, by omega⟩) (by omega)).trans ?_⟩
  · exact (Below.heap_alloc (w1.alloc o1) o2 w1.heap.size (by simp)).trans (heap_alloc_new w1 o1)
  · have h2 := heap_alloc_new (w1.alloc o1) o2
    rw [World.size_alloc] at h2
    exact h2

set_option maxRecDepth 100000 in
set_option maxHeartbeats 6400000 in
theorem walive_any (w : World) : Calls Tryz.prog 13 #[] w fun e w' => e = .returned (.bool true) ∧ Below w.heap.size w w' := by
  have HN := Lib.hid (start_any 1000 20 w (by decide))
  go_enter Tryz.func13, Tryz.ntmps13
  go_wp2_with fail
  refine HN.out.mono ?_
  rintro e w1 ⟨d, g, rfl, hL⟩
  have HL := Lib.hid hL
  clear hL
  have HP1 := Lib.hid (fun W' (hb : Below w1.heap.size w1 W') (B : Nat) (hB : W'.heap[B]? = some (.cells (u8s z5).toArray 5 (0, 0))) => put_any (HL.out.all hb) (some ⟨B, 0, none⟩) 5 5 z5 (bytes_row hB (by decide) (by decide)) (by decide +kernel) (by decide +kernel) (by decide +kernel) (by decide +kernel) (by decide +kernel) (by decide +kernel) (by decide +kernel) (by decide +kernel))
  rw [w5_code] at HP1
  have HP2 := Lib.hid (fun (Y : Nat → Prop) W' (h : LogAt w Y W' g d W5) (B : Nat) (hB : W'.heap[B]? = some (.cells (u8s z5).toArray 5 (0, 0))) => put_any h (some ⟨B, 0, none⟩) 5 5 z5 (bytes_row hB (by decide) (by decide)) (by decide +kernel) (by decide +kernel) (by decide +kernel) (by decide +kernel) (by decide +kernel) (by decide +kernel) (by decide +kernel) (by decide +kernel))
  rw [w55_code] at HP2
  have hgl := HL.out.lt
  have hmk := fun w => make_z5 w
  go_upto_region 2 with fail
  go_cut [3, 4] (fun x y wx => x = .int .i64 0 ∧ y = .int .i64 0 ∧ ∃ Y, LogAt w Y wx g d W55)
  case first =>
    go_region_held3 (fun _ => True) (first | trivial)
      (first
        | (go_at_call 23; have hqx := hq1; (first | (have hr := two_rows hqx hgl) | (have hr := And.intro hgl hgl)); refine (HP2.out _ _ (hqx.1.below (by (repeat (first | assumption | exact Below.refl _ _ | refine Below.drew ?_ | refine Below.alloc ?_ (by (first | exact Nat.le_refl _ | (simp; done) | (simp; omega) | omega)) _)))) _ (by (first | exact hr.1 | exact hr.2 | exact heap_alloc_new _ _))).mono ?_; rintro e w3 ⟨rfl, hq2⟩)
        | (go_at_call 23; refine (HP1.out _ (by (repeat (first | assumption | exact Below.refl _ _ | refine Below.drew ?_ | refine Below.alloc ?_ (by (first | exact Nat.le_refl _ | (simp; done) | (simp; omega) | omega)) _))) _ (by (first | exact heap_alloc_new _ _ | (have h2 := heap_alloc_new (w1.alloc (.cells (u8s z5).toArray 5)) (.cells (u8s z5).toArray 5); rw [World.size_alloc] at h2; exact h2) | (refine (Below.heap_alloc _ _ _ ?_).trans (heap_alloc_new _ _); (first | (simp; done) | (simp; omega) | omega))))).mono ?_; rintro e w2 ⟨rfl, hq1⟩))
    all_goals go_wp2_with fail
    all_goals go_meet
    all_goals exact ⟨rfl, rfl, _, hq2.1⟩
  case rest =>
    obtain ⟨rfl, rfl, Y, hL5⟩ := hcut
    obtain ⟨g0, g1, g2, g3, g4⟩ := hL5.cell
    obtain ⟨e1, e2, e3⟩ := w55_is
    rw [e1] at g0
    rw [e2] at g1
    rw [e3] at g2
    have Hb := Lib.hid hL5.own.base
    clear hL5 g3 g4 e1 e2 e3 hmk
    have H1 := Lib.hid (segment_any g0)
    have H2 := Lib.hid (wsize_any g1)
    have H3 := Lib.hid (waiting_any g2)
    clear g0 g1 g2
    go_wp2_with (first
      | (go_at_call 31; refine H1.out.mono ?_; rintro e w' ⟨rfl, rfl⟩)
      | (go_at_call 44; refine H2.out.mono ?_; rintro e w' ⟨rfl, rfl⟩)
      | (go_at_call 29; refine H3.out.mono ?_; rintro e w' ⟨rfl, rfl⟩))
    go_ret
    exact ⟨rfl, Hb.out⟩
end Go.Proofs.YtehjgkkcpiblcaaGreat

