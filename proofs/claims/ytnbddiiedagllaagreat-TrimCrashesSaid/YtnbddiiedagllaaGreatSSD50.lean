import Derived.Test.YtnbddiiedagllaaGreatSSD28
import Derived.Deep.RegionHeld
import Derived.Deep.RegionHeld3
import Derived.Deep.DrawnRows
import Derived.Test.YtnbddiiedagllaaGreatSSD7
/- The walk of a log's Sync. -/
namespace Go.Proofs.YtnbddiiedagllaaGreat
open Go.RowKit Go.Maps Go.Shelf

attribute [local go_sem ↓] Go.wp_at_zero Go.wp_at_succ

section
variable {w0 : World} {Y : Nat → Prop} {w : World} {g d : Nat} {W : WM}

set_option maxRecDepth 100000 in
theorem sync_tail (h : LogAt w0 Y w g d W) {w1 : World} {b1 b2 : Nat} (c1 : w1.cell? ⟨b1, 0, none⟩ = some (.pointer (some ⟨g, 0, none⟩))) (c2 : w1.cell? ⟨b2, 0, none⟩ = some (encStr (nmB W.n))) (k1 : w.heap.size ≤ b1) (k2 : w.heap.size ≤ b2) (hb : Below w.heap.size w w1) :
  Calls Tryz.prog 78 #[.pointer (some ⟨g, 0, none⟩), .slice (some ⟨w1.heap.size, 0, none⟩) 1 1] (w1.alloc (.cells #[.func (.func 125) #[] #[.pointer (some ⟨b1, 0, none⟩), .pointer (some ⟨b2, 0, none⟩)], .int .i64 (W.n : Int), .int .i64 (W.size : Int), .int .i64 0] 135))
   fun e w' => e = .returned (.int .i64 (syncW W).2) ∧ LogEnd w0 Y w g d (syncW W).1 w' := by
 obtain ⟨w2, hw2⟩ : ∃ w2, w2 = w1.alloc (.cells #[.func (.func 125) #[] #[.pointer (some ⟨b1, 0, none⟩), .pointer (some ⟨b2, 0, none⟩)], .int .i64 (W.n : Int), .int .i64 (W.size : Int), .int .i64 0] 135) := ⟨_, rfl⟩
 rw [← hw2]
 have hrow : w2.heap[w1.heap.size]? = some (.cells ([StepD.mk 125 #[.pointer (some ⟨b1, 0, none⟩), .pointer (some ⟨b2, 0, none⟩)] (W.n : Int) (W.size : Int) 0].flatMap fun x => x.cells.toList).toArray 135 (0, 0)) := by
  rw [hw2]
  exact heap_alloc_new _ _
 have hb12 : Below w1.heap.size w1 w2 := by rw [hw2]; exact (Below.refl _ _).alloc (Nat.le_refl _) _
 have hb2 : Below w.heap.size w w2 := hb.trans (hb12.mono hb.size)
 have hA := h.all hb2
 have d1 := cell_below hb12 (Nat.le_refl _) c1
 have d2 := cell_below hb12 (Nat.le_refl _) c2
 have l1 := World.block_lt_of_cell? _ _ d1
 have l2 := World.block_lt_of_cell? _ _ d2
 refine (take1_any hA w1.heap.size 1 _ (enters_of Tryz.func125 (by kernel_rfl) rfl) (syncM (nmB W.n) W.D) { W with D := (syncM (nmB W.n) W.D).1, wait := 0 } rfl rfl rfl rfl rfl hrow
  (fun Z w' hZ ho hkk => do_sync ho g W.n b1 b2 (by rw [World.cell?_of_block (hkk b1 (.inr ⟨k1, l1⟩))]; exact d1) (by rw [World.cell?_of_block (hkk b2 (.inr ⟨k2, l2⟩))]; exact d2)
   (by rw [World.cell?_of_block (hkk g (.inl h.inY))]; exact hA.cell.2.2.2.1))).mono ?_
 rintro e w' ⟨rfl, hq2⟩
 rw [syncW_eq]
 exact ⟨rfl, LogEnd.behind h hb2 (fun b hy => .inl hy) hq2⟩

set_option maxRecDepth 100000 in
set_option maxHeartbeats 6400000 in
theorem wsync_any (h : LogAt w0 Y w g d W) (h1 : 1 ≤ W.n) (hN : W.n ≤ 99999999) :
  Calls Tryz.prog 32 #[.pointer (some ⟨g, 0, none⟩)] w fun e w' => e = .returned (.int .i64 (syncW W).2) ∧ LogEnd w0 Y w g d (syncW W).1 w' := by
 have hbd : Below w.heap.size w w.drew := (Below.refl _ _).drew
 have hA := h.below hbd
 obtain ⟨g0, g1, g2, g3, g4⟩ := hA.cell
 have HS := Lib.hid (syncing_any g W.n (W.size : Int) (W.wait : Int) (W.n : Int) (W.size : Int) 0 _ h1 hN g0 g1 g2)
 unfold placeV at HS
 have HT := Lib.hid (fun w1 b1 b2 c1 c2 k1 k2 hb => sync_tail (W := W) hA (w1 := w1) (b1 := b1) (b2 := b2) c1 c2 k1 k2 hb)
 have HE := Lib.hid (fun W2 w' (hq : LogEnd w0 Y w.drew g d W2 w') => LogEnd.behind h hbd (fun b hy => hy) hq)
 have Hbd := Lib.hid hbd
 clear h hA hbd h1 hN g2 g3 g4
 go_enter Tryz.func32, Tryz.ntmps32
 go_wp2_with fail
 go_region_held3 (fun w' => w'.cell? ⟨g, 0, none⟩ = some (.int .i64 (W.n : Int)) ∧ w'.cell? ⟨g, 1, none⟩ = some (.int .i64 (W.size : Int)))
  (first | exact ⟨g0, g1⟩ | exact ⟨hq.1.cell.1, hq.1.cell.2.1⟩ | exact ⟨cell_below hb2 (Nat.le_refl _) g0, cell_below hb2 (Nat.le_refl _) g1⟩ | exact ⟨cell_below (hb2.alloc hb2.size _) (Nat.le_refl _) g0, cell_below (hb2.alloc hb2.size _) (Nat.le_refl _) g1⟩ | trivial)
  (first
   | (go_at_call 80; refine HS.out.mono ?_; rintro e w2 ⟨b1, b2, rfl, c1, c2, k1, k2, hb2⟩; unfold stepV)
   | (go_at_call 78; refine (HT.out _ _ _ c1 c2 k1 k2 hb2).mono ?_; rintro e w3 ⟨rfl, hq⟩))
 have Hq := Lib.hid (HE.out _ _ hq)
 clear hq
 go_wp2
 go_ret
 exact ⟨rfl, Hq.out⟩
end
end Go.Proofs.YtnbddiiedagllaaGreat

/- A byte that came in. -/
namespace Go.Proofs.YtnbddiiedagllaaGreat
open Go.ChangeShapes Go.WideShapes Go.ChangeAt Go.RowKit Go.Deep

theorem nat_u8 {n : Int} (h : (Lit.int .u8 n).wf = true) : ∃ x : Nat, x < 256 ∧ n = (x : Int) := by
 have := wf_u8 h
 exact ⟨n.toNat, by omega, by omega⟩
end Go.Proofs.YtnbddiiedagllaaGreat

