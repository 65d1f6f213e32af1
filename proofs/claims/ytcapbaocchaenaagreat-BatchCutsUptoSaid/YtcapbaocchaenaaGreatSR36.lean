import Derived.Test.YtcapbaocchaenaaGreatSR35
/- The walk of the reference's read of a list. -/
namespace Go.Proofs.YtcapbaocchaenaaGreat
open Go.RowKit Go.Shelf Fl

/-- read does what it is to do at t levels. -/
def RrV (t : Nat) : Prop := ∀ (K : Nat → Prop) (l : List Nat) (a : Option Addr) (n c : Nat) (w : World), l.length ≤ 100000000000 → (∀ b, K b → b < w.heap.size) → Bytes w a n c l → FormedK K a c →
  Calls Tryz.prog 82 #[.agg #[.slice a n c, .bool false], .int .i64 (t : Int)] w (RrAny K w t l)

theorem RH.grown {w wr w' : World} {a : Option Addr} {n c : Nat} {bad : Bool} {r : Option Nat} (h : RH w wr a n c bad) (hg : wr.grownBy w' r) (hr : ∀ g, r = some g → w.heap.size + 2 < g) : RH w w' a n c bad ∧ Below w.heap.size wr w' := by
  have hne : ∀ b, b ≤ w.heap.size + 2 → r ≠ some b := fun b hb e => by have := hr b e; omega
  have hb : Below w.heap.size wr w' := ⟨hg.os, hg.tape, hg.output, hg.size, fun i hi => hg.block i (Nat.lt_of_lt_of_le hi h.below.size) (fun e => by have := hr i e.symm; omega)⟩
  exact ⟨⟨grown_keep hg h.rd (hne _ (by omega)), grown_keep hg h.rr (hne _ (by omega)), grown_keep hg h.rv (hne _ (by omega)), h.below.trans hb⟩, hb⟩

section
variable (K : Nat → Prop) (a : Option Addr) (n c : Nat) (T : Int) (w : World)

set_option maxRecDepth 100000 in
set_option maxHeartbeats 3200000 in
theorem rr_deep (y : Nat) (l1 l2 : List Nat) (ok : Bool) (hn : readN l1 true = (y, l2, ok)) (hB : Bytes w a n c (form 4 ++ l1)) (hf : FormedK K a c) (hK : ∀ b, K b → b < w.heap.size) :
    Calls Tryz.prog 82 #[.agg #[.slice a n c, .bool false], .int .i64 0] w (RrAny K w 0 (form 4 ++ l1)) := by
  have h0 := rh_start w a n c false
  have hw0 : (((w.alloc (.cells #[.slice a n c, .bool false] 55)).alloc (.cells #[.slice none 0 0, .bool false] 55)).alloc (.cells #[.int .i64 0, .int .i64 0, .float .f64 0, .string ⟨#[]⟩, .slice none 0 0] 41)).heap.size = w.heap.size + 3 := by simp
  have HU := Lib.hid (readUintK_any K a n c false (form 4 ++ l1) _ (hB.grow h0.below) hf)
  have hn' : readN (form 4 ++ l1) (!false) = (4, l1, true) := readN_form (by omega) l1
  rw [hn'] at HU
  have H0 := Lib.hid h0
  have HK := Lib.hid hK
  clear h0 hn' hB hf hK
  have hfl : ∀ (w : World) (a : Addr) (m : Mode) (b : Nat), (store a (.float .f64 b) m).run Tryz.prog w = stored Tryz.prog w a (.float .f64 b) m := fun w a m b => run_store Tryz.prog w a _ m rfl
  go_enter Tryz.func82, Tryz.ntmps82
  go_wp2_with fail
  generalize (((w.alloc (.cells #[.slice a n c, .bool false] 55)).alloc (.cells #[.slice none 0 0, .bool false] 55)).alloc (.cells #[.int .i64 0, .int .i64 0, .float .f64 0, .string ⟨#[]⟩, .slice none 0 0] 41)) = w0 at *
  refine HU.out.mono ?_
  rintro e w1 ⟨a1, n1, c1, rfl, hB1, hf1, hb1⟩
  have h1 := H0.out.below' hb1
  obtain ⟨p0, p1, p2, p3⟩ := block_cells h1.rd
  have HB1 := Lib.hid hB1
  have Hf1 := Lib.hid hf1
  have H1 := Lib.hid h1
  have hsz1 : w.heap.size + 3 ≤ w1.heap.size := by have := hb1.size; omega
  clear h1 hB1 hf1 hb1
  have hal := (Below.refl ((w1.setCell ⟨w.heap.size, 0, none⟩ (.slice a1 n1 c1)).setCell ⟨w.heap.size, 1, none⟩ (.bool false)).heap.size _).alloc (Nat.le_refl _) (.cells #[.int .i64 0, .int .i64 0, .float .f64 0, .string ⟨#[]⟩, .slice none 0 0] 41)
  have H2 := Lib.hid ((H1.out.setR a1 n1 c1 false).1.below' hal)
  have HV8 := Lib.hid (heap_alloc_new ((w1.setCell ⟨w.heap.size, 0, none⟩ (.slice a1 n1 c1)).setCell ⟨w.heap.size, 1, none⟩ (.bool false)) (.cells #[.int .i64 0, .int .i64 0, .float .f64 0, .string ⟨#[]⟩, .slice none 0 0] 41))
  have Hb12 := Lib.hid (((H1.out.setR a1 n1 c1 false).2).trans (hal.mono (by simp; omega)))
  clear hal
  go_upto_region 3 with fail
  have hsz2 : ((w1.setCell ⟨w.heap.size, 0, none⟩ (.slice a1 n1 c1)).setCell ⟨w.heap.size, 1, none⟩ (.bool false)).heap.size = w1.heap.size := by simp
  rw [hsz2] at HV8
  generalize ((w1.setCell ⟨w.heap.size, 0, none⟩ (.slice a1 n1 c1)).setCell ⟨w.heap.size, 1, none⟩ (.bool false)).alloc (.cells #[.int .i64 0, .int .i64 0, .float .f64 0, .string ⟨#[]⟩, .slice none 0 0] 41) = w2 at *
  obtain ⟨y0, y1, y2, y3⟩ := block_cells H2.out.rd
  clear p0 p1 p2 p3 hsz2
  obtain ⟨⟨v0, v1, v2, v3, v4⟩, ⟨f0, f1, f2, f3, f4⟩⟩ := res_cells HV8.out
  go_upto_region 7 with fail
  have H3 := Lib.hid (H2.out.setO (g := w1.heap.size) (i := 0) (by omega) (.int .i64 4))
  have HV9 := Lib.hid (show (w2.setCell ⟨w1.heap.size, 0, none⟩ (.int .i64 4)).heap[w1.heap.size]? = some (.cells #[.int .i64 4, .int .i64 0, .float .f64 0, .string ⟨#[]⟩, .slice none 0 0] 41 (0, 0)) from set_headE HV8.out (i := 0) (.int .i64 4))
  clear v0 v1 v2 v3 v4 f0 f1 f2 f3 f4 y0 y1 y2 y3
  generalize w2.setCell ⟨w1.heap.size, 0, none⟩ (.int .i64 4) = w3 at *
  obtain ⟨y0, y1, y2, y3⟩ := block_cells H3.out.1.rd
  have Hb13 := Lib.hid (Hb12.out.trans H3.out.2)
  have HB3 := Lib.hid (bytesB HB1.out Hf1.out HK.out Hb13.out)
  have HI := Lib.hid (readUintK_any K a1 n1 c1 false l1 w3 HB3.out Hf1.out)
  have hn'' : readN l1 (!false) = (y, l2, ok) := hn
  rw [hn''] at HI
  have hsz3 : w.heap.size + 2 < w1.heap.size := by omega
  have HG := Lib.hid (show w1.heap.size < w3.heap.size from (Array.getElem?_eq_some_iff.1 HV9.out).1)
  clear hn hn''
  go_wp2_with fail
  refine HI.out.mono ?_
  rintro e w4 ⟨a2, n2, c2, rfl, hB4, hf4, hb4⟩
  have h4 := H3.out.1.below' hb4
  have hv4 := blk HV9.out hb4
  have H4 := Lib.hid h4
  have HB4 := Lib.hid hB4
  have Hf4 := Lib.hid hf4
  have HV4 := Lib.hid hv4
  skip
  clear h4 hB4 hf4 hv4 hb4
  go_upto_region 25 with fail
  have hal4 := (Below.refl w4.heap.size w4).alloc (Nat.le_refl _) (.cells #[.slice a2 n2 c2, .bool (!ok)] 55)
  have HX5 := Lib.hid (heap_alloc_new w4 (.cells #[.slice a2 n2 c2, .bool (!ok)] 55))
  have H5 := Lib.hid (H4.out.below' hal4)
  have HV5 := Lib.hid (blk HV4.out hal4)
  have HB5 := Lib.hid (bytesB HB4.out Hf4.out HK.out (hal4.mono H4.out.below.size))
  have Hb45 := Lib.hid (show Below w.heap.size w4 _ from hal4.mono H4.out.below.size)
  skip
  clear hal4
  generalize w4.alloc (.cells #[.slice a2 n2 c2, .bool (!ok)] 55) = w5 at *
  obtain ⟨x0, x1, _, _⟩ := block_cells HX5.out
  obtain ⟨y0, y1, y2, y3⟩ := block_cells H5.out.rd
  go_upto_region 26 with fail
  have H6 := Lib.hid (H5.out.setR a2 n2 c2 (!ok))
  have HV6 := Lib.hid (show ((w5.setCell ⟨w.heap.size, 0, none⟩ (.slice a2 n2 c2)).setCell ⟨w.heap.size, 1, none⟩ (.bool (!ok))).heap[w1.heap.size]? = some (.cells #[.int .i64 4, .int .i64 0, .float .f64 0, .string ⟨#[]⟩, .slice none 0 0] 41 (0, 0)) from by rw [← HV5.out]; simp [World.setCell, Array.getElem?_modify, show w.heap.size ≠ w1.heap.size by omega])
  have HB6 := Lib.hid (Hb45.out.trans H6.out.2)
  skip
  clear y0 y1 y2 y3 x0 x1
  generalize (w5.setCell ⟨w.heap.size, 0, none⟩ (.slice a2 n2 c2)).setCell ⟨w.heap.size, 1, none⟩ (.bool (!ok)) = w6 at *
  obtain ⟨y0, y1, y2, y3⟩ := block_cells H6.out.1.rd
  obtain ⟨q0, q1, q2, q3⟩ := block_cells H6.out.1.rr
  have hrv : w6.heap[w.heap.size + 1 + 1]? = some (.cells #[.int .i64 0, .int .i64 0, .float .f64 0, .string ⟨#[]⟩, .slice none 0 0] 41 (0, 0)) := H6.out.1.rv
  obtain ⟨⟨s0, s1, s2, s3, s4⟩, ⟨u0, u1, u2, u3, u4⟩⟩ := res_cells hrv
  clear hrv
  go_wp2
  have hZ := H6.out.1.done a2 n2 c2 (!ok) (.int .i64 0) (.int .i64 0) (.float .f64 0) (.string ⟨#[]⟩) (.slice none 0 0)
  unfold sets7 at hZ
  clear q0 q1 q2 q3 s0 s1 s2 s3 s4 u0 u1 u2 u3 u4 y0 y1 y2 y3
  generalize World.setCell (World.setCell (World.setCell (World.setCell (World.setCell (World.setCell (World.setCell w6 _ _) _ _) _ _) _ _) _ _) _ _) _ _ = wz at *
  obtain ⟨⟨r0, r1⟩, r2, r3, r4, r5, r6⟩ := hZ.cells
  have HZ := Lib.hid hZ
  clear hZ
  refine bodyPost_ret (v := .tuple #[.agg #[.slice a2 n2 c2, .bool (!ok)], .agg #[.int .i64 0, .int .i64 0, .float .f64 0, .string ⟨#[]⟩, .slice none 0 0], .bool false]) (by simp [results, Tryz.results82, go_sem, *]) rfl ?_
  have hbz := HB6.out.trans HZ.out.below
  exact ⟨a2, n2, c2, !ok, l2, bytesB HB4.out Hf4.out HK.out hbz, Hf4.out, H4.out.below.trans hbz, .inr ⟨noV_deep, rfl⟩⟩

set_option maxRecDepth 100000 in
set_option maxHeartbeats 3200000 in
theorem rr_count (t y : Nat) (l1 l2 : List Nat) (ok : Bool) (hn : readN l1 true = (y, l2, ok)) (hy : y = 0) (hok : ok = false) (hT0 : (T == 0) = false) (hno : NoV t (form 4 ++ l1)) (hB : Bytes w a n c (form 4 ++ l1)) (hf : FormedK K a c) (hK : ∀ b, K b → b < w.heap.size) :
    Calls Tryz.prog 82 #[.agg #[.slice a n c, .bool false], .int .i64 T] w (RrAny K w t (form 4 ++ l1)) := by
  have h0 := rh_start w a n c false
  have hw0 : (((w.alloc (.cells #[.slice a n c, .bool false] 55)).alloc (.cells #[.slice none 0 0, .bool false] 55)).alloc (.cells #[.int .i64 0, .int .i64 0, .float .f64 0, .string ⟨#[]⟩, .slice none 0 0] 41)).heap.size = w.heap.size + 3 := by simp
  have HU := Lib.hid (readUintK_any K a n c false (form 4 ++ l1) _ (hB.grow h0.below) hf)
  have hn' : readN (form 4 ++ l1) (!false) = (4, l1, true) := readN_form (by omega) l1
  rw [hn'] at HU
  have H0 := Lib.hid h0
  have HK := Lib.hid hK
  clear h0 hn' hB hf hK
  have hfl : ∀ (w : World) (a : Addr) (m : Mode) (b : Nat), (store a (.float .f64 b) m).run Tryz.prog w = stored Tryz.prog w a (.float .f64 b) m := fun w a m b => run_store Tryz.prog w a _ m rfl
  go_enter Tryz.func82, Tryz.ntmps82
  go_wp2_with fail
  generalize (((w.alloc (.cells #[.slice a n c, .bool false] 55)).alloc (.cells #[.slice none 0 0, .bool false] 55)).alloc (.cells #[.int .i64 0, .int .i64 0, .float .f64 0, .string ⟨#[]⟩, .slice none 0 0] 41)) = w0 at *
  refine HU.out.mono ?_
  rintro e w1 ⟨a1, n1, c1, rfl, hB1, hf1, hb1⟩
  have h1 := H0.out.below' hb1
  obtain ⟨p0, p1, p2, p3⟩ := block_cells h1.rd
  have HB1 := Lib.hid hB1
  have Hf1 := Lib.hid hf1
  have H1 := Lib.hid h1
  have hsz1 : w.heap.size + 3 ≤ w1.heap.size := by have := hb1.size; omega
  clear h1 hB1 hf1 hb1
  have hal := (Below.refl ((w1.setCell ⟨w.heap.size, 0, none⟩ (.slice a1 n1 c1)).setCell ⟨w.heap.size, 1, none⟩ (.bool false)).heap.size _).alloc (Nat.le_refl _) (.cells #[.int .i64 0, .int .i64 0, .float .f64 0, .string ⟨#[]⟩, .slice none 0 0] 41)
  have H2 := Lib.hid ((H1.out.setR a1 n1 c1 false).1.below' hal)
  have HV8 := Lib.hid (heap_alloc_new ((w1.setCell ⟨w.heap.size, 0, none⟩ (.slice a1 n1 c1)).setCell ⟨w.heap.size, 1, none⟩ (.bool false)) (.cells #[.int .i64 0, .int .i64 0, .float .f64 0, .string ⟨#[]⟩, .slice none 0 0] 41))
  have Hb12 := Lib.hid (((H1.out.setR a1 n1 c1 false).2).trans (hal.mono (by simp; omega)))
  clear hal
  go_upto_region 3 with fail
  have hsz2 : ((w1.setCell ⟨w.heap.size, 0, none⟩ (.slice a1 n1 c1)).setCell ⟨w.heap.size, 1, none⟩ (.bool false)).heap.size = w1.heap.size := by simp
  rw [hsz2] at HV8
  generalize ((w1.setCell ⟨w.heap.size, 0, none⟩ (.slice a1 n1 c1)).setCell ⟨w.heap.size, 1, none⟩ (.bool false)).alloc (.cells #[.int .i64 0, .int .i64 0, .float .f64 0, .string ⟨#[]⟩, .slice none 0 0] 41) = w2 at *
  obtain ⟨y0, y1, y2, y3⟩ := block_cells H2.out.rd
  clear p0 p1 p2 p3 hsz2
  obtain ⟨⟨v0, v1, v2, v3, v4⟩, ⟨f0, f1, f2, f3, f4⟩⟩ := res_cells HV8.out
  go_upto_region 7 with fail
  have H3 := Lib.hid (H2.out.setO (g := w1.heap.size) (i := 0) (by omega) (.int .i64 4))
  have HV9 := Lib.hid (show (w2.setCell ⟨w1.heap.size, 0, none⟩ (.int .i64 4)).heap[w1.heap.size]? = some (.cells #[.int .i64 4, .int .i64 0, .float .f64 0, .string ⟨#[]⟩, .slice none 0 0] 41 (0, 0)) from set_headE HV8.out (i := 0) (.int .i64 4))
  clear v0 v1 v2 v3 v4 f0 f1 f2 f3 f4 y0 y1 y2 y3
  generalize w2.setCell ⟨w1.heap.size, 0, none⟩ (.int .i64 4) = w3 at *
  obtain ⟨y0, y1, y2, y3⟩ := block_cells H3.out.1.rd
  have Hb13 := Lib.hid (Hb12.out.trans H3.out.2)
  have HB3 := Lib.hid (bytesB HB1.out Hf1.out HK.out Hb13.out)
  have HI := Lib.hid (readUintK_any K a1 n1 c1 false l1 w3 HB3.out Hf1.out)
  have hn'' : readN l1 (!false) = (y, l2, ok) := hn
  rw [hn''] at HI
  have hsz3 : w.heap.size + 2 < w1.heap.size := by omega
  have HG := Lib.hid (show w1.heap.size < w3.heap.size from (Array.getElem?_eq_some_iff.1 HV9.out).1)
  have Hok := Lib.hid hok
  have Hno := Lib.hid hno
  have Hy := Lib.hid hy
  clear hn hn'' hok hno hy
  go_wp2_with fail
  refine HI.out.mono ?_
  rintro e w4 ⟨a2, n2, c2, rfl, hB4, hf4, hb4⟩
  have h4 := H3.out.1.below' hb4
  have hv4 := blk HV9.out hb4
  have H4 := Lib.hid h4
  have HB4 := Lib.hid hB4
  have Hf4 := Lib.hid hf4
  have HV4 := Lib.hid hv4
  skip
  clear h4 hB4 hf4 hv4 hb4
  go_upto_region 25 with fail
  have hal4 := (Below.refl w4.heap.size w4).alloc (Nat.le_refl _) (.cells #[.slice a2 n2 c2, .bool (!ok)] 55)
  have HX5 := Lib.hid (heap_alloc_new w4 (.cells #[.slice a2 n2 c2, .bool (!ok)] 55))
  have H5 := Lib.hid (H4.out.below' hal4)
  have HV5 := Lib.hid (blk HV4.out hal4)
  have HB5 := Lib.hid (bytesB HB4.out Hf4.out HK.out (hal4.mono H4.out.below.size))
  have Hb45 := Lib.hid (show Below w.heap.size w4 _ from hal4.mono H4.out.below.size)
  skip
  clear hal4
  generalize w4.alloc (.cells #[.slice a2 n2 c2, .bool (!ok)] 55) = w5 at *
  obtain ⟨x0, x1, _, _⟩ := block_cells HX5.out
  obtain ⟨y0, y1, y2, y3⟩ := block_cells H5.out.rd
  go_upto_region 26 with fail
  have H6 := Lib.hid (H5.out.setR a2 n2 c2 (!ok))
  have HV6 := Lib.hid (show ((w5.setCell ⟨w.heap.size, 0, none⟩ (.slice a2 n2 c2)).setCell ⟨w.heap.size, 1, none⟩ (.bool (!ok))).heap[w1.heap.size]? = some (.cells #[.int .i64 4, .int .i64 0, .float .f64 0, .string ⟨#[]⟩, .slice none 0 0] 41 (0, 0)) from by rw [← HV5.out]; simp [World.setCell, Array.getElem?_modify, show w.heap.size ≠ w1.heap.size by omega])
  have HB6 := Lib.hid (Hb45.out.trans H6.out.2)
  skip
  clear y0 y1 y2 y3 x0 x1
  generalize (w5.setCell ⟨w.heap.size, 0, none⟩ (.slice a2 n2 c2)).setCell ⟨w.heap.size, 1, none⟩ (.bool (!ok)) = w6 at *
  have hy := Hy.out
  subst hy
  have hokf := Hok.out
  subst hokf
  go_wp2
  go_loop [18] (fun i => i = .int .u64 0) (fun _ => 0)
  case atStart => exact rfl
  case round =>
  obtain rfl := hrel
  obtain ⟨yy0, yy1, _, _⟩ := block_cells H6.out.1.rd
  go_upto_region 36 with fail
  obtain ⟨y0, y1, y2, y3⟩ := block_cells H6.out.1.rd
  obtain ⟨q0, q1, q2, q3⟩ := block_cells H6.out.1.rr
  have hrv : w6.heap[w.heap.size + 1 + 1]? = some (.cells #[.int .i64 0, .int .i64 0, .float .f64 0, .string ⟨#[]⟩, .slice none 0 0] 41 (0, 0)) := H6.out.1.rv
  obtain ⟨⟨s0, s1, s2, s3, s4⟩, ⟨u0, u1, u2, u3, u4⟩⟩ := res_cells hrv
  clear hrv
  go_wp2
  have hZ := H6.out.1.done a2 n2 c2 true (.int .i64 0) (.int .i64 0) (.float .f64 0) (.string ⟨#[]⟩) (.slice none 0 0)
  unfold sets7 at hZ
  clear q0 q1 q2 q3 s0 s1 s2 s3 s4 u0 u1 u2 u3 u4 y0 y1 y2 y3
  generalize World.setCell (World.setCell (World.setCell (World.setCell (World.setCell (World.setCell (World.setCell w6 _ _) _ _) _ _) _ _) _ _) _ _) _ _ = wz at *
  obtain ⟨⟨r0, r1⟩, r2, r3, r4, r5, r6⟩ := hZ.cells
  have HZ := Lib.hid hZ
  clear hZ
  refine bodyPost_ret (v := .tuple #[.agg #[.slice a2 n2 c2, .bool true], .agg #[.int .i64 0, .int .i64 0, .float .f64 0, .string ⟨#[]⟩, .slice none 0 0], .bool false]) (by simp [results, Tryz.results82, go_sem, *]) rfl ?_
  have hbz := HB6.out.trans HZ.out.below
  exact ⟨a2, n2, c2, true, l2, bytesB HB4.out Hf4.out HK.out hbz, Hf4.out, H4.out.below.trans hbz, .inr ⟨Hno.out, rfl⟩⟩

set_option maxRecDepth 100000 in
set_option maxHeartbeats 12800000 in
theorem rr_list (t m : Nat) (l2 : List Nat) (hm : m < 18446744073709551616) (hA : RrV t) (hT0 : (T == 0) = false) (hT1 : T - 1 = (t : Int)) (hT2 : 0 < T ∧ T ≤ 1001) (hl : l2.length ≤ 100000000000) (hB : Bytes w a n c (form 4 ++ (form m ++ l2))) (hf : FormedK K a c) (hK : ∀ b, K b → b < w.heap.size) :
    Calls Tryz.prog 82 #[.agg #[.slice a n c, .bool false], .int .i64 T] w (RrAny K w (t + 1) (form 4 ++ (form m ++ l2))) := by
  have h0 := rh_start w a n c false
  have hw0 : (((w.alloc (.cells #[.slice a n c, .bool false] 55)).alloc (.cells #[.slice none 0 0, .bool false] 55)).alloc (.cells #[.int .i64 0, .int .i64 0, .float .f64 0, .string ⟨#[]⟩, .slice none 0 0] 41)).heap.size = w.heap.size + 3 := by simp
  have HU := Lib.hid (readUintK_any K a n c false (form 4 ++ (form m ++ l2)) _ (hB.grow h0.below) hf)
  have hn' : readN (form 4 ++ (form m ++ l2)) (!false) = (4, (form m ++ l2), true) := readN_form (by omega) (form m ++ l2)
  rw [hn'] at HU
  have H0 := Lib.hid h0
  have HK := Lib.hid hK
  clear h0 hn' hB hf hK
  have HA := Lib.hid hA
  have Hl := Lib.hid hl
  have Hm := Lib.hid hm
  have HM := Lib.hid (show (m : Int) < 18446744073709551616 from by omega)
  clear hA hl hm
  have hfl : ∀ (w : World) (a : Addr) (m : Mode) (b : Nat), (store a (.float .f64 b) m).run Tryz.prog w = stored Tryz.prog w a (.float .f64 b) m := fun w a m b => run_store Tryz.prog w a _ m rfl
  go_enter Tryz.func82, Tryz.ntmps82
  go_wp2_with fail
  generalize (((w.alloc (.cells #[.slice a n c, .bool false] 55)).alloc (.cells #[.slice none 0 0, .bool false] 55)).alloc (.cells #[.int .i64 0, .int .i64 0, .float .f64 0, .string ⟨#[]⟩, .slice none 0 0] 41)) = w0 at *
  refine HU.out.mono ?_
  rintro e w1 ⟨a1, n1, c1, rfl, hB1, hf1, hb1⟩
  have h1 := H0.out.below' hb1
  obtain ⟨p0, p1, p2, p3⟩ := block_cells h1.rd
  have HB1 := Lib.hid hB1
  have Hf1 := Lib.hid hf1
  have H1 := Lib.hid h1
  have hsz1 : w.heap.size + 3 ≤ w1.heap.size := by have := hb1.size; omega
  clear h1 hB1 hf1 hb1
  have hal := (Below.refl ((w1.setCell ⟨w.heap.size, 0, none⟩ (.slice a1 n1 c1)).setCell ⟨w.heap.size, 1, none⟩ (.bool false)).heap.size _).alloc (Nat.le_refl _) (.cells #[.int .i64 0, .int .i64 0, .float .f64 0, .string ⟨#[]⟩, .slice none 0 0] 41)
  have H2 := Lib.hid ((H1.out.setR a1 n1 c1 false).1.below' hal)
  have HV8 := Lib.hid (heap_alloc_new ((w1.setCell ⟨w.heap.size, 0, none⟩ (.slice a1 n1 c1)).setCell ⟨w.heap.size, 1, none⟩ (.bool false)) (.cells #[.int .i64 0, .int .i64 0, .float .f64 0, .string ⟨#[]⟩, .slice none 0 0] 41))
  have Hb12 := Lib.hid (((H1.out.setR a1 n1 c1 false).2).trans (hal.mono (by simp; omega)))
  clear hal
  go_upto_region 3 with fail
  have hsz2 : ((w1.setCell ⟨w.heap.size, 0, none⟩ (.slice a1 n1 c1)).setCell ⟨w.heap.size, 1, none⟩ (.bool false)).heap.size = w1.heap.size := by simp
  rw [hsz2] at HV8
  generalize ((w1.setCell ⟨w.heap.size, 0, none⟩ (.slice a1 n1 c1)).setCell ⟨w.heap.size, 1, none⟩ (.bool false)).alloc (.cells #[.int .i64 0, .int .i64 0, .float .f64 0, .string ⟨#[]⟩, .slice none 0 0] 41) = w2 at *
  obtain ⟨y0, y1, y2, y3⟩ := block_cells H2.out.rd
  clear p0 p1 p2 p3 hsz2
  obtain ⟨⟨v0, v1, v2, v3, v4⟩, ⟨f0, f1, f2, f3, f4⟩⟩ := res_cells HV8.out
  go_upto_region 7 with fail
  have H3 := Lib.hid (H2.out.setO (g := w1.heap.size) (i := 0) (by omega) (.int .i64 4))
  have HV9 := Lib.hid (show (w2.setCell ⟨w1.heap.size, 0, none⟩ (.int .i64 4)).heap[w1.heap.size]? = some (.cells #[.int .i64 4, .int .i64 0, .float .f64 0, .string ⟨#[]⟩, .slice none 0 0] 41 (0, 0)) from set_headE HV8.out (i := 0) (.int .i64 4))
  clear v0 v1 v2 v3 v4 f0 f1 f2 f3 f4 y0 y1 y2 y3
  generalize w2.setCell ⟨w1.heap.size, 0, none⟩ (.int .i64 4) = w3 at *
  obtain ⟨y0, y1, y2, y3⟩ := block_cells H3.out.1.rd
  have Hb13 := Lib.hid (Hb12.out.trans H3.out.2)
  have HB3 := Lib.hid (bytesB HB1.out Hf1.out HK.out Hb13.out)
  have HI := Lib.hid (readUintK_any K a1 n1 c1 false (form m ++ l2) w3 HB3.out Hf1.out)
  have hn'' : readN (form m ++ l2) (!false) = (m, l2, true) := readN_form Hm.out l2
  rw [hn''] at HI
  have hsz3 : w.heap.size + 2 < w1.heap.size := by omega
  have HG := Lib.hid (show w1.heap.size < w3.heap.size from (Array.getElem?_eq_some_iff.1 HV9.out).1)
  clear hn''
  go_wp2_with fail
  refine HI.out.mono ?_
  rintro e w4 ⟨a2, n2, c2, rfl, hB4, hf4, hb4⟩
  have h4 := H3.out.1.below' hb4
  have hv4 := blk HV9.out hb4
  have H4 := Lib.hid h4
  have HB4 := Lib.hid hB4
  have Hf4 := Lib.hid hf4
  have HV4 := Lib.hid hv4
  skip
  clear h4 hB4 hf4 hv4 hb4
  go_upto_region 25 with fail
  have hal4 := (Below.refl w4.heap.size w4).alloc (Nat.le_refl _) (.cells #[.slice a2 n2 c2, .bool false] 55)
  have HX5 := Lib.hid (heap_alloc_new w4 (.cells #[.slice a2 n2 c2, .bool false] 55))
  have H5 := Lib.hid (H4.out.below' hal4)
  have HV5 := Lib.hid (blk HV4.out hal4)
  have HB5 := Lib.hid (bytesB HB4.out Hf4.out HK.out (hal4.mono H4.out.below.size))
  have Hb45 := Lib.hid (show Below w.heap.size w4 _ from hal4.mono H4.out.below.size)
  skip
  clear hal4
  generalize w4.alloc (.cells #[.slice a2 n2 c2, .bool false] 55) = w5 at *
  obtain ⟨x0, x1, _, _⟩ := block_cells HX5.out
  obtain ⟨y0, y1, y2, y3⟩ := block_cells H5.out.rd
  go_upto_region 26 with fail
  have H6 := Lib.hid (H5.out.setR a2 n2 c2 false)
  have HV6 := Lib.hid (show ((w5.setCell ⟨w.heap.size, 0, none⟩ (.slice a2 n2 c2)).setCell ⟨w.heap.size, 1, none⟩ (.bool false)).heap[w1.heap.size]? = some (.cells #[.int .i64 4, .int .i64 0, .float .f64 0, .string ⟨#[]⟩, .slice none 0 0] 41 (0, 0)) from by rw [← HV5.out]; simp [World.setCell, Array.getElem?_modify, show w.heap.size ≠ w1.heap.size by omega])
  have HB6 := Lib.hid (Hb45.out.trans H6.out.2)
  skip
  clear y0 y1 y2 y3 x0 x1
  generalize (w5.setCell ⟨w.heap.size, 0, none⟩ (.slice a2 n2 c2)).setCell ⟨w.heap.size, 1, none⟩ (.bool false) = w6 at *
  have HB6b := Lib.hid (bytesB HB4.out Hf4.out HK.out HB6.out)
  have hmm := HM.out
  obtain ⟨i0, hi, hz0, hz1, hz2⟩ := info_parts info_value
  go_wp2
  go_loopw [18, 19, 20, 21] (fun i q1 q2 q3 wr => ∃ (j : Nat) (us : List V) (lj : List Nat) (ar : Option Addr) (nr cr : Nat) (acc : Value), j ≤ m ∧ i = .int .u64 (j : Int) ∧ us.length = j ∧ RH w wr ar nr cr false ∧ wr.heap[w1.heap.size]? = some (.cells #[.int .i64 4, .int .i64 0, .float .f64 0, .string ⟨#[]⟩, acc] 41 (0, 0)) ∧ OwnVs wr (w1.heap.size + 1) acc us ∧ (∀ u ∈ us, rightN t u = true ∧ boundV u) ∧ l2 = formsV us ++ lj ∧ Bytes wr ar nr cr lj ∧ FormedK K ar cr) (fun i _ _ _ _ => m - (intOf i).toNat)
  case atStart => exact ⟨0, [], l2, a2, n2, c2, _, Nat.zero_le _, rfl, rfl, H6.out.1, HV6.out, OwnVs.nil _ _, fun u hu => (by cases hu), rfl, HB6b.out, Hf4.out⟩
  case round =>
  obtain ⟨j, us, lj, ar, nr, cr, acc, hj, rfl, hul, hH, hV, hO, hru, hsa, hB, hf⟩ := hrel
  have HH := Lib.hid hH
  have HV := Lib.hid hV
  have HO := Lib.hid hO
  have Hru := Lib.hid hru
  have Hsa := Lib.hid hsa
  have HB := Lib.hid hB
  have Hf := Lib.hid hf
  have Hul := Lib.hid hul
  have Hus := Lib.hid (show us.length ≤ 100000000000 from by
    have h1 := formsV_count us
    have h2 := Hl.out
    rw [hsa, List.length_append] at h2
    omega)
  clear hH hV hO hru hsa hB hf hul
  by_cases hlt : j < m
  · have hlen : lj.length ≤ 100000000000 := by
      have h2 := Hl.out
      rw [Hsa.out, List.length_append] at h2
      omega
    have HA1 := Lib.hid (HA.out K lj ar nr cr wr hlen (fun b hb => Nat.lt_of_lt_of_le (HK.out b hb) HH.out.below.size) HB.out Hf.out)
    have Hlt := Lib.hid hlt
    have hji : (j : Int) < (m : Int) := by omega
    obtain ⟨y0, y1, _, _⟩ := block_cells HH.out.rd
    have Hvs := Lib.hid (show w1.heap.size < wr.heap.size from (Array.getElem?_eq_some_iff.1 HV.out).1)
    clear hlen hlt hj
    go_wp2_with fail
    refine HA1.out.mono ?_
    rintro e w8 ⟨ra, ns, cs, bs, ls, hBs, hfs, hbs, hor⟩
    have HH8 := Lib.hid (HH.out.below' hbs)
    have HV8b := Lib.hid (blk HV.out hbs)
    have HBs := Lib.hid hBs
    have Hfs := Lib.hid hfs
    have Hbs := Lib.hid hbs
    clear hBs hfs hbs y0 y1
    rcases hor with ⟨u, av, cap, rfl, rfl, hv, hiv⟩ | ⟨hno, rfl⟩
    · obtain ⟨hrt, hbu, hlj⟩ := hiv
      have Hrt := Lib.hid (And.intro hrt hbu)
      have Hlj := Lib.hid hlj
      have Hv := Lib.hid hv
      clear hv hrt hbu hlj
      unfold cells5
      go_upto_region 32 with fail
      have hal1 := (Below.refl w8.heap.size w8).alloc (Nat.le_refl _) (.cells #[.slice ra ns cs, .bool false] 55)
      have hal2 := (Below.refl (w8.alloc (.cells #[.slice ra ns cs, .bool false] 55)).heap.size _).alloc (Nat.le_refl _) (.cells #[.int .i64 u.kind, .int .i64 u.n, .float .f64 u.f, .string (str u.s), .slice av u.l.length cap] 41)
      have HX := Lib.hid (blk (heap_alloc_new w8 (.cells #[.slice ra ns cs, .bool false] 55)) hal2)
      have HY := Lib.hid (heap_alloc_new (w8.alloc (.cells #[.slice ra ns cs, .bool false] 55)) (.cells #[.int .i64 u.kind, .int .i64 u.n, .float .f64 u.f, .string (str u.s), .slice av u.l.length cap] 41))
      rw [World.size_alloc] at HY
      have Hal := Lib.hid (hal1.trans (hal2.mono hal1.size))
      clear hal1 hal2
      generalize (w8.alloc (.cells #[.slice ra ns cs, .bool false] 55)).alloc (.cells #[.int .i64 u.kind, .int .i64 u.n, .float .f64 u.f, .string (str u.s), .slice av u.l.length cap] 41) = w9 at *
      have HH9 := Lib.hid (HH8.out.below' Hal.out)
      have HV9b := Lib.hid (blk HV8b.out Hal.out)
      obtain ⟨x0, x1, _, _⟩ := block_cells HX.out
      obtain ⟨y0, y1, y2, y3⟩ := block_cells HH9.out.rd
      go_upto_region 35 with fail
      have H10 := Lib.hid (HH9.out.setR ra ns cs false)
      have hV10 : ((w9.setCell ⟨w.heap.size, 0, none⟩ (.slice ra ns cs)).setCell ⟨w.heap.size, 1, none⟩ (.bool false)).heap[w1.heap.size]? = some (.cells #[.int .i64 4, .int .i64 0, .float .f64 0, .string ⟨#[]⟩, acc] 41 (0, 0)) := by rw [← HV9b.out]; simp [World.setCell, Array.getElem?_modify, show w.heap.size ≠ w1.heap.size by omega]
      have hY10 : ((w9.setCell ⟨w.heap.size, 0, none⟩ (.slice ra ns cs)).setCell ⟨w.heap.size, 1, none⟩ (.bool false)).heap[w8.heap.size + 1]? = some (.cells #[.int .i64 u.kind, .int .i64 u.n, .float .f64 u.f, .string (str u.s), .slice av u.l.length cap] 41 (0, 0)) := by rw [← HY.out]; simp [World.setCell, Array.getElem?_modify, show w.heap.size ≠ w8.heap.size + 1 by have := HH8.out.below.size; omega]
      have hkeep : ∀ b, w1.heap.size < b → ((w9.setCell ⟨w.heap.size, 0, none⟩ (.slice ra ns cs)).setCell ⟨w.heap.size, 1, none⟩ (.bool false)).heap[b]? = w9.heap[b]? := fun b hb => by simp [World.setCell, Array.getElem?_modify, show w.heap.size ≠ b by omega]
      have hsz10 : ((w9.setCell ⟨w.heap.size, 0, none⟩ (.slice ra ns cs)).setCell ⟨w.heap.size, 1, none⟩ (.bool false)).heap.size = w9.heap.size := by simp
      clear x0 x1 y0 y1 y2 y3
      generalize (w9.setCell ⟨w.heap.size, 0, none⟩ (.slice ra ns cs)).setCell ⟨w.heap.size, 1, none⟩ (.bool false) = w10 at *
      obtain ⟨k0, k1, k2, k3, k4⟩ := box5 hY10
      obtain ⟨_, _, _, _, m4⟩ := box5 hV10
      have m4f := froz hV10 4
      have hO10 : OwnVs w10 (w1.heap.size + 1) acc us := ((HO.out.keep (fun b _ hb => Hbs.out.block b hb) Hbs.out.size).keep (fun b _ hb => Hal.out.block b hb) Hal.out.size).keep (fun b hb _ => hkeep b (by omega)) (by omega)
      have hal : Below w10.heap.size w10 (w10.alloc (.cells #[.int .i64 u.kind, .int .i64 u.n, .float .f64 u.f, .string (str u.s), .slice av u.l.length cap] 41)) := (Below.refl _ _).alloc (Nat.le_refl _) _
      have hO3 := hO10.keep (fun b _ hb => hal.block b hb) hal.size
      have hblk := fun e => (HO.out.block (g := e))
      obtain ⟨cls, hcl, hrow, hel⟩ := hO3
      have hu : VInP (fun b => w1.heap.size + 1 ≤ b ∧ some b ≠ acc.ownBlock ∧ b < (w10.alloc (.cells #[.int .i64 u.kind, .int .i64 u.n, .float .f64 u.f, .string (str u.s), .slice av u.l.length cap] 41)).heap.size) (w10.alloc (.cells #[.int .i64 u.kind, .int .i64 u.n, .float .f64 u.f, .string (str u.s), .slice av u.l.length cap] 41)) u (cells5 u.kind u.n u.f u.s av u.l.length cap) :=
        VInP.turn (fun b hq => ⟨by have := Hvs.out; omega, (fun e => by have := (hblk _ e.symm).2; omega), by have := hal.size; have := Hal.out.size; omega⟩) (fun p hp => by
          unfold World.cell?
          have h8 := Hal.out.size
          rw [hal.block p.block (by omega), hkeep p.block (by have := Hvs.out; omega), Hal.out.block p.block hp.2]) u _ Hv.out
      have Hcl := Lib.hid hcl
      have Hrow := Lib.hid hrow
      have Hel := Lib.hid hel
      have Hu := Lib.hid hu
      have HHa := Lib.hid (H10.out.1.below' hal)
      have HVa := Lib.hid (blk hV10 hal)
      have Hsa10 := Lib.hid (show Below w.heap.size w8 (w10.alloc (.cells #[.int .i64 u.kind, .int .i64 u.n, .float .f64 u.f, .string (str u.s), .slice av u.l.length cap] 41)) from ((Hal.out.mono HH8.out.below.size).trans H10.out.2).trans (hal.mono H10.out.1.below.size))
      have Hbl := Lib.hid hblk
      have Hbase := Lib.hid (show w1.heap.size + 1 ≤ (w10.alloc (.cells #[.int .i64 u.kind, .int .i64 u.n, .float .f64 u.f, .string (str u.s), .slice av u.l.length cap] 41)).heap.size from by have := hal.size; have := Hal.out.size; have := Hbs.out.size; have := Hvs.out; omega)
      clear hO10 hal hblk hcl hrow hel hu hY10 hV10 hkeep hsz10
      go_wp2_with (at_builtin; refine wpList_append_lies _ rfl _ _ 39 rfl (w1.heap.size + 1) 41 i0 _ 5 64 Tryz.underlying39 hi hz0 hz1 hz2 rfl (by decide) acc us.length _ rfl Hrow.out ⟨w10.heap.size, 0, none⟩ 1 1 [.int .i64 u.kind, .int .i64 u.n, .float .f64 u.f, .string (str u.s), .slice av u.l.length cap] rfl rfl (World.news_of_block (heap_alloc_new w10 _)) (by simp [Value.oneCell']) (by decide) (by have := Hus.out; rw [maxLen_nat]; omega) (by have := Hus.out; omega) Hbase.out _ rfl ?_; intro gg cap4 w11 g1 g2 g3 g4; have hO4 := OwnVs.snoc Hcl.out Hel.out Hu.out g1 g2 (g3.imp (fun e => e.symm) (fun e => by rw [e]; rfl)); have hV11 := grown_keep g2 HVa.out (fun e => by have := (Hbl.out _ e).1; omega); have m11 := (box5 hV11).2.2.2.2; have m11f := froz hV11 4)
      have H11 := Lib.hid (HHa.out.grown g2 (fun g e => by have := (Hbl.out _ e).1; omega))
      have hset := (H11.out.1.setO (g := w1.heap.size) (i := 4) hsz3 (.slice (some ⟨gg, 0, none⟩) (us.length + 1) cap4))
      have hVs := set_headE hV11 (i := 4) (.slice (some ⟨gg, 0, none⟩) (us.length + 1) cap4)
      go_roundw
      case rel => exact ⟨j + 1, us ++ [u], ls, ra, ns, cs, _, Hlt.out, by go_num, by rw [List.length_append, Hul.out]; rfl, hset.1, hVs, hO4.keep (fun b hb _ => Below.heap_setCell _ ⟨w1.heap.size, 4, none⟩ _ b (by simp; omega)) (by simp [World.setCell]), (fun x hx => by
        rcases List.mem_append.1 hx with h | h
        · exact Hru.out x h
        · have e : x = u := by simpa using h
          rw [e]; exact Hrt.out), by rw [forms_snoc, ← Hlj.out]; exact Hsa.out, bytesB HBs.out Hfs.out HK.out ((Hsa10.out.trans H11.out.2).trans hset.2), Hfs.out⟩
      case measure => simp [intOf]; have := Hlt.out; omega
    · have Hno := Lib.hid hno
      clear hno
      unfold cells5
      go_upto_region 32 with fail
      have hal1 := (Below.refl w8.heap.size w8).alloc (Nat.le_refl _) (.cells #[.slice ra ns cs, .bool bs] 55)
      have hal2 := (Below.refl (w8.alloc (.cells #[.slice ra ns cs, .bool bs] 55)).heap.size _).alloc (Nat.le_refl _) (.cells #[.int .i64 0, .int .i64 0, .float .f64 0, .string (str []), .slice none 0 0] 41)
      have HX := Lib.hid (blk (heap_alloc_new w8 (.cells #[.slice ra ns cs, .bool bs] 55)) hal2)
      have Hal := Lib.hid (hal1.trans (hal2.mono hal1.size))
      clear hal1 hal2
      generalize (w8.alloc (.cells #[.slice ra ns cs, .bool bs] 55)).alloc (.cells #[.int .i64 0, .int .i64 0, .float .f64 0, .string (str []), .slice none 0 0] 41) = w9 at *
      have HH9 := Lib.hid (HH8.out.below' Hal.out)
      obtain ⟨x0, x1, _, _⟩ := block_cells HX.out
      obtain ⟨y0, y1, y2, y3⟩ := block_cells HH9.out.rd
      obtain ⟨q0, q1, q2, q3⟩ := block_cells HH9.out.rr
      have hrv : w9.heap[w.heap.size + 1 + 1]? = some (.cells #[.int .i64 0, .int .i64 0, .float .f64 0, .string ⟨#[]⟩, .slice none 0 0] 41 (0, 0)) := HH9.out.rv
      obtain ⟨⟨s0, s1, s2, s3, s4⟩, ⟨u0, u1, u2, u3, u4⟩⟩ := res_cells hrv
      clear hrv
      go_wp2
      have hZ := HH9.out.done ra ns cs bs (.int .i64 0) (.int .i64 0) (.float .f64 0) (.string ⟨#[]⟩) (.slice none 0 0)
      unfold sets7 at hZ
      clear q0 q1 q2 q3 s0 s1 s2 s3 s4 u0 u1 u2 u3 u4 y0 y1 y2 y3
      generalize World.setCell (World.setCell (World.setCell (World.setCell (World.setCell (World.setCell (World.setCell w9 _ _) _ _) _ _) _ _) _ _) _ _) _ _ = wz at *
      obtain ⟨⟨r0, r1⟩, r2, r3, r4, r5, r6⟩ := hZ.cells
      have HZ := Lib.hid hZ
      clear hZ
      refine bodyPost_ret (v := .tuple #[.agg #[.slice ra ns cs, .bool bs], .agg #[.int .i64 0, .int .i64 0, .float .f64 0, .string ⟨#[]⟩, .slice none 0 0], .bool false]) (by simp [results, Tryz.results82, go_sem, *]) rfl ?_
      have hbz := (Hal.out.mono HH8.out.below.size).trans HZ.out.below
      refine ⟨ra, ns, cs, bs, ls, bytesB HBs.out Hfs.out HK.out hbz, Hfs.out, HH8.out.below.trans hbz, .inr ⟨?_, rfl⟩⟩
      rw [Hsa.out]
      exact noV_elem Hm.out (by have := Hul.out; have := Hlt.out; omega) (fun u hu => (Hru.out u hu).1) (fun u hu => (Hru.out u hu).2) Hno.out
  · obtain ⟨av, cap, rfl, hle⟩ := HO.out.lies
    have Hjm := Lib.hid (show us.length = m from by have := Hul.out; omega)
    have hji : ¬ ((j : Int) < (m : Int)) := by omega
    have hjm2 : j = m := by omega
    have Hjm2 := Lib.hid hjm2
    have HVs := Lib.hid (show w1.heap.size < wr.heap.size from (Array.getElem?_eq_some_iff.1 HV.out).1)
    obtain ⟨yy0, yy1, _, _⟩ := block_cells HH.out.rd
    clear hle hlt hjm2 hj
    go_upto_region 36 with fail
    obtain ⟨y0, y1, y2, y3⟩ := block_cells HH.out.rd
    obtain ⟨q0, q1, q2, q3⟩ := block_cells HH.out.rr
    have hrv : wr.heap[w.heap.size + 1 + 1]? = some (.cells #[.int .i64 0, .int .i64 0, .float .f64 0, .string ⟨#[]⟩, .slice none 0 0] 41 (0, 0)) := HH.out.rv
    obtain ⟨⟨s0, s1, s2, s3, s4⟩, ⟨u0, u1, u2, u3, u4⟩⟩ := res_cells hrv
    obtain ⟨k0, k1, k2, k3, k4⟩ := box5 HV.out
    clear hrv
    go_wp2_with fail
    go_region
    have hZ := (HH.out.done ar nr cr false (.int .i64 4) (.int .i64 0) (.float .f64 0) (.string ⟨#[]⟩) (.slice av us.length cap)).drew
    unfold sets7 at hZ
    clear q0 q1 q2 q3 s0 s1 s2 s3 s4 u0 u1 u2 u3 u4 y0 y1 y2 y3 k0 k1 k2 k3 k4
    generalize World.drew _ = wz at *
    obtain ⟨⟨r0, r1⟩, r2, r3, r4, r5, r6⟩ := hZ.cells
    have HZ := Lib.hid hZ
    clear hZ
    go_wp2
    refine bodyPost_ret (v := .tuple #[.agg #[.slice ar nr cr, .bool false], .agg #[.int .i64 4, .int .i64 0, .float .f64 0, .string ⟨#[]⟩, .slice av us.length cap], .bool true]) (by simp [results, Tryz.results82, go_sem, *]) rfl ?_
    have hbz := HZ.out.below
    have hvd := vin_done (base := w1.heap.size - 2) (k := 4) (n := 0) (f := 0) (s := []) (wr := wr) (w' := wz) (l := us) (acc := .slice av us.length cap) (by omega) (by omega) (by omega) (by simp) (by simp) (by rw [show w1.heap.size - 2 + 3 = w1.heap.size + 1 by omega]; exact HO.out) (fun b hb _ => HZ.out.far b (by omega)) hbz.size
    refine ⟨ar, nr, cr, false, lj, bytesB HB.out Hf.out HK.out hbz, Hf.out, HH.out.below.trans hbz, .inl ⟨.mk 4 0 0 [] us, av, cap, rfl, rfl, VInP.turn (fun b hb => ⟨by omega, hb.2⟩) (fun _ _ => rfl) _ _ hvd, list_is_right (fun u hu => (Hru.out u hu).1), ?_, ?_⟩⟩
    · rw [boundV]
      exact ⟨by omega, by omega, by simp, by have := Hjm.out; have := Hm.out; omega, boundL_of (fun u hu => (Hru.out u hu).2)⟩
    · rw [formV_is, ← Hjm.out, Hsa.out]
      simp [pieceV, contF, V.kind, V.l]

end
end Go.Proofs.YtcapbaocchaenaaGreat

