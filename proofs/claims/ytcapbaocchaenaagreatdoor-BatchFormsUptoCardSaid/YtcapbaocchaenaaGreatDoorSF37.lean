import Derived.Test.YtcapbaocchaenaaGreatDoorSF36
/- The walk of the code's Read of an event, whatever the bytes. -/
namespace Go.Proofs.YtcapbaocchaenaaGreatDoor
open Go.RowKit Go.Shelf Fl
attribute [local go_sem] run_store_func run_store_nilFunc

set_option maxRecDepth 100000 in
set_option maxHeartbeats 12800000 in
theorem evread_nokind (K : Nat → Prop) (g : Nat) (l : List Nat) (w : World) (x : Nat) (l2 : List Nat) (ok : Bool) (hx : x < 18446744073709551616) (hn : readN l true = (x, l2, ok)) (hk : ¬ (1 ≤ smallE x ∧ smallE x ≤ 11)) (hno : NoE (form 1 ++ l)) (hKb : ∀ b, K b → b < w.heap.size) (hR : RdK K w g (form 1 ++ l) true) :
    Calls Tryz.prog 42 #[.pointer (some ⟨g, 0, none⟩)] w (EvReadEnd K w g (form 1 ++ l)) := by
  obtain ⟨k, hke⟩ : ∃ k, k = smallE x := ⟨_, rfl⟩
  rw [← hke] at hk
  have hk2 : k ≤ 2147483647 := by rw [hke]; unfold smallE; split <;> omega
  have hb0 := (Below.refl w.heap.size w).alloc (Nat.le_refl _) (.cells evZ 45)
  have HU := Lib.hid (mUintK _ g _ true _ _ (orNone_some g _) (hR.below hb0))
  rw [readN_form (by omega)] at HU
  have HU2 := Lib.hid (fun W (h : RdK K W g l true) => mUintK _ g _ true W W (orNone_some g W) h)
  rw [hn] at HU2
  have HS := Lib.hid (fun W => small11_any x hx W)
  rw [← hke] at HS
  obtain ⟨q, hq⟩ : ∃ q : Bool, q = decide (x ≤ 2147483647) := ⟨_, rfl⟩
  rw [← hq] at HS
  have Hno := Lib.hid hno
  have Hk2 := Lib.hid hk2
  clear hq hke hk2 hn hx hno
  have H0 := Lib.hid (heap_alloc_new w (.cells evZ 45))
  have Hb0 := Lib.hid hb0
  have Hg := Lib.hid (show g < w.heap.size from by obtain ⟨a, n, c, h1, _⟩ := hR; exact (Array.getElem?_eq_some_iff.1 h1).1)
  have hfl : ∀ (w : World) (a : Addr) (m : Mode) (b : Nat), (store a (.float .f64 b) m).run Tryz.prog w = stored Tryz.prog w a (.float .f64 b) m := fun w a m b => run_store Tryz.prog w a _ m rfl
  have HK := Lib.hid hKb
  have Hk := Lib.hid hk
  clear hR hb0 hKb hk
  go_enter Tryz.func42, Tryz.ntmps42
  go_wp2_with fail
  refine HU.out.mono ?_
  rintro e w1 ⟨rfl, h1⟩
  have HR0 := Lib.hid (evAt_turn H0.out (show w.heap.size ≠ g by have := Hg.out; omega) h1.2)
  have H1 := Lib.hid h1
  clear h1
  have hal1 := (Below.refl w1.heap.size w1).alloc (Nat.le_refl _) (.cells evZ 45)
  have HEn := Lib.hid (heap_alloc_new w1 (.cells evZ 45))
  have Hsz1 := Lib.hid (show (w1.alloc (.cells evZ 45)).heap.size = w1.heap.size + 1 by simp)
  have Hal1 := Lib.hid hal1
  have HgE := Lib.hid (show g < w1.heap.size ∧ w.heap.size < w1.heap.size from by have h1 := H1.out.2.size; have h2 := Hg.out; rw [World.size_alloc] at h1; omega)
  clear hal1
  go_wp2_with fail
  refine (HU2.out _ (H1.out.1.below Hal1.out)).mono ?_
  rintro e w2 ⟨rfl, h2⟩
  have hE2 := evAt_turn HEn.out (show w1.heap.size ≠ g by have := HgE.out; omega) h2.2
  have HR2 := Lib.hid (evAt_turn ((Hal1.out.block _ (Array.getElem?_eq_some_iff.1 HR0.out).1).trans HR0.out) (show w.heap.size ≠ g by have := Hg.out; omega) h2.2)
  have c0 := (box11 hE2).1
  have z0 := froz hE2 0
  have HE2 := Lib.hid hE2
  have H2 := Lib.hid h2
  clear h2 hE2
  go_wp2_with fail
  refine (HS.out _).mono ?_
  rintro e w3 ⟨rfl, rfl⟩
  have HF := Lib.hid (fun W => readers_six g w1.heap.size W)
  go_wp2_with fail
  have HE4 := Lib.hid (show (w2.setCell ⟨w1.heap.size, 0, none⟩ (.int .i64 (k : Int))).heap[w1.heap.size]? = some (.cells (evC (k : Int) 0 0 0 [] [] 0 0 0 [] none 0 0) 45 (0, 0)) from set_headE HE2.out (i := 0) (.int .i64 (k : Int)))
  have HT4 := Lib.hid ((TwoG.refl w2 g w1.heap.size).set 0 (.int .i64 (k : Int)))
  have HRd4 := Lib.hid (H2.out.1.setE (i := 0) (show w1.heap.size ≠ g by have := HgE.out; omega) (fun hk => by have := HK.out _ hk; have := HgE.out; omega) (.int .i64 (k : Int)))
  clear c0 z0
  generalize w2.setCell ⟨w1.heap.size, 0, none⟩ (.int .i64 (k : Int)) = w4 at *
  have HO4 := Lib.hid (only_two (only_trans (only_below (only_trans ⟨Hb0.out.os, Hb0.out.tape, Hb0.out.output, Hb0.out.size, fun i hi _ => Hb0.out.block i hi⟩ H1.out.2) Hal1.out) H2.out.2) HT4.out (Nat.le_of_lt HgE.out.2))
  have HR4 := Lib.hid (two_keep HR2.out HT4.out (by have := Hg.out; omega) (by have := HgE.out; omega))
  have hsz2 := H2.out.2.size
  have hsz4 := HT4.out.2.2.2.1
  have HL4 := Lib.hid (show w1.heap.size < w4.heap.size from by have := Hsz1.out; omega)
  clear H2 HE2 HR2 H1 HR0 HEn HT4 H0 hsz2 hsz4 HU2 HU HS
  refine (HF.out _).mono ?_
  rintro e w5 ⟨hb5, A, B, hA, hB, hX, rfl⟩
  have Hne := Lib.hid (show A ≠ g ∧ B ≠ g ∧ w1.heap.size ≠ g ∧ A ≠ w1.heap.size ∧ B ≠ w1.heap.size from by have := HL4.out; have := HgE.out; refine ⟨?_, ?_, ?_, ?_, ?_⟩ <;> omega)
  have HX5 := Lib.hid hX
  have Hb5 := Lib.hid hb5
  have HE5 := Lib.hid (blk HE4.out hb5)
  have hal6 := (Below.refl w5.heap.size w5).alloc (Nat.le_refl _) (.cells (fr6 A B) 108)
  have hq0 := cell_below hal6 (box11 HE5.out).1
  have HA6 := Lib.hid (heap_alloc_new w5 (.cells (fr6 A B) 108))
  have Hal6 := Lib.hid (Hb5.out.trans (hal6.mono Hb5.out.size))
  have HX6 := Lib.hid (HX5.out.below hal6)
  have HE6 := Lib.hid (blk HE5.out hal6)
  have HAl := Lib.hid (show w4.heap.size ≤ A ∧ w4.heap.size ≤ B ∧ w4.heap.size ≤ w5.heap.size from ⟨hA, hB, hb5.size⟩)
  clear hA hB hX hb5 HF hal6
  unfold fr6 capW at hq0
  have HSh := Lib.hid (fun W => shape_any (k : Int) W)
  unfold ShapeEnd at HSh
  go_wp2_with fail
  obtain ⟨w6, hw6⟩ : ∃ w6, w6 = w5.alloc (.cells (fr6 A B) 108) := ⟨_, rfl⟩
  rw [← hw6] at HA6 Hal6 HX6 HE6
  rw [show w5.alloc (.cells #[Value.func (Fn.func 113) #[] #[Value.pointer (some { block := A, off := 0 }), Value.pointer (some { block := B, off := 0 })], Value.func (Fn.func 114) #[] #[Value.pointer (some { block := A, off := 0 }), Value.pointer (some { block := B, off := 0 })], Value.func (Fn.func 115) #[] #[Value.pointer (some { block := A, off := 0 }), Value.pointer (some { block := B, off := 0 })], Value.func (Fn.func 116) #[] #[Value.pointer (some { block := A, off := 0 }), Value.pointer (some { block := B, off := 0 })], Value.func (Fn.func 117) #[] #[Value.pointer (some { block := A, off := 0 }), Value.pointer (some { block := B, off := 0 })], Value.func (Fn.func 118) #[] #[Value.pointer (some { block := A, off := 0 }), Value.pointer (some { block := B, off := 0 })]] 108) = w6 from hw6.symm]
  clear hw6 hq0
  refine (HSh.out _).mono ?_
  rintro e w7 ⟨hb7, a1, rfl, hf7⟩
  have HFS := Lib.hid (show evFields (k : Int) = [] ∨ ∃ b, a1 = some ⟨b, 0, none⟩ ∧ w4.heap.size ≤ b ∧ w7.heap[b]? = some (.cells ((evFields (k : Int)).map fun (i : Nat) => Value.int .i64 (i : Int)).toArray 3 (0, 0)) from hf7.imp (fun h => h) (fun ⟨b, e1, e2, e3⟩ => ⟨b, e1, Nat.le_trans Hal6.out.size e2, e3⟩))
  have Hb7 := Lib.hid (Hal6.out.trans (hb7.mono Hal6.out.size))
  have HX7 := Lib.hid (HX6.out.below hb7)
  have HE7 := Lib.hid (blk HE6.out hb7)
  have HA7 := Lib.hid (blk HA6.out hb7)
  have HRd7 := Lib.hid (HRd4.out.below Hb7.out)
  have HR7 := Lib.hid (blk HR4.out Hb7.out)
  have HO7 := Lib.hid (only_below HO4.out Hb7.out)
  clear hb7 hf7 HA6 HX6 HE6 HX5 HE5 Hb5 HE4 HRd4 HR4 HSh Hal6
  obtain ⟨hen, hef⟩ := evName_none (k := (k : Int)) (by have := Hk.out; omega)
  have Hokz := Lib.hid (show okE (ev0 (k : Int)) = false from by
    unfold okE ev0
    rw [hen]
    rfl)
  rw [hef]
  have hsf := fun W => shape_fields (str (evName (k : Int))) a1 0 W
  clear hef HFS hen
  have hE7 := HE7.out
  go_wp2
  clear hE7
  go_loopw [7, 26] (fun t7 t26 wr => t26 = .int .i64 0 ∧ wr = w7) (fun _ _ _ => 0)
  case atStart => exact ⟨rfl, rfl⟩
  case round =>
    obtain ⟨rfl, rfl⟩ := hrel
    have hE2 := HE7.out
    have hvi : VIn wr zeroV (cells5 0 0 0 [] none 0 0) := zero_in wr
    have hEI : EvIn wr (ev0 (k : Int)) (evC (k : Int) 0 0 0 [] [] 0 0 0 [] none 0 0) := ⟨(show -9223372036854775808 ≤ (k : Int) ∧ (k : Int) ≤ 9223372036854775807 by have := Hk2.out; omega), (show 0 < 18446744073709551616 by omega), (show (-9223372036854775808 : Int) ≤ 0 ∧ (0 : Int) ≤ 9223372036854775807 by omega), (show 0 < 18446744073709551616 by omega), ⟨fun c h => (by cases h), (show 0 ≤ 9223372036854775807 by omega)⟩, ⟨fun c h => (by cases h), (show 0 ≤ 9223372036854775807 by omega)⟩, none, 0, rfl, hvi⟩
    have HV := Lib.hid (evalid_any 9 (by omega) (ev0 (k : Int)) _ wr (right_small 8 _ (ev0_d (k : Int)).r) hEI)
    rw [Hokz.out] at HV
    obtain ⟨g0, g1, g2, g3, g4, g5, g6, g7, g8, g9, g10⟩ := box11 hE2
    clear hE2 hvi hEI
    go_wp2_with fail
    refine HV.out.mono ?_
    rintro r wv ⟨rfl, hbv⟩
    have HRv := Lib.hid (blk HR7.out hbv)
    have HRdv := Lib.hid (HRd7.out.below hbv)
    have HOv := Lib.hid (only_below HO7.out hbv)
    clear hbv g0 g1 g2 g3 g4 g5 g6 g7 g8 g9 g10
    have hR1 := HRv.out
    obtain ⟨c0, c1, c2, c3, c4, c5, c6, c7, c8, c9, c10⟩ := box11 hR1
    obtain ⟨⟨z0, z1, z2, z3, z4, z5⟩, z6, z7, z8, z9, z10⟩ := box11z hR1
    clear hR1
    go_wp2
    have hZ := sets11_at (HRv.out) (.int .i64 0) (.int .u64 0) (.int .i64 0) (.int .u64 0) (.string ⟨#[]⟩) (.string ⟨#[]⟩) (.int .i64 0) (.int .i64 0) (.float .f64 0) (.string ⟨#[]⟩) (.slice none 0 0)
    have HOt := Lib.hid (fun j (hj : j ≠ w.heap.size) => sets11_other (w := wv) hj (.int .i64 0) (.int .u64 0) (.int .i64 0) (.int .u64 0) (.string ⟨#[]⟩) (.string ⟨#[]⟩) (.int .i64 0) (.int .i64 0) (.float .f64 0) (.string ⟨#[]⟩) (.slice none 0 0))
    have HSt := Lib.hid (sets11_below (Below.refl w.heap.size wv) (Nat.le_refl _) (.int .i64 0) (.int .u64 0) (.int .i64 0) (.int .u64 0) (.string ⟨#[]⟩) (.string ⟨#[]⟩) (.int .i64 0) (.int .i64 0) (.float .f64 0) (.string ⟨#[]⟩) (.slice none 0 0))
    unfold sets11 at hZ HOt HSt
    clear c0 c1 c2 c3 c4 c5 c6 c7 c8 c9 c10 z0 z1 z2 z3 z4 z5 z6 z7 z8 z9 z10
    generalize World.setCell (World.setCell (World.setCell (World.setCell (World.setCell (World.setCell (World.setCell (World.setCell (World.setCell (World.setCell (World.setCell wv _ _) _ _) _ _) _ _) _ _) _ _) _ _) _ _) _ _) _ _) _ _ = wz at *
    obtain ⟨c0, c1, c2, c3, c4, c5, c6, c7, c8, c9, c10⟩ := box11 hZ
    refine bodyPost_ret (v := .tuple #[.agg #[.int .i64 0, .int .u64 0, .int .i64 0, .int .u64 0, .string ⟨#[]⟩, .string ⟨#[]⟩, .int .i64 0, .int .i64 0, .float .f64 0, .string ⟨#[]⟩, .slice none 0 0], .bool false]) (by simp [results, Tryz.results42, go_sem, *]) rfl (.inr ⟨Hno.out, rfl, l2, ok, ?_⟩)
    have hg := Hg.out
    exact ⟨(HRdv.out).keep (HOt.out g (by omega)) (fun b hb hk => HOt.out b (fun e => absurd (HK.out b hk) (by omega))), only_setR (HOv.out) HSt.out⟩

theorem evread_any (K : Nat → Prop) (g : Nat) (l : List Nat) (w : World) (hKb : ∀ b, K b → b < w.heap.size) (hl : l.length ≤ 100000000000) (hR : RdK K w g l true) :
    Calls Tryz.prog 42 #[.pointer (some ⟨g, 0, none⟩)] w (EvReadEnd K w g l) := by
  by_cases hv : ∃ r, l = form 1 ++ r
  · obtain ⟨l1, rfl⟩ := hv
    have hb1 : ∀ c ∈ l1, c < 256 := fun c hc => hR.byte c (List.mem_append.2 (.inr hc))
    rcases readN_only hb1 with ⟨x, l2, hx, rfl⟩ | ⟨hn, hno⟩
    · by_cases hk : 1 ≤ x ∧ x ≤ 11
      · exact evread_kind K g x l2 w hk hKb (by rw [List.length_append, List.length_append] at hl; omega) hR
      · refine evread_nokind K g _ w x l2 true hx (readN_form hx l2) (fun h => hk ?_) (noE_kind hx hk) hKb hR
        unfold smallE at h
        split at h
        · exact h
        · omega
    · exact evread_nokind K g _ w 0 l1 false (by omega) hn (fun h => by unfold smallE at h; simp at h) (noE_nokind hno) hKb hR
  · exact evread_version K g l w (fun r h => hv ⟨r, h⟩) hKb hR
end Go.Proofs.YtcapbaocchaenaaGreatDoor

