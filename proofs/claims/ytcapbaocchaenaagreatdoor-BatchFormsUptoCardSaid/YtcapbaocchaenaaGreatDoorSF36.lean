import Derived.Test.YtcapbaocchaenaaGreatDoorSF35
/- The walk of the code's Read of an event, where the bytes begin with the version. -/
namespace Go.Proofs.YtcapbaocchaenaaGreatDoor
open Go.RowKit Go.Shelf Fl
attribute [local go_sem] run_store_func run_store_nilFunc

theorem only_two {w w1 w2 : World} {g E : Nat} (h : w.grownBy w1 (some g)) (k : TwoG w1 w2 g E) (hE : w.heap.size ≤ E) : w.grownBy w2 (some g) := by
  obtain ⟨b1, b2, b3, b4, b5⟩ := k
  exact ⟨b1.trans h.os, b2.trans h.tape, b3.trans h.output, Nat.le_trans h.size b4, fun i hi hg => (b5 i (Nat.lt_of_lt_of_le hi h.size) (fun e => hg (by rw [e])) (by omega)).trans (h.block i hi hg)⟩
theorem only_setR {w w1 w5 : World} {g : Nat} (h1 : w.grownBy w1 (some g)) (h : Below w.heap.size w1 w5) : w.grownBy w5 (some g) :=
  ⟨h.os.trans h1.os, h.tape.trans h1.tape, h.output.trans h1.output, Nat.le_trans h1.size h.size, fun i hi hne => (h.block i hi).trans (h1.block i hi hne)⟩
theorem two_keep {w w' : World} {g E i : Nat} {o : Obj} (h : w.heap[i]? = some o) (k : TwoG w w' g E) (hg : i ≠ g) (hE : i ≠ E) : w'.heap[i]? = some o := (k.2.2.2.2 i (Array.getElem?_eq_some_iff.1 h).1 hg hE).trans h
theorem Boxes.two {w w' : World} {A B g E : Nat} (h : Boxes w A B g E) (hn : A ≠ g ∧ B ≠ g ∧ E ≠ g ∧ A ≠ E ∧ B ≠ E) (k : TwoG w w' g E) : Boxes w' A B g E := ⟨two_keep h.a k hn.1 hn.2.2.2.1, two_keep h.b k hn.2.1 hn.2.2.2.2⟩
theorem blk {w w' : World} {i : Nat} {o : Obj} (h : w.heap[i]? = some o) (hb : Below w.heap.size w w') : w'.heap[i]? = some o := (hb.block _ (Array.getElem?_eq_some_iff.1 h).1).trans h

set_option maxRecDepth 100000 in
set_option maxHeartbeats 12800000 in
theorem evread_kind (K : Nat → Prop) (g k : Nat) (l2 : List Nat) (w : World) (hk : 1 ≤ k ∧ k ≤ 11) (hKb : ∀ b, K b → b < w.heap.size) (hl : l2.length ≤ 100000000000) (hR : RdK K w g (form 1 ++ (form k ++ l2)) true) :
    Calls Tryz.prog 42 #[.pointer (some ⟨g, 0, none⟩)] w (EvReadEnd K w g (form 1 ++ (form k ++ l2))) := by
  have hb0 := (Below.refl w.heap.size w).alloc (Nat.le_refl _) (.cells evZ 45)
  have HU := Lib.hid (mUintK _ g _ true _ _ (orNone_some g _) (hR.below hb0))
  rw [readN_form (by omega)] at HU
  have HU2 := Lib.hid (fun W (h : RdK K W g (form k ++ l2) true) => mUintK _ g _ true W W (orNone_some g W) h)
  rw [readN_form (by omega)] at HU2
  have HS := Lib.hid (fun W => small11_any k (by omega) W)
  rw [show smallE k = k from if_pos (by omega), show decide (k ≤ 2147483647) = true from decide_eq_true (by omega)] at HS
  have H0 := Lib.hid (heap_alloc_new w (.cells evZ 45))
  have Hb0 := Lib.hid hb0
  have Hg := Lib.hid (show g < w.heap.size from by obtain ⟨a, n, c, h1, _⟩ := hR; exact (Array.getElem?_eq_some_iff.1 h1).1)
  have hfl : ∀ (w : World) (a : Addr) (m : Mode) (b : Nat), (store a (.float .f64 b) m).run Tryz.prog w = stored Tryz.prog w a (.float .f64 b) m := fun w a m b => run_store Tryz.prog w a _ m rfl
  have HK := Lib.hid hKb
  have Hk := Lib.hid hk
  have Hl := Lib.hid hl
  clear hR hb0 hKb hl
  go_enter Tryz.func42, Tryz.ntmps42
  go_wp2_with fail
  refine HU.out.mono ?_
  rintro e w1 ⟨rfl, h1⟩
  have HR0 := Lib.hid (evAt_turn H0.out (show w.heap.size ≠ g by have := Hg.out; omega) h1.2)
  have H1 := Lib.hid h1
  clear h1
  have hal1 := (Below.refl w1.heap.size w1).alloc (Nat.le_refl _) (.cells evZ 45)
  have HEn := Lib.hid (heap_alloc_new w1 (.cells evZ 45))
  have Hsz1 := Lib.hid (show (w1.alloc (.cells evZ 45)).heap.size = w1.heap.size + 1 by simp)
  have Hal1 := Lib.hid hal1
  have HgE := Lib.hid (show g < w1.heap.size ∧ w.heap.size < w1.heap.size from by have h1 := H1.out.2.size; have h2 := Hg.out; rw [World.size_alloc] at h1; omega)
  clear hal1
  go_wp2_with fail
  refine (HU2.out _ (H1.out.1.below Hal1.out)).mono ?_
  rintro e w2 ⟨rfl, h2⟩
  have hE2 := evAt_turn HEn.out (show w1.heap.size ≠ g by have := HgE.out; omega) h2.2
  have HR2 := Lib.hid (evAt_turn ((Hal1.out.block _ (Array.getElem?_eq_some_iff.1 HR0.out).1).trans HR0.out) (show w.heap.size ≠ g by have := Hg.out; omega) h2.2)
  have c0 := (box11 hE2).1
  have z0 := froz hE2 0
  have HE2 := Lib.hid hE2
  have H2 := Lib.hid h2
  clear h2 hE2
  go_wp2_with fail
  refine (HS.out _).mono ?_
  rintro e w3 ⟨rfl, rfl⟩
  have HF := Lib.hid (fun W => readers_six g w1.heap.size W)
  go_wp2_with fail
  have HE4 := Lib.hid (show (w2.setCell ⟨w1.heap.size, 0, none⟩ (.int .i64 (k : Int))).heap[w1.heap.size]? = some (.cells (evC (k : Int) 0 0 0 [] [] 0 0 0 [] none 0 0) 45 (0, 0)) from set_headE HE2.out (i := 0) (.int .i64 (k : Int)))
  have HT4 := Lib.hid ((TwoG.refl w2 g w1.heap.size).set 0 (.int .i64 (k : Int)))
  have HRd4 := Lib.hid (H2.out.1.setE (i := 0) (show w1.heap.size ≠ g by have := HgE.out; omega) (fun hk => by have := HK.out _ hk; have := HgE.out; omega) (.int .i64 (k : Int)))
  clear c0 z0
  generalize w2.setCell ⟨w1.heap.size, 0, none⟩ (.int .i64 (k : Int)) = w4 at *
  have HO4 := Lib.hid (only_two (only_trans (only_below (only_trans ⟨Hb0.out.os, Hb0.out.tape, Hb0.out.output, Hb0.out.size, fun i hi _ => Hb0.out.block i hi⟩ H1.out.2) Hal1.out) H2.out.2) HT4.out (Nat.le_of_lt HgE.out.2))
  have HR4 := Lib.hid (two_keep HR2.out HT4.out (by have := Hg.out; omega) (by have := HgE.out; omega))
  have hsz2 := H2.out.2.size
  have hsz4 := HT4.out.2.2.2.1
  have HL4 := Lib.hid (show w1.heap.size < w4.heap.size from by have := Hsz1.out; omega)
  clear H2 HE2 HR2 H1 HR0 HEn HT4 H0 hsz2 hsz4 HU2 HU HS
  refine (HF.out _).mono ?_
  rintro e w5 ⟨hb5, A, B, hA, hB, hX, rfl⟩
  have Hne := Lib.hid (show A ≠ g ∧ B ≠ g ∧ w1.heap.size ≠ g ∧ A ≠ w1.heap.size ∧ B ≠ w1.heap.size from by have := HL4.out; have := HgE.out; refine ⟨?_, ?_, ?_, ?_, ?_⟩ <;> omega)
  have HX5 := Lib.hid hX
  have Hb5 := Lib.hid hb5
  have HE5 := Lib.hid (blk HE4.out hb5)
  have hal6 := (Below.refl w5.heap.size w5).alloc (Nat.le_refl _) (.cells (fr6 A B) 108)
  have hq0 := cell_below hal6 (box11 HE5.out).1
  have HA6 := Lib.hid (heap_alloc_new w5 (.cells (fr6 A B) 108))
  have Hal6 := Lib.hid (Hb5.out.trans (hal6.mono Hb5.out.size))
  have HX6 := Lib.hid (HX5.out.below hal6)
  have HE6 := Lib.hid (blk HE5.out hal6)
  have HAl := Lib.hid (show w4.heap.size ≤ A ∧ w4.heap.size ≤ B ∧ w4.heap.size ≤ w5.heap.size from ⟨hA, hB, hb5.size⟩)
  clear hA hB hX hb5 HF hal6
  unfold fr6 capW at hq0
  have HSh := Lib.hid (fun W => shape_any (k : Int) W)
  unfold ShapeEnd at HSh
  go_wp2_with fail
  obtain ⟨w6, hw6⟩ : ∃ w6, w6 = w5.alloc (.cells (fr6 A B) 108) := ⟨_, rfl⟩
  rw [← hw6] at HA6 Hal6 HX6 HE6
  rw [show w5.alloc (.cells #[Value.func (Fn.func 113) #[] #[Value.pointer (some { block := A, off := 0 }), Value.pointer (some { block := B, off := 0 })], Value.func (Fn.func 114) #[] #[Value.pointer (some { block := A, off := 0 }), Value.pointer (some { block := B, off := 0 })], Value.func (Fn.func 115) #[] #[Value.pointer (some { block := A, off := 0 }), Value.pointer (some { block := B, off := 0 })], Value.func (Fn.func 116) #[] #[Value.pointer (some { block := A, off := 0 }), Value.pointer (some { block := B, off := 0 })], Value.func (Fn.func 117) #[] #[Value.pointer (some { block := A, off := 0 }), Value.pointer (some { block := B, off := 0 })], Value.func (Fn.func 118) #[] #[Value.pointer (some { block := A, off := 0 }), Value.pointer (some { block := B, off := 0 })]] 108) = w6 from hw6.symm]
  clear hw6 hq0
  refine (HSh.out _).mono ?_
  rintro e w7 ⟨hb7, a1, rfl, hf7⟩
  have HFS := Lib.hid (show evFields (k : Int) = [] ∨ ∃ b, a1 = some ⟨b, 0, none⟩ ∧ w4.heap.size ≤ b ∧ w7.heap[b]? = some (.cells ((evFields (k : Int)).map fun (i : Nat) => Value.int .i64 (i : Int)).toArray 3 (0, 0)) from hf7.imp (fun h => h) (fun ⟨b, e1, e2, e3⟩ => ⟨b, e1, Nat.le_trans Hal6.out.size e2, e3⟩))
  have Hb7 := Lib.hid (Hal6.out.trans (hb7.mono Hal6.out.size))
  have HX7 := Lib.hid (HX6.out.below hb7)
  have HE7 := Lib.hid (blk HE6.out hb7)
  have HA7 := Lib.hid (blk HA6.out hb7)
  have HRd7 := Lib.hid (HRd4.out.below Hb7.out)
  have HR7 := Lib.hid (blk HR4.out Hb7.out)
  have HO7 := Lib.hid (only_below HO4.out Hb7.out)
  clear hb7 hf7 HA6 HX6 HE6 HX5 HE5 Hb5 HE4 HRd4 HR4 HSh Hal6
  have HLT := Lib.hid (fun j (hj : j < (evFields (k : Int)).length) => evFields_lt (k : Int) _ (List.getElem_mem hj))
  have Hlen := Lib.hid (fields_len (k : Int))
  have hsf := fun W => shape_fields (str (evName (k : Int))) a1 (evFields (k : Int)).length W
  have Hj := Lib.hid (show ∀ (e : Ev) (j : Nat) (lj : List Nat), EvD e → (h : j < (evFields (k : Int)).length) → l2 = (((evFields (k : Int)).take j).map (pieceE e)).flatten ++ lj → FldNo ((evFields (k : Int))[j]'h) lj → NoE (form 1 ++ (form k ++ l2)) from fun e j lj hd hj hl hno => noE_field (by have := Hk.out; omega) hd hj hl hno)
  have Hv := Lib.hid (show ∀ (e : Ev) (lj : List Nat), EvD e → e.k = (k : Int) → l2 = ((evFields (k : Int)).map (pieceE e)).flatten ++ lj → (∀ i, i < 6 → i ∉ evFields (k : Int) → emptyE e i = true) → okE e = false → NoE (form 1 ++ (form k ++ l2)) from fun e lj hd hk' hl hem hno => noE_valid (by have := Hk.out; omega) hd hk' hl hem hno)
  have Hnd := Lib.hid (show (evFields (k : Int)).Nodup from by unfold evFields; (repeat' split) <;> decide)
  have Hform := Lib.hid (show ∀ (e : Ev) (lj : List Nat), e.k = (k : Int) → l2 = ((evFields (k : Int)).map (pieceE e)).flatten ++ lj → form 1 ++ (form k ++ l2) = formE e ++ lj from fun e lj hk' hl => by rw [hl]; unfold formE; rw [hk', Int.toNat_natCast, List.append_assoc, List.append_assoc])
  obtain ⟨fs, hfs⟩ : ∃ fs, fs = evFields (k : Int) := ⟨_, rfl⟩
  rw [← hfs] at HFS HLT Hlen hsf Hj Hv Hnd Hform ⊢
  clear hfs
  have hE7 := HE7.out
  go_wp2
  clear hE7
  go_loopw [7, 26] (fun t7 t26 wr => ∃ (j : Nat) (e : Ev) (lj : List Nat), j ≤ fs.length ∧ t26 = .int .i64 (j : Int) ∧ Dec fs (k : Int) l2 j e lj ∧ RdK K wr g lj true ∧ EvAt wr w1.heap.size (w1.heap.size + 1) e ∧ Boxes wr A B g w1.heap.size ∧ wr.heap[w5.heap.size]? = some (.cells (fr6 A B) 108 (0, 0)) ∧ (fs = [] ∨ ∃ b, a1 = some ⟨b, 0, none⟩ ∧ w4.heap.size ≤ b ∧ wr.heap[b]? = some (.cells (fs.map fun (i : Nat) => Value.int .i64 (i : Int)).toArray 3 (0, 0))) ∧ wr.heap[w.heap.size]? = some (.cells evZ 45 (0, 0)) ∧ w.grownBy wr (some g) ∧ w4.heap.size ≤ wr.heap.size) (fun _ i _ => fs.length - (intOf i).toNat)
  case atStart => exact ⟨0, ev0 (k : Int), l2, Nat.zero_le _, rfl, Dec.start _ _ _, HRd7.out, ⟨none, 0, HE7.out, vin_atom _ 0 0 0 [] (by omega) (by omega) (by omega) (by simp) (by simp)⟩, HX7.out, HA7.out, HFS.out, HR7.out, HO7.out, Hb7.out.size⟩
  case round =>
    obtain ⟨j, e, lj, hj, rfl, hD, hRd, hE, hX, hA, hF, hR, hO, hsz⟩ := hrel
    have HD := Lib.hid hD
    have HRd := Lib.hid hRd
    have HE := Lib.hid hE
    have HX := Lib.hid hX
    have HA := Lib.hid hA
    have HR := Lib.hid hR
    have HO := Lib.hid hO
    have Hsz := Lib.hid hsz
    have HF := Lib.hid hF
    clear hD hRd hE hX hR hO hsz hF
    by_cases hlt : j < fs.length
    · obtain ⟨bF, rfl, hbF, hF⟩ := HF.out.resolve_left (by intro e; rw [e] at hlt; simp at hlt)
      have hx6 := HLT.out j hlt
      obtain ⟨x, hx⟩ : ∃ x, x = fs[j] := ⟨_, rfl⟩
      have hc : wr.cell? ⟨bF, j, none⟩ = some (.int .i64 (x : Int)) := by
        rw [cell_of_row _ _ _ _ _ (0, 0) hF, hx]
        simp [hlt]
      have Hstep := Lib.hid (show ∀ e' rest, FldOk x lj e e' rest → Dec fs (k : Int) l2 (j + 1) e' rest from fun e' rest h => HD.out.step hlt Hnd.out (fun i hi => by obtain ⟨q, hq, rfl⟩ := List.getElem_of_mem hi; exact HLT.out q hq) (by rw [← hx]; exact h))
      have Hno := Lib.hid (show FldNo x lj → NoE (form 1 ++ (form k ++ l2)) from fun h => Hj.out e j lj HD.out.d hlt HD.out.l (by rw [← hx]; exact h))
      rw [← hx] at hx6
      have hca : wr.cell? ⟨w5.heap.size, x, none⟩ = some (capW (frF x) A B) := by rw [cell_of_row _ _ _ _ _ (0, 0) hA]; exact fr6_get _ _ _ hx6
      have hent := enters_fr x
      have hlj : lj.length ≤ 100000000000 := by have h1 := Hl.out; rw [HD.out.l, List.length_append] at h1; omega
      have HC := Lib.hid (fr_any x hx6 K A B g w1.heap.size (w1.heap.size + 1) e lj wr HX.out Hne.out (fun hk => by have := HK.out _ hk; have := HgE.out; omega) (fun b hb => by have := HK.out b hb; have := HO.out.size; omega) ⟨⟨by have := HgE.out; omega, by omega⟩, by have := HL4.out; have := Hsz.out; omega⟩ hlj HRd.out HE.out)
      have hl6 : fs.length ≤ 6 := Hlen.out
      have Hlt := Lib.hid hlt
      have hxi : (x : Int) < 6 := by omega
      have hji : (j : Int) < (fs.length : Int) := by omega
      have hj6 : (j : Int) < 6 := by omega
      have HbF := Lib.hid (And.intro hbF hF)
      generalize frF x = fx at *
      clear hx hlt hA hF hx6 hlj hbF
      go_wp2_with fail
      refine HC.out.mono ?_
      rintro r wy (⟨e', rest, rfl, hok, h1, h2, h3⟩ | ⟨hno, rfl, ⟨ls, ok, h1⟩, h2⟩)
      · have Hok := Lib.hid hok
        have H1 := Lib.hid h1
        have H2 := Lib.hid h2
        have H3 := Lib.hid h3
        clear hok h1 h2 h3 hca hent hc
        go_wp2
        go_roundw
        case rel =>
          have hgg := HgE.out
          have hg0 := Hg.out
          have hal := HAl.out
          have hl4 := HL4.out
          exact ⟨j + 1, e', rest, Hlt.out, by go_num, Hstep.out _ _ Hok.out, H1.out, H3.out, HX.out.two Hne.out H2.out, two_keep HA.out H2.out (by omega) (by omega), .inr ⟨bF, rfl, HbF.out.1, two_keep HbF.out.2 H2.out (by have := HbF.out.1; omega) (by have := HbF.out.1; omega)⟩, two_keep HR.out H2.out (by omega) (by omega), only_two HO.out H2.out (by omega), Nat.le_trans Hsz.out H2.out.2.2.2.1⟩
        case measure => simp [intOf]; have := Hlt.out; omega
      · have Hno2 := Lib.hid (Hno.out hno)
        have H1 := Lib.hid h1
        have H2 := Lib.hid h2
        have hgg := HgE.out
        have HRy := Lib.hid (two_keep HR.out H2.out (by have := Hg.out; omega) (by omega))
        have HOy := Lib.hid (only_two HO.out H2.out (by omega))
        clear hno h1 h2 hca hent hc hgg
        have hR1 := HRy.out
        obtain ⟨c0, c1, c2, c3, c4, c5, c6, c7, c8, c9, c10⟩ := box11 hR1
        obtain ⟨⟨z0, z1, z2, z3, z4, z5⟩, z6, z7, z8, z9, z10⟩ := box11z hR1
        clear hR1
        go_wp2
        have hZ := sets11_at (HRy.out) (.int .i64 0) (.int .u64 0) (.int .i64 0) (.int .u64 0) (.string ⟨#[]⟩) (.string ⟨#[]⟩) (.int .i64 0) (.int .i64 0) (.float .f64 0) (.string ⟨#[]⟩) (.slice none 0 0)
        have HOt := Lib.hid (fun j (hj : j ≠ w.heap.size) => sets11_other (w := wy) hj (.int .i64 0) (.int .u64 0) (.int .i64 0) (.int .u64 0) (.string ⟨#[]⟩) (.string ⟨#[]⟩) (.int .i64 0) (.int .i64 0) (.float .f64 0) (.string ⟨#[]⟩) (.slice none 0 0))
        have HSt := Lib.hid (sets11_below (Below.refl w.heap.size wy) (Nat.le_refl _) (.int .i64 0) (.int .u64 0) (.int .i64 0) (.int .u64 0) (.string ⟨#[]⟩) (.string ⟨#[]⟩) (.int .i64 0) (.int .i64 0) (.float .f64 0) (.string ⟨#[]⟩) (.slice none 0 0))
        unfold sets11 at hZ HOt HSt
        clear c0 c1 c2 c3 c4 c5 c6 c7 c8 c9 c10 z0 z1 z2 z3 z4 z5 z6 z7 z8 z9 z10
        generalize World.setCell (World.setCell (World.setCell (World.setCell (World.setCell (World.setCell (World.setCell (World.setCell (World.setCell (World.setCell (World.setCell wy _ _) _ _) _ _) _ _) _ _) _ _) _ _) _ _) _ _) _ _) _ _ = wz at *
        obtain ⟨c0, c1, c2, c3, c4, c5, c6, c7, c8, c9, c10⟩ := box11 hZ
        refine bodyPost_ret (v := .tuple #[.agg #[.int .i64 0, .int .u64 0, .int .i64 0, .int .u64 0, .string ⟨#[]⟩, .string ⟨#[]⟩, .int .i64 0, .int .i64 0, .float .f64 0, .string ⟨#[]⟩, .slice none 0 0], .bool false]) (by simp [results, Tryz.results42, go_sem, *]) rfl (.inr ⟨Hno2.out, rfl, ls, ok, ?_⟩)
        have hg := Hg.out
        exact ⟨(H1.out).keep (HOt.out g (by omega)) (fun b hb hk => HOt.out b (fun e => absurd (HK.out b hk) (by omega))), only_setR (HOy.out) HSt.out⟩
    · obtain rfl : j = fs.length := by omega
      have hji : ¬ ((fs.length : Int) < (fs.length : Int)) := by omega
      have hD := HD.out
      obtain ⟨a2, cap2, hE2, hv2⟩ := HE.out
      have hvi : VIn wr e.v (cells5 e.v.kind e.v.n e.v.f e.v.s a2 e.v.l.length cap2) := VInP.weak e.v _ (VInP.turn (q' := fun _ => True) (fun _ _ => trivial) (fun _ _ => rfl) e.v _ hv2)
      have hd := hD.d
      have hEI : EvIn wr e (evC e.k e.id e.n e.t e.nm e.tx e.v.kind e.v.n e.v.f e.v.s a2 e.v.l.length cap2) := ⟨by have := hD.k; have := Hk.out; omega, hd.id, by have := hd.n; omega, hd.t, ⟨hd.nb, by have := hd.nm; omega⟩, ⟨hd.tb, by have := hd.tx; omega⟩, a2, cap2, rfl, hvi⟩
      have HEI := Lib.hid hEI
      have HV := Lib.hid (fun W (hW : Below wr.heap.size wr W) => evalid_any 9 (by omega) e _ W (right_small 8 _ hd.r) (hEI.below hW))
      obtain ⟨g0, g1, g2, g3, g4, g5, g6, g7, g8, g9, g10⟩ := box11 hE2
      have HE2 := Lib.hid hE2
      have hlk := hD.l
      rw [List.take_length] at hlk
      have HlF := Lib.hid hlk
      have HNo := Lib.hid (show okE e = false → NoE (form 1 ++ (form k ++ l2)) from fun h => Hv.out e lj hd hD.k hlk (fun i hi hm => hD.m i hi (by rw [List.take_length]; exact hm)) h)
      have HYes := Lib.hid (show okE e = true → IsE (form 1 ++ (form k ++ l2)) e lj from fun h => ⟨h, hEI.bound, Hform.out e lj hD.k hlk⟩)
      have Hv2 := Lib.hid hv2
      clear hD hE2 hv2 hvi hd hEI hlk hlt
      go_wp2_with fail
      refine (HV.out wr (Below.refl _ _)).mono ?_
      rintro r wv ⟨rfl, hbv⟩
      have HEv := Lib.hid (blk HE2.out hbv)
      have HRv := Lib.hid (blk HR.out hbv)
      have HRdv := Lib.hid (HRd.out.below hbv)
      have HOv := Lib.hid (only_below HO.out hbv)
      have Hbv := Lib.hid hbv
      clear hbv g0 g1 g2 g3 g4 g5 g6 g7 g8 g9 g10
      cases hok : okE e with
      | false =>
        have HNo2 := Lib.hid (HNo.out hok)
        clear hok
        have hR1 := HRv.out
        obtain ⟨c0, c1, c2, c3, c4, c5, c6, c7, c8, c9, c10⟩ := box11 hR1
        obtain ⟨⟨z0, z1, z2, z3, z4, z5⟩, z6, z7, z8, z9, z10⟩ := box11z hR1
        clear hR1
        go_wp2
        have hZ := sets11_at (HRv.out) (.int .i64 0) (.int .u64 0) (.int .i64 0) (.int .u64 0) (.string ⟨#[]⟩) (.string ⟨#[]⟩) (.int .i64 0) (.int .i64 0) (.float .f64 0) (.string ⟨#[]⟩) (.slice none 0 0)
        have HOt := Lib.hid (fun j (hj : j ≠ w.heap.size) => sets11_other (w := wv) hj (.int .i64 0) (.int .u64 0) (.int .i64 0) (.int .u64 0) (.string ⟨#[]⟩) (.string ⟨#[]⟩) (.int .i64 0) (.int .i64 0) (.float .f64 0) (.string ⟨#[]⟩) (.slice none 0 0))
        have HSt := Lib.hid (sets11_below (Below.refl w.heap.size wv) (Nat.le_refl _) (.int .i64 0) (.int .u64 0) (.int .i64 0) (.int .u64 0) (.string ⟨#[]⟩) (.string ⟨#[]⟩) (.int .i64 0) (.int .i64 0) (.float .f64 0) (.string ⟨#[]⟩) (.slice none 0 0))
        unfold sets11 at hZ HOt HSt
        clear c0 c1 c2 c3 c4 c5 c6 c7 c8 c9 c10 z0 z1 z2 z3 z4 z5 z6 z7 z8 z9 z10
        generalize World.setCell (World.setCell (World.setCell (World.setCell (World.setCell (World.setCell (World.setCell (World.setCell (World.setCell (World.setCell (World.setCell wv _ _) _ _) _ _) _ _) _ _) _ _) _ _) _ _) _ _) _ _) _ _ = wz at *
        obtain ⟨c0, c1, c2, c3, c4, c5, c6, c7, c8, c9, c10⟩ := box11 hZ
        refine bodyPost_ret (v := .tuple #[.agg #[.int .i64 0, .int .u64 0, .int .i64 0, .int .u64 0, .string ⟨#[]⟩, .string ⟨#[]⟩, .int .i64 0, .int .i64 0, .float .f64 0, .string ⟨#[]⟩, .slice none 0 0], .bool false]) (by simp [results, Tryz.results42, go_sem, *]) rfl (.inr ⟨HNo2.out, rfl, lj, true, ?_⟩)
        have hg := Hg.out
        exact ⟨(HRdv.out).keep (HOt.out g (by omega)) (fun b hb hk => HOt.out b (fun e => absurd (HK.out b hk) (by omega))), only_setR (HOv.out) HSt.out⟩
      | true =>
        have HYes2 := Lib.hid (HYes.out hok)
        clear hok
        obtain ⟨g0, g1, g2, g3, g4, g5, g6, g7, g8, g9, g10⟩ := box11 HEv.out
        obtain ⟨c0, c1, c2, c3, c4, c5, c6, c7, c8, c9, c10⟩ := box11 HRv.out
        obtain ⟨⟨z0, z1, z2, z3, z4, z5⟩, z6, z7, z8, z9, z10⟩ := box11z HRv.out
        go_wp2
        have hZ := sets11_at HRv.out (.int .i64 e.k) (.int .u64 (e.id : Int)) (.int .i64 e.n) (.int .u64 (e.t : Int)) (.string (str e.nm)) (.string (str e.tx)) (.int .i64 e.v.kind) (.int .i64 e.v.n) (.float .f64 e.v.f) (.string (str e.v.s)) (.slice a2 e.v.l.length cap2)
        have HOt := Lib.hid (fun j (hj : j ≠ w.heap.size) => sets11_other (w := wv) hj (.int .i64 e.k) (.int .u64 (e.id : Int)) (.int .i64 e.n) (.int .u64 (e.t : Int)) (.string (str e.nm)) (.string (str e.tx)) (.int .i64 e.v.kind) (.int .i64 e.v.n) (.float .f64 e.v.f) (.string (str e.v.s)) (.slice a2 e.v.l.length cap2))
        have HSt := Lib.hid (sets11_below (Below.refl w.heap.size wv) (Nat.le_refl _) (.int .i64 e.k) (.int .u64 (e.id : Int)) (.int .i64 e.n) (.int .u64 (e.t : Int)) (.string (str e.nm)) (.string (str e.tx)) (.int .i64 e.v.kind) (.int .i64 e.v.n) (.float .f64 e.v.f) (.string (str e.v.s)) (.slice a2 e.v.l.length cap2))
        unfold sets11 at hZ HOt HSt
        clear c0 c1 c2 c3 c4 c5 c6 c7 c8 c9 c10 z0 z1 z2 z3 z4 z5 z6 z7 z8 z9 z10 g0 g1 g2 g3 g4 g5 g6 g7 g8 g9 g10
        generalize World.setCell (World.setCell (World.setCell (World.setCell (World.setCell (World.setCell (World.setCell (World.setCell (World.setCell (World.setCell (World.setCell wv _ _) _ _) _ _) _ _) _ _) _ _) _ _) _ _) _ _) _ _) _ _ = wz at *
        obtain ⟨c0, c1, c2, c3, c4, c5, c6, c7, c8, c9, c10⟩ := box11 hZ
        refine bodyPost_ret (v := .tuple #[.agg (evC e.k e.id e.n e.t e.nm e.tx e.v.kind e.v.n e.v.f e.v.s a2 e.v.l.length cap2), .bool true]) (by simp [results, Tryz.results42, go_sem, *]) rfl (.inl ⟨e, lj, _, rfl, HYes2.out, ?_, ?_⟩)
        · obtain ⟨q1, q2, q3, q4, q5, q6, a3, cap3, q7, _⟩ := HEI.out
          have hgg := HgE.out
          have hbz := Hbv.out.size
          have hst := HSt.out.size
          refine ⟨q1, q2, q3, q4, q5, q6, a2, cap2, rfl, VInP.turn (fun b hb => ⟨by have := hb.1; omega, by have := hb.2; omega⟩) (fun p hp => ?_) e.v _ Hv2.out⟩
          unfold World.cell?
          have hp1 := hp.1
          rw [HOt.out p.block (by omega), Hbv.out.block p.block hp.2]
        · have hg := Hg.out
          exact ⟨HRdv.out.keep (HOt.out g (by omega)) (fun b hb hk => HOt.out b (fun e => absurd (HK.out b hk) (by omega))), only_setR HOv.out HSt.out⟩
end Go.Proofs.YtcapbaocchaenaaGreatDoor

