import Derived.Test.YtmcdfmhciinocaaGreatDoorSR31
import Derived.Test.YtmcdfmhciinocaaGreatDoorSR27
import Derived.RegionTactic
/- The walk of the code's Read of an event, whatever the bytes. -/
namespace Go.Proofs.YtmcdfmhciinocaaGreatDoor
open Go.RowKit Go.Shelf Fl
attribute [local go_sem] run_store_func run_store_nilFunc

set_option maxRecDepth 100000 in
set_option maxHeartbeats 12800000 in
theorem evread_nokind (K : Nat → Prop) (g : Nat) (l : List Nat) (w : World) (x : Nat) (l2 : List Nat) (ok : Bool) (hx : x < 18446744073709551616) (hn : readN l true = (x, l2, ok)) (hk : ¬ (1 ≤ smallE x ∧ smallE x ≤ 11)) (hno : NoE (form 1 ++ l)) (hKb : ∀ b, K b → b < w.heap.size) (hR : RdK K w g (form 1 ++ l) true) :
    Calls Tryz.prog 16 #[.pointer (some ⟨g, 0, none⟩)] w (EvReadEnd K w g (form 1 ++ l)) := by
  obtain ⟨k, hke⟩ : ∃ k, k = smallE x := ⟨_, rfl⟩
  rw [← hke] at hk
  have hk2 : k ≤ 2147483647 := by rw [hke]; unfold smallE; split <;> omega
  have hb0 := (Below.refl w.heap.size w).alloc (Nat.le_refl _) (.cells evZ 28)
  have HU := Lib.hid (mUintK _ g _ true _ _ (orNone_some g _) (hR.below hb0))
  rw [readN_form (by omega)] at HU
  have HU2 := Lib.hid (fun W (h : RdK K W g l true) => mUintK _ g _ true W W (orNone_some g W) h)
  rw [hn] at HU2
  have HS := Lib.hid (fun W => small11_any x hx W)
  rw [← hke] at HS
  obtain ⟨q, hq⟩ : ∃ q : Bool, q = decide (x ≤ 2147483647) := ⟨_, rfl⟩
  rw [← hq] at HS
  have Hno := Lib.hid hno
  have Hk2 := Lib.hid hk2
  clear hq hke hk2 hn hx hno
  have H0 := Lib.hid (heap_alloc_new w (.cells evZ 28))
  have Hb0 := Lib.hid hb0
  have Hg := Lib.hid (show g < w.heap.size from by obtain ⟨a, n, c, h1, _⟩ := hR; exact (Array.getElem?_eq_some_iff.1 h1).1)
  have hfl : ∀ (w : World) (a : Addr) (m : Mode) (b : Nat), (store a (.float .f64 b) m).run Tryz.prog w = stored Tryz.prog w a (.float .f64 b) m := fun w a m b => run_store Tryz.prog w a _ m rfl
  have HK := Lib.hid hKb
  have Hk := Lib.hid hk
  clear hR hb0 hKb hk
  go_enter Tryz.func16, Tryz.ntmps16
  go_wp2_with fail
  refine HU.out.mono ?_
  rintro e w1 ⟨rfl, h1⟩
  have HR0 := Lib.hid (evAt_turn H0.out (show w.heap.size ≠ g by have := Hg.out; omega) h1.2)
  have H1 := Lib.hid h1
  clear h1
  have hal1 := (Below.refl w1.heap.size w1).alloc (Nat.le_refl _) (.cells evZ 28)
  have HEn := Lib.hid (heap_alloc_new w1 (.cells evZ 28))
  have Hsz1 := Lib.hid (show (w1.alloc (.cells evZ 28)).heap.size = w1.heap.size + 1 by simp)
  have Hal1 := Lib.hid hal1
  have HgE := Lib.hid (show g < w1.heap.size ∧ w.heap.size < w1.heap.size from by have h1 := H1.out.2.size; have h2 := Hg.out; rw [World.size_alloc] at h1; omega)
  clear hal1
  go_wp2_with fail
  refine (HU2.out _ (H1.out.1.below Hal1.out)).mono ?_
  rintro e w2 ⟨rfl, h2⟩
  have hE2 := evAt_turn HEn.out (show w1.heap.size ≠ g by have := HgE.out; omega) h2.2
  have HR2 := Lib.hid (evAt_turn ((Hal1.out.block _ (Array.getElem?_eq_some_iff.1 HR0.out).1).trans HR0.out) (show w.heap.size ≠ g by have := Hg.out; omega) h2.2)
  have c0 := (box11 hE2).1
  have z0 := froz hE2 0
  have HE2 := Lib.hid hE2
  have H2 := Lib.hid h2
  clear h2 hE2
  go_wp2_with fail
  refine (HS.out _).mono ?_
  rintro e w3 ⟨rfl, rfl⟩
  have HF := Lib.hid (fun W => readers_six g w1.heap.size W)
  go_wp2_with fail
  have HE4 := Lib.hid (show (w2.setCell ⟨w1.heap.size, 0, none⟩ (.int .i64 (k : Int))).heap[w1.heap.size]? = some (.cells (evC (k : Int) 0 0 0 [] [] 0 0 0 [] none 0 0) 28 (0, 0)) from set_headE HE2.out (i := 0) (.int .i64 (k : Int)))
  have HT4 := Lib.hid ((TwoG.refl w2 g w1.heap.size).set 0 (.int .i64 (k : Int)))
  have HRd4 := Lib.hid (H2.out.1.setE (i := 0) (show w1.heap.size ≠ g by have := HgE.out; omega) (fun hk => by have := HK.out _ hk; have := HgE.out; omega) (.int .i64 (k : Int)))
  clear c0 z0
  generalize w2.setCell ⟨w1.heap.size, 0, none⟩ (.int .i64 (k : Int)) = w4 at *
  have HO4 := Lib.hid (only_two (only_trans (only_below (only_trans ⟨Hb0.out.os, Hb0.out.tape, Hb0.out.output, Hb0.out.size, fun i hi _ => Hb0.out.block i hi⟩ H1.out.2) Hal1.out) H2.out.2) HT4.out (Nat.le_of_lt HgE.out.2))
  have HR4 := Lib.hid (two_keep HR2.out HT4.out (by have := Hg.out; omega) (by have := HgE.out; omega))
  have hsz2 := H2.out.2.size
  have hsz4 := HT4.out.2.2.2.1
  have HL4 := Lib.hid (show w1.heap.size < w4.heap.size from by have := Hsz1.out; omega)
  clear H2 HE2 HR2 H1 HR0 HEn HT4 H0 hsz2 hsz4 HU2 HU HS
  refine (HF.out _).mono ?_
  rintro e w5 ⟨hb5, A, B, hA, hB, hX, rfl⟩
  have Hne := Lib.hid (show A ≠ g ∧ B ≠ g ∧ w1.heap.size ≠ g ∧ A ≠ w1.heap.size ∧ B ≠ w1.heap.size from by have := HL4.out; have := HgE.out; refine ⟨?_, ?_, ?_, ?_, ?_⟩ <;> omega)
  have HX5 := Lib.hid hX
  have Hb5 := Lib.hid hb5
  have HE5 := Lib.hid (blk HE4.out hb5)
  have hal6 := (Below.refl w5.heap.size w5).alloc (Nat.le_refl _) (.cells (fr6 A B) 68)
  have hq0 := cell_below hal6 (box11 HE5.out).1
  have HA6 := Lib.hid (heap_alloc_new w5 (.cells (fr6 A B) 68))
  have Hal6 := Lib.hid (Hb5.out.trans (hal6.mono Hb5.out.size))
  have HX6 := Lib.hid (HX5.out.below hal6)
  have HE6 := Lib.hid (blk HE5.out hal6)
  have HAl := Lib.hid (show w4.heap.size ≤ A ∧ w4.heap.size ≤ B ∧ w4.heap.size ≤ w5.heap.size from ⟨hA, hB, hb5.size⟩)
  clear hA hB hX hb5 HF hal6
  unfold fr6 capW at hq0
  have HSh := Lib.hid (fun W => shape_any (k : Int) W)
  unfold ShapeEnd at HSh
  go_wp2_with fail
  obtain ⟨w6, hw6⟩ : ∃ w6, w6 = w5.alloc (.cells (fr6 A B) 68) := ⟨_, rfl⟩
  rw [← hw6] at HA6 Hal6 HX6 HE6
  rw [show w5.alloc (.cells #[Value.func (Fn.func 117) #[] #[Value.pointer (some { block := A, off := 0 }), Value.pointer (some { block := B, off := 0 })], Value.func (Fn.func 118) #[] #[Value.pointer (some { block := A, off := 0 }), Value.pointer (some { block := B, off := 0 })], Value.func (Fn.func 119) #[] #[Value.pointer (some { block := A, off := 0 }), Value.pointer (some { block := B, off := 0 })], Value.func (Fn.func 120) #[] #[Value.pointer (some { block := A, off := 0 }), Value.pointer (some { block := B, off := 0 })], Value.func (Fn.func 121) #[] #[Value.pointer (some { block := A, off := 0 }), Value.pointer (some { block := B, off := 0 })], Value.func (Fn.func 122) #[] #[Value.pointer (some { block := A, off := 0 }), Value.pointer (some { block := B, off := 0 })]] 68) = w6 from hw6.symm]
  clear hw6 hq0
  refine (HSh.out _).mono ?_
  rintro e w7 ⟨hb7, a1, rfl, hf7⟩
  have HFS := Lib.hid (show evFields (k : Int) = [] ∨ ∃ b, a1 = some ⟨b, 0, none⟩ ∧ w4.heap.size ≤ b ∧ w7.heap[b]? = some (.cells ((evFields (k : Int)).map fun (i : Nat) => Value.int .i64 (i : Int)).toArray 3 (0, 0)) from hf7.imp (fun h => h) (fun ⟨b, e1, e2, e3⟩ => ⟨b, e1, Nat.le_trans Hal6.out.size e2, e3⟩))
  have Hb7 := Lib.hid (Hal6.out.trans (hb7.mono Hal6.out.size))
  have HX7 := Lib.hid (HX6.out.below hb7)
  have HE7 := Lib.hid (blk HE6.out hb7)
  have HA7 := Lib.hid (blk HA6.out hb7)
  have HRd7 := Lib.hid (HRd4.out.below Hb7.out)
  have HR7 := Lib.hid (blk HR4.out Hb7.out)
  have HO7 := Lib.hid (only_below HO4.out Hb7.out)
  clear hb7 hf7 HA6 HX6 HE6 HX5 HE5 Hb5 HE4 HRd4 HR4 HSh Hal6
  obtain ⟨hen, hef⟩ := evName_none (k := (k : Int)) (by have := Hk.out; omega)
  have Hokz := Lib.hid (show okE (ev0 (k : Int)) = false from by
    unfold okE ev0
    rw [hen]
    rfl)
  rw [hef]
  have hsf := fun W => shape_fields (str (evName (k : Int))) a1 0 W
  clear hef HFS hen
  have hE7 := HE7.out
  go_wp2
  clear hE7
  go_loopw [7, 26] (fun t7 t26 wr => t26 = .int .i64 0 ∧ wr = w7) (fun _ _ _ => 0)
  case atStart => exact ⟨rfl, rfl⟩
  case round =>
    obtain ⟨rfl, rfl⟩ := hrel
    have hE2 := HE7.out
    have hvi : VIn wr zeroV (cells5 0 0 0 [] none 0 0) := zero_in wr
    have hEI : EvIn wr (ev0 (k : Int)) (evC (k : Int) 0 0 0 [] [] 0 0 0 [] none 0 0) := ⟨(show -9223372036854775808 ≤ (k : Int) ∧ (k : Int) ≤ 9223372036854775807 by have := Hk2.out; omega), (show 0 < 18446744073709551616 by omega), (show (-9223372036854775808 : Int) ≤ 0 ∧ (0 : Int) ≤ 9223372036854775807 by omega), (show 0 < 18446744073709551616 by omega), ⟨fun c h => (by cases h), (show 0 ≤ 9223372036854775807 by omega)⟩, ⟨fun c h => (by cases h), (show 0 ≤ 9223372036854775807 by omega)⟩, none, 0, rfl, hvi⟩
    have HV := Lib.hid (evalid_any 9 (by omega) (ev0 (k : Int)) _ wr (right_small 8 _ (ev0_d (k : Int)).r) hEI)
    rw [Hokz.out] at HV
    obtain ⟨g0, g1, g2, g3, g4, g5, g6, g7, g8, g9, g10⟩ := box11 hE2
    clear hE2 hvi hEI
    go_wp2_with fail
    refine HV.out.mono ?_
    rintro r wv ⟨rfl, hbv⟩
    have HRv := Lib.hid (blk HR7.out hbv)
    have HRdv := Lib.hid (HRd7.out.below hbv)
    have HOv := Lib.hid (only_below HO7.out hbv)
    clear hbv g0 g1 g2 g3 g4 g5 g6 g7 g8 g9 g10
    have hR1 := HRv.out
    obtain ⟨c0, c1, c2, c3, c4, c5, c6, c7, c8, c9, c10⟩ := box11 hR1
    obtain ⟨⟨z0, z1, z2, z3, z4, z5⟩, z6, z7, z8, z9, z10⟩ := box11z hR1
    clear hR1
    go_wp2
    have hZ := sets11_at (HRv.out) (.int .i64 0) (.int .u64 0) (.int .i64 0) (.int .u64 0) (.string ⟨#[]⟩) (.string ⟨#[]⟩) (.int .i64 0) (.int .i64 0) (.float .f64 0) (.string ⟨#[]⟩) (.slice none 0 0)
    have HOt := Lib.hid (fun j (hj : j ≠ w.heap.size) => sets11_other (w := wv) hj (.int .i64 0) (.int .u64 0) (.int .i64 0) (.int .u64 0) (.string ⟨#[]⟩) (.string ⟨#[]⟩) (.int .i64 0) (.int .i64 0) (.float .f64 0) (.string ⟨#[]⟩) (.slice none 0 0))
    have HSt := Lib.hid (sets11_below (Below.refl w.heap.size wv) (Nat.le_refl _) (.int .i64 0) (.int .u64 0) (.int .i64 0) (.int .u64 0) (.string ⟨#[]⟩) (.string ⟨#[]⟩) (.int .i64 0) (.int .i64 0) (.float .f64 0) (.string ⟨#[]⟩) (.slice none 0 0))
    unfold sets11 at hZ HOt HSt
    clear c0 c1 c2 c3 c4 c5 c6 c7 c8 c9 c10 z0 z1 z2 z3 z4 z5 z6 z7 z8 z9 z10
    generalize World.setCell (World.setCell (World.setCell (World.setCell (World.setCell (World.setCell (World.setCell (World.setCell (World.setCell (World.setCell (World.setCell wv _ _) _ _) _ _) _ _) _ _) _ _) _ _) _ _) _ _) _ _) _ _ = wz at *
    obtain ⟨c0, c1, c2, c3, c4, c5, c6, c7, c8, c9, c10⟩ := box11 hZ
    refine bodyPost_ret (v := .tuple #[.agg #[.int .i64 0, .int .u64 0, .int .i64 0, .int .u64 0, .string ⟨#[]⟩, .string ⟨#[]⟩, .int .i64 0, .int .i64 0, .float .f64 0, .string ⟨#[]⟩, .slice none 0 0], .bool false]) (by simp [results, Tryz.results16, go_sem, *]) rfl (.inr ⟨Hno.out, rfl, l2, ok, ?_⟩)
    have hg := Hg.out
    exact ⟨(HRdv.out).keep (HOt.out g (by omega)) (fun b hb hk => HOt.out b (fun e => absurd (HK.out b hk) (by omega))), only_setR (HOv.out) HSt.out⟩

theorem evread_any (K : Nat → Prop) (g : Nat) (l : List Nat) (w : World) (hKb : ∀ b, K b → b < w.heap.size) (hl : l.length ≤ 1000000) (hR : RdK K w g l true) :
    Calls Tryz.prog 16 #[.pointer (some ⟨g, 0, none⟩)] w (EvReadEnd K w g l) := by
  by_cases hv : ∃ r, l = form 1 ++ r
  · obtain ⟨l1, rfl⟩ := hv
    have hb1 : ∀ c ∈ l1, c < 256 := fun c hc => hR.byte c (List.mem_append.2 (.inr hc))
    rcases readN_only hb1 with ⟨x, l2, hx, rfl⟩ | ⟨hn, hno⟩
    · by_cases hk : 1 ≤ x ∧ x ≤ 11
      · exact evread_kind K g x l2 w hk hKb (by rw [List.length_append, List.length_append] at hl; omega) hR
      · refine evread_nokind K g _ w x l2 true hx (readN_form hx l2) (fun h => hk ?_) (noE_kind hx hk) hKb hR
        unfold smallE at h
        split at h
        · exact h
        · omega
    · exact evread_nokind K g _ w 0 l1 false (by omega) hn (fun h => by unfold smallE at h; simp at h) (noE_nokind hno) hKb hR
  · exact evread_version K g l w (fun r h => hv ⟨r, h⟩) hKb hR
end Go.Proofs.YtmcdfmhciinocaaGreatDoor

/- The walks of the reference's reader: what it returns, on values. -/
namespace Go.Proofs.YtmcdfmhciinocaaGreatDoor
open Go.RowKit

theorem number_is (a : Option Addr) (n cap : Nat) (l : List Nat) (w : World) (z s : Nat) (hl : Bytes w a n cap l) (h : numL l 0 0 = (z, s)) :
    Calls Tryz.prog 125 #[.slice a n cap] w fun e w' => e = .returned (.tuple #[.int .u64 (z : Int), .int .i64 (s : Int)]) ∧ w = w' := by
  have := rnumber_any a n cap l w hl
  rw [h] at this
  exact this

theorem two_below (w : World) (o o' : Obj) : Below w.heap.size w ((w.alloc o).alloc o') := ((Below.refl _ _).alloc (Nat.le_refl _) _).alloc (by simp) _

theorem two_cells {w w1 : World} {u v u' v' : Value} {t t' : TypeId} (hb : Below ((w.alloc (.cells #[u, v] t)).alloc (.cells #[u', v'] t')).heap.size ((w.alloc (.cells #[u, v] t)).alloc (.cells #[u', v'] t')) w1) :
    w1.heap[w.heap.size]? = some (.cells #[u, v] t (0, 0)) ∧ w1.heap[w.heap.size + 1]? = some (.cells #[u', v'] t' (0, 0)) := by
  refine ⟨(hb.block _ (by simp; omega)).trans ?_, (hb.block _ (by simp)).trans ?_⟩
  · exact (Below.heap_alloc _ _ _ (by simp)).trans (heap_alloc_new _ _)
  · have := heap_alloc_new (w.alloc (.cells #[u, v] t)) (.cells #[u', v'] t')
    rwa [World.size_alloc] at this

theorem block_cells {w : World} {g : Nat} {u v : Value} {t : TypeId} (h : w.heap[g]? = some (.cells #[u, v] t (0, 0))) :
    w.cell? ⟨g, 0, none⟩ = some u ∧ w.cell? ⟨g, 1, none⟩ = some v ∧ w.frozen? ⟨g, 0, none⟩ = false ∧ w.frozen? ⟨g, 1, none⟩ = false := by
  refine ⟨?_, ?_, ?_, ?_⟩
  · rw [cell_of_row _ _ _ _ _ _ h]; rfl
  · rw [cell_of_row _ _ _ _ _ _ h]; rfl
  · simp [World.frozen?, h]
  · simp [World.frozen?, h]

theorem readN_bound {l : List Nat} {ok : Bool} (hb : ∀ x ∈ l, x < 256) : (readN l ok).1 < 18446744073709551616 := by
  obtain ⟨z, s, hz⟩ : ∃ z s, numL l 0 0 = (z, s) := ⟨_, _, rfl⟩
  have := (numL_size_le hb hz).2.2.1
  unfold readN
  rw [hz]
  split
  · exact this
  · show (0 : Nat) < 18446744073709551616
    decide

/-- Writing into the two blocks of the call turns no byte. -/
theorem sets_bytes {w w1 : World} {a a' a'' : Option Addr} {n c n' c' n'' c'' : Nat} {b' b'' : Bool} {t t' : TypeId} {l : List Nat} (hb : Below w.heap.size w w1)
    (k0 : w1.heap[w.heap.size]? = some (.cells #[.slice a' n' c', .bool b'] t (0, 0))) (k1 : w1.heap[w.heap.size + 1]? = some (.cells #[.slice a'' n'' c'', .bool b''] t' (0, 0))) (hB : Bytes w1 a n c l) (u0 u1 u2 u3 : Value) :
    Bytes ((((w1.setCell ⟨w.heap.size, 0, none⟩ u0).setCell ⟨w.heap.size, 1, none⟩ u1).setCell ⟨w.heap.size + 1, 0, none⟩ u2).setCell ⟨w.heap.size + 1, 1, none⟩ u3) a n c l ∧
    Below w.heap.size w ((((w1.setCell ⟨w.heap.size, 0, none⟩ u0).setCell ⟨w.heap.size, 1, none⟩ u1).setCell ⟨w.heap.size + 1, 0, none⟩ u2).setCell ⟨w.heap.size + 1, 1, none⟩ u3) := by
  have h0 : 0 < n → ∀ x, a = some x → x.block ≠ w.heap.size := fun hn x hx => rd_other k0 hB hn hx
  have h1 : 0 < n → ∀ x, a = some x → x.block ≠ w.heap.size + 1 := fun hn x hx => rd_other k1 hB hn hx
  exact ⟨(((hB.setFar h0 _).setFar h0 _).setFar h1 _).setFar h1 _, (((hb.setCell (Nat.le_refl _) _).setCell (Nat.le_refl _) _).setCell (Nat.le_succ _) _).setCell (Nat.le_succ _) _⟩

theorem sets_bytes2 {w w1 : World} {a a'' : Option Addr} {n c n'' c'' : Nat} {b'' : Bool} {t' : TypeId} {l : List Nat} (hb : Below w.heap.size w w1)
    (k1 : w1.heap[w.heap.size + 1]? = some (.cells #[.slice a'' n'' c'', .bool b''] t' (0, 0))) (hB : Bytes w1 a n c l) (u2 u3 : Value) :
    Bytes ((w1.setCell ⟨w.heap.size + 1, 0, none⟩ u2).setCell ⟨w.heap.size + 1, 1, none⟩ u3) a n c l ∧
    Below w.heap.size w ((w1.setCell ⟨w.heap.size + 1, 0, none⟩ u2).setCell ⟨w.heap.size + 1, 1, none⟩ u3) := by
  have h1 : 0 < n → ∀ x, a = some x → x.block ≠ w.heap.size + 1 := fun hn x hx => rd_other k1 hB hn hx
  exact ⟨(hB.setFar h1 _).setFar h1 _, (hb.setCell (Nat.le_succ _) _).setCell (Nat.le_succ _) _⟩

end Go.Proofs.YtmcdfmhciinocaaGreatDoor

/- The walks of the reference's reader, where the bytes lie in blocks of which K holds: those that are left lie there too. -/
namespace Go.Proofs.YtmcdfmhciinocaaGreatDoor
open Go.RowKit

/-- A slice that is formed, in a block of which K holds. -/
def FormedK (K : Nat → Prop) (a : Option Addr) (c : Nat) : Prop := Formed a c ∧ ∀ x : Addr, a = some x → K x.block

theorem slice_fromF {K : Nat → Prop} {P : Program} {T E : TypeId} (hT : P.underlying T = some (.slice E)) (hin : (P.info? E).map (fun i => (i.zero, i.size, i.bytes)) = some (some (.int .u8 0), 1, 1)) {a : Option Addr} {n c k : Nat} (hk : k ≤ n) (hn : n ≤ c) (hf : FormedK K a c) :
    ∃ a', (∀ (w : World) (kl : IntKind), (Instr.slice T (.slice a n c) (some (.int kl (k : Int))) none none).run P w = .ok (.slice a' (n - k) (c - k)) w) ∧ FormedK K a' (c - k) ∧ ∀ (w : World) (l : List Nat), Bytes w a n c l → Bytes w a' (n - k) (c - k) (l.drop k) := by
  obtain ⟨a', h1, h2, h3, h4⟩ := slice_fromK (K := K) hT hin hk hn hf.1 hf.2
  exact ⟨a', h1, ⟨h2, h3⟩, h4⟩

/-- A reader as a value, with a number. -/
def RUEndK (K : Nat → Prop) (w : World) (r : Nat × List Nat × Bool) (e : Ending) (w' : World) : Prop :=
  ∃ a n c, e = .returned (.tuple #[.agg #[.slice a n c, .bool (!r.2.2)], .int .u64 (r.1 : Int)]) ∧ Bytes w' a n c r.2.1 ∧ FormedK K a c ∧ Below w.heap.size w w'

set_option maxRecDepth 100000 in
theorem readUintK_any (K : Nat → Prop) (a : Option Addr) (n c : Nat) (bad : Bool) (l : List Nat) (w : World) (hB : Bytes w a n c l) (hf : FormedK K a c) :
    Calls Tryz.prog 55 #[.agg #[.slice a n c, .bool bad]] w (RUEndK K w (readN l (!bad))) := by
  obtain ⟨z, s, hz⟩ : ∃ z s, numL l 0 0 = (z, s) := ⟨_, _, rfl⟩
  obtain ⟨hs1, hs2, hs3, hs4⟩ := numL_size_le hB.byte hz
  have hlen := hB.len
  have hle := hB.le
  have hsn : s ≤ n := by omega
  have hcm := hB.capmax
  have HB := Lib.hid hB
  have HZ := Lib.hid hz
  clear hB hz hs4 hlen hs1
  cases bad
  · by_cases hs : 0 < s
    · have hrd : readN l (!false) = (z, l.drop s, true) := by unfold readN; rw [HZ.out, if_pos ⟨rfl, hs⟩]
      rw [hrd]
      obtain ⟨a', hS, hf', hB'⟩ := slice_fromF (K := K) (k := s) Tryz.underlying31 info_u8 hsn hle hf
      have HB' := Lib.hid hB'
      have hsI : (0 : Int) < (s : Int) := by omega
      have hsq : ((s : Int) == 0) = false := beq_eq_false_iff_ne.2 (by omega)
      clear hrd hB'
      go_enter Tryz.func55, Tryz.ntmps55
      go_wp2_with fail
      refine (number_is a n c l _ z s (HB.out.grow (two_below _ _ _)) HZ.out).mono ?_
      rintro e w1 ⟨rfl, rfl⟩
      go_wp2
      refine bodyPost_ret (v := .tuple #[.agg #[.slice a' (n - s) (c - s), .bool false], .int .u64 (z : Int)]) (by simp [results, Tryz.results55, go_sem]) rfl ⟨a', n - s, c - s, rfl, HB'.out _ _ (HB.out.grow (two_below _ _ _)), hf', two_below _ _ _⟩
    · have hsI : (s : Int) ≤ 0 := by omega
      have hsq : ((s : Int) == 0) = true := beq_iff_eq.2 (by omega)
      have hrd : readN l (!false) = (0, l, false) := by unfold readN; rw [HZ.out, if_neg (fun h => hs h.2)]
      rw [hrd]
      clear hrd
      go_enter Tryz.func55, Tryz.ntmps55
      go_wp2_with fail
      refine (number_is a n c l _ z s (HB.out.grow (two_below _ _ _)) HZ.out).mono ?_
      rintro e w1 ⟨rfl, rfl⟩
      go_wp2
      refine bodyPost_ret (v := .tuple #[.agg #[.slice a n c, .bool true], .int .u64 0]) (by simp [results, Tryz.results55, go_sem]) rfl ⟨a, n, c, rfl, HB.out.grow (two_below _ _ _), hf, two_below _ _ _⟩
  · have hrd : readN l (!true) = (0, l, false) := by unfold readN; rw [HZ.out, if_neg (fun h => by cases h.1)]
    rw [hrd]
    clear hrd
    go_enter Tryz.func55, Tryz.ntmps55
    go_wp2_with fail
    refine (number_is a n c l _ z s (HB.out.grow (two_below _ _ _)) HZ.out).mono ?_
    rintro e w1 ⟨rfl, rfl⟩
    go_wp2
    refine bodyPost_ret (v := .tuple #[.agg #[.slice a n c, .bool true], .int .u64 0]) (by simp [results, Tryz.results55, go_sem]) rfl ⟨a, n, c, rfl, HB.out.grow (two_below _ _ _), hf, two_below _ _ _⟩
def RIEndK (K : Nat → Prop) (w : World) (r : Nat × List Nat × Bool) (e : Ending) (w' : World) : Prop :=
  ∃ a n c, e = .returned (.tuple #[.agg #[.slice a n c, .bool (!r.2.2)], .int .i64 (unfoldL r.1)]) ∧ Bytes w' a n c r.2.1 ∧ FormedK K a c ∧ Below w.heap.size w w'

set_option maxRecDepth 100000 in
theorem readIntK_any (K : Nat → Prop) (a : Option Addr) (n c : Nat) (bad : Bool) (l : List Nat) (w : World) (hB : Bytes w a n c l) (hf : FormedK K a c) :
    Calls Tryz.prog 152 #[.agg #[.slice a n c, .bool bad]] w (RIEndK K w (readN l (!bad))) := by
  have hlt := readN_bound (l := l) (ok := !bad) hB.byte
  have HB := Lib.hid hB
  clear hB
  go_enter Tryz.func152, Tryz.ntmps152
  go_wp2_with fail
  refine (readUintK_any K a n c bad l _ (HB.out.grow (two_below _ _ _)) hf).mono ?_
  rintro e w1 ⟨a1, n1, c1, rfl, hB1, hf1, hb1⟩
  obtain ⟨k0, k1⟩ := two_cells hb1
  obtain ⟨p0, p1, p2, p3⟩ := block_cells k0
  obtain ⟨q0, q1, q2, q3⟩ := block_cells k1
  have hsz : w.heap.size + 1 < w1.heap.size := by have := hb1.size; simp at this; omega
  have hbel : Below w.heap.size w w1 := (two_below _ _ _).trans (hb1.mono (two_below _ _ _).size)
  have HW := Lib.hid (sets_bytes hbel k0 k1 hB1)
  clear hB1 k0 k1 hb1 hbel
  generalize readN l (!bad) = r at *
  by_cases h2 : r.1 % 2 = 0
  · have hq : ((r.1 : Int) % 2 == 0) = true := beq_iff_eq.2 (by omega)
    have H2 := Lib.hid h2
    clear h2
    go_wp2
    refine bodyPost_ret (v := .tuple #[.agg #[.slice a1 n1 c1, .bool (!r.2.2)], .int .i64 ((r.1 : Int) / 2)]) (by simp [results, Tryz.results152, go_sem, *]) rfl ⟨a1, n1, c1, ?_, (HW.out _ _ _ _).1, hf1, (HW.out _ _ _ _).2⟩
    have e : unfoldL r.1 = (r.1 : Int) / 2 := by unfold unfoldL; rw [if_pos H2.out]; omega
    rw [e]
  · have hq : ((r.1 : Int) % 2 == 0) = false := beq_eq_false_iff_ne.2 (by omega)
    have H2 := Lib.hid h2
    clear h2
    go_wp2
    refine bodyPost_ret (v := .tuple #[.agg #[.slice a1 n1 c1, .bool (!r.2.2)], .int .i64 (-((r.1 : Int) / 2) - 1)]) (by simp [results, Tryz.results152, go_sem, *]) rfl ⟨a1, n1, c1, ?_, (HW.out _ _ _ _).1, hf1, (HW.out _ _ _ _).2⟩
    have e : unfoldL r.1 = -((r.1 : Int) / 2) - 1 := by unfold unfoldL; rw [if_neg H2.out]; omega
    rw [e]

/-- A reader as a value, with bytes. -/
def RTEndK (K : Nat → Prop) (w : World) (r : List Nat × List Nat × Bool) (e : Ending) (w' : World) : Prop :=
  ∃ a n c p m cp, e = .returned (.tuple #[.agg #[.slice a n c, .bool (!r.2.2)], .slice p m cp]) ∧ Bytes w' a n c r.2.1 ∧ FormedK K a c ∧ Bytes w' p m cp r.1 ∧ Below w.heap.size w w'

set_option maxRecDepth 100000 in
theorem rtakeK_any (K : Nat → Prop) (a : Option Addr) (n c : Nat) (bad : Bool) (l : List Nat) (k : Int) (w : World) (hB : Bytes w a n c l) (hf : FormedK K a c) (k1 : -9223372036854775808 ≤ k) (k2 : k ≤ 9223372036854775807) :
    Calls Tryz.prog 54 #[.agg #[.slice a n c, .bool bad], .int .i64 k] w (RTEndK K w (takeN l (!bad) k)) := by
  have hle := hB.le
  have hcm := hB.capmax
  have hlen := hB.len
  have HB := Lib.hid hB
  clear hB
  by_cases hok : bad = false ∧ 0 ≤ k ∧ k ≤ l.length
  · obtain ⟨rfl, hk1, hk2⟩ := hok
    have hrd : takeN l (!false) k = (l.take k.toNat, l.drop k.toNat, true) := by unfold takeN; rw [if_pos ⟨rfl, hk1, hk2⟩]
    rw [hrd]
    obtain ⟨j, rfl⟩ := Int.eq_ofNat_of_zero_le hk1
    rw [Int.toNat_natCast]
    have hjn : j ≤ n := by omega
    obtain ⟨a1, hS1, hf1, hB1⟩ := slice_to (k := j) Tryz.underlying31 info_u8 hjn hle hf.1
    obtain ⟨a2, hS2, hf2, hB2⟩ := slice_fromF (K := K) (k := j) Tryz.underlying31 info_u8 hjn hle hf
    have HB1 := Lib.hid hB1
    have HB2 := Lib.hid hB2
    have hj : (j : Int) ≤ (n : Int) := by omega
    have hj0 : (0 : Int) ≤ (j : Int) := by omega
    have hd0 : decide ((j : Int) < 0) = false := decide_eq_false (by omega)
    have hd1 : decide (n < j) = false := decide_eq_false (by omega)
    clear hrd hB1 hB2 hlen hk2
    go_enter Tryz.func54, Tryz.ntmps54
    go_wp2
    go_region
    go_wp2
    refine bodyPost_ret (v := .tuple #[.agg #[.slice a2 (n - j) (c - j), .bool false], .slice a1 j c]) (by simp [results, Tryz.results54, go_sem]) rfl ⟨a2, n - j, c - j, a1, j, c, rfl, HB2.out _ _ (HB.out.grow (two_below _ _ _).drew), hf2, HB1.out _ _ (HB.out.grow (two_below _ _ _).drew), (two_below _ _ _).drew⟩
  · have hrd : takeN l (!bad) k = ([], l, false) := by unfold takeN; rw [if_neg (fun h => hok ⟨by cases bad <;> simp_all, h.2⟩)]
    rw [hrd]
    clear hrd
    cases bad
    · by_cases hk0 : 0 ≤ k
      · have hkn : (n : Int) < k := by have : ¬ k ≤ l.length := fun h => hok ⟨rfl, hk0, h⟩; omega
        have hkD : decide ((n : Int) < k) = true := decide_eq_true hkn
        have hkD0 : decide (k < 0) = false := decide_eq_false (by omega)
        clear hok hlen
        go_enter Tryz.func54, Tryz.ntmps54
        go_wp2
        refine bodyPost_ret (v := .tuple #[.agg #[.slice a n c, .bool true], .slice none 0 0]) (by simp [results, Tryz.results54, go_sem]) rfl ⟨a, n, c, none, 0, 0, rfl, HB.out.grow (two_below _ _ _), hf, bytes_nil _, two_below _ _ _⟩
      · have hkn : k < 0 := by omega
        clear hok hlen
        go_enter Tryz.func54, Tryz.ntmps54
        go_wp2
        refine bodyPost_ret (v := .tuple #[.agg #[.slice a n c, .bool true], .slice none 0 0]) (by simp [results, Tryz.results54, go_sem]) rfl ⟨a, n, c, none, 0, 0, rfl, HB.out.grow (two_below _ _ _), hf, bytes_nil _, two_below _ _ _⟩
    · clear hok hlen
      go_enter Tryz.func54, Tryz.ntmps54
      go_wp2
      refine bodyPost_ret (v := .tuple #[.agg #[.slice a n c, .bool true], .slice none 0 0]) (by simp [results, Tryz.results54, go_sem]) rfl ⟨a, n, c, none, 0, 0, rfl, HB.out.grow (two_below _ _ _), hf, bytes_nil _, two_below _ _ _⟩

set_option maxRecDepth 100000 in
theorem readBytesK_any (K : Nat → Prop) (a : Option Addr) (n c : Nat) (bad : Bool) (l : List Nat) (w : World) (hB : Bytes w a n c l) (hf : FormedK K a c) :
    Calls Tryz.prog 56 #[.agg #[.slice a n c, .bool bad]] w (RTEndK K w (readB l (!bad))) := by
  obtain ⟨z, s, hz⟩ : ∃ z s, numL l 0 0 = (z, s) := ⟨_, _, rfl⟩
  obtain ⟨hs1, hs2, hs3, hs4⟩ := numL_size_le hB.byte hz
  have hlen := hB.len
  have hle := hB.le
  have hsn : s ≤ n := by omega
  have hcm := hB.capmax
  have HB := Lib.hid hB
  have HZ := Lib.hid hz
  clear hB hz hs4 hs1
  by_cases hok : bad = false ∧ 0 < s ∧ z ≤ n - s
  · obtain ⟨rfl, hs, hzn⟩ := hok
    have hrd : readB l (!false) = ((l.drop s).take z, l.drop (s + z), true) := by unfold readB; rw [HZ.out, if_pos ⟨rfl, hs, by omega⟩]
    rw [hrd]
    obtain ⟨a', hS, hf', hB'⟩ := slice_fromF (K := K) (k := s) Tryz.underlying31 info_u8 hsn hle hf
    have HB' := Lib.hid hB'
    have hsI : (0 : Int) < (s : Int) := by omega
    have hsq : ((s : Int) == 0) = false := beq_eq_false_iff_ne.2 (by omega)
    have hzI : (z : Int) ≤ (n : Int) - (s : Int) := by omega
    have hta : takeN (l.drop s) (!false) (z : Int) = ((l.drop s).take z, l.drop (s + z), true) := by
      unfold takeN
      rw [if_pos ⟨rfl, by omega, by rw [List.length_drop]; omega⟩, Int.toNat_natCast, List.drop_drop]
    have Hta := Lib.hid hta
    clear hrd hB' hta hlen
    go_enter Tryz.func56, Tryz.ntmps56
    go_wp2_with fail
    refine (number_is a n c l _ z s (HB.out.grow (two_below _ _ _)) HZ.out).mono ?_
    rintro e w1 ⟨rfl, rfl⟩
    go_wp2_with fail
    refine (rtakeK_any K a' (n - s) (c - s) false (l.drop s) (z : Int) _ (HB'.out _ _ (HB.out.grow (two_below _ _ _))) hf' (by omega) (by omega)).mono ?_
    intro e w1 h1
    rw [Hta.out] at h1
    obtain ⟨a1, n1, c1, p, m, cp, rfl, hB1, hf1, hP1, hb1⟩ := h1
    obtain ⟨k0, k1⟩ := two_cells hb1
    obtain ⟨p0, p1, p2, p3⟩ := block_cells k0
    obtain ⟨q0, q1, q2, q3⟩ := block_cells k1
    have hsz : w.heap.size + 1 < w1.heap.size := by have := hb1.size; simp at this; omega
    have hbel : Below w.heap.size w w1 := (two_below _ _ _).trans (hb1.mono (two_below _ _ _).size)
    have HW := Lib.hid (sets_bytes2 hbel k1 hB1)
    have HW2 := Lib.hid (sets_bytes2 hbel k1 hP1)
    clear hB1 hP1 k0 k1 hb1 hbel
    go_wp2
    refine bodyPost_ret (v := .tuple #[.agg #[.slice a1 n1 c1, .bool false], .slice p m cp]) (by simp [results, Tryz.results56, go_sem, *]) rfl ⟨a1, n1, c1, p, m, cp, rfl, (HW.out _ _).1, hf1, (HW2.out _ _).1, (HW.out _ _).2⟩
  · have hrd : readB l (!bad) = ([], l, false) := by unfold readB; rw [HZ.out, hlen, if_neg (fun h => hok ⟨by cases bad <;> simp_all, h.2⟩)]
    rw [hrd]
    clear hrd hlen
    cases bad
    · by_cases hs : 0 < s
      · have hzI : (n : Int) - (s : Int) < (z : Int) := by have : ¬ z ≤ n - s := fun h => hok ⟨rfl, hs, h⟩; omega
        have hsI : (0 : Int) < (s : Int) := by omega
        have hsq : ((s : Int) == 0) = false := beq_eq_false_iff_ne.2 (by omega)
        clear hok
        go_enter Tryz.func56, Tryz.ntmps56
        go_wp2_with fail
        refine (number_is a n c l _ z s (HB.out.grow (two_below _ _ _)) HZ.out).mono ?_
        rintro e w1 ⟨rfl, rfl⟩
        go_wp2
        refine bodyPost_ret (v := .tuple #[.agg #[.slice a n c, .bool true], .slice none 0 0]) (by simp [results, Tryz.results56, go_sem]) rfl ⟨a, n, c, none, 0, 0, rfl, HB.out.grow (two_below _ _ _), hf, bytes_nil _, two_below _ _ _⟩
      · have hsI : (s : Int) ≤ 0 := by omega
        have hsq : ((s : Int) == 0) = true := beq_iff_eq.2 (by omega)
        clear hok
        go_enter Tryz.func56, Tryz.ntmps56
        go_wp2_with fail
        refine (number_is a n c l _ z s (HB.out.grow (two_below _ _ _)) HZ.out).mono ?_
        rintro e w1 ⟨rfl, rfl⟩
        go_wp2
        refine bodyPost_ret (v := .tuple #[.agg #[.slice a n c, .bool true], .slice none 0 0]) (by simp [results, Tryz.results56, go_sem]) rfl ⟨a, n, c, none, 0, 0, rfl, HB.out.grow (two_below _ _ _), hf, bytes_nil _, two_below _ _ _⟩
    · clear hok
      go_enter Tryz.func56, Tryz.ntmps56
      go_wp2_with fail
      refine (number_is a n c l _ z s (HB.out.grow (two_below _ _ _)) HZ.out).mono ?_
      rintro e w1 ⟨rfl, rfl⟩
      go_wp2
      refine bodyPost_ret (v := .tuple #[.agg #[.slice a n c, .bool true], .slice none 0 0]) (by simp [results, Tryz.results56, go_sem]) rfl ⟨a, n, c, none, 0, 0, rfl, HB.out.grow (two_below _ _ _), hf, bytes_nil _, two_below _ _ _⟩

end Go.Proofs.YtmcdfmhciinocaaGreatDoor

/- The walk of the reference's read of a value: what is no list. -/
namespace Go.Proofs.YtmcdfmhciinocaaGreatDoor
open Go.RowKit Go.Shelf Fl

/-- What the reference's read answers. -/
def RrAny (K : Nat → Prop) (w : World) (t : Nat) (l : List Nat) (e : Ending) (w' : World) : Prop :=
  ∃ (a : Option Addr) (n c : Nat) (bad : Bool) (ls : List Nat), Bytes w' a n c ls ∧ FormedK K a c ∧ Below w.heap.size w w' ∧
  ((∃ (u : V) (av : Option Addr) (cap : Nat), bad = false ∧ e = .returned (.tuple #[.agg #[.slice a n c, .bool false], .agg (cells5 u.kind u.n u.f u.s av u.l.length cap), .bool true]) ∧ VInP (fun b => w.heap.size ≤ b ∧ b < w'.heap.size) w' u (cells5 u.kind u.n u.f u.s av u.l.length cap) ∧ IsV t l u ls) ∨
   (NoV t l ∧ e = .returned (.tuple #[.agg #[.slice a n c, .bool bad], .agg (cells5 0 0 0 [] none 0 0), .bool false])))

/-- The three blocks that the call begins with. -/
structure RH (w wr : World) (a : Option Addr) (n c : Nat) (bad : Bool) : Prop where
  rd : wr.heap[w.heap.size]? = some (.cells #[.slice a n c, .bool bad] 42 (0, 0))
  rr : wr.heap[w.heap.size + 1]? = some (.cells #[.slice none 0 0, .bool false] 42 (0, 0))
  rv : wr.heap[w.heap.size + 2]? = some (.cells #[.int .i64 0, .int .i64 0, .float .f64 0, .string ⟨#[]⟩, .slice none 0 0] 26 (0, 0))
  below : Below w.heap.size w wr

theorem RH.below' {w wr w' : World} {a : Option Addr} {n c : Nat} {bad : Bool} (h : RH w wr a n c bad) (hb : Below wr.heap.size wr w') : RH w w' a n c bad :=
  ⟨(hb.block _ (Array.getElem?_eq_some_iff.1 h.rd).1).trans h.rd, (hb.block _ (Array.getElem?_eq_some_iff.1 h.rr).1).trans h.rr, (hb.block _ (Array.getElem?_eq_some_iff.1 h.rv).1).trans h.rv, h.below.trans (hb.mono h.below.size)⟩

theorem rh_start (w : World) (a : Option Addr) (n c : Nat) (bad : Bool) :
    RH w (((w.alloc (.cells #[.slice a n c, .bool bad] 42)).alloc (.cells #[.slice none 0 0, .bool false] 42)).alloc (.cells #[.int .i64 0, .int .i64 0, .float .f64 0, .string ⟨#[]⟩, .slice none 0 0] 26)) a n c bad := by
  refine ⟨?_, ?_, ?_, (((Below.refl _ _).alloc (Nat.le_refl _) _).alloc (by simp) _).alloc (by simp; omega) _⟩
  · exact (Below.heap_alloc _ _ _ (by simp; omega)).trans ((Below.heap_alloc _ _ _ (by simp)).trans (heap_alloc_new _ _))
  · refine (Below.heap_alloc _ _ _ (by simp)).trans ?_
    have := heap_alloc_new (w.alloc (.cells #[.slice a n c, .bool bad] 42)) (.cells #[.slice none 0 0, .bool false] 42)
    rwa [World.size_alloc] at this
  · have := heap_alloc_new ((w.alloc (.cells #[.slice a n c, .bool bad] 42)).alloc (.cells #[.slice none 0 0, .bool false] 42)) (.cells #[.int .i64 0, .int .i64 0, .float .f64 0, .string ⟨#[]⟩, .slice none 0 0] 26)
    rwa [World.size_alloc, World.size_alloc] at this

theorem RH.setR {w wr : World} {a : Option Addr} {n c : Nat} {bad : Bool} (h : RH w wr a n c bad) (a' : Option Addr) (n' c' : Nat) (bad' : Bool) :
    RH w ((wr.setCell ⟨w.heap.size, 0, none⟩ (.slice a' n' c')).setCell ⟨w.heap.size, 1, none⟩ (.bool bad')) a' n' c' bad' ∧ Below w.heap.size wr ((wr.setCell ⟨w.heap.size, 0, none⟩ (.slice a' n' c')).setCell ⟨w.heap.size, 1, none⟩ (.bool bad')) := by
  have hb := ((Below.refl w.heap.size wr).setCell (p := ⟨w.heap.size, 0, none⟩) (Nat.le_refl _) (.slice a' n' c')).setCell (p := ⟨w.heap.size, 1, none⟩) (Nat.le_refl _) (.bool bad')
  refine ⟨⟨set_headE (set_headE h.rd (.slice a' n' c')) (.bool bad'), ?_, ?_, h.below.trans hb⟩, hb⟩
  · rw [← h.rr]; simp [World.setCell, Array.getElem?_modify]
  · rw [← h.rv]; simp [World.setCell, Array.getElem?_modify]

/-- A store into a block that is none of the three. -/
theorem RH.setO {w wr : World} {a : Option Addr} {n c : Nat} {bad : Bool} (h : RH w wr a n c bad) {g i : Nat} (hg : w.heap.size + 2 < g) (v : Value) : RH w (wr.setCell ⟨g, i, none⟩ v) a n c bad ∧ Below w.heap.size wr (wr.setCell ⟨g, i, none⟩ v) := by
  have hb := (Below.refl w.heap.size wr).setCell (p := ⟨g, i, none⟩) (show w.heap.size ≤ g by omega) v
  refine ⟨⟨?_, ?_, ?_, h.below.trans hb⟩, hb⟩
  · rw [← h.rd]; simp [World.setCell, Array.getElem?_modify, show g ≠ w.heap.size by omega]
  · rw [← h.rr]; simp [World.setCell, Array.getElem?_modify, show g ≠ w.heap.size + 1 by omega]
  · rw [← h.rv]; simp [World.setCell, Array.getElem?_modify, show g ≠ w.heap.size + 2 by omega]

theorem bytesB {K : Nat → Prop} {B : Nat} {w w' : World} {a : Option Addr} {n c : Nat} {l : List Nat} (h : Bytes w a n c l) (hf : FormedK K a c) (hK : ∀ b, K b → b < B) (hb : Below B w w') : Bytes w' a n c l := by
  rcases Nat.eq_zero_or_pos n with rfl | hn
  · obtain rfl : l = [] := List.length_eq_zero_iff.1 h.len
    exact ⟨rfl, h.le, h.capmax, h.byte, h.nil, fun h => absurd h (Nat.lt_irrefl _)⟩
  · refine h.keep fun p hp hpx => ?_
    obtain ⟨b, o, rfl, _⟩ := h.cell hn
    have hb1 := hK _ (hf.2 _ rfl)
    have hb2 := hpx _ rfl
    simp only at hb1 hb2
    exact World.cell?_of_block (hb.block p.block (by omega))

/-- The results' blocks at the end. -/
structure RZ (w wr wz : World) (a : Option Addr) (n c : Nat) (bad : Bool) (v0 v1 v2 v3 v4 : Value) : Prop where
  r : wz.heap[w.heap.size + 1]? = some (.cells #[.slice a n c, .bool bad] 42 (0, 0))
  v : wz.heap[w.heap.size + 1 + 1]? = some (.cells #[v0, v1, v2, v3, v4] 26 (0, 0))
  below : Below w.heap.size wr wz
  far : ∀ b, w.heap.size + 2 < b → wz.heap[b]? = wr.heap[b]?

abbrev sets7 (w : World) (A B : Nat) (r0 r1 v0 v1 v2 v3 v4 : Value) : World :=
  ((((((w.setCell ⟨A, 0, none⟩ r0).setCell ⟨A, 1, none⟩ r1).setCell ⟨B, 0, none⟩ v0).setCell ⟨B, 1, none⟩ v1).setCell ⟨B, 2, none⟩ v2).setCell ⟨B, 3, none⟩ v3).setCell ⟨B, 4, none⟩ v4

theorem set5A {w : World} {E : Nat} {v0 v1 v2 v3 v4 : Value} {t : TypeId} {m : Nat × Nat} (h : w.heap[E]? = some (.cells #[v0, v1, v2, v3, v4] t m)) (u0 u1 u2 u3 u4 : Value) :
    (((((w.setCell ⟨E, 0, none⟩ u0).setCell ⟨E, 1, none⟩ u1).setCell ⟨E, 2, none⟩ u2).setCell ⟨E, 3, none⟩ u3).setCell ⟨E, 4, none⟩ u4).heap[E]? = some (.cells #[u0, u1, u2, u3, u4] t m) := by
  have h' := set_headE (i := 4) (set_headE (i := 3) (set_headE (i := 2) (set_headE (i := 1) (set_headE (i := 0) h u0) u1) u2) u3) u4
  simp only [List.setIfInBounds_toArray, List.set_cons_zero, List.set_cons_succ] at h'
  exact h'

theorem RH.done {w wr : World} {a : Option Addr} {n c : Nat} {bad : Bool} (h : RH w wr a n c bad) (a' : Option Addr) (n' c' : Nat) (bad' : Bool) (v0 v1 v2 v3 v4 : Value) :
    RZ w wr (sets7 wr (w.heap.size + 1) (w.heap.size + 1 + 1) (.slice a' n' c') (.bool bad') v0 v1 v2 v3 v4) a' n' c' bad' v0 v1 v2 v3 v4 := by
  have hrr := set_headE (i := 1) (set_headE (i := 0) h.rr (.slice a' n' c')) (.bool bad')
  have hrv : ((wr.setCell ⟨w.heap.size + 1, 0, none⟩ (.slice a' n' c')).setCell ⟨w.heap.size + 1, 1, none⟩ (.bool bad')).heap[w.heap.size + 1 + 1]? = some (.cells #[.int .i64 0, .int .i64 0, .float .f64 0, .string ⟨#[]⟩, .slice none 0 0] 26 (0, 0)) := by
    rw [show (some (Obj.cells #[.int .i64 0, .int .i64 0, .float .f64 0, .string ⟨#[]⟩, .slice none 0 0] 26 (0, 0))) = wr.heap[w.heap.size + 1 + 1]? from h.rv.symm]
    simp [World.setCell, Array.getElem?_modify]
  have hb := ((((((((Below.refl w.heap.size wr).setCell (p := ⟨w.heap.size + 1, 0, none⟩) (Nat.le_succ _) (.slice a' n' c')).setCell (p := ⟨w.heap.size + 1, 1, none⟩) (Nat.le_succ _) (.bool bad')).setCell (p := ⟨w.heap.size + 1 + 1, 0, none⟩) (by show w.heap.size ≤ w.heap.size + 1 + 1; omega) v0).setCell (p := ⟨w.heap.size + 1 + 1, 1, none⟩) (by show w.heap.size ≤ w.heap.size + 1 + 1; omega) v1).setCell (p := ⟨w.heap.size + 1 + 1, 2, none⟩) (by show w.heap.size ≤ w.heap.size + 1 + 1; omega) v2).setCell (p := ⟨w.heap.size + 1 + 1, 3, none⟩) (by show w.heap.size ≤ w.heap.size + 1 + 1; omega) v3).setCell (p := ⟨w.heap.size + 1 + 1, 4, none⟩) (by show w.heap.size ≤ w.heap.size + 1 + 1; omega) v4)
  refine ⟨?_, set5A hrv v0 v1 v2 v3 v4, hb, fun b hb => ?_⟩
  · rw [show some (Obj.cells #[.slice a' n' c', .bool bad'] 42 (0, 0)) = _ from hrr.symm]
    simp [World.setCell, Array.getElem?_modify]
  · simp [World.setCell, Array.getElem?_modify, show w.heap.size + 1 ≠ b by omega, show w.heap.size + 1 + 1 ≠ b by omega]
theorem RZ.drew {w wr wz : World} {a : Option Addr} {n c : Nat} {bad : Bool} {v0 v1 v2 v3 v4 : Value} (h : RZ w wr wz a n c bad v0 v1 v2 v3 v4) : RZ w wr wz.drew a n c bad v0 v1 v2 v3 v4 :=
  ⟨h.r, h.v, ⟨h.below.os, h.below.tape, h.below.output, h.below.size, h.below.block⟩, h.far⟩
theorem RZ.cells {w wr wz : World} {a : Option Addr} {n c : Nat} {bad : Bool} {v0 v1 v2 v3 v4 : Value} (h : RZ w wr wz a n c bad v0 v1 v2 v3 v4) :
    (wz.cell? ⟨w.heap.size + 1, 0, none⟩ = some (.slice a n c) ∧ wz.cell? ⟨w.heap.size + 1, 1, none⟩ = some (.bool bad)) ∧ wz.cell? ⟨w.heap.size + 1 + 1, 0, none⟩ = some v0 ∧ wz.cell? ⟨w.heap.size + 1 + 1, 1, none⟩ = some v1 ∧ wz.cell? ⟨w.heap.size + 1 + 1, 2, none⟩ = some v2 ∧ wz.cell? ⟨w.heap.size + 1 + 1, 3, none⟩ = some v3 ∧ wz.cell? ⟨w.heap.size + 1 + 1, 4, none⟩ = some v4 := by
  refine ⟨⟨?_, ?_⟩, ?_, ?_, ?_, ?_, ?_⟩
  · rw [cell_of_row _ _ _ _ _ _ h.r]; rfl
  · rw [cell_of_row _ _ _ _ _ _ h.r]; rfl
  · rw [cell_of_row _ _ _ _ _ _ h.v]; rfl
  · rw [cell_of_row _ _ _ _ _ _ h.v]; rfl
  · rw [cell_of_row _ _ _ _ _ _ h.v]; rfl
  · rw [cell_of_row _ _ _ _ _ _ h.v]; rfl
  · rw [cell_of_row _ _ _ _ _ _ h.v]; rfl

theorem box5 {w : World} {g : Nat} {v0 v1 v2 v3 v4 : Value} {t : TypeId} (h : w.heap[g]? = some (.cells #[v0, v1, v2, v3, v4] t (0, 0))) :
    w.cell? ⟨g, 0, none⟩ = some v0 ∧ w.cell? ⟨g, 1, none⟩ = some v1 ∧ w.cell? ⟨g, 2, none⟩ = some v2 ∧ w.cell? ⟨g, 3, none⟩ = some v3 ∧ w.cell? ⟨g, 4, none⟩ = some v4 := by
  refine ⟨?_, ?_, ?_, ?_, ?_⟩ <;> (rw [cell_of_row _ _ _ _ _ _ h]; rfl)
theorem box5f {w : World} {g : Nat} {v0 v1 v2 v3 v4 : Value} {t : TypeId} (h : w.heap[g]? = some (.cells #[v0, v1, v2, v3, v4] t (0, 0))) :
    (w.cell? ⟨g, 0, none⟩ = some v0 ∧ w.cell? ⟨g, 1, none⟩ = some v1 ∧ w.cell? ⟨g, 2, none⟩ = some v2 ∧ w.cell? ⟨g, 3, none⟩ = some v3 ∧ w.cell? ⟨g, 4, none⟩ = some v4) ∧
    (w.frozen? ⟨g, 0, none⟩ = false ∧ w.frozen? ⟨g, 1, none⟩ = false ∧ w.frozen? ⟨g, 2, none⟩ = false ∧ w.frozen? ⟨g, 3, none⟩ = false ∧ w.frozen? ⟨g, 4, none⟩ = false) :=
  ⟨box5 h, froz h 0, froz h 1, froz h 2, froz h 3, froz h 4⟩

section
variable (K : Nat → Prop) (a : Option Addr) (n c : Nat) (T : Int) (w : World)

set_option maxRecDepth 100000 in
set_option maxHeartbeats 3200000 in
theorem rr_bad0 (t : Nat) (l : List Nat) (hn : readN l true = (0, l, false)) (hno : NoV t l) (hB : Bytes w a n c l) (hf : FormedK K a c) (hK : ∀ b, K b → b < w.heap.size) :
    Calls Tryz.prog 126 #[.agg #[.slice a n c, .bool false], .int .i64 T] w (RrAny K w t l) := by
  have h0 := rh_start w a n c false
  have hw0 : (((w.alloc (.cells #[.slice a n c, .bool false] 42)).alloc (.cells #[.slice none 0 0, .bool false] 42)).alloc (.cells #[.int .i64 0, .int .i64 0, .float .f64 0, .string ⟨#[]⟩, .slice none 0 0] 26)).heap.size = w.heap.size + 3 := by simp
  have HU := Lib.hid (readUintK_any K a n c false l _ (hB.grow h0.below) hf)
  have hn' : readN l (!false) = (0, l, false) := hn
  rw [hn'] at HU
  have H0 := Lib.hid h0
  have HK := Lib.hid hK
  have Hno := Lib.hid hno
  clear h0 hn hn' hno hB hf hK
  have hfl : ∀ (w : World) (a : Addr) (m : Mode) (b : Nat), (store a (.float .f64 b) m).run Tryz.prog w = stored Tryz.prog w a (.float .f64 b) m := fun w a m b => run_store Tryz.prog w a _ m rfl
  go_enter Tryz.func126, Tryz.ntmps126
  go_wp2_with fail
  generalize (((w.alloc (.cells #[.slice a n c, .bool false] 42)).alloc (.cells #[.slice none 0 0, .bool false] 42)).alloc (.cells #[.int .i64 0, .int .i64 0, .float .f64 0, .string ⟨#[]⟩, .slice none 0 0] 26)) = w0 at *
  refine HU.out.mono ?_
  rintro e w1 ⟨a1, n1, c1, rfl, hB1, hf1, hb1⟩
  have h1 := H0.out.below' hb1
  obtain ⟨p0, p1, p2, p3⟩ := block_cells h1.rd
  have HB1 := Lib.hid hB1
  have Hf1 := Lib.hid hf1
  have H1 := Lib.hid h1
  have hsz1 : w.heap.size + 3 ≤ w1.heap.size := by have := hb1.size; omega
  clear h1 hB1 hf1 hb1
  have hal := (Below.refl ((w1.setCell ⟨w.heap.size, 0, none⟩ (.slice a1 n1 c1)).setCell ⟨w.heap.size, 1, none⟩ (.bool true)).heap.size _).alloc (Nat.le_refl _) (.cells #[.int .i64 0, .int .i64 0, .float .f64 0, .string ⟨#[]⟩, .slice none 0 0] 26)
  have H2 := Lib.hid ((H1.out.setR a1 n1 c1 true).1.below' hal)
  have HV8 := Lib.hid (heap_alloc_new ((w1.setCell ⟨w.heap.size, 0, none⟩ (.slice a1 n1 c1)).setCell ⟨w.heap.size, 1, none⟩ (.bool true)) (.cells #[.int .i64 0, .int .i64 0, .float .f64 0, .string ⟨#[]⟩, .slice none 0 0] 26))
  have Hb12 := Lib.hid (((H1.out.setR a1 n1 c1 true).2).trans (hal.mono (by simp; omega)))
  clear hal
  go_upto_region 3 with fail
  have hsz2 : ((w1.setCell ⟨w.heap.size, 0, none⟩ (.slice a1 n1 c1)).setCell ⟨w.heap.size, 1, none⟩ (.bool true)).heap.size = w1.heap.size := by simp
  rw [hsz2] at HV8
  generalize ((w1.setCell ⟨w.heap.size, 0, none⟩ (.slice a1 n1 c1)).setCell ⟨w.heap.size, 1, none⟩ (.bool true)).alloc (.cells #[.int .i64 0, .int .i64 0, .float .f64 0, .string ⟨#[]⟩, .slice none 0 0] 26) = w2 at *
  obtain ⟨y0, y1, y2, y3⟩ := block_cells H2.out.rd
  clear p0 p1 p2 p3 hsz2
  go_wp2_with fail
  obtain ⟨⟨v0, v1, v2, v3, v4⟩, _⟩ := res_cells HV8.out
  obtain ⟨_, _, q2, q3⟩ := block_cells H2.out.rr
  obtain ⟨q0, q1, _, _⟩ := block_cells H2.out.rr
  have hrv : w2.heap[w.heap.size + 1 + 1]? = some (.cells #[.int .i64 0, .int .i64 0, .float .f64 0, .string ⟨#[]⟩, .slice none 0 0] 26 (0, 0)) := H2.out.rv
  obtain ⟨⟨s0, s1, s2, s3, s4⟩, ⟨u0, u1, u2, u3, u4⟩⟩ := res_cells hrv
  clear hrv
  go_region
  have hZ := (H2.out.done a1 n1 c1 true (.int .i64 0) (.int .i64 0) (.float .f64 0) (.string ⟨#[]⟩) (.slice none 0 0)).drew
  unfold sets7 at hZ
  clear v0 v1 v2 v3 v4 q0 q1 q2 q3 s0 s1 s2 s3 s4 u0 u1 u2 u3 u4 y0 y1 y2 y3
  generalize World.drew _ = wz at *
  obtain ⟨⟨r0, r1⟩, r2, r3, r4, r5, r6⟩ := hZ.cells
  have HZ := Lib.hid hZ
  clear hZ
  go_wp2
  refine bodyPost_ret (v := .tuple #[.agg #[.slice a1 n1 c1, .bool true], .agg #[.int .i64 0, .int .i64 0, .float .f64 0, .string ⟨#[]⟩, .slice none 0 0], .bool false]) (by simp [results, Tryz.results126, go_sem, *]) rfl ?_
  have hbz := Hb12.out.trans HZ.out.below
  exact ⟨a1, n1, c1, true, _, bytesB HB1.out Hf1.out HK.out hbz, Hf1.out, H1.out.below.trans hbz, .inr ⟨Hno.out, rfl⟩⟩
set_option maxRecDepth 100000 in
set_option maxHeartbeats 3200000 in
theorem rr_big (t x : Nat) (l1 : List Nat) (hx : x < 18446744073709551616) (h4 : 4 < x) (hno : NoV t (form x ++ l1)) (hB : Bytes w a n c (form x ++ l1)) (hf : FormedK K a c) (hK : ∀ b, K b → b < w.heap.size) :
    Calls Tryz.prog 126 #[.agg #[.slice a n c, .bool false], .int .i64 T] w (RrAny K w t (form x ++ l1)) := by
  have h0 := rh_start w a n c false
  have hw0 : (((w.alloc (.cells #[.slice a n c, .bool false] 42)).alloc (.cells #[.slice none 0 0, .bool false] 42)).alloc (.cells #[.int .i64 0, .int .i64 0, .float .f64 0, .string ⟨#[]⟩, .slice none 0 0] 26)).heap.size = w.heap.size + 3 := by simp
  have HU := Lib.hid (readUintK_any K a n c false (form x ++ l1) _ (hB.grow h0.below) hf)
  have hn' : readN (form x ++ l1) (!false) = (x, l1, true) := readN_form hx l1
  rw [hn'] at HU
  have hxi : (4 : Int) < (x : Int) := by omega
  have H0 := Lib.hid h0
  have HK := Lib.hid hK
  have Hno := Lib.hid hno
  clear h0 hn' hno hB hf hK hx h4
  have hfl : ∀ (w : World) (a : Addr) (m : Mode) (b : Nat), (store a (.float .f64 b) m).run Tryz.prog w = stored Tryz.prog w a (.float .f64 b) m := fun w a m b => run_store Tryz.prog w a _ m rfl
  go_enter Tryz.func126, Tryz.ntmps126
  go_wp2_with fail
  generalize (((w.alloc (.cells #[.slice a n c, .bool false] 42)).alloc (.cells #[.slice none 0 0, .bool false] 42)).alloc (.cells #[.int .i64 0, .int .i64 0, .float .f64 0, .string ⟨#[]⟩, .slice none 0 0] 26)) = w0 at *
  refine HU.out.mono ?_
  rintro e w1 ⟨a1, n1, c1, rfl, hB1, hf1, hb1⟩
  have h1 := H0.out.below' hb1
  obtain ⟨p0, p1, p2, p3⟩ := block_cells h1.rd
  have HB1 := Lib.hid hB1
  have Hf1 := Lib.hid hf1
  have H1 := Lib.hid h1
  have hsz1 : w.heap.size + 3 ≤ w1.heap.size := by have := hb1.size; omega
  clear h1 hB1 hf1 hb1
  have hal := (Below.refl ((w1.setCell ⟨w.heap.size, 0, none⟩ (.slice a1 n1 c1)).setCell ⟨w.heap.size, 1, none⟩ (.bool false)).heap.size _).alloc (Nat.le_refl _) (.cells #[.int .i64 0, .int .i64 0, .float .f64 0, .string ⟨#[]⟩, .slice none 0 0] 26)
  have H2 := Lib.hid ((H1.out.setR a1 n1 c1 false).1.below' hal)
  have HV8 := Lib.hid (heap_alloc_new ((w1.setCell ⟨w.heap.size, 0, none⟩ (.slice a1 n1 c1)).setCell ⟨w.heap.size, 1, none⟩ (.bool false)) (.cells #[.int .i64 0, .int .i64 0, .float .f64 0, .string ⟨#[]⟩, .slice none 0 0] 26))
  have Hb12 := Lib.hid (((H1.out.setR a1 n1 c1 false).2).trans (hal.mono (by simp; omega)))
  clear hal
  go_upto_region 3 with fail
  have hsz2 : ((w1.setCell ⟨w.heap.size, 0, none⟩ (.slice a1 n1 c1)).setCell ⟨w.heap.size, 1, none⟩ (.bool false)).heap.size = w1.heap.size := by simp
  rw [hsz2] at HV8
  generalize ((w1.setCell ⟨w.heap.size, 0, none⟩ (.slice a1 n1 c1)).setCell ⟨w.heap.size, 1, none⟩ (.bool false)).alloc (.cells #[.int .i64 0, .int .i64 0, .float .f64 0, .string ⟨#[]⟩, .slice none 0 0] 26) = w2 at *
  obtain ⟨y0, y1, y2, y3⟩ := block_cells H2.out.rd
  clear p0 p1 p2 p3 hsz2
  go_wp2_with fail
  obtain ⟨⟨v0, v1, v2, v3, v4⟩, _⟩ := res_cells HV8.out
  obtain ⟨_, _, q2, q3⟩ := block_cells H2.out.rr
  obtain ⟨q0, q1, _, _⟩ := block_cells H2.out.rr
  have hrv : w2.heap[w.heap.size + 1 + 1]? = some (.cells #[.int .i64 0, .int .i64 0, .float .f64 0, .string ⟨#[]⟩, .slice none 0 0] 26 (0, 0)) := H2.out.rv
  obtain ⟨⟨s0, s1, s2, s3, s4⟩, ⟨u0, u1, u2, u3, u4⟩⟩ := res_cells hrv
  clear hrv
  go_region
  have hZ := (H2.out.done a1 n1 c1 false (.int .i64 0) (.int .i64 0) (.float .f64 0) (.string ⟨#[]⟩) (.slice none 0 0)).drew
  unfold sets7 at hZ
  clear v0 v1 v2 v3 v4 q0 q1 q2 q3 s0 s1 s2 s3 s4 u0 u1 u2 u3 u4 y0 y1 y2 y3
  generalize World.drew _ = wz at *
  obtain ⟨⟨r0, r1⟩, r2, r3, r4, r5, r6⟩ := hZ.cells
  have HZ := Lib.hid hZ
  clear hZ
  go_wp2
  refine bodyPost_ret (v := .tuple #[.agg #[.slice a1 n1 c1, .bool false], .agg #[.int .i64 0, .int .i64 0, .float .f64 0, .string ⟨#[]⟩, .slice none 0 0], .bool false]) (by simp [results, Tryz.results126, go_sem, *]) rfl ?_
  have hbz := Hb12.out.trans HZ.out.below
  exact ⟨a1, n1, c1, false, _, bytesB HB1.out Hf1.out HK.out hbz, Hf1.out, H1.out.below.trans hbz, .inr ⟨Hno.out, rfl⟩⟩
set_option maxRecDepth 100000 in
set_option maxHeartbeats 3200000 in
theorem rr_nil (t : Nat) (l1 : List Nat) (hB : Bytes w a n c (form 0 ++ l1)) (hf : FormedK K a c) (hK : ∀ b, K b → b < w.heap.size) :
    Calls Tryz.prog 126 #[.agg #[.slice a n c, .bool false], .int .i64 T] w (RrAny K w t (form 0 ++ l1)) := by
  have h0 := rh_start w a n c false
  have hw0 : (((w.alloc (.cells #[.slice a n c, .bool false] 42)).alloc (.cells #[.slice none 0 0, .bool false] 42)).alloc (.cells #[.int .i64 0, .int .i64 0, .float .f64 0, .string ⟨#[]⟩, .slice none 0 0] 26)).heap.size = w.heap.size + 3 := by simp
  have HU := Lib.hid (readUintK_any K a n c false (form 0 ++ l1) _ (hB.grow h0.below) hf)
  have hn' : readN (form 0 ++ l1) (!false) = (0, l1, true) := readN_form (by omega) l1
  rw [hn'] at HU
  have H0 := Lib.hid h0
  have HK := Lib.hid hK
  clear h0 hn' hB hf hK
  have hfl : ∀ (w : World) (a : Addr) (m : Mode) (b : Nat), (store a (.float .f64 b) m).run Tryz.prog w = stored Tryz.prog w a (.float .f64 b) m := fun w a m b => run_store Tryz.prog w a _ m rfl
  go_enter Tryz.func126, Tryz.ntmps126
  go_wp2_with fail
  generalize (((w.alloc (.cells #[.slice a n c, .bool false] 42)).alloc (.cells #[.slice none 0 0, .bool false] 42)).alloc (.cells #[.int .i64 0, .int .i64 0, .float .f64 0, .string ⟨#[]⟩, .slice none 0 0] 26)) = w0 at *
  refine HU.out.mono ?_
  rintro e w1 ⟨a1, n1, c1, rfl, hB1, hf1, hb1⟩
  have h1 := H0.out.below' hb1
  obtain ⟨p0, p1, p2, p3⟩ := block_cells h1.rd
  have HB1 := Lib.hid hB1
  have Hf1 := Lib.hid hf1
  have H1 := Lib.hid h1
  have hsz1 : w.heap.size + 3 ≤ w1.heap.size := by have := hb1.size; omega
  clear h1 hB1 hf1 hb1
  have hal := (Below.refl ((w1.setCell ⟨w.heap.size, 0, none⟩ (.slice a1 n1 c1)).setCell ⟨w.heap.size, 1, none⟩ (.bool false)).heap.size _).alloc (Nat.le_refl _) (.cells #[.int .i64 0, .int .i64 0, .float .f64 0, .string ⟨#[]⟩, .slice none 0 0] 26)
  have H2 := Lib.hid ((H1.out.setR a1 n1 c1 false).1.below' hal)
  have HV8 := Lib.hid (heap_alloc_new ((w1.setCell ⟨w.heap.size, 0, none⟩ (.slice a1 n1 c1)).setCell ⟨w.heap.size, 1, none⟩ (.bool false)) (.cells #[.int .i64 0, .int .i64 0, .float .f64 0, .string ⟨#[]⟩, .slice none 0 0] 26))
  have Hb12 := Lib.hid (((H1.out.setR a1 n1 c1 false).2).trans (hal.mono (by simp; omega)))
  clear hal
  go_upto_region 3 with fail
  have hsz2 : ((w1.setCell ⟨w.heap.size, 0, none⟩ (.slice a1 n1 c1)).setCell ⟨w.heap.size, 1, none⟩ (.bool false)).heap.size = w1.heap.size := by simp
  rw [hsz2] at HV8
  generalize ((w1.setCell ⟨w.heap.size, 0, none⟩ (.slice a1 n1 c1)).setCell ⟨w.heap.size, 1, none⟩ (.bool false)).alloc (.cells #[.int .i64 0, .int .i64 0, .float .f64 0, .string ⟨#[]⟩, .slice none 0 0] 26) = w2 at *
  obtain ⟨y0, y1, y2, y3⟩ := block_cells H2.out.rd
  clear p0 p1 p2 p3 hsz2
  obtain ⟨⟨v0, v1, v2, v3, v4⟩, ⟨f0, f1, f2, f3, f4⟩⟩ := res_cells HV8.out
  go_upto_region 7 with fail
  have H3 := Lib.hid (H2.out.setO (g := w1.heap.size) (i := 0) (by omega) (.int .i64 0))
  have HV9 := Lib.hid (show (w2.setCell ⟨w1.heap.size, 0, none⟩ (.int .i64 0)).heap[w1.heap.size]? = some (.cells #[.int .i64 0, .int .i64 0, .float .f64 0, .string ⟨#[]⟩, .slice none 0 0] 26 (0, 0)) from set_headE HV8.out (i := 0) (.int .i64 0))
  clear v0 v1 v2 v3 v4 f0 f1 f2 f3 f4 y0 y1 y2 y3
  generalize w2.setCell ⟨w1.heap.size, 0, none⟩ (.int .i64 0) = w3 at *
  obtain ⟨y0, y1, y2, y3⟩ := block_cells H3.out.1.rd
  have Hb13 := Lib.hid (Hb12.out.trans H3.out.2)
  have HB3 := Lib.hid (bytesB HB1.out Hf1.out HK.out Hb13.out)
  obtain ⟨y0, y1, y2, y3⟩ := block_cells H3.out.1.rd
  obtain ⟨q0, q1, q2, q3⟩ := block_cells H3.out.1.rr
  have hrv : w3.heap[w.heap.size + 1 + 1]? = some (.cells #[.int .i64 0, .int .i64 0, .float .f64 0, .string ⟨#[]⟩, .slice none 0 0] 26 (0, 0)) := H3.out.1.rv
  obtain ⟨⟨s0, s1, s2, s3, s4⟩, ⟨u0, u1, u2, u3, u4⟩⟩ := res_cells hrv
  obtain ⟨k0, k1, k2, k3, k4⟩ := box5 HV9.out
  clear hrv
  go_wp2_with fail
  go_region
  have hZ := (H3.out.1.done a1 n1 c1 false (.int .i64 0) (.int .i64 0) (.float .f64 0) (.string ⟨#[]⟩) (.slice none 0 0)).drew
  unfold sets7 at hZ
  clear q0 q1 q2 q3 s0 s1 s2 s3 s4 u0 u1 u2 u3 u4 y0 y1 y2 y3 k0 k1 k2 k3 k4
  generalize World.drew _ = wz at *
  obtain ⟨⟨r0, r1⟩, r2, r3, r4, r5, r6⟩ := hZ.cells
  have HZ := Lib.hid hZ
  clear hZ
  go_wp2
  refine bodyPost_ret (v := .tuple #[.agg #[.slice a1 n1 c1, .bool false], .agg #[.int .i64 0, .int .i64 0, .float .f64 0, .string ⟨#[]⟩, .slice none 0 0], .bool true]) (by simp [results, Tryz.results126, go_sem, *]) rfl ?_
  have hbz := Hb13.out.trans HZ.out.below
  refine ⟨a1, n1, c1, false, l1, bytesB HB1.out Hf1.out HK.out hbz, Hf1.out, H1.out.below.trans hbz, .inl ⟨.mk 0 0 0 [] [], none, 0, rfl, rfl, vin_atom wz 0 0 0 [] (by omega) (by omega) (by omega) (by simp) (by simp), ?_⟩⟩
  exact ⟨rightN_plain ⟨.inr rfl, .inr (by decide), .inr rfl, .inr rfl⟩ (show (0 : Int) ≠ 4 by omega) (show (0 : Int) ≤ 0 ∧ (0 : Int) ≤ 4 by omega), bound_atom (by omega) (by omega) (by simp), by rw [formV_is]; simp [pieceV, contF, formsV, V.kind, V.l]⟩

set_option maxRecDepth 100000 in
set_option maxHeartbeats 3200000 in
theorem rr_int (t y : Nat) (l1 l2 : List Nat) (ok : Bool) (hn : readN l1 true = (y, l2, ok)) (hy : y < 18446744073709551616) (hyes : ok = true → l1 = form y ++ l2) (hnot : ok = false → NoV t (form 1 ++ l1)) (hB : Bytes w a n c (form 1 ++ l1)) (hf : FormedK K a c) (hK : ∀ b, K b → b < w.heap.size) :
    Calls Tryz.prog 126 #[.agg #[.slice a n c, .bool false], .int .i64 T] w (RrAny K w t (form 1 ++ l1)) := by
  have h0 := rh_start w a n c false
  have hw0 : (((w.alloc (.cells #[.slice a n c, .bool false] 42)).alloc (.cells #[.slice none 0 0, .bool false] 42)).alloc (.cells #[.int .i64 0, .int .i64 0, .float .f64 0, .string ⟨#[]⟩, .slice none 0 0] 26)).heap.size = w.heap.size + 3 := by simp
  have HU := Lib.hid (readUintK_any K a n c false (form 1 ++ l1) _ (hB.grow h0.below) hf)
  have hn' : readN (form 1 ++ l1) (!false) = (1, l1, true) := readN_form (by omega) l1
  rw [hn'] at HU
  have H0 := Lib.hid h0
  have HK := Lib.hid hK
  clear h0 hn' hB hf hK
  have hfl : ∀ (w : World) (a : Addr) (m : Mode) (b : Nat), (store a (.float .f64 b) m).run Tryz.prog w = stored Tryz.prog w a (.float .f64 b) m := fun w a m b => run_store Tryz.prog w a _ m rfl
  go_enter Tryz.func126, Tryz.ntmps126
  go_wp2_with fail
  generalize (((w.alloc (.cells #[.slice a n c, .bool false] 42)).alloc (.cells #[.slice none 0 0, .bool false] 42)).alloc (.cells #[.int .i64 0, .int .i64 0, .float .f64 0, .string ⟨#[]⟩, .slice none 0 0] 26)) = w0 at *
  refine HU.out.mono ?_
  rintro e w1 ⟨a1, n1, c1, rfl, hB1, hf1, hb1⟩
  have h1 := H0.out.below' hb1
  obtain ⟨p0, p1, p2, p3⟩ := block_cells h1.rd
  have HB1 := Lib.hid hB1
  have Hf1 := Lib.hid hf1
  have H1 := Lib.hid h1
  have hsz1 : w.heap.size + 3 ≤ w1.heap.size := by have := hb1.size; omega
  clear h1 hB1 hf1 hb1
  have hal := (Below.refl ((w1.setCell ⟨w.heap.size, 0, none⟩ (.slice a1 n1 c1)).setCell ⟨w.heap.size, 1, none⟩ (.bool false)).heap.size _).alloc (Nat.le_refl _) (.cells #[.int .i64 0, .int .i64 0, .float .f64 0, .string ⟨#[]⟩, .slice none 0 0] 26)
  have H2 := Lib.hid ((H1.out.setR a1 n1 c1 false).1.below' hal)
  have HV8 := Lib.hid (heap_alloc_new ((w1.setCell ⟨w.heap.size, 0, none⟩ (.slice a1 n1 c1)).setCell ⟨w.heap.size, 1, none⟩ (.bool false)) (.cells #[.int .i64 0, .int .i64 0, .float .f64 0, .string ⟨#[]⟩, .slice none 0 0] 26))
  have Hb12 := Lib.hid (((H1.out.setR a1 n1 c1 false).2).trans (hal.mono (by simp; omega)))
  clear hal
  go_upto_region 3 with fail
  have hsz2 : ((w1.setCell ⟨w.heap.size, 0, none⟩ (.slice a1 n1 c1)).setCell ⟨w.heap.size, 1, none⟩ (.bool false)).heap.size = w1.heap.size := by simp
  rw [hsz2] at HV8
  generalize ((w1.setCell ⟨w.heap.size, 0, none⟩ (.slice a1 n1 c1)).setCell ⟨w.heap.size, 1, none⟩ (.bool false)).alloc (.cells #[.int .i64 0, .int .i64 0, .float .f64 0, .string ⟨#[]⟩, .slice none 0 0] 26) = w2 at *
  obtain ⟨y0, y1, y2, y3⟩ := block_cells H2.out.rd
  clear p0 p1 p2 p3 hsz2
  obtain ⟨⟨v0, v1, v2, v3, v4⟩, ⟨f0, f1, f2, f3, f4⟩⟩ := res_cells HV8.out
  go_upto_region 7 with fail
  have H3 := Lib.hid (H2.out.setO (g := w1.heap.size) (i := 0) (by omega) (.int .i64 1))
  have HV9 := Lib.hid (show (w2.setCell ⟨w1.heap.size, 0, none⟩ (.int .i64 1)).heap[w1.heap.size]? = some (.cells #[.int .i64 1, .int .i64 0, .float .f64 0, .string ⟨#[]⟩, .slice none 0 0] 26 (0, 0)) from set_headE HV8.out (i := 0) (.int .i64 1))
  clear v0 v1 v2 v3 v4 f0 f1 f2 f3 f4 y0 y1 y2 y3
  generalize w2.setCell ⟨w1.heap.size, 0, none⟩ (.int .i64 1) = w3 at *
  obtain ⟨y0, y1, y2, y3⟩ := block_cells H3.out.1.rd
  have Hb13 := Lib.hid (Hb12.out.trans H3.out.2)
  have HB3 := Lib.hid (bytesB HB1.out Hf1.out HK.out Hb13.out)
  have HI := Lib.hid (readIntK_any K a1 n1 c1 false l1 w3 HB3.out Hf1.out)
  have hn'' : readN l1 (!false) = (y, l2, ok) := hn
  rw [hn''] at HI
  have HY := Lib.hid hyes
  have HN := Lib.hid hnot
  have Hy := Lib.hid hy
  have hsz3 : w.heap.size + 2 < w1.heap.size := by omega
  have HG := Lib.hid (show w1.heap.size < w3.heap.size from (Array.getElem?_eq_some_iff.1 HV9.out).1)
  clear hn hn'' hyes hnot hy
  go_wp2_with fail
  refine HI.out.mono ?_
  rintro e w4 ⟨a2, n2, c2, rfl, hB4, hf4, hb4⟩
  have h4 := H3.out.1.below' hb4
  have hv4 := blk HV9.out hb4
  obtain ⟨y0, y1, y2, y3⟩ := block_cells h4.rd
  obtain ⟨⟨v0, v1, v2, v3, v4⟩, ⟨f0, f1, f2, f3, f4⟩⟩ := box5f hv4
  have H4 := Lib.hid h4
  have HB4 := Lib.hid hB4
  have Hf4 := Lib.hid hf4
  have HV4 := Lib.hid hv4
  clear h4 hB4 hf4 hv4 hb4
  go_upto_region 36 with fail
  have H5 := Lib.hid (H4.out.setR a2 n2 c2 (!ok))
  have HV5 := Lib.hid (show ((w4.setCell ⟨w.heap.size, 0, none⟩ (.slice a2 n2 c2)).setCell ⟨w.heap.size, 1, none⟩ (.bool (!ok))).heap[w1.heap.size]? = some (.cells #[.int .i64 1, .int .i64 0, .float .f64 0, .string ⟨#[]⟩, .slice none 0 0] 26 (0, 0)) from by rw [← HV4.out]; simp [World.setCell, Array.getElem?_modify, show w.heap.size ≠ w1.heap.size by omega])
  have H6 := Lib.hid (H5.out.1.setO (g := w1.heap.size) (i := 1) hsz3 (.int .i64 (unfoldL y)))
  have HV6 := Lib.hid (set_headE HV5.out (i := 1) (.int .i64 (unfoldL y)))
  have HB6 := Lib.hid (H5.out.2.trans H6.out.2)
  clear v0 v1 v2 v3 v4 f0 f1 f2 f3 f4 y0 y1 y2 y3 H5 HV5
  generalize ((w4.setCell ⟨w.heap.size, 0, none⟩ (.slice a2 n2 c2)).setCell ⟨w.heap.size, 1, none⟩ (.bool (!ok))).setCell ⟨w1.heap.size, 1, none⟩ (.int .i64 (unfoldL y)) = w5 at *
  cases ok with
  | true =>
    have hl := HY.out rfl
    obtain ⟨y0, y1, y2, y3⟩ := block_cells H6.out.1.rd
    obtain ⟨q0, q1, q2, q3⟩ := block_cells H6.out.1.rr
    have hrv : w5.heap[w.heap.size + 1 + 1]? = some (.cells #[.int .i64 0, .int .i64 0, .float .f64 0, .string ⟨#[]⟩, .slice none 0 0] 26 (0, 0)) := H6.out.1.rv
    obtain ⟨⟨s0, s1, s2, s3, s4⟩, ⟨u0, u1, u2, u3, u4⟩⟩ := res_cells hrv
    obtain ⟨k0, k1, k2, k3, k4⟩ := box5 (show w5.heap[w1.heap.size]? = some (.cells #[.int .i64 1, .int .i64 (unfoldL y), .float .f64 0, .string ⟨#[]⟩, .slice none 0 0] 26 (0, 0)) from HV6.out)
    clear hrv
    go_wp2_with fail
    go_region
    have hZ := (H6.out.1.done a2 n2 c2 false (.int .i64 1) (.int .i64 (unfoldL y)) (.float .f64 0) (.string ⟨#[]⟩) (.slice none 0 0)).drew
    unfold sets7 at hZ
    clear q0 q1 q2 q3 s0 s1 s2 s3 s4 u0 u1 u2 u3 u4 y0 y1 y2 y3 k0 k1 k2 k3 k4
    generalize World.drew _ = wz at *
    obtain ⟨⟨r0, r1⟩, r2, r3, r4, r5, r6⟩ := hZ.cells
    have HZ := Lib.hid hZ
    clear hZ
    go_wp2
    refine bodyPost_ret (v := .tuple #[.agg #[.slice a2 n2 c2, .bool false], .agg #[.int .i64 1, .int .i64 (unfoldL y), .float .f64 0, .string ⟨#[]⟩, .slice none 0 0], .bool true]) (by simp [results, Tryz.results126, go_sem, *]) rfl ?_
    have hbz := HB6.out.trans HZ.out.below
    obtain ⟨e1, e2, e3⟩ := fold_unfold y Hy.out
    refine ⟨a2, n2, c2, false, l2, bytesB HB4.out Hf4.out HK.out hbz, Hf4.out, H4.out.below.trans hbz, .inl ⟨.mk 1 (unfoldL y) 0 [] [], none, 0, rfl, rfl, vin_atom wz 1 (unfoldL y) 0 [] (by omega) ⟨e2, e3⟩ (by omega) (by simp) (by simp), ?_⟩⟩
    exact ⟨rightN_plain ⟨.inl rfl, .inr (show bitsB 0 = 0 by decide), .inr rfl, .inr rfl⟩ (show (1 : Int) ≠ 4 by omega) (show (0 : Int) ≤ 1 ∧ (1 : Int) ≤ 4 by omega), bound_atom ⟨e2, e3⟩ (by omega) (by simp), by rw [formV_is, hl]; simp [pieceV, contF, formsV, V.kind, V.l, V.n, e1]⟩
  | false =>
    have hno := HN.out rfl
    obtain ⟨y0, y1, y2, y3⟩ := block_cells H6.out.1.rd
    obtain ⟨q0, q1, q2, q3⟩ := block_cells H6.out.1.rr
    have hrv : w5.heap[w.heap.size + 1 + 1]? = some (.cells #[.int .i64 0, .int .i64 0, .float .f64 0, .string ⟨#[]⟩, .slice none 0 0] 26 (0, 0)) := H6.out.1.rv
    obtain ⟨⟨s0, s1, s2, s3, s4⟩, ⟨u0, u1, u2, u3, u4⟩⟩ := res_cells hrv
    clear hrv
    go_wp2
    have hZ := H6.out.1.done a2 n2 c2 true (.int .i64 0) (.int .i64 0) (.float .f64 0) (.string ⟨#[]⟩) (.slice none 0 0)
    unfold sets7 at hZ
    clear q0 q1 q2 q3 s0 s1 s2 s3 s4 u0 u1 u2 u3 u4 y0 y1 y2 y3
    generalize World.setCell (World.setCell (World.setCell (World.setCell (World.setCell (World.setCell (World.setCell w5 _ _) _ _) _ _) _ _) _ _) _ _) _ _ = wz at *
    obtain ⟨⟨r0, r1⟩, r2, r3, r4, r5, r6⟩ := hZ.cells
    have HZ := Lib.hid hZ
    clear hZ
    refine bodyPost_ret (v := .tuple #[.agg #[.slice a2 n2 c2, .bool true], .agg #[.int .i64 0, .int .i64 0, .float .f64 0, .string ⟨#[]⟩, .slice none 0 0], .bool false]) (by simp [results, Tryz.results126, go_sem, *]) rfl ?_
    have hbz := HB6.out.trans HZ.out.below
    exact ⟨a2, n2, c2, true, l2, bytesB HB4.out Hf4.out HK.out hbz, Hf4.out, H4.out.below.trans hbz, .inr ⟨hno, rfl⟩⟩

end
end Go.Proofs.YtmcdfmhciinocaaGreatDoor

