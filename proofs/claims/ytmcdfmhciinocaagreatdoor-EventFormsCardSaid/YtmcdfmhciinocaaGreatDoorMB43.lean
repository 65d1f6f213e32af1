import Derived.Test.YtmcdfmhciinocaaGreatDoorMB39
import Derived.Test.YtmcdfmhciinocaaGreatDoorMB1
import Derived.Test.YtmcdfmhciinocaaGreatDoorMB32
import Derived.Test.YtmcdfmhciinocaaGreatDoorMB4
import Derived.Test.YtmcdfmhciinocaaGreatDoorMB14
import Derived.Test.YtmcdfmhciinocaaGreatDoorMB29
import Derived.Test.YtmcdfmhciinocaaGreatDoorMB30
import Derived.Test.YtmcdfmhciinocaaGreatDoorMB26
import Derived.Test.YtmcdfmhciinocaaGreatDoorMB42
import Derived.Test.YtmcdfmhciinocaaGreatDoorMB33
import Derived.Test.YtmcdfmhciinocaaGreatDoorMB34
/- The walk of the code's Read of an event, whatever the bytes. -/
namespace Go.Proofs.YtmcdfmhciinocaaGreatDoor
open Go.RowKit Go.Shelf Fl
attribute [local go_sem] run_store_func run_store_nilFunc

set_option maxRecDepth 100000 in
set_option maxHeartbeats 12800000 in
theorem evread_nokind (K : Nat → Prop) (g : Nat) (l : List Nat) (w : World) (x : Nat) (l2 : List Nat) (ok : Bool) (hx : x < 18446744073709551616) (hn : readN l true = (x, l2, ok)) (hk : ¬ (1 ≤ smallE x ∧ smallE x ≤ 11)) (hno : NoE (form 1 ++ l)) (hKb : ∀ b, K b → b < w.heap.size) (hR : RdK K w g (form 1 ++ l) true) :
    Calls Tryz.prog 16 #[.pointer (some ⟨g, 0, none⟩)] w (EvReadEnd K w g (form 1 ++ l)) := by
  obtain ⟨k, hke⟩ : ∃ k, k = smallE x := ⟨_, rfl⟩
  rw [← hke] at hk
  have hk2 : k ≤ 2147483647 := by rw [hke]; unfold smallE; split <;> omega
  have hb0 := (Below.refl w.heap.size w).alloc (Nat.le_refl _) (.cells evZ 28)
  have HU := Lib.hid (mUintK _ g _ true _ _ (orNone_some g _) (hR.below hb0))
  rw [readN_form (by omega)] at HU
  have HU2 := Lib.hid (fun W (h : RdK K W g l true) => mUintK _ g _ true W W (orNone_some g W) h)
  rw [hn] at HU2
  have HS := Lib.hid (fun W => small11_any x hx W)
  rw [← hke] at HS
  obtain ⟨q, hq⟩ : ∃ q : Bool, q = decide (x ≤ 2147483647) := ⟨_, rfl⟩
  rw [← hq] at HS
  have Hno := Lib.hid hno
  have Hk2 := Lib.hid hk2
  clear hq hke hk2 hn hx hno
  have H0 := Lib.hid (heap_alloc_new w (.cells evZ 28))
  have Hb0 := Lib.hid hb0
  have Hg := Lib.hid (show g < w.heap.size from by obtain ⟨a, n, c, h1, _⟩ := hR; exact (Array.getElem?_eq_some_iff.1 h1).1)
  have hfl : ∀ (w : World) (a : Addr) (m : Mode) (b : Nat), (store a (.float .f64 b) m).run Tryz.prog w = stored Tryz.prog w a (.float .f64 b) m := fun w a m b => run_store Tryz.prog w a _ m rfl
  have HK := Lib.hid hKb
  have Hk := Lib.hid hk
  clear hR hb0 hKb hk
  go_enter Tryz.func16, Tryz.ntmps16
  go_wp2_with fail
  refine HU.out.mono ?_
  rintro e w1 ⟨rfl, h1⟩
  have HR0 := Lib.hid (evAt_turn H0.out (show w.heap.size ≠ g by have := Hg.out; omega) h1.2)
  have H1 := Lib.hid h1
  clear h1
  have hal1 := (Below.refl w1.heap.size w1).alloc (Nat.le_refl _) (.cells evZ 28)
  have HEn := Lib.hid (heap_alloc_new w1 (.cells evZ 28))
  have Hsz1 := Lib.hid (show (w1.alloc (.cells evZ 28)).heap.size = w1.heap.size + 1 by simp)
  have Hal1 := Lib.hid hal1
  have HgE := Lib.hid (show g < w1.heap.size ∧ w.heap.size < w1.heap.size from by have h1 := H1.out.2.size; have h2 := Hg.out; rw [World.size_alloc] at h1; omega)
  clear hal1
  go_wp2_with fail
  refine (HU2.out _ (H1.out.1.below Hal1.out)).mono ?_
  rintro e w2 ⟨rfl, h2⟩
  have hE2 := evAt_turn HEn.out (show w1.heap.size ≠ g by have := HgE.out; omega) h2.2
  have HR2 := Lib.hid (evAt_turn ((Hal1.out.block _ (Array.getElem?_eq_some_iff.1 HR0.out).1).trans HR0.out) (show w.heap.size ≠ g by have := Hg.out; omega) h2.2)
  have c0 := (box11 hE2).1
  have z0 := froz hE2 0
  have HE2 := Lib.hid hE2
  have H2 := Lib.hid h2
  clear h2 hE2
  go_wp2_with fail
  refine (HS.out _).mono ?_
  rintro e w3 ⟨rfl, rfl⟩
  have HF := Lib.hid (fun W => readers_six g w1.heap.size W)
  go_wp2_with fail
  have HE4 := Lib.hid (show (w2.setCell ⟨w1.heap.size, 0, none⟩ (.int .i64 (k : Int))).heap[w1.heap.size]? = some (.cells (evC (k : Int) 0 0 0 [] [] 0 0 0 [] none 0 0) 28 (0, 0)) from set_headE HE2.out (i := 0) (.int .i64 (k : Int)))
  have HT4 := Lib.hid ((TwoG.refl w2 g w1.heap.size).set 0 (.int .i64 (k : Int)))
  have HRd4 := Lib.hid (H2.out.1.setE (i := 0) (show w1.heap.size ≠ g by have := HgE.out; omega) (fun hk => by have := HK.out _ hk; have := HgE.out; omega) (.int .i64 (k : Int)))
  clear c0 z0
  generalize w2.setCell ⟨w1.heap.size, 0, none⟩ (.int .i64 (k : Int)) = w4 at *
  have HO4 := Lib.hid (only_two (only_trans (only_below (only_trans ⟨Hb0.out.os, Hb0.out.tape, Hb0.out.output, Hb0.out.size, fun i hi _ => Hb0.out.block i hi⟩ H1.out.2) Hal1.out) H2.out.2) HT4.out (Nat.le_of_lt HgE.out.2))
  have HR4 := Lib.hid (two_keep HR2.out HT4.out (by have := Hg.out; omega) (by have := HgE.out; omega))
  have hsz2 := H2.out.2.size
  have hsz4 := HT4.out.2.2.2.1
  have HL4 := Lib.hid (show w1.heap.size < w4.heap.size from by have := Hsz1.out; omega)
  clear H2 HE2 HR2 H1 HR0 HEn HT4 H0 hsz2 hsz4 HU2 HU HS
  refine (HF.out _).mono ?_
  rintro e w5 ⟨hb5, A, B, hA, hB, hX, rfl⟩
  have Hne := Lib.hid (show A ≠ g ∧ B ≠ g ∧ w1.heap.size ≠ g ∧ A ≠ w1.heap.size ∧ B ≠ w1.heap.size from by have := HL4.out; have := HgE.out; refine ⟨?_, ?_, ?_, ?_, ?_⟩ <;> omega)
  have HX5 := Lib.hid hX
  have Hb5 := Lib.hid hb5
  have HE5 := Lib.hid (blk HE4.out hb5)
  have hal6 := (Below.refl w5.heap.size w5).alloc (Nat.le_refl _) (.cells (fr6 A B) 68)
  have hq0 := cell_below hal6 (box11 HE5.out).1
  have HA6 := Lib.hid (heap_alloc_new w5 (.cells (fr6 A B) 68))
  have Hal6 := Lib.hid (Hb5.out.trans (hal6.mono Hb5.out.size))
  have HX6 := Lib.hid (HX5.out.below hal6)
  have HE6 := Lib.hid (blk HE5.out hal6)
  have HAl := Lib.hid (show w4.heap.size ≤ A ∧ w4.heap.size ≤ B ∧ w4.heap.size ≤ w5.heap.size from ⟨hA, hB, hb5.size⟩)
  clear hA hB hX hb5 HF hal6
  unfold fr6 capW at hq0
  have HSh := Lib.hid (fun W => shape_any (k : Int) W)
  unfold ShapeEnd at HSh
  go_wp2_with fail
  obtain ⟨w6, hw6⟩ : ∃ w6, w6 = w5.alloc (.cells (fr6 A B) 68) := ⟨_, rfl⟩
  rw [← hw6] at HA6 Hal6 HX6 HE6
  rw [show w5.alloc (.cells #[Value.func (Fn.func 117) #[] #[Value.pointer (some { block := A, off := 0 }), Value.pointer (some { block := B, off := 0 })], Value.func (Fn.func 118) #[] #[Value.pointer (some { block := A, off := 0 }), Value.pointer (some { block := B, off := 0 })], Value.func (Fn.func 119) #[] #[Value.pointer (some { block := A, off := 0 }), Value.pointer (some { block := B, off := 0 })], Value.func (Fn.func 120) #[] #[Value.pointer (some { block := A, off := 0 }), Value.pointer (some { block := B, off := 0 })], Value.func (Fn.func 121) #[] #[Value.pointer (some { block := A, off := 0 }), Value.pointer (some { block := B, off := 0 })], Value.func (Fn.func 122) #[] #[Value.pointer (some { block := A, off := 0 }), Value.pointer (some { block := B, off := 0 })]] 68) = w6 from hw6.symm]
  clear hw6 hq0
  refine (HSh.out _).mono ?_
  rintro e w7 ⟨hb7, a1, rfl, hf7⟩
  have HFS := Lib.hid (show evFields (k : Int) = [] ∨ ∃ b, a1 = some ⟨b, 0, none⟩ ∧ w4.heap.size ≤ b ∧ w7.heap[b]? = some (.cells ((evFields (k : Int)).map fun (i : Nat) => Value.int .i64 (i : Int)).toArray 3 (0, 0)) from hf7.imp (fun h => h) (fun ⟨b, e1, e2, e3⟩ => ⟨b, e1, Nat.le_trans Hal6.out.size e2, e3⟩))
  have Hb7 := Lib.hid (Hal6.out.trans (hb7.mono Hal6.out.size))
  have HX7 := Lib.hid (HX6.out.below hb7)
  have HE7 := Lib.hid (blk HE6.out hb7)
  have HA7 := Lib.hid (blk HA6.out hb7)
  have HRd7 := Lib.hid (HRd4.out.below Hb7.out)
  have HR7 := Lib.hid (blk HR4.out Hb7.out)
  have HO7 := Lib.hid (only_below HO4.out Hb7.out)
  clear hb7 hf7 HA6 HX6 HE6 HX5 HE5 Hb5 HE4 HRd4 HR4 HSh Hal6
  obtain ⟨hen, hef⟩ := evName_none (k := (k : Int)) (by have := Hk.out; omega)
  have Hokz := Lib.hid (show okE (ev0 (k : Int)) = false from by
    unfold okE ev0
    rw [hen]
    rfl)
  rw [hef]
  have hsf := fun W => shape_fields (str (evName (k : Int))) a1 0 W
  clear hef HFS hen
  have hE7 := HE7.out
  go_wp2
  clear hE7
  go_loopw [7, 26] (fun t7 t26 wr => t26 = .int .i64 0 ∧ wr = w7) (fun _ _ _ => 0)
  case atStart => exact ⟨rfl, rfl⟩
  case round =>
    obtain ⟨rfl, rfl⟩ := hrel
    have hE2 := HE7.out
    have hvi : VIn wr zeroV (cells5 0 0 0 [] none 0 0) := zero_in wr
    have hEI : EvIn wr (ev0 (k : Int)) (evC (k : Int) 0 0 0 [] [] 0 0 0 [] none 0 0) := ⟨(show -9223372036854775808 ≤ (k : Int) ∧ (k : Int) ≤ 9223372036854775807 by have := Hk2.out; omega), (show 0 < 18446744073709551616 by omega), (show (-9223372036854775808 : Int) ≤ 0 ∧ (0 : Int) ≤ 9223372036854775807 by omega), (show 0 < 18446744073709551616 by omega), ⟨fun c h => (by cases h), (show 0 ≤ 9223372036854775807 by omega)⟩, ⟨fun c h => (by cases h), (show 0 ≤ 9223372036854775807 by omega)⟩, none, 0, rfl, hvi⟩
    have HV := Lib.hid (evalid_any 9 (by omega) (ev0 (k : Int)) _ wr (right_small 8 _ (ev0_d (k : Int)).r) hEI)
    rw [Hokz.out] at HV
    obtain ⟨g0, g1, g2, g3, g4, g5, g6, g7, g8, g9, g10⟩ := box11 hE2
    clear hE2 hvi hEI
    go_wp2_with fail
    refine HV.out.mono ?_
    rintro r wv ⟨rfl, hbv⟩
    have HRv := Lib.hid (blk HR7.out hbv)
    have HRdv := Lib.hid (HRd7.out.below hbv)
    have HOv := Lib.hid (only_below HO7.out hbv)
    clear hbv g0 g1 g2 g3 g4 g5 g6 g7 g8 g9 g10
    have hR1 := HRv.out
    obtain ⟨c0, c1, c2, c3, c4, c5, c6, c7, c8, c9, c10⟩ := box11 hR1
    obtain ⟨⟨z0, z1, z2, z3, z4, z5⟩, z6, z7, z8, z9, z10⟩ := box11z hR1
    clear hR1
    go_wp2
    have hZ := sets11_at (HRv.out) (.int .i64 0) (.int .u64 0) (.int .i64 0) (.int .u64 0) (.string ⟨#[]⟩) (.string ⟨#[]⟩) (.int .i64 0) (.int .i64 0) (.float .f64 0) (.string ⟨#[]⟩) (.slice none 0 0)
    have HOt := Lib.hid (fun j (hj : j ≠ w.heap.size) => sets11_other (w := wv) hj (.int .i64 0) (.int .u64 0) (.int .i64 0) (.int .u64 0) (.string ⟨#[]⟩) (.string ⟨#[]⟩) (.int .i64 0) (.int .i64 0) (.float .f64 0) (.string ⟨#[]⟩) (.slice none 0 0))
    have HSt := Lib.hid (sets11_below (Below.refl w.heap.size wv) (Nat.le_refl _) (.int .i64 0) (.int .u64 0) (.int .i64 0) (.int .u64 0) (.string ⟨#[]⟩) (.string ⟨#[]⟩) (.int .i64 0) (.int .i64 0) (.float .f64 0) (.string ⟨#[]⟩) (.slice none 0 0))
    unfold sets11 at hZ HOt HSt
    clear c0 c1 c2 c3 c4 c5 c6 c7 c8 c9 c10 z0 z1 z2 z3 z4 z5 z6 z7 z8 z9 z10
    generalize World.setCell (World.setCell (World.setCell (World.setCell (World.setCell (World.setCell (World.setCell (World.setCell (World.setCell (World.setCell (World.setCell wv _ _) _ _) _ _) _ _) _ _) _ _) _ _) _ _) _ _) _ _) _ _ = wz at *
    obtain ⟨c0, c1, c2, c3, c4, c5, c6, c7, c8, c9, c10⟩ := box11 hZ
    refine bodyPost_ret (v := .tuple #[.agg #[.int .i64 0, .int .u64 0, .int .i64 0, .int .u64 0, .string ⟨#[]⟩, .string ⟨#[]⟩, .int .i64 0, .int .i64 0, .float .f64 0, .string ⟨#[]⟩, .slice none 0 0], .bool false]) (by simp [results, Tryz.results16, go_sem, *]) rfl (.inr ⟨Hno.out, rfl, l2, ok, ?_⟩)
    have hg := Hg.out
    exact ⟨(HRdv.out).keep (HOt.out g (by omega)) (fun b hb hk => HOt.out b (fun e => absurd (HK.out b hk) (by omega))), only_setR (HOv.out) HSt.out⟩

theorem evread_any (K : Nat → Prop) (g : Nat) (l : List Nat) (w : World) (hKb : ∀ b, K b → b < w.heap.size) (hl : l.length ≤ 1000000) (hR : RdK K w g l true) :
    Calls Tryz.prog 16 #[.pointer (some ⟨g, 0, none⟩)] w (EvReadEnd K w g l) := by
  by_cases hv : ∃ r, l = form 1 ++ r
  · obtain ⟨l1, rfl⟩ := hv
    have hb1 : ∀ c ∈ l1, c < 256 := fun c hc => hR.byte c (List.mem_append.2 (.inr hc))
    rcases readN_only hb1 with ⟨x, l2, hx, rfl⟩ | ⟨hn, hno⟩
    · by_cases hk : 1 ≤ x ∧ x ≤ 11
      · exact evread_kind K g x l2 w hk hKb (by rw [List.length_append, List.length_append] at hl; omega) hR
      · refine evread_nokind K g _ w x l2 true hx (readN_form hx l2) (fun h => hk ?_) (noE_kind hx hk) hKb hR
        unfold smallE at h
        split at h
        · exact h
        · omega
    · exact evread_nokind K g _ w 0 l1 false (by omega) hn (fun h => by unfold smallE at h; simp at h) (noE_nokind hno) hKb hR
  · exact evread_version K g l w (fun r h => hv ⟨r, h⟩) hKb hR
end Go.Proofs.YtmcdfmhciinocaaGreatDoor

/- Every string is a list of bytes. -/
namespace Go.Proofs.YtmcdfmhciinocaaGreatDoor
open Go.RowKit

/-- Every string is a list of bytes. -/
theorem str_of (s : ByteArray) : ∃ l, (∀ x ∈ l, x < 256) ∧ s = str l := by
  refine ⟨s.data.toList.map UInt8.toNat, fun x hx => ?_, ?_⟩
  · obtain ⟨u, _, rfl⟩ := List.mem_map.1 hx
    exact u.toNat_lt
  · apply ByteArray.ext
    unfold str
    rw [List.map_map]
    have e : (UInt8.ofNat ∘ UInt8.toNat) = id := by funext u; simp
    rw [e, List.map_id]
end Go.Proofs.YtmcdfmhciinocaaGreatDoor

/- A byte that came in. -/
namespace Go.Proofs.YtmcdfmhciinocaaGreatDoor
open Go.ChangeShapes Go.WideShapes Go.ChangeAt Go.RowKit Go.Deep

theorem nat_u8 {n : Int} (h : (Lit.int .u8 n).wf = true) : ∃ x : Nat, x < 256 ∧ n = (x : Int) := by
  have := wf_u8 h
  exact ⟨n.toNat, by omega, by omega⟩
end Go.Proofs.YtmcdfmhciinocaaGreatDoor

/- Values that come in, read as trees. -/
namespace Go.Proofs.YtmcdfmhciinocaaGreatDoor
open Go.ChangeShapes Go.WideShapes Go.ChangeAt Go.RowKit Go.Deep

section
variable {H : Type} {enc : TypeId × Value → H} {W : World}

theorem trod_f64 {P : Program} {w : World} {base : Nat} {spare : Nat → Bool} {held : Bool} {fuel : Nat} {t : TypeId} {cs : List Value} {x : DataW H × List MemPlace} (ht : P.underlying t = some (.float .f64)) (h : DataW.trod enc P w base spare held fuel t cs = some x) :
    ∃ b : Nat, cs = [.float .f64 b] ∧ (Lit.float .f64 b).wf = true := by
  cases fuel with
  | zero => simp [DataW.trod] at h
  | succ n =>
    unfold DataW.trod at h
    rw [ht] at h
    split at h <;> simp_all

theorem cells_value : Tryz.prog.cellsOf 26 = 5 := by kernel_rfl
theorem cells_int : Tryz.prog.cellsOf 3 = 1 := by kernel_rfl
theorem cells_i64 : Tryz.prog.cellsOf 2 = 1 := by kernel_rfl
theorem cells_f64 : Tryz.prog.cellsOf 23 = 1 := by kernel_rfl
theorem cells_str : Tryz.prog.cellsOf 9 = 1 := by kernel_rfl
theorem cells_vs : Tryz.prog.cellsOf 24 = 1 := by kernel_rfl

theorem vs_of {b : Nat} : ∀ (n o : Nat), (∀ i, i < n → ∃ (cs : List Value) (v : V), cs.length = 5 ∧ (∀ j, j < 5 → W.cell? ⟨b, o + i * 5 + j, none⟩ = cs[j]?) ∧ VIn W v cs.toArray) → ∃ l : List V, l.length = n ∧ VsIn W l b o
  | 0, _, _ => ⟨[], rfl, by rw [VsIn]; trivial⟩
  | n + 1, o, h => by
    obtain ⟨cs, v, hl, hc, hv⟩ := h 0 (by omega)
    obtain ⟨l, hn, hr⟩ := vs_of n (o + 5) (fun i hi => by
      obtain ⟨cs, v, hl, hc, hv⟩ := h (i + 1) (by omega)
      exact ⟨cs, v, hl, fun j hj => by rw [← hc j hj]; congr 2; omega, hv⟩)
    refine ⟨v :: l, by rw [List.length_cons, hn], ?_⟩
    rw [VsIn]
    refine ⟨⟨cs.toArray, by simpa using hl, fun j hj => ?_, hv⟩, hr⟩
    have := hc j hj
    simpa using this

set_option maxRecDepth 100000 in
theorem open_v : ∀ (fuel : Nat) (cs : List Value) (x : DataW H × List MemPlace), DataW.trod enc Tryz.prog W 0 (fun _ => true) true fuel 26 cs = some x → ∃ v : V, VIn W v cs.toArray := by
  intro fuel
  induction fuel using Nat.strongRecOn with
  | ind fuel ih =>
    intro cs x h
    obtain ⟨xs, n, rfl, _, hlen, hxl, hf⟩ := DataW.trod_struct Tryz.underlying26 h
    rw [cells_value] at hlen
    match cs, hlen, xs, hxl with
    | [c0, c1, c2, c3, c4], _, [y0, y1, y2, y3, y4], _ =>
      have f0 := hf 0 _ rfl
      have f1 := hf 1 _ rfl
      have f2 := hf 2 _ rfl
      have f3 := hf 3 _ rfl
      have f4 := hf 4 _ rfl
      simp [cells_int, cells_i64, cells_f64, cells_str, cells_vs] at f0 f1 f2 f3 f4
      obtain ⟨k, e0, _, w0⟩ := DataW.trod_int Tryz.underlying3 f0
      obtain ⟨m, e1, _, w1⟩ := DataW.trod_int Tryz.underlying2 f1
      obtain ⟨f, e2, w2⟩ := trod_f64 Tryz.underlying23 f2
      obtain ⟨s, e3, _, w3⟩ := DataW.trod_string Tryz.underlying9 f3
      obtain rfl := List.cons.inj e0 |>.1
      obtain rfl := List.cons.inj e1 |>.1
      obtain rfl := List.cons.inj e2 |>.1
      obtain rfl := List.cons.inj e3 |>.1
      obtain ⟨q, hq, rfl⟩ := str_of s
      have hk := wf_i64_of w0
      have hm := wf_i64_of w1
      have hff : f < 18446744073709551616 := by
        simp only [Lit.wf, decide_eq_true_eq] at w2
        exact w2
      have hqs : q.length ≤ 9223372036854775807 := by
        rw [str_size, maxLen_nat] at w3
        exact w3
      clear e0 e1 e2 e3 w0 w1 w2 w3 f0 f1 f2 f3 hf
      rcases DataW.trod_slice Tryz.underlying24 f4 with ⟨e, _⟩ | ⟨a, len, cap, elems, rest, r, rfl, e, _, _, hle, hcm, hel, hi, _, _⟩
      · obtain rfl := List.cons.inj e |>.1
        refine ⟨.mk k m f q [], ?_⟩
        rw [VIn]
        exact ⟨hk, hm, hff, hq, hqs, none, 0, rfl, Nat.le_refl _, by omega, .inl rfl⟩
      · obtain rfl := List.cons.inj e |>.1
        rw [maxLen_nat] at hcm
        rw [cells_value] at hi
        have hel2 : ∀ i, i < len → ∃ (cs : List Value) (v : V), cs.length = 5 ∧ (∀ j, j < 5 → W.cell? ((a.add (i * 5)).add j) = cs[j]?) ∧ VIn W v cs.toArray := by
          intro i hlt
          have h1 := hi i hlt
          rw [List.getElem?_eq_getElem (by omega)] at h1
          obtain ⟨cs', h2, h3⟩ := Option.bind_eq_some_iff.1 h1
          obtain ⟨_, h4, h5⟩ := World.cells?_some h2
          obtain ⟨v, hv⟩ := ih r (by omega) cs' _ h3
          exact ⟨cs', v, h4, h5, hv⟩
        by_cases h0 : len = 0
        · subst h0
          refine ⟨.mk k m f q [], ?_⟩
          rw [VIn]
          exact ⟨hk, hm, hff, hq, hqs, some a, cap, rfl, hle, hcm, .inl rfl⟩
        · obtain ⟨b, o, spot⟩ := a
          have hspot : spot = none := by
            obtain ⟨cs', v, g1, g2, _⟩ := hel2 0 (by omega)
            have g3 := g2 0 (by omega)
            rw [List.getElem?_eq_getElem (by omega)] at g3
            simpa [Addr.add] using World.cell?_spot g3
          subst hspot
          obtain ⟨l, hl, hvs⟩ := vs_of (W := W) (b := b) len o (fun i hlt => by
            obtain ⟨cs', v, g1, g2, g3⟩ := hel2 i hlt
            refine ⟨cs', v, g1, fun j hj => ?_, g3⟩
            have g4 := g2 j hj
            rw [add_plain, add_plain] at g4
            exact g4)
          refine ⟨.mk k m f q l, ?_⟩
          rw [VIn]
          refine ⟨hk, hm, hff, hq, hqs, some ⟨b, o, none⟩, cap, ?_, by omega, hcm, .inr ⟨b, o, rfl, hvs⟩⟩
          rw [hl]

set_option maxRecDepth 100000 in
/-- A value that came in. -/
theorem open_value {v : Value} {d : DataW H} {p : List MemPlace} {base : Nat} (hv : Value.okWide Tryz.prog W .any base 26 v) (h : DataW.Trod enc Tryz.prog W 0 (fun _ => true) true 26 v d p) : ∃ (x : Array Value) (u : V), v = .agg x ∧ VIn W u x := by
  obtain ⟨x, rfl, _⟩ := okWide_struct Tryz.underlying26 hv
  obtain ⟨fuel, hf⟩ := h
  obtain ⟨u, hu⟩ := open_v fuel _ _ hf
  have e : (Value.agg x).cells.toList.toArray = x := Array.toArray_toList
  rw [e] at hu
  exact ⟨x, u, rfl, hu⟩

end
end Go.Proofs.YtmcdfmhciinocaaGreatDoor

/- Events that come in. -/
namespace Go.Proofs.YtmcdfmhciinocaaGreatDoor
open Go.ChangeShapes Go.WideShapes Go.ChangeAt Go.RowKit Go.Deep

section
variable {H : Type} {enc : TypeId × Value → H} {W : World}

theorem cells_event : Tryz.prog.cellsOf 28 = 11 := by kernel_rfl
theorem cells_u64 : Tryz.prog.cellsOf 22 = 1 := by kernel_rfl

set_option maxRecDepth 100000 in
theorem open_e (fuel : Nat) (cs : List Value) (x : DataW H × List MemPlace) (h : DataW.trod enc Tryz.prog W 0 (fun _ => true) true fuel 28 cs = some x) : ∃ e : Ev, EvIn W e cs.toArray := by
  obtain ⟨xs, n, rfl, _, hlen, hxl, hf⟩ := DataW.trod_struct Tryz.underlying28 h
  rw [cells_event] at hlen
  match cs, hlen, xs, hxl with
  | [c0, c1, c2, c3, c4, c5, c6, c7, c8, c9, c10], _, [y0, y1, y2, y3, y4, y5, y6], _ =>
    have f0 := hf 0 _ rfl
    have f1 := hf 1 _ rfl
    have f2 := hf 2 _ rfl
    have f3 := hf 3 _ rfl
    have f4 := hf 4 _ rfl
    have f5 := hf 5 _ rfl
    have f6 := hf 6 _ rfl
    simp [cells_int, cells_u64, cells_str, cells_value] at f0 f1 f2 f3 f4 f5 f6
    obtain ⟨k, e0, _, w0⟩ := DataW.trod_int Tryz.underlying3 f0
    obtain ⟨id, e1, _, w1⟩ := DataW.trod_int Tryz.underlying22 f1
    obtain ⟨n, e2, _, w2⟩ := DataW.trod_int Tryz.underlying3 f2
    obtain ⟨t, e3, _, w3⟩ := DataW.trod_int Tryz.underlying22 f3
    obtain ⟨s, e4, _, w4⟩ := DataW.trod_string Tryz.underlying9 f4
    obtain ⟨s', e5, _, w5⟩ := DataW.trod_string Tryz.underlying9 f5
    obtain rfl := List.cons.inj e0 |>.1
    obtain rfl := List.cons.inj e1 |>.1
    obtain rfl := List.cons.inj e2 |>.1
    obtain rfl := List.cons.inj e3 |>.1
    obtain rfl := List.cons.inj e4 |>.1
    obtain rfl := List.cons.inj e5 |>.1
    obtain ⟨q, hq, rfl⟩ := str_of s
    obtain ⟨q', hq', rfl⟩ := str_of s'
    obtain ⟨id, hid, rfl⟩ := nat_u64 w1
    obtain ⟨t, ht, rfl⟩ := nat_u64 w3
    have hqs : q.length ≤ 9223372036854775807 := by
      rw [str_size, maxLen_nat] at w4
      exact w4
    have hqs' : q'.length ≤ 9223372036854775807 := by
      rw [str_size, maxLen_nat] at w5
      exact w5
    obtain ⟨v, hv⟩ := open_v _ _ _ f6
    obtain ⟨_, _, _, _, _, a, cap, e, _⟩ := hv.parts
    have e' : c6 = .int .i64 v.kind ∧ c7 = .int .i64 v.n ∧ c8 = .float .f64 v.f ∧ c9 = .string (str v.s) ∧ c10 = .slice a v.l.length cap := by
      simpa [cells5] using e
    obtain ⟨rfl, rfl, rfl, rfl, rfl⟩ := e'
    exact ⟨⟨k, id, n, t, q, q', v⟩, wf_i64_of w0, hid, wf_i64_of w2, ht, ⟨hq, hqs⟩, ⟨hq', hqs'⟩, a, cap, rfl, hv⟩

set_option maxRecDepth 100000 in
/-- An event that came in. -/
theorem open_event {v : Value} {d : DataW H} {p : List MemPlace} {base : Nat} (hv : Value.okWide Tryz.prog W .any base 28 v) (h : DataW.Trod enc Tryz.prog W 0 (fun _ => true) true 28 v d p) : ∃ (x : Array Value) (u : Ev), v = .agg x ∧ EvIn W u x := by
  obtain ⟨x, rfl, _⟩ := okWide_struct Tryz.underlying28 hv
  obtain ⟨fuel, hf⟩ := h
  obtain ⟨u, hu⟩ := open_e fuel _ _ hf
  have e : (Value.agg x).cells.toList.toArray = x := Array.toArray_toList
  rw [e] at hu
  exact ⟨x, u, rfl, hu⟩
end
end Go.Proofs.YtmcdfmhciinocaaGreatDoor

/- The walk of slices.Equal of bytes. -/
namespace Go.Proofs.YtmcdfmhciinocaaGreatDoor
open Go.RowKit

theorem equal_len (a a' : Option Addr) (n cap n' cap' : Nat) (w : World) (hn : n ≠ n') :
    Calls Tryz.prog 12 #[.slice a n cap, .slice a' n' cap'] w fun e w' => e = .returned (.bool false) ∧ w = w' := by
  have hq : ((n : Int) != (n' : Int)) = true := by rw [bne_iff_ne]; omega
  go_enter Tryz.func12, Tryz.ntmps12
  go_wp2
  go_ret
  exact ⟨rfl, rfl⟩

theorem take_next {l l' : List Nat} {k : Nat} (h : k < l.length) (h' : k < l'.length) (ht : l.take k = l'.take k) (hx : l.getD k 0 = l'.getD k 0) : l.take (k + 1) = l'.take (k + 1) := by
  rw [List.take_succ_eq_append_getElem h, List.take_succ_eq_append_getElem h', ht]
  rw [List.getD_eq_getElem?_getD, List.getElem?_eq_getElem h, List.getD_eq_getElem?_getD, List.getElem?_eq_getElem h'] at hx
  have hx : l[k] = l'[k] := hx
  rw [hx]

def EqRel (w : World) (n : Nat) (l l' : List Nat) (i : Value) (wr : World) : Prop := ∃ k : Nat, k ≤ n ∧ i = .int .i64 k ∧ l.take k = l'.take k ∧ Below w.heap.size w wr

set_option maxHeartbeats 800000 in
theorem equal_same (a a' : Option Addr) (n cap cap' : Nat) (l l' : List Nat) (w : World) (hl : Bytes w a n cap l) (hl' : Bytes w a' n cap' l') :
    Calls Tryz.prog 12 #[.slice a n cap, .slice a' n cap'] w fun e w' => e = .returned (.bool (decide (l = l'))) ∧ Below w.heap.size w w' := by
  have hnm := hl.max
  have hB := Lib.hid hl
  have hB' := Lib.hid hl'
  clear hl hl'
  have hq : ((n : Int) != (n : Int)) = false := by simp
  go_enter Tryz.func12, Tryz.ntmps12
  go_wp2
  go_loopw [13] (fun i wr => EqRel w n l l' i wr) (fun i _ => n - (intOf i).toNat)
  case atStart => exact ⟨0, Nat.zero_le _, rfl, rfl, Below.refl _ _⟩
  case round =>
    obtain ⟨k, hk, rfl, ht, hbel⟩ := hrel
    have ht := Lib.hid ht
    rename_i ht0; clear ht0
    by_cases hlt : k < n
    · obtain ⟨b, o, rfl, hc0⟩ := (hB.out.grow hbel).cell (by omega)
      obtain ⟨b', o', rfl, hc0'⟩ := (hB'.out.grow hbel).cell (by omega)
      have hc := hc0 k hlt
      have hc' := hc0' k hlt
      clear hc0 hc0'
      have hx := Lib.hid (show l.getD k 0 = l.getD k 0 from rfl)
      generalize hy : l.getD k 0 = x at hc
      generalize hy' : l'.getD k 0 = x' at hc'
      have hy := Lib.hid hy
      have hy' := Lib.hid hy'
      rename_i hy0 hy0'; clear hy0 hy0' hx
      by_cases hxx : x = x'
      · have hq2 : ((x : Int) != (x' : Int)) = false := by rw [bne_eq_false_iff_eq]; omega
        have hxx := Lib.hid hxx
        rename_i hxx0; clear hxx0
        go_wp2
        go_quiet (fail)
        go_wp2
        go_roundw
        case rel => exact ⟨k + 1, by omega, by go_num, take_next (by rw [hB.out.len]; exact hlt) (by rw [hB'.out.len]; exact hlt) ht.out (by rw [hy.out, hy'.out, hxx.out]), below_drewN hbel _⟩
        case measure => simp [intOf]; omega
      · have hq2 : ((x : Int) != (x' : Int)) = true := by rw [bne_iff_ne]; omega
        go_wp2
        go_quiet (fail)
        go_wp2
        go_ret
        exact ⟨ret_bool (decide_eq_false (fun e => hxx (by rw [← hy.out, ← hy'.out, e]))).symm, below_drewN hbel _⟩
    · obtain rfl : k = n := by omega
      go_wp2
      go_ret
      exact ⟨ret_bool (decide_eq_true (by rw [← List.take_length (l := l), ← List.take_length (l := l'), hB.out.len, hB'.out.len]; exact ht.out)).symm, hbel⟩

theorem equal_any (a a' : Option Addr) (n cap n' cap' : Nat) (l l' : List Nat) (w : World) (hl : Bytes w a n cap l) (hl' : Bytes w a' n' cap' l') :
    Calls Tryz.prog 12 #[.slice a n cap, .slice a' n' cap'] w fun e w' => e = .returned (.bool (decide (l = l'))) ∧ Below w.heap.size w w' := by
  by_cases h : n = n'
  · subst h
    exact equal_same a a' n cap cap' l l' w hl hl'
  · refine (equal_len a a' n cap n' cap' w h).mono ?_
    rintro e w' ⟨rfl, rfl⟩
    exact ⟨ret_bool (decide_eq_false (fun e => h (by rw [← hl.len, ← hl'.len, e]))).symm, Below.refl _ _⟩
end Go.Proofs.YtmcdfmhciinocaaGreatDoor

/- All that the statements of layer 11 stand on. -/
namespace Go.Proofs.YtmcdfmhciinocaaGreatDoor
end Go.Proofs.YtmcdfmhciinocaaGreatDoor

