import Derived.Test.YtcapbaocchaenaaGreatSR38
import Derived.Test.YtcapbaocchaenaaGreatSR39
/- The walk of the reference's Read of an event, behind its kind. -/
namespace Go.Proofs.YtcapbaocchaenaaGreat
open Go.RowKit Go.Shelf Fl

theorem vin_far {w w' : World} {lo : Nat} {v : V} {x : Array Value} (h : VInP (fun b => lo ≤ b ∧ b < w.heap.size) w v x) (hs : w.heap.size ≤ w'.heap.size) (hf : ∀ b, lo ≤ b → b < w.heap.size → w'.heap[b]? = w.heap[b]?) : VInP (fun b => lo ≤ b ∧ b < w'.heap.size) w' v x :=
  VInP.turn (fun b hb => ⟨hb.1, Nat.lt_of_lt_of_le hb.2 hs⟩) (fun p hp => by unfold World.cell?; rw [hf p.block hp.1 hp.2]) v x h

section
variable (K : Nat → Prop) (a : Option Addr) (n c : Nat) (w : World)

set_option maxRecDepth 100000 in
set_option maxHeartbeats 25600000 in
theorem er_main (x : Nat) (l1 l2 : List Nat) (ok : Bool) (hn : readN l1 true = (x, l2, ok)) (hok : ok = true) (hx : 1 ≤ x ∧ x ≤ 11) (he : l1 = form x ++ l2) (hl : l2.length ≤ 100000000000) (hB : Bytes w a n c (1 :: l1)) (hf : FormedK K a c) (hK : ∀ b, K b → b < w.heap.size) :
    Calls Tryz.prog 28 #[.agg #[.slice a n c, .bool false]] w (ErAny K w (1 :: l1)) := by
  have h0 := eh_start w a n c
  have HI := Lib.hid (rtakeK_any K a n c false (1 :: l1) 1 _ (hB.grow h0.below) hf (by omega) (by omega))
  have hn' : takeN (1 :: l1) (!false) 1 = ([1], l1, true) := by unfold takeN; rw [if_pos ⟨rfl, by omega, by simp; omega⟩]; rfl
  rw [hn'] at HI
  have H0 := Lib.hid h0
  have HK := Lib.hid hK
  have hsz0 : (ehW w a n c).heap.size = w.heap.size + 3 := by simp
  have Hn := Lib.hid hn
  have Hok := Lib.hid hok
  have Hx := Lib.hid hx
  have He := Lib.hid (show 1 :: l1 = form 1 ++ (form x ++ l2) from by rw [he, form_small (x := 1) (by omega)]; rfl)
  have Hl := Lib.hid hl
  clear h0 hn' hB hf hK hn hok hx he hl
  have hfl : ∀ (w : World) (a : Addr) (m : Mode) (b : Nat), (store a (.float .f64 b) m).run Tryz.prog w = stored Tryz.prog w a (.float .f64 b) m := fun w a m b => run_store Tryz.prog w a _ m rfl
  go_enter Tryz.func28, Tryz.ntmps28
  go_wp2_with fail
  unfold ehW at HI H0 hsz0
  generalize ((w.alloc (.cells #[.slice a n c, .bool false] 55)).alloc (.cells #[.slice none 0 0, .bool false] 55)).alloc (.cells #[.int .i64 0, .int .u64 0, .int .i64 0, .int .u64 0, .string ⟨#[]⟩, .string ⟨#[]⟩, .int .i64 0, .int .i64 0, .float .f64 0, .string ⟨#[]⟩, .slice none 0 0] 43) = w0 at *
  refine HI.out.mono ?_
  rintro e w1 ⟨a1, n1, c1, p1, m1, cp1, rfl, hB1, hf1, hP1, hb1⟩
  have h1 := H0.out.below' hb1
  obtain ⟨y0, y1, y2, y3⟩ := block_cells h1.rd
  have HB1 := Lib.hid hB1
  have Hf1 := Lib.hid hf1
  have H1 := Lib.hid h1
  have HP1 := Lib.hid hP1
  have hsz1 : w.heap.size + 3 ≤ w1.heap.size := by have := hb1.size; omega
  clear h1 hB1 hf1 hb1 hP1
  go_upto_region 2 with fail
  have H2 := Lib.hid (H1.out.setR a1 n1 c1 false)
  have HP2 := Lib.hid ((HP1.out.setFar (fun hn _ hx => rd_other H1.out.rd HP1.out hn hx) (i := 0) (.slice a1 n1 c1)).setFar (fun hn _ hx => rd_other H1.out.rd HP1.out hn hx) (i := 1) (.bool false))
  clear y0 y1 y2 y3
  generalize (w1.setCell ⟨w.heap.size, 0, none⟩ (.slice a1 n1 c1)).setCell ⟨w.heap.size, 1, none⟩ (.bool false) = w2 at *
  obtain ⟨b0, o0, rfl, hc⟩ := HP2.out.cell (by rw [← HP2.out.len]; exact Nat.one_pos)
  have hm1 : m1 = 1 := by rw [← HP2.out.len]; rfl
  subst hm1
  have hc0 := hc 0 (by omega)
  have hcz : w2.cell? ⟨b0, o0, none⟩ = some (.int .u8 1) := hc0
  clear hc hc0
  have HB2 := Lib.hid (bytesB HB1.out Hf1.out HK.out H2.out.2)
  have HU := Lib.hid (readUintK_any K a1 n1 c1 false l1 w2 HB2.out Hf1.out)
  have hn'' : readN l1 (!false) = (x, l2, ok) := Hn.out
  rw [hn''] at HU
  clear hn''
  obtain ⟨y0, y1, y2, y3⟩ := block_cells H2.out.1.rd
  go_wp2_with fail
  refine HU.out.mono ?_
  rintro e w3 ⟨a3, n3, c3, rfl, hB3, hf3, hb3⟩
  have h3 := H2.out.1.below' hb3
  clear y0 y1 y2 y3
  obtain ⟨y0, y1, y2, y3⟩ := block_cells h3.rd
  have HB3 := Lib.hid hB3
  have Hf3 := Lib.hid hf3
  have H3 := Lib.hid h3
  have Hs3 := Lib.hid (show w.heap.size + 3 ≤ w3.heap.size from by have := hb3.size; have := H2.out.2.size; omega)
  clear h3 hB3 hf3 hb3 hcz
  go_upto_region 5 with fail
  have H4 := Lib.hid (H3.out.setR a3 n3 c3 (!ok))
  clear y0 y1 y2 y3
  have hsz4 : ((w3.setCell ⟨w.heap.size, 0, none⟩ (.slice a3 n3 c3)).setCell ⟨w.heap.size, 1, none⟩ (.bool (!ok))).heap.size = w3.heap.size := by simp
  have Hsz4 := Lib.hid hsz4
  clear hsz4
  generalize (w3.setCell ⟨w.heap.size, 0, none⟩ (.slice a3 n3 c3)).setCell ⟨w.heap.size, 1, none⟩ (.bool (!ok)) = w4 at *
  have hokf := Hok.out
  subst hokf
  have hxi : ¬ (x : Int) < 1 := by have := Hx.out; omega
  have hxj : ¬ (11 : Int) < (x : Int) := by have := Hx.out; omega
  have hwk : IntKind.i64.wrap (x : Int) = (x : Int) := by have := Hx.out; rw [IntKind.wrap_i64] <;> omega
  obtain ⟨y0, y1, _, _⟩ := block_cells H4.out.1.rd
  go_upto_region 8 with fail
  have hal := (Below.refl w4.heap.size w4).alloc (Nat.le_refl _) (.cells #[.int .i64 (x : Int), .int .u64 0, .int .i64 0, .int .u64 0, .string ⟨#[]⟩, .string ⟨#[]⟩, .int .i64 0, .int .i64 0, .float .f64 0, .string ⟨#[]⟩, .slice none 0 0] 43)
  have HE5 := Lib.hid (heap_alloc_new w4 (.cells #[.int .i64 (x : Int), .int .u64 0, .int .i64 0, .int .u64 0, .string ⟨#[]⟩, .string ⟨#[]⟩, .int .i64 0, .int .i64 0, .float .f64 0, .string ⟨#[]⟩, .slice none 0 0] 43))
  have Hal := Lib.hid hal
  clear hal y0 y1
  generalize w4.alloc (.cells #[.int .i64 (x : Int), .int .u64 0, .int .i64 0, .int .u64 0, .string ⟨#[]⟩, .string ⟨#[]⟩, .int .i64 0, .int .i64 0, .float .f64 0, .string ⟨#[]⟩, .slice none 0 0] 43) = w5 at *
  have H5 := Lib.hid (H4.out.1.below' Hal.out)
  have HB5 := Lib.hid (bytesB HB3.out Hf3.out HK.out (H4.out.2.trans (Hal.out.mono H4.out.1.below.size)))
  have HEs := Lib.hid (show w.heap.size + 2 < w4.heap.size from by have := Hs3.out; have := Hsz4.out; omega)
  obtain ⟨E, hEe⟩ : ∃ E, E = w4.heap.size := ⟨_, rfl⟩
  rw [← hEe] at HE5 HEs ⊢
  clear hEe
  have hxx : x < 18446744073709551616 := by have := Hx.out; omega
  have HXX := Lib.hid hxx
  clear hxx hxi hxj hwk
  go_wp2
  go_loopw [8, 9, 10, 11, 12, 13, 14, 15, 16] (fun t8 t9 t10 t11 t12 t13 t14 t15 t16 wr => ∃ (j : Nat) (q : Ev) (ar : Option Addr) (nr cr : Nat) (bad : Bool) (lj : List Nat) (okv : Bool), j ≤ 6 ∧ t8 = .bool okv ∧ t9 = .int .i64 (j : Int) ∧ EH w wr ar nr cr bad ∧ Bytes wr ar nr cr lj ∧ FormedK K ar cr ∧ EvAt wr E (E + 1) q ∧ QB x q ∧ St (form 1 ++ (form x ++ l2)) l2 x j q lj bad okv) (fun _ i _ _ _ _ _ _ _ _ => 6 - (intOf i).toNat)
  case atStart => exact ⟨0, ev0 (x : Int), a3, n3, c3, false, l2, true, by omega, rfl, rfl, H5.out, HB5.out, Hf3.out, ⟨none, 0, HE5.out, vin_atom _ 0 0 0 [] (by omega) (by omega) (by omega) (by simp) (by simp)⟩, ⟨rfl, (show 0 < 18446744073709551616 by omega), (show (0 : Int) ≤ 0 ∧ (0 : Int) ≤ 1099511627776 by omega), (show 0 < 18446744073709551616 by omega), ⟨fun c h => (by cases h), (show 0 ≤ 100000000000 by omega)⟩, ⟨fun c h => (by cases h), (show 0 ≤ 100000000000 by omega)⟩⟩, ⟨fun _ => ⟨rfl, Hl.out⟩, .inl ⟨rfl, rfl, Dec2.start _ _⟩⟩⟩
  case round =>
  obtain ⟨j, q, ar, nr, cr, bad, lj, okv, hj, rfl, rfl, hH, hB, hf, hE, hQ, hS⟩ := hrel
  obtain ⟨av, cv, hE0, hV⟩ := hE
  have HH := Lib.hid hH
  have HB := Lib.hid hB
  have Hf := Lib.hid hf
  have HE := Lib.hid hE0
  have HV := Lib.hid hV
  have HQ := Lib.hid hQ
  have HS := Lib.hid hS
  have HLn := Lib.hid (fun (h : j ≤ 5) => (hS.1 h).2)
  have hEl : E < wr.heap.size := (Array.getElem?_eq_some_iff.1 hE0).1
  have HEl := Lib.hid hEl
  have hqk : q.k = (x : Int) := hQ.k
  rw [hqk] at HE
  have Hqk := Lib.hid hqk
  clear hH hB hf hE0 hV hQ hS hEl hqk
  have hjj : j = 0 ∨ j = 1 ∨ j = 2 ∨ j = 3 ∨ j = 4 ∨ j = 5 ∨ j = 6 := by omega
  rcases hjj with rfl | rfl | rfl | rfl | rfl | rfl | rfl
  · have HHas := Lib.hid (has_any (x : Int) 105 (by omega) wr)
    rw [show decide (105 ∈ evL (x : Int)) = decide (0 ∈ evFields (x : Int)) from decide_eq_decide.2 (lett_mem (i := 0) (by omega))] at HHas
    have g0 := (box11 HE.out).1
    by_cases hm : 0 ∈ evFields (x : Int)
    · rw [decide_eq_true hm] at HHas
      have Hm := Lib.hid hm
      clear hm hj
      go_wp2_with fail
      refine HHas.out.mono ?_
      rintro r w7 ⟨rfl, hb7⟩
      have H7 := Lib.hid (HH.out.below' hb7)
      have HE7 := Lib.hid (blk HE.out hb7)
      have HB7 := Lib.hid (HB.out.grow hb7)
      have HV7 := Lib.hid (vin_far HV.out hb7.size (fun b hb hl => hb7.block b hl))
      clear hb7 g0
      obtain ⟨y0, y1, y2, y3⟩ := block_cells H7.out.rd
      obtain ⟨y, l', ok', hrn⟩ : ∃ y l' ok', readN lj (!bad) = (y, l', ok') := ⟨_, _, _, rfl⟩
      have Hrn := Lib.hid hrn
      have HC := Lib.hid (readUintK_any K ar nr cr bad lj w7 HB7.out Hf.out)
      rw [hrn] at HC
      have hyb : y < 18446744073709551616 := by have h := readN_bound (ok := !bad) HB7.out.byte; rw [hrn] at h; exact h
      have Hyb := Lib.hid hyb
      clear hrn hyb
      go_wp2_with fail
      refine HC.out.mono ?_
      rintro r w8 ⟨a8, n8, c8, rfl, hB8, hf8, hb8⟩
      have H8 := Lib.hid (H7.out.below' hb8)
      have HE8 := Lib.hid (blk HE7.out hb8)
      have HV8 := Lib.hid (vin_far HV7.out hb8.size (fun b hb hl => hb8.block b hl))
      have HB8 := Lib.hid hB8
      have Hf8 := Lib.hid hf8
      clear y0 y1 y2 y3 hB8 hf8 hb8
      obtain ⟨y0, y1, y2, y3⟩ := block_cells H8.out.rd
      have hEs := HEs.out
      have e1 := (box11 HE8.out).2.1
      have e2 := froz HE8.out 1
      go_wp2
      go_roundw
      case rel =>
        have hr1 := H8.out.setR a8 n8 c8 (!ok')
        have hlast := hr1.1.setO (g := E) (i := 1) HEs.out (.int .u64 (y : Int))
        refine ⟨0 + 1, { q with id := y }, a8, n8, c8, !ok', l', okv, by omega, rfl, rfl, hlast.1, bytesB HB8.out Hf8.out HK.out (hr1.2.trans hlast.2), Hf8.out, ⟨av, cv, ?_, vin_far HV8.out (by simp) (fun b hb hl => by simp [World.setCell, Array.getElem?_modify, show E ≠ b by omega, show w.heap.size ≠ b by have := HEs.out; omega])⟩, { HQ.out with id := Hyb.out }, ?_⟩
        · have h0 : ((w8.setCell ⟨w.heap.size, 0, none⟩ (.slice a8 n8 c8)).setCell ⟨w.heap.size, 1, none⟩ (.bool (!ok'))).heap[E]? = w8.heap[E]? := by simp [World.setCell, Array.getElem?_modify, show w.heap.size ≠ E by have := HEs.out; omega]
          have h := set_headE (h0.trans HE8.out) (i := 1) (.int .u64 (y : Int))
          rw [← Hqk.out] at h
          exact h
        · exact HS.out.num HXX.out (by omega) (by omega) Hm.out HB.out.byte Hrn.out (fun z r hz e hzy => ⟨by rw [hzy] at e; exact e, rfl, fun i hi hne => by
            match i, hi, hne with
            | 0, _, h => exact absurd rfl h
            | 1, _, _ | 2, _, _ | 3, _, _ | 4, _, _ | 5, _, _ => exact ⟨rfl, rfl⟩, fun h => { h with id := Hyb.out }⟩) (fun hno e' r hb' _ hq => hno _ _ hb'.id hq) rfl
      case measure => simp [intOf]
    · rw [decide_eq_false hm] at HHas
      have Hm := Lib.hid hm
      clear hm hj
      go_wp2_with fail
      refine HHas.out.mono ?_
      rintro r w7 ⟨rfl, hb7⟩
      have H7 := Lib.hid (HH.out.below' hb7)
      have HE7 := Lib.hid (blk HE.out hb7)
      have HB7 := Lib.hid (HB.out.grow hb7)
      have HV7 := Lib.hid (vin_far HV.out hb7.size (fun b hb hl => hb7.block b hl))
      clear hb7 g0
      go_wp2
      go_roundw
      case rel => exact ⟨0 + 1, q, ar, nr, cr, bad, lj, okv, by omega, rfl, rfl, H7.out, HB7.out, Hf.out, ⟨av, cv, by rw [Hqk.out]; exact HE7.out, HV7.out⟩, HQ.out, HS.out.skip Hm.out⟩
      case measure => simp [intOf]
  · have HHas := Lib.hid (has_any (x : Int) 110 (by omega) wr)
    rw [show decide (110 ∈ evL (x : Int)) = decide (1 ∈ evFields (x : Int)) from decide_eq_decide.2 (lett_mem (i := 1) (by omega))] at HHas
    have g0 := (box11 HE.out).1
    by_cases hm : 1 ∈ evFields (x : Int)
    · rw [decide_eq_true hm] at HHas
      have Hm := Lib.hid hm
      clear hm hj
      go_wp2_with fail
      refine HHas.out.mono ?_
      rintro r w7 ⟨rfl, hb7⟩
      have H7 := Lib.hid (HH.out.below' hb7)
      have HE7 := Lib.hid (blk HE.out hb7)
      have HB7 := Lib.hid (HB.out.grow hb7)
      have HV7 := Lib.hid (vin_far HV.out hb7.size (fun b hb hl => hb7.block b hl))
      clear hb7 g0
      obtain ⟨y0, y1, y2, y3⟩ := block_cells H7.out.rd
      obtain ⟨y, l', ok', hrn⟩ : ∃ y l' ok', readN lj (!bad) = (y, l', ok') := ⟨_, _, _, rfl⟩
      have Hrn := Lib.hid hrn
      have HC := Lib.hid (readUintK_any K ar nr cr bad lj w7 HB7.out Hf.out)
      rw [hrn] at HC
      have hyb : y < 18446744073709551616 := by have h := readN_bound (ok := !bad) HB7.out.byte; rw [hrn] at h; exact h
      have Hyb := Lib.hid hyb
      clear hrn hyb
      go_wp2_with fail
      refine HC.out.mono ?_
      rintro r w8 ⟨a8, n8, c8, rfl, hB8, hf8, hb8⟩
      have H8 := Lib.hid (H7.out.below' hb8)
      have HE8 := Lib.hid (blk HE7.out hb8)
      have HV8 := Lib.hid (vin_far HV7.out hb8.size (fun b hb hl => hb8.block b hl))
      have HB8 := Lib.hid hB8
      have Hf8 := Lib.hid hf8
      clear y0 y1 y2 y3 hB8 hf8 hb8
      go_upto_region 19 with fail
      have hal8 := (Below.refl w8.heap.size w8).alloc (Nat.le_refl _) (.cells #[.slice a8 n8 c8, .bool (!ok')] 55)
      have HX9 := Lib.hid (heap_alloc_new w8 (.cells #[.slice a8 n8 c8, .bool (!ok')] 55))
      have H9 := Lib.hid (H8.out.below' hal8)
      have HE9 := Lib.hid (blk HE8.out hal8)
      have HV9 := Lib.hid (vin_far HV8.out hal8.size (fun b hb hl => hal8.block b hl))
      have HB9 := Lib.hid (HB8.out.grow hal8)
      clear hal8
      generalize w8.alloc (.cells #[.slice a8 n8 c8, .bool (!ok')] 55) = w9 at *
      obtain ⟨x0, x1, _, _⟩ := block_cells HX9.out
      obtain ⟨y0, y1, y2, y3⟩ := block_cells H9.out.rd
      have hmin : min (y : Int) 1099511627776 = ((min y 1099511627776 : Nat) : Int) := by omega
      have hmw : IntKind.i64.wrap ((min y 1099511627776 : Nat) : Int) = ((min y 1099511627776 : Nat) : Int) := by rw [IntKind.wrap_i64] <;> omega
      obtain ⟨z, hzz⟩ : ∃ z, z = min y 1099511627776 := ⟨_, rfl⟩
      rw [← hzz] at hmin hmw
      have Hzz := Lib.hid hzz
      clear hzz
      have hEs := HEs.out
      have e1 := (box11 HE9.out).2.2.1
      have e2 := froz HE9.out 2
      go_wp2
      go_roundw
      case rel =>
        have hr1 := H9.out.setR a8 n8 c8 (!ok')
        have hlast := hr1.1.setO (g := E) (i := 2) HEs.out (.int .i64 (z : Int))
        refine ⟨1 + 1, { q with n := (z : Int) }, a8, n8, c8, !ok', l', okv, by omega, rfl, rfl, hlast.1, bytesB HB9.out Hf8.out HK.out (hr1.2.trans hlast.2), Hf8.out, ⟨av, cv, ?_, vin_far HV9.out (by simp) (fun b hb hl => by simp [World.setCell, Array.getElem?_modify, show E ≠ b by omega, show w.heap.size ≠ b by have := HEs.out; omega])⟩, { HQ.out with n := (show (0 : Int) ≤ (z : Int) ∧ (z : Int) ≤ 1099511627776 from by have := Hzz.out; omega) }, ?_⟩
        · have h0 : ((w9.setCell ⟨w.heap.size, 0, none⟩ (.slice a8 n8 c8)).setCell ⟨w.heap.size, 1, none⟩ (.bool (!ok'))).heap[E]? = w9.heap[E]? := by simp [World.setCell, Array.getElem?_modify, show w.heap.size ≠ E by have := HEs.out; omega]
          have h := set_headE (h0.trans HE9.out) (i := 2) (.int .i64 (z : Int))
          rw [← Hqk.out] at h
          exact h
        · rw [Hzz.out]; exact HS.out.att HXX.out Hm.out HB.out.byte Hrn.out
      case measure => simp [intOf]
    · rw [decide_eq_false hm] at HHas
      have Hm := Lib.hid hm
      clear hm hj
      go_wp2_with fail
      refine HHas.out.mono ?_
      rintro r w7 ⟨rfl, hb7⟩
      have H7 := Lib.hid (HH.out.below' hb7)
      have HE7 := Lib.hid (blk HE.out hb7)
      have HB7 := Lib.hid (HB.out.grow hb7)
      have HV7 := Lib.hid (vin_far HV.out hb7.size (fun b hb hl => hb7.block b hl))
      clear hb7 g0
      go_wp2
      go_roundw
      case rel => exact ⟨1 + 1, q, ar, nr, cr, bad, lj, okv, by omega, rfl, rfl, H7.out, HB7.out, Hf.out, ⟨av, cv, by rw [Hqk.out]; exact HE7.out, HV7.out⟩, HQ.out, HS.out.skip Hm.out⟩
      case measure => simp [intOf]
  · have HHas := Lib.hid (has_any (x : Int) 97 (by omega) wr)
    rw [show decide (97 ∈ evL (x : Int)) = decide (2 ∈ evFields (x : Int)) from decide_eq_decide.2 (lett_mem (i := 2) (by omega))] at HHas
    have g0 := (box11 HE.out).1
    by_cases hm : 2 ∈ evFields (x : Int)
    · rw [decide_eq_true hm] at HHas
      have Hm := Lib.hid hm
      clear hm hj
      go_wp2_with fail
      refine HHas.out.mono ?_
      rintro r w7 ⟨rfl, hb7⟩
      have H7 := Lib.hid (HH.out.below' hb7)
      have HE7 := Lib.hid (blk HE.out hb7)
      have HB7 := Lib.hid (HB.out.grow hb7)
      have HV7 := Lib.hid (vin_far HV.out hb7.size (fun b hb hl => hb7.block b hl))
      clear hb7 g0
      obtain ⟨y0, y1, y2, y3⟩ := block_cells H7.out.rd
      obtain ⟨y, l', ok', hrn⟩ : ∃ y l' ok', readN lj (!bad) = (y, l', ok') := ⟨_, _, _, rfl⟩
      have Hrn := Lib.hid hrn
      have HC := Lib.hid (readUintK_any K ar nr cr bad lj w7 HB7.out Hf.out)
      rw [hrn] at HC
      have hyb : y < 18446744073709551616 := by have h := readN_bound (ok := !bad) HB7.out.byte; rw [hrn] at h; exact h
      have Hyb := Lib.hid hyb
      clear hrn hyb
      go_wp2_with fail
      refine HC.out.mono ?_
      rintro r w8 ⟨a8, n8, c8, rfl, hB8, hf8, hb8⟩
      have H8 := Lib.hid (H7.out.below' hb8)
      have HE8 := Lib.hid (blk HE7.out hb8)
      have HV8 := Lib.hid (vin_far HV7.out hb8.size (fun b hb hl => hb8.block b hl))
      have HB8 := Lib.hid hB8
      have Hf8 := Lib.hid hf8
      clear y0 y1 y2 y3 hB8 hf8 hb8
      obtain ⟨y0, y1, y2, y3⟩ := block_cells H8.out.rd
      have hEs := HEs.out
      have e1 := (box11 HE8.out).2.2.2.1
      have e2 := froz HE8.out 3
      go_wp2
      go_roundw
      case rel =>
        have hr1 := H8.out.setR a8 n8 c8 (!ok')
        have hlast := hr1.1.setO (g := E) (i := 3) HEs.out (.int .u64 (y : Int))
        refine ⟨2 + 1, { q with t := y }, a8, n8, c8, !ok', l', okv, by omega, rfl, rfl, hlast.1, bytesB HB8.out Hf8.out HK.out (hr1.2.trans hlast.2), Hf8.out, ⟨av, cv, ?_, vin_far HV8.out (by simp) (fun b hb hl => by simp [World.setCell, Array.getElem?_modify, show E ≠ b by omega, show w.heap.size ≠ b by have := HEs.out; omega])⟩, { HQ.out with t := Hyb.out }, ?_⟩
        · have h0 : ((w8.setCell ⟨w.heap.size, 0, none⟩ (.slice a8 n8 c8)).setCell ⟨w.heap.size, 1, none⟩ (.bool (!ok'))).heap[E]? = w8.heap[E]? := by simp [World.setCell, Array.getElem?_modify, show w.heap.size ≠ E by have := HEs.out; omega]
          have h := set_headE (h0.trans HE8.out) (i := 3) (.int .u64 (y : Int))
          rw [← Hqk.out] at h
          exact h
        · exact HS.out.num HXX.out (by omega) (by omega) Hm.out HB.out.byte Hrn.out (fun z r hz e hzy => ⟨by rw [hzy] at e; exact e, rfl, fun i hi hne => by
            match i, hi, hne with
            | 2, _, h => exact absurd rfl h
            | 0, _, _ | 1, _, _ | 3, _, _ | 4, _, _ | 5, _, _ => exact ⟨rfl, rfl⟩, fun h => { h with t := Hyb.out }⟩) (fun hno e' r hb' _ hq => hno _ _ hb'.t hq) rfl
      case measure => simp [intOf]
    · rw [decide_eq_false hm] at HHas
      have Hm := Lib.hid hm
      clear hm hj
      go_wp2_with fail
      refine HHas.out.mono ?_
      rintro r w7 ⟨rfl, hb7⟩
      have H7 := Lib.hid (HH.out.below' hb7)
      have HE7 := Lib.hid (blk HE.out hb7)
      have HB7 := Lib.hid (HB.out.grow hb7)
      have HV7 := Lib.hid (vin_far HV.out hb7.size (fun b hb hl => hb7.block b hl))
      clear hb7 g0
      go_wp2
      go_roundw
      case rel => exact ⟨2 + 1, q, ar, nr, cr, bad, lj, okv, by omega, rfl, rfl, H7.out, HB7.out, Hf.out, ⟨av, cv, by rw [Hqk.out]; exact HE7.out, HV7.out⟩, HQ.out, HS.out.skip Hm.out⟩
      case measure => simp [intOf]
  · have HHas := Lib.hid (has_any (x : Int) 115 (by omega) wr)
    rw [show decide (115 ∈ evL (x : Int)) = decide (3 ∈ evFields (x : Int)) from decide_eq_decide.2 (lett_mem (i := 3) (by omega))] at HHas
    have g0 := (box11 HE.out).1
    by_cases hm : 3 ∈ evFields (x : Int)
    · rw [decide_eq_true hm] at HHas
      have Hm := Lib.hid hm
      clear hm hj
      go_wp2_with fail
      refine HHas.out.mono ?_
      rintro r w7 ⟨rfl, hb7⟩
      have H7 := Lib.hid (HH.out.below' hb7)
      have HE7 := Lib.hid (blk HE.out hb7)
      have HB7 := Lib.hid (HB.out.grow hb7)
      have HV7 := Lib.hid (vin_far HV.out hb7.size (fun b hb hl => hb7.block b hl))
      clear hb7 g0
      obtain ⟨y0, y1, y2, y3⟩ := block_cells H7.out.rd
      obtain ⟨s, l', ok', hrn⟩ : ∃ s l' ok', readB lj (!bad) = (s, l', ok') := ⟨_, _, _, rfl⟩
      have Hrn := Lib.hid hrn
      have HC := Lib.hid (readBytesK_any K ar nr cr bad lj w7 HB7.out Hf.out)
      rw [hrn] at HC
      have hsb : (∀ c ∈ s, c < 256) ∧ s.length ≤ 100000000000 := by
        have h := (readB_len lj (!bad)).2
        rw [hrn] at h
        exact ⟨fun c hc => HB7.out.byte c (h.2 c hc), Nat.le_trans h.1 (HLn.out (by omega))⟩
      have Hsb := Lib.hid hsb
      clear hrn hsb
      go_wp2_with fail
      refine HC.out.mono ?_
      rintro r w8 ⟨a8, n8, c8, p8, m8, cp8, rfl, hB8, hf8, hP8, hb8⟩
      have H8 := Lib.hid (H7.out.below' hb8)
      have HE8 := Lib.hid (blk HE7.out hb8)
      have HV8 := Lib.hid (vin_far HV7.out hb8.size (fun b hb hl => hb8.block b hl))
      have HB8 := Lib.hid hB8
      have Hf8 := Lib.hid hf8
      have HP8 := Lib.hid hP8
      clear hP8
      clear y0 y1 y2 y3 hB8 hf8 hb8
      go_upto_region 25 with fail
      have hal8 := (Below.refl w8.heap.size w8).alloc (Nat.le_refl _) (.cells #[.slice a8 n8 c8, .bool (!ok')] 55)
      have HX9 := Lib.hid (heap_alloc_new w8 (.cells #[.slice a8 n8 c8, .bool (!ok')] 55))
      have H9 := Lib.hid (H8.out.below' hal8)
      have HE9 := Lib.hid (blk HE8.out hal8)
      have HV9 := Lib.hid (vin_far HV8.out hal8.size (fun b hb hl => hal8.block b hl))
      have HB9 := Lib.hid (HB8.out.grow hal8)
      have HP9 := Lib.hid (HP8.out.grow hal8)
      clear hal8
      generalize w8.alloc (.cells #[.slice a8 n8 c8, .bool (!ok')] 55) = w9 at *
      obtain ⟨x0, x1, _, _⟩ := block_cells HX9.out
      obtain ⟨y0, y1, y2, y3⟩ := block_cells H9.out.rd
      go_upto_region 26 with fail
      have H10 := Lib.hid (H9.out.setR a8 n8 c8 (!ok'))
      have HE10 := Lib.hid (show ((w9.setCell ⟨w.heap.size, 0, none⟩ (.slice a8 n8 c8)).setCell ⟨w.heap.size, 1, none⟩ (.bool (!ok'))).heap[E]? = _ from (by simp [World.setCell, Array.getElem?_modify, show w.heap.size ≠ E by have := HEs.out; omega] : _ = w9.heap[E]?).trans HE9.out)
      have HV10 := Lib.hid (vin_far (w' := (w9.setCell ⟨w.heap.size, 0, none⟩ (.slice a8 n8 c8)).setCell ⟨w.heap.size, 1, none⟩ (.bool (!ok'))) HV9.out (by simp) (fun b hb hl => by simp [World.setCell, Array.getElem?_modify, show w.heap.size ≠ b by have := HEs.out; omega]))
      have HB10 := Lib.hid (bytesB HB9.out Hf8.out HK.out H10.out.2)
      have HP10 := Lib.hid ((HP9.out.setFar (fun hn _ hx => rd_other H9.out.rd HP9.out hn hx) (i := 0) (.slice a8 n8 c8)).setFar (fun hn _ hx => rd_other H9.out.rd HP9.out hn hx) (i := 1) (.bool (!ok')))
      clear y0 y1 y2 y3 x0 x1
      generalize (w9.setCell ⟨w.heap.size, 0, none⟩ (.slice a8 n8 c8)).setCell ⟨w.heap.size, 1, none⟩ (.bool (!ok')) = w10 at *
      have hcv := convert_bytes (P := Tryz.prog) HP10.out 22 5 9 Tryz.underlying22 Tryz.underlying5 Tryz.underlying9
      have e1 := (box11 HE10.out).2.2.2.2.1
      have e2 := froz HE10.out 4
      go_wp2
      go_roundw
      case rel =>
        have hlast := H10.out.1.setO (g := E) (i := 4) HEs.out (.string (str s))
        refine ⟨3 + 1, { q with nm := s }, a8, n8, c8, !ok', l', okv, by omega, rfl, rfl, hlast.1, bytesB HB10.out Hf8.out HK.out hlast.2, Hf8.out, ⟨av, cv, ?_, vin_far HV10.out (by simp) (fun b hb hl => by simp [World.setCell, Array.getElem?_modify, show E ≠ b by omega])⟩, { HQ.out with nm := Hsb.out }, ?_⟩
        · have h := set_headE HE10.out (i := 4) (.string (str s))
          rw [← Hqk.out] at h
          exact h
        · exact HS.out.str HXX.out (by omega) Hm.out HB.out.byte Hrn.out (fun z r hz e hzs => ⟨by rw [hzs] at e; exact e, rfl, fun i hi hne => by
            match i, hi, hne with
            | 3, _, h => exact absurd rfl h
            | 0, _, _ | 1, _, _ | 2, _, _ | 4, _, _ | 5, _, _ => exact ⟨rfl, rfl⟩, fun h => { h with nm := Hsb.out.2, nb := Hsb.out.1 }⟩) (fun hno e' r hb' _ hq => hno _ _ hb'.nm hq) rfl
      case measure => simp [intOf]
    · rw [decide_eq_false hm] at HHas
      have Hm := Lib.hid hm
      clear hm hj
      go_wp2_with fail
      refine HHas.out.mono ?_
      rintro r w7 ⟨rfl, hb7⟩
      have H7 := Lib.hid (HH.out.below' hb7)
      have HE7 := Lib.hid (blk HE.out hb7)
      have HB7 := Lib.hid (HB.out.grow hb7)
      have HV7 := Lib.hid (vin_far HV.out hb7.size (fun b hb hl => hb7.block b hl))
      clear hb7 g0
      go_wp2
      go_roundw
      case rel => exact ⟨3 + 1, q, ar, nr, cr, bad, lj, okv, by omega, rfl, rfl, H7.out, HB7.out, Hf.out, ⟨av, cv, by rw [Hqk.out]; exact HE7.out, HV7.out⟩, HQ.out, HS.out.skip Hm.out⟩
      case measure => simp [intOf]
  · have HHas := Lib.hid (has_any (x : Int) 116 (by omega) wr)
    rw [show decide (116 ∈ evL (x : Int)) = decide (4 ∈ evFields (x : Int)) from decide_eq_decide.2 (lett_mem (i := 4) (by omega))] at HHas
    have g0 := (box11 HE.out).1
    by_cases hm : 4 ∈ evFields (x : Int)
    · rw [decide_eq_true hm] at HHas
      have Hm := Lib.hid hm
      clear hm hj
      go_wp2_with fail
      refine HHas.out.mono ?_
      rintro r w7 ⟨rfl, hb7⟩
      have H7 := Lib.hid (HH.out.below' hb7)
      have HE7 := Lib.hid (blk HE.out hb7)
      have HB7 := Lib.hid (HB.out.grow hb7)
      have HV7 := Lib.hid (vin_far HV.out hb7.size (fun b hb hl => hb7.block b hl))
      clear hb7 g0
      obtain ⟨y0, y1, y2, y3⟩ := block_cells H7.out.rd
      obtain ⟨s, l', ok', hrn⟩ : ∃ s l' ok', readB lj (!bad) = (s, l', ok') := ⟨_, _, _, rfl⟩
      have Hrn := Lib.hid hrn
      have HC := Lib.hid (readBytesK_any K ar nr cr bad lj w7 HB7.out Hf.out)
      rw [hrn] at HC
      have hsb : (∀ c ∈ s, c < 256) ∧ s.length ≤ 100000000000 := by
        have h := (readB_len lj (!bad)).2
        rw [hrn] at h
        exact ⟨fun c hc => HB7.out.byte c (h.2 c hc), Nat.le_trans h.1 (HLn.out (by omega))⟩
      have Hsb := Lib.hid hsb
      clear hrn hsb
      go_wp2_with fail
      refine HC.out.mono ?_
      rintro r w8 ⟨a8, n8, c8, p8, m8, cp8, rfl, hB8, hf8, hP8, hb8⟩
      have H8 := Lib.hid (H7.out.below' hb8)
      have HE8 := Lib.hid (blk HE7.out hb8)
      have HV8 := Lib.hid (vin_far HV7.out hb8.size (fun b hb hl => hb8.block b hl))
      have HB8 := Lib.hid hB8
      have Hf8 := Lib.hid hf8
      have HP8 := Lib.hid hP8
      clear hP8
      clear y0 y1 y2 y3 hB8 hf8 hb8
      go_upto_region 29 with fail
      have hal8 := (Below.refl w8.heap.size w8).alloc (Nat.le_refl _) (.cells #[.slice a8 n8 c8, .bool (!ok')] 55)
      have HX9 := Lib.hid (heap_alloc_new w8 (.cells #[.slice a8 n8 c8, .bool (!ok')] 55))
      have H9 := Lib.hid (H8.out.below' hal8)
      have HE9 := Lib.hid (blk HE8.out hal8)
      have HV9 := Lib.hid (vin_far HV8.out hal8.size (fun b hb hl => hal8.block b hl))
      have HB9 := Lib.hid (HB8.out.grow hal8)
      have HP9 := Lib.hid (HP8.out.grow hal8)
      clear hal8
      generalize w8.alloc (.cells #[.slice a8 n8 c8, .bool (!ok')] 55) = w9 at *
      obtain ⟨x0, x1, _, _⟩ := block_cells HX9.out
      obtain ⟨y0, y1, y2, y3⟩ := block_cells H9.out.rd
      go_upto_region 30 with fail
      have H10 := Lib.hid (H9.out.setR a8 n8 c8 (!ok'))
      have HE10 := Lib.hid (show ((w9.setCell ⟨w.heap.size, 0, none⟩ (.slice a8 n8 c8)).setCell ⟨w.heap.size, 1, none⟩ (.bool (!ok'))).heap[E]? = _ from (by simp [World.setCell, Array.getElem?_modify, show w.heap.size ≠ E by have := HEs.out; omega] : _ = w9.heap[E]?).trans HE9.out)
      have HV10 := Lib.hid (vin_far (w' := (w9.setCell ⟨w.heap.size, 0, none⟩ (.slice a8 n8 c8)).setCell ⟨w.heap.size, 1, none⟩ (.bool (!ok'))) HV9.out (by simp) (fun b hb hl => by simp [World.setCell, Array.getElem?_modify, show w.heap.size ≠ b by have := HEs.out; omega]))
      have HB10 := Lib.hid (bytesB HB9.out Hf8.out HK.out H10.out.2)
      have HP10 := Lib.hid ((HP9.out.setFar (fun hn _ hx => rd_other H9.out.rd HP9.out hn hx) (i := 0) (.slice a8 n8 c8)).setFar (fun hn _ hx => rd_other H9.out.rd HP9.out hn hx) (i := 1) (.bool (!ok')))
      clear y0 y1 y2 y3 x0 x1
      generalize (w9.setCell ⟨w.heap.size, 0, none⟩ (.slice a8 n8 c8)).setCell ⟨w.heap.size, 1, none⟩ (.bool (!ok')) = w10 at *
      have hcv := convert_bytes (P := Tryz.prog) HP10.out 22 5 9 Tryz.underlying22 Tryz.underlying5 Tryz.underlying9
      have e1 := (box11 HE10.out).2.2.2.2.2.1
      have e2 := froz HE10.out 5
      go_wp2
      go_roundw
      case rel =>
        have hlast := H10.out.1.setO (g := E) (i := 5) HEs.out (.string (str s))
        refine ⟨4 + 1, { q with tx := s }, a8, n8, c8, !ok', l', okv, by omega, rfl, rfl, hlast.1, bytesB HB10.out Hf8.out HK.out hlast.2, Hf8.out, ⟨av, cv, ?_, vin_far HV10.out (by simp) (fun b hb hl => by simp [World.setCell, Array.getElem?_modify, show E ≠ b by omega])⟩, { HQ.out with tx := Hsb.out }, ?_⟩
        · have h := set_headE HE10.out (i := 5) (.string (str s))
          rw [← Hqk.out] at h
          exact h
        · exact HS.out.str HXX.out (by omega) Hm.out HB.out.byte Hrn.out (fun z r hz e hzs => ⟨by rw [hzs] at e; exact e, rfl, fun i hi hne => by
            match i, hi, hne with
            | 4, _, h => exact absurd rfl h
            | 0, _, _ | 1, _, _ | 2, _, _ | 3, _, _ | 5, _, _ => exact ⟨rfl, rfl⟩, fun h => { h with tx := Hsb.out.2, tb := Hsb.out.1 }⟩) (fun hno e' r hb' _ hq => hno _ _ hb'.tx hq) rfl
      case measure => simp [intOf]
    · rw [decide_eq_false hm] at HHas
      have Hm := Lib.hid hm
      clear hm hj
      go_wp2_with fail
      refine HHas.out.mono ?_
      rintro r w7 ⟨rfl, hb7⟩
      have H7 := Lib.hid (HH.out.below' hb7)
      have HE7 := Lib.hid (blk HE.out hb7)
      have HB7 := Lib.hid (HB.out.grow hb7)
      have HV7 := Lib.hid (vin_far HV.out hb7.size (fun b hb hl => hb7.block b hl))
      clear hb7 g0
      go_wp2
      go_roundw
      case rel => exact ⟨4 + 1, q, ar, nr, cr, bad, lj, okv, by omega, rfl, rfl, H7.out, HB7.out, Hf.out, ⟨av, cv, by rw [Hqk.out]; exact HE7.out, HV7.out⟩, HQ.out, HS.out.skip Hm.out⟩
      case measure => simp [intOf]
  · have HHas := Lib.hid (has_any (x : Int) 118 (by omega) wr)
    rw [show decide (118 ∈ evL (x : Int)) = decide (5 ∈ evFields (x : Int)) from decide_eq_decide.2 (lett_mem (i := 5) (by omega))] at HHas
    have g0 := (box11 HE.out).1
    by_cases hm : 5 ∈ evFields (x : Int)
    · rw [decide_eq_true hm] at HHas
      have Hm := Lib.hid hm
      clear hm hj
      go_wp2_with fail
      refine HHas.out.mono ?_
      rintro r w7 ⟨rfl, hb7⟩
      have H7 := Lib.hid (HH.out.below' hb7)
      have HE7 := Lib.hid (blk HE.out hb7)
      have HB7 := Lib.hid (HB.out.grow hb7)
      have HV7 := Lib.hid (vin_far HV.out hb7.size (fun b hb hl => hb7.block b hl))
      clear hb7 g0
      obtain ⟨y0, y1, y2, y3⟩ := block_cells H7.out.rd
      cases bad with
      | false =>
        have HC := Lib.hid (rread04_any K lj ar nr cr w7 (HLn.out (by omega)) (fun b hb => Nat.lt_of_lt_of_le (HK.out b hb) H7.out.below.size) HB7.out Hf.out)
        go_wp2_with fail
        refine HC.out.mono ?_
        rintro r w8 ⟨a8, n8, c8, bad8, ls, hB8, hf8, hb8, ⟨u, au, cu, rfl, rfl, hvu, hiu⟩ | ⟨hno, rfl⟩⟩
        · have Hvu := Lib.hid hvu
          have Hiu := Lib.hid hiu
          clear hvu hiu
          have H8 := Lib.hid (H7.out.below' hb8)
          have HE8 := Lib.hid (blk HE7.out hb8)
          have HV8 := Lib.hid (vin_far HV7.out hb8.size (fun b hb hl => hb8.block b hl))
          have HB8 := Lib.hid hB8
          have Hf8 := Lib.hid hf8
          have Hs7 := Lib.hid (show E < w7.heap.size ∧ w7.heap.size ≤ w8.heap.size from ⟨(Array.getElem?_eq_some_iff.1 HE7.out).1, hb8.size⟩)
          clear y0 y1 y2 y3 hB8 hf8 hb8
          unfold cells5
          have hEs := HEs.out
          obtain ⟨y0, y1, y2, y3⟩ := block_cells H8.out.rd
          obtain ⟨_, _, _, _, _, _, e6, e7, e8, e9, e10⟩ := box11 HE8.out
          have f6 := froz HE8.out 6
          have f7 := froz HE8.out 7
          have f8 := froz HE8.out 8
          have f9 := froz HE8.out 9
          have f10 := froz HE8.out 10
          go_wp2
          go_roundw
          case rel =>
            have hr1 := H8.out.setR a8 n8 c8 false
            have h6 := hr1.1.setO (g := E) (i := 6) HEs.out (.int .i64 u.kind)
            have h7 := h6.1.setO (g := E) (i := 7) HEs.out (.int .i64 u.n)
            have h8 := h7.1.setO (g := E) (i := 8) HEs.out (.float .f64 u.f)
            have h9 := h8.1.setO (g := E) (i := 9) HEs.out (.string (str u.s))
            have h10 := h9.1.setO (g := E) (i := 10) HEs.out (.slice au u.l.length cu)
            have hbl := hr1.2.trans (h6.2.trans (h7.2.trans (h8.2.trans (h9.2.trans h10.2))))
            refine ⟨6, { q with v := u }, a8, n8, c8, false, ls, true, by omega, rfl, rfl, h10.1, bytesB HB8.out Hf8.out HK.out hbl, Hf8.out, ⟨au, cu, ?_, ?_⟩, ⟨HQ.out.k, HQ.out.id, HQ.out.n, HQ.out.t, HQ.out.nm, HQ.out.tx⟩, ?_⟩
            rotate_left 2
            · exact HS.out.val HXX.out Hm.out Hiu.out
            · have h0 : ((w8.setCell ⟨w.heap.size, 0, none⟩ (.slice a8 n8 c8)).setCell ⟨w.heap.size, 1, none⟩ (.bool false)).heap[E]? = w8.heap[E]? := by simp [World.setCell, Array.getElem?_modify, show w.heap.size ≠ E by have := HEs.out; omega]
              have h := set5E (h0.trans HE8.out) (.int .i64 u.kind) (.int .i64 u.n) (.float .f64 u.f) (.string (str u.s)) (.slice au u.l.length cu)
              rw [← Hqk.out] at h
              exact h
            · exact vin_far (VInP.turn (fun b hb => ⟨by have := Hs7.out; omega, hb.2⟩) (fun _ _ => rfl) u _ Hvu.out) (by simp) (fun b hb hl => by simp [World.setCell, Array.getElem?_modify, show E ≠ b by omega, show w.heap.size ≠ b by have := HEs.out; omega])
          case measure => simp [intOf]
        · have Hno := Lib.hid hno
          clear hno
          have H8 := Lib.hid (H7.out.below' hb8)
          have HE8 := Lib.hid (blk HE7.out hb8)
          have HV8 := Lib.hid (vin_far HV7.out hb8.size (fun b hb hl => hb8.block b hl))
          have HB8 := Lib.hid hB8
          have Hf8 := Lib.hid hf8
          have Hs7 := Lib.hid (show E < w7.heap.size ∧ w7.heap.size ≤ w8.heap.size from ⟨(Array.getElem?_eq_some_iff.1 HE7.out).1, hb8.size⟩)
          clear y0 y1 y2 y3 hB8 hf8 hb8
          unfold cells5
          have hEs := HEs.out
          obtain ⟨y0, y1, y2, y3⟩ := block_cells H8.out.rd
          obtain ⟨_, _, _, _, _, _, e6, e7, e8, e9, e10⟩ := box11 HE8.out
          have f6 := froz HE8.out 6
          have f7 := froz HE8.out 7
          have f8 := froz HE8.out 8
          have f9 := froz HE8.out 9
          have f10 := froz HE8.out 10
          go_wp2
          go_roundw
          case rel =>
            have hr1 := H8.out.setR a8 n8 c8 bad8
            have h6 := hr1.1.setO (g := E) (i := 6) HEs.out (.int .i64 0)
            have h7 := h6.1.setO (g := E) (i := 7) HEs.out (.int .i64 0)
            have h8 := h7.1.setO (g := E) (i := 8) HEs.out (.float .f64 0)
            have h9 := h8.1.setO (g := E) (i := 9) HEs.out (.string (str []))
            have h10 := h9.1.setO (g := E) (i := 10) HEs.out (.slice none 0 0)
            have hbl := hr1.2.trans (h6.2.trans (h7.2.trans (h8.2.trans (h9.2.trans h10.2))))
            refine ⟨6, { q with v := zeroV }, a8, n8, c8, bad8, ls, false, by omega, rfl, rfl, h10.1, bytesB HB8.out Hf8.out HK.out hbl, Hf8.out, ⟨none, 0, ?_, ?_⟩, ⟨HQ.out.k, HQ.out.id, HQ.out.n, HQ.out.t, HQ.out.nm, HQ.out.tx⟩, ?_⟩
            rotate_left 2
            · exact HS.out.noval HXX.out Hm.out (fun _ => Hno.out) _ _ _
            · have h0 : ((w8.setCell ⟨w.heap.size, 0, none⟩ (.slice a8 n8 c8)).setCell ⟨w.heap.size, 1, none⟩ (.bool bad8)).heap[E]? = w8.heap[E]? := by simp [World.setCell, Array.getElem?_modify, show w.heap.size ≠ E by have := HEs.out; omega]
              have h := set5E (h0.trans HE8.out) (.int .i64 0) (.int .i64 0) (.float .f64 0) (.string (str [])) (.slice none 0 0)
              rw [← Hqk.out] at h
              exact h
            · exact vin_atom _ 0 0 0 [] (by omega) (by omega) (by omega) (by simp) (by simp)
          case measure => simp [intOf]
      | true =>
        have HC := Lib.hid (rread04_bad K lj ar nr cr w7 (fun b hb => Nat.lt_of_lt_of_le (HK.out b hb) H7.out.below.size) HB7.out Hf.out)
        go_wp2_with fail
        refine HC.out.mono ?_
        rintro r w8 ⟨a8, n8, c8, hB8, hf8, hb8, rfl⟩
        obtain ⟨ls, hls⟩ : ∃ ls, ls = lj := ⟨_, rfl⟩
        rw [← hls] at hB8
        have Hls := Lib.hid hls
        clear hls
        have H8 := Lib.hid (H7.out.below' hb8)
        have HE8 := Lib.hid (blk HE7.out hb8)
        have HV8 := Lib.hid (vin_far HV7.out hb8.size (fun b hb hl => hb8.block b hl))
        have HB8 := Lib.hid hB8
        have Hf8 := Lib.hid hf8
        have Hs7 := Lib.hid (show E < w7.heap.size ∧ w7.heap.size ≤ w8.heap.size from ⟨(Array.getElem?_eq_some_iff.1 HE7.out).1, hb8.size⟩)
        clear y0 y1 y2 y3 hB8 hf8 hb8
        unfold cells5
        have hEs := HEs.out
        obtain ⟨y0, y1, y2, y3⟩ := block_cells H8.out.rd
        obtain ⟨_, _, _, _, _, _, e6, e7, e8, e9, e10⟩ := box11 HE8.out
        have f6 := froz HE8.out 6
        have f7 := froz HE8.out 7
        have f8 := froz HE8.out 8
        have f9 := froz HE8.out 9
        have f10 := froz HE8.out 10
        go_wp2
        go_roundw
        case rel =>
          have hr1 := H8.out.setR a8 n8 c8 true
          have h6 := hr1.1.setO (g := E) (i := 6) HEs.out (.int .i64 0)
          have h7 := h6.1.setO (g := E) (i := 7) HEs.out (.int .i64 0)
          have h8 := h7.1.setO (g := E) (i := 8) HEs.out (.float .f64 0)
          have h9 := h8.1.setO (g := E) (i := 9) HEs.out (.string (str []))
          have h10 := h9.1.setO (g := E) (i := 10) HEs.out (.slice none 0 0)
          have hbl := hr1.2.trans (h6.2.trans (h7.2.trans (h8.2.trans (h9.2.trans h10.2))))
          refine ⟨6, { q with v := zeroV }, a8, n8, c8, true, ls, false, by omega, rfl, rfl, h10.1, bytesB HB8.out Hf8.out HK.out hbl, Hf8.out, ⟨none, 0, ?_, ?_⟩, ⟨HQ.out.k, HQ.out.id, HQ.out.n, HQ.out.t, HQ.out.nm, HQ.out.tx⟩, ?_⟩
          rotate_left 2
          · exact HS.out.noval HXX.out Hm.out (fun h => by cases h) _ _ _
          · have h0 : ((w8.setCell ⟨w.heap.size, 0, none⟩ (.slice a8 n8 c8)).setCell ⟨w.heap.size, 1, none⟩ (.bool true)).heap[E]? = w8.heap[E]? := by simp [World.setCell, Array.getElem?_modify, show w.heap.size ≠ E by have := HEs.out; omega]
            have h := set5E (h0.trans HE8.out) (.int .i64 0) (.int .i64 0) (.float .f64 0) (.string (str [])) (.slice none 0 0)
            rw [← Hqk.out] at h
            exact h
          · exact vin_atom _ 0 0 0 [] (by omega) (by omega) (by omega) (by simp) (by simp)
        case measure => simp [intOf]
    · rw [decide_eq_false hm] at HHas
      have Hm := Lib.hid hm
      clear hm hj
      go_wp2_with fail
      refine HHas.out.mono ?_
      rintro r w7 ⟨rfl, hb7⟩
      have H7 := Lib.hid (HH.out.below' hb7)
      have HE7 := Lib.hid (blk HE.out hb7)
      have HB7 := Lib.hid (HB.out.grow hb7)
      have HV7 := Lib.hid (vin_far HV.out hb7.size (fun b hb hl => hb7.block b hl))
      clear hb7 g0
      go_wp2
      go_roundw
      case rel => exact ⟨5 + 1, q, ar, nr, cr, bad, lj, okv, by omega, rfl, rfl, H7.out, HB7.out, Hf.out, ⟨av, cv, by rw [Hqk.out]; exact HE7.out, HV7.out⟩, HQ.out, HS.out.skip Hm.out⟩
      case measure => simp [intOf]
  · clear hj
    cases bad with
    | true =>
      have hno : NoE (form 1 ++ (form x ++ l2)) := by rcases HS.out.2 with ⟨h, _⟩ | ⟨h, _⟩; (· cases h); exact h
      have Hno := Lib.hid (show NoE (1 :: l1) from by rw [He.out]; exact hno)
      clear hno
      obtain ⟨y0, y1, y2, y3⟩ := block_cells HH.out.rd
      obtain ⟨q0, q1, q2, q3⟩ := block_cells HH.out.rr
      obtain ⟨s0, s1, s2, s3, s4, s5, s6, s7, s8, s9, s10⟩ := box11 HH.out.rv
      obtain ⟨⟨z0, z1, z2, z3, z4, z5⟩, z6, z7, z8, z9, z10⟩ := box11z HH.out.rv
      go_wp2
      have hZ := HH.out.done ar nr cr true (.int .i64 0) (.int .u64 0) (.int .i64 0) (.int .u64 0) (.string ⟨#[]⟩) (.string ⟨#[]⟩) (.int .i64 0) (.int .i64 0) (.float .f64 0) (.string ⟨#[]⟩) (.slice none 0 0)
      unfold sets11 at hZ
      clear y0 y1 y2 y3 q0 q1 q2 q3 s0 s1 s2 s3 s4 s5 s6 s7 s8 s9 s10 z0 z1 z2 z3 z4 z5 z6 z7 z8 z9 z10
      generalize World.setCell (World.setCell (World.setCell (World.setCell (World.setCell (World.setCell (World.setCell (World.setCell (World.setCell (World.setCell (World.setCell (World.setCell (World.setCell wr _ _) _ _) _ _) _ _) _ _) _ _) _ _) _ _) _ _) _ _) _ _) _ _) _ _ = wz at *
      obtain ⟨r0, r1, _, _⟩ := block_cells hZ.r
      obtain ⟨s0, s1, s2, s3, s4, s5, s6, s7, s8, s9, s10⟩ := box11 hZ.v
      have HZ := Lib.hid hZ
      clear hZ
      refine bodyPost_ret (v := .tuple #[.agg #[.slice ar nr cr, .bool true], .agg #[.int .i64 0, .int .u64 0, .int .i64 0, .int .u64 0, .string ⟨#[]⟩, .string ⟨#[]⟩, .int .i64 0, .int .i64 0, .float .f64 0, .string ⟨#[]⟩, .slice none 0 0], .bool false]) (by simp [results, Tryz.results28, go_sem, *]) rfl ?_
      have hbz := HZ.out.below
      exact ⟨ar, nr, cr, true, lj, bytesB HB.out Hf.out HK.out hbz, Hf.out, HH.out.below.trans hbz, .inr ⟨Hno.out, rfl⟩⟩
    | false =>
      cases okv with
      | false =>
        have hno : NoE (form 1 ++ (form x ++ l2)) := by rcases HS.out.2 with ⟨_, h, _⟩ | ⟨h, _⟩; (· cases h); exact h
        have Hno := Lib.hid (show NoE (1 :: l1) from by rw [He.out]; exact hno)
        clear hno
        obtain ⟨y0, y1, y2, y3⟩ := block_cells HH.out.rd
        obtain ⟨q0, q1, q2, q3⟩ := block_cells HH.out.rr
        obtain ⟨s0, s1, s2, s3, s4, s5, s6, s7, s8, s9, s10⟩ := box11 HH.out.rv
        obtain ⟨⟨z0, z1, z2, z3, z4, z5⟩, z6, z7, z8, z9, z10⟩ := box11z HH.out.rv
        go_wp2
        have hZ := HH.out.done ar nr cr false (.int .i64 0) (.int .u64 0) (.int .i64 0) (.int .u64 0) (.string ⟨#[]⟩) (.string ⟨#[]⟩) (.int .i64 0) (.int .i64 0) (.float .f64 0) (.string ⟨#[]⟩) (.slice none 0 0)
        unfold sets11 at hZ
        clear y0 y1 y2 y3 q0 q1 q2 q3 s0 s1 s2 s3 s4 s5 s6 s7 s8 s9 s10 z0 z1 z2 z3 z4 z5 z6 z7 z8 z9 z10
        generalize World.setCell (World.setCell (World.setCell (World.setCell (World.setCell (World.setCell (World.setCell (World.setCell (World.setCell (World.setCell (World.setCell (World.setCell (World.setCell wr _ _) _ _) _ _) _ _) _ _) _ _) _ _) _ _) _ _) _ _) _ _) _ _) _ _ = wz at *
        obtain ⟨r0, r1, _, _⟩ := block_cells hZ.r
        obtain ⟨s0, s1, s2, s3, s4, s5, s6, s7, s8, s9, s10⟩ := box11 hZ.v
        have HZ := Lib.hid hZ
        clear hZ
        refine bodyPost_ret (v := .tuple #[.agg #[.slice ar nr cr, .bool false], .agg #[.int .i64 0, .int .u64 0, .int .i64 0, .int .u64 0, .string ⟨#[]⟩, .string ⟨#[]⟩, .int .i64 0, .int .i64 0, .float .f64 0, .string ⟨#[]⟩, .slice none 0 0], .bool false]) (by simp [results, Tryz.results28, go_sem, *]) rfl ?_
        have hbz := HZ.out.below
        exact ⟨ar, nr, cr, false, lj, bytesB HB.out Hf.out HK.out hbz, Hf.out, HH.out.below.trans hbz, .inr ⟨Hno.out, rfl⟩⟩
      | true =>
        have hvi : VIn wr q.v (cells5 q.v.kind q.v.n q.v.f q.v.s av q.v.l.length cv) := VInP.weak q.v _ (VInP.turn (q' := fun _ => True) (fun _ _ => trivial) (fun _ _ => rfl) q.v _ HV.out)
        have hEI : EvIn wr q (evC q.k q.id q.n q.t q.nm q.tx q.v.kind q.v.n q.v.f q.v.s av q.v.l.length cv) := ⟨by have := HQ.out.k; have := Hx.out; omega, HQ.out.id, by have := HQ.out.n; omega, HQ.out.t, ⟨HQ.out.nm.1, by have := HQ.out.nm.2; omega⟩, ⟨HQ.out.tx.1, by have := HQ.out.tx.2; omega⟩, av, cv, rfl, hvi⟩
        have HEI := Lib.hid hEI
        have HVa := Lib.hid (rvalid11_any q _ wr hEI)
        have HE0 := Lib.hid (show wr.heap[E]? = some (.cells (evC q.k q.id q.n q.t q.nm q.tx q.v.kind q.v.n q.v.f q.v.s av q.v.l.length cv) 43 (0, 0)) from by rw [Hqk.out]; exact HE.out)
        obtain ⟨y0, y1, _, _⟩ := block_cells HH.out.rd
        obtain ⟨g0, g1, g2, g3, g4, g5, g6, g7, g8, g9, g10⟩ := box11 HE0.out
        clear hvi hEI
        go_wp2_with fail
        refine HVa.out.mono ?_
        rintro r w7 ⟨rfl, hb7⟩
        have H7 := Lib.hid (HH.out.below' hb7)
        have HE7 := Lib.hid (blk HE0.out hb7)
        have HB7 := Lib.hid (HB.out.grow hb7)
        have HV7 := Lib.hid (vin_far HV.out hb7.size (fun b hb hl => hb7.block b hl))
        clear hb7 y0 y1 g0 g1 g2 g3 g4 g5 g6 g7 g8 g9 g10
        cases hok : okE q with
        | false =>
          have Hoq := Lib.hid hok
          clear hok
          have hno : NoE (form 1 ++ (form x ++ l2)) := by rcases HS.out.2 with ⟨_, _, h⟩ | ⟨h, _⟩; (· exact h.invalid HXX.out Hoq.out); exact h
          have Hno := Lib.hid (show NoE (1 :: l1) from by rw [He.out]; exact hno)
          clear hno
          obtain ⟨y0, y1, y2, y3⟩ := block_cells H7.out.rd
          obtain ⟨q0, q1, q2, q3⟩ := block_cells H7.out.rr
          obtain ⟨s0, s1, s2, s3, s4, s5, s6, s7, s8, s9, s10⟩ := box11 H7.out.rv
          obtain ⟨⟨z0, z1, z2, z3, z4, z5⟩, z6, z7, z8, z9, z10⟩ := box11z H7.out.rv
          go_wp2
          have hZ := H7.out.done ar nr cr false (.int .i64 0) (.int .u64 0) (.int .i64 0) (.int .u64 0) (.string ⟨#[]⟩) (.string ⟨#[]⟩) (.int .i64 0) (.int .i64 0) (.float .f64 0) (.string ⟨#[]⟩) (.slice none 0 0)
          unfold sets11 at hZ
          clear y0 y1 y2 y3 q0 q1 q2 q3 s0 s1 s2 s3 s4 s5 s6 s7 s8 s9 s10 z0 z1 z2 z3 z4 z5 z6 z7 z8 z9 z10
          generalize World.setCell (World.setCell (World.setCell (World.setCell (World.setCell (World.setCell (World.setCell (World.setCell (World.setCell (World.setCell (World.setCell (World.setCell (World.setCell w7 _ _) _ _) _ _) _ _) _ _) _ _) _ _) _ _) _ _) _ _) _ _) _ _) _ _ = wz at *
          obtain ⟨r0, r1, _, _⟩ := block_cells hZ.r
          obtain ⟨s0, s1, s2, s3, s4, s5, s6, s7, s8, s9, s10⟩ := box11 hZ.v
          have HZ := Lib.hid hZ
          clear hZ
          refine bodyPost_ret (v := .tuple #[.agg #[.slice ar nr cr, .bool false], .agg #[.int .i64 0, .int .u64 0, .int .i64 0, .int .u64 0, .string ⟨#[]⟩, .string ⟨#[]⟩, .int .i64 0, .int .i64 0, .float .f64 0, .string ⟨#[]⟩, .slice none 0 0], .bool false]) (by simp [results, Tryz.results28, go_sem, *]) rfl ?_
          have hbz := HZ.out.below
          exact ⟨ar, nr, cr, false, lj, bytesB HB7.out Hf.out HK.out hbz, Hf.out, H7.out.below.trans hbz, .inr ⟨Hno.out, rfl⟩⟩
        | true =>
          have hgood : Dec2 (x : Int) l2 6 q lj := by
            rcases HS.out.2 with ⟨_, _, h⟩ | ⟨_, h | h | h⟩
            · exact h
            · cases h
            · cases h
            · rw [okE_big h.2] at hok; cases hok
          have His := Lib.hid (show IsE (1 :: l1) q lj from ⟨hok, HEI.out.bound, by rw [He.out]; exact hgood.form⟩)
          clear hgood hok
          obtain ⟨y0, y1, y2, y3⟩ := block_cells H7.out.rd
          obtain ⟨q0, q1, q2, q3⟩ := block_cells H7.out.rr
          obtain ⟨s0, s1, s2, s3, s4, s5, s6, s7, s8, s9, s10⟩ := box11 H7.out.rv
          obtain ⟨⟨z0, z1, z2, z3, z4, z5⟩, z6, z7, z8, z9, z10⟩ := box11z H7.out.rv
          obtain ⟨g0, g1, g2, g3, g4, g5, g6, g7, g8, g9, g10⟩ := box11 HE7.out
          have hEs := HEs.out
          go_wp2_with fail
          go_region
          have hZ := (H7.out.done ar nr cr false (.int .i64 q.k) (.int .u64 (q.id : Int)) (.int .i64 q.n) (.int .u64 (q.t : Int)) (.string (str q.nm)) (.string (str q.tx)) (.int .i64 q.v.kind) (.int .i64 q.v.n) (.float .f64 q.v.f) (.string (str q.v.s)) (.slice av q.v.l.length cv)).drew
          unfold sets11 at hZ
          clear y0 y1 y2 y3 q0 q1 q2 q3 s0 s1 s2 s3 s4 s5 s6 s7 s8 s9 s10 z0 z1 z2 z3 z4 z5 z6 z7 z8 z9 z10 g0 g1 g2 g3 g4 g5 g6 g7 g8 g9 g10
          generalize World.drew _ = wz at *
          obtain ⟨r0, r1, _, _⟩ := block_cells hZ.r
          obtain ⟨s0, s1, s2, s3, s4, s5, s6, s7, s8, s9, s10⟩ := box11 hZ.v
          have HZ := Lib.hid hZ
          clear hZ
          go_wp2
          refine bodyPost_ret (v := .tuple #[.agg #[.slice ar nr cr, .bool false], .agg (evC q.k q.id q.n q.t q.nm q.tx q.v.kind q.v.n q.v.f q.v.s av q.v.l.length cv), .bool true]) (by simp [results, Tryz.results28, go_sem, *]) rfl ?_
          have hbz := HZ.out.below
          obtain ⟨t1, t2, t3, t4, t5, t6, _⟩ := HEI.out
          exact ⟨ar, nr, cr, false, lj, bytesB HB7.out Hf.out HK.out hbz, Hf.out, H7.out.below.trans hbz, .inl ⟨q, _, rfl, rfl, ⟨t1, t2, t3, t4, t5, t6, av, cv, rfl, VInP.turn (fun b hb => ⟨by have := HEs.out; omega, hb.2⟩) (fun _ _ => rfl) q.v _ (vin_far HV7.out hbz.size (fun b hb hl => HZ.out.far b (by have := HEs.out; omega)))⟩, His.out⟩⟩

end
end Go.Proofs.YtcapbaocchaenaaGreat

