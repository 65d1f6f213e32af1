/- The statement QueueDrains, over what the code's queue is asked to give. -/
import Derived.Test.YtmmiommfbkcebaaQdCore
import Derived.Deep.RegionHeld3
import Derived.Shelf.RegionOpen
namespace Go.Proofs.Ytmmiommfbkcebaa
open Go.RowKit Go.Shelf

attribute [local go_sem] Oper.semAt_some

set_option maxRecDepth 100000 in
set_option maxHeartbeats 102400000 in
theorem queueDrains_any (K : QKit) (p : Option Addr) (n c : Nat) (l : List Int) (po : Option Addr) (no co : Nat) (lo : List Int) (st : Nat) (w : World) (h : Qs w p n c l) (hn : n ≤ 1048576) (hO : Qs w po no co lo) (hr : ∀ x ∈ l, InI x) (hOw : ∀ x ∈ lo, InI x) (hst : st < 256) :
    Calls Try.prog 5 #[.slice p n c, .slice po no co, .int .u8 (st : Int)] w fun r w' => r = .returned (.bool true) ∧ Below w.heap.size w w' := by
  have hle := h.le
  have hmx := h.max
  have hlo := hO.le
  have hmo := hO.max
  have HA := Lib.hid (fun w => alive17_any K w)
  refine (callsIn_wide (n := 6)).1 ?_
  obtain ⟨w1, hw1⟩ : ∃ w1, w1 = ((w.alloc (.cells #[.slice po no co] 22)).alloc (.cells #[.int .u8 (st : Int)] 5)).alloc (.cells #[.bool false] 4) := ⟨_, rfl⟩
  have hb1 : Below w.heap.size w w1 := by rw [hw1]; exact (((Below.refl _ _).alloc (Nat.le_refl _) _).alloc (by simp) _).alloc (by simp; omega) _
  have hz1 : w1.heap.size = w.heap.size + 3 := by rw [hw1]; simp
  have hB0 : w1.heap[w.heap.size]? = some (.cells #[.slice po no co] 22 (0, 0)) := by rw [hw1]; exact ((Boxed.new w 22 (.slice po no co)).alloc _).alloc _
  have hB1 : w1.heap[w.heap.size + 1]? = some (.cells #[.int .u8 (st : Int)] 5 (0, 0)) := by
    have h5 := ((Boxed.new (w.alloc (.cells #[.slice po no co] 22)) 5 (.int .u8 (st : Int))).alloc (.cells #[.bool false] 4))
    rw [World.size_alloc] at h5
    rw [hw1]; exact h5
  have hB2 : w1.heap[w.heap.size + 1 + 1]? = some (.cells #[.bool false] 4 (0, 0)) := by
    have h5 := Boxed.new ((w.alloc (.cells #[.slice po no co] 22)).alloc (.cells #[.int .u8 (st : Int)] 5)) 4 (.bool false)
    rw [World.size_alloc, World.size_alloc] at h5
    rw [hw1]; exact h5
  have HN := Lib.hid (K.new p n c l w1 (h.below hb1) hn hr)
  have HBx := Lib.hid (And.intro hB0 (And.intro hB1 hB2))
  have Hb1 := Lib.hid (And.intro hb1 hz1)
  refine callsIn_of_wp_marks Try.func5 rfl trivial ?_ rfl
  simp only [Try.ntmps5, List.size_toArray, List.length_cons, List.length_nil, Nat.reduceAdd, Nat.reduceSub, Array.replicate_succ, Array.replicate_zero, List.push_toArray, List.append_toArray, List.nil_append, List.cons_append]
  clear hB0 hB1 hB2 hb1 hz1
  by_cases hbig : 100 < n ∨ 100 < no
  · have hor : (100 < n) ∨ (¬ 100 < n ∧ 100 < no) := by omega
    clear h hn hbig hO
    rcases hor with hb | ⟨hb, hb2⟩
    · have hbi : (100 : Int) < (n : Int) := by omega
      clear hb
      gi_wp2_with fail
      rw [← hw1]
      clear hw1
      refine ⟨trivial, (callsIn_wide.2 HN.out).mono ?_⟩
      rintro r w2 ⟨v, rfl, hS⟩
      obtain ⟨b, rfl⟩ := K.ptr hS
      have HS := Lib.hid hS
      clear hS
      gi_wp2_with fail
      have hb3 : Below w1.heap.size w1 (w2.alloc (.cells #[.pointer (some ⟨b, 0, none⟩)] 24)) := (K.base HS.out).alloc (K.base HS.out).size _
      have HQ := Lib.hid (Boxed.new w2 24 (.pointer (some ⟨b, 0, none⟩)))
      obtain ⟨w3, hw3⟩ : ∃ w3, w3 = w2.alloc (.cells #[.pointer (some ⟨b, 0, none⟩)] 24) := ⟨_, rfl⟩
      rw [← hw3] at hb3 HQ ⊢
      clear hw3
      refine ⟨trivial, (callsIn_wide.2 (HA.out w3)).mono ?_⟩
      rintro r w4 ⟨rfl, hb4⟩
      have hQ4 : Boxed w4 w2.heap.size _ _ := (hb4.block _ HQ.out.lt).trans HQ.out
      have hc4 := hQ4.cell
      have hb14 := hb3.trans (hb4.mono hb3.size)
      have hR4 : Boxed w4 (w.heap.size + 1 + 1) 4 (.bool false) := (hb14.block _ (by have := Hb1.out.2; omega)).trans HBx.out.2.2
      have hr4 := hR4.cell
      have hf4 := hR4.frozen
      have HE := Lib.hid (show Below w.heap.size w (w4.setCell ⟨w.heap.size + 1 + 1, 0, none⟩ (.bool true)) ∧ _ from ⟨(Hb1.out.1.trans (hb14.mono Hb1.out.1.size)).setCell (p := ⟨w.heap.size + 1 + 1, 0, none⟩) (by show w.heap.size ≤ w.heap.size + 1 + 1; omega) _, (hR4.set (.bool true)).cell⟩)
      clear hb3 hb4 hQ4 hb14 hR4
      gi_wp2
      have hres := HE.out.2
      refine ⟨.bool true, (by simp [results, Try.results5, go_sem, hres]), rfl, HE.out.1⟩
    · have hbi : ¬ (100 : Int) < (n : Int) := by omega
      have hbi2 : (100 : Int) < (no : Int) := by omega
      clear hb
      gi_wp2_with fail
      rw [← hw1]
      clear hw1
      refine ⟨trivial, (callsIn_wide.2 HN.out).mono ?_⟩
      rintro r w2 ⟨v, rfl, hS⟩
      obtain ⟨b, rfl⟩ := K.ptr hS
      have HS := Lib.hid hS
      clear hS
      have hc0 : (w2.alloc (.cells #[.pointer (some ⟨b, 0, none⟩)] 24)).cell? ⟨w.heap.size, 0, none⟩ = some (.slice po no co) := cell_below ((Below.refl _ _).alloc (Nat.le_refl _) _) (Boxed.cell (((K.base HS.out).block _ (by have := Hb1.out.2; omega)).trans HBx.out.1))
      gi_wp2_with fail
      clear hc0
      have hb3 : Below w1.heap.size w1 (w2.alloc (.cells #[.pointer (some ⟨b, 0, none⟩)] 24)) := (K.base HS.out).alloc (K.base HS.out).size _
      have HQ := Lib.hid (Boxed.new w2 24 (.pointer (some ⟨b, 0, none⟩)))
      obtain ⟨w3, hw3⟩ : ∃ w3, w3 = w2.alloc (.cells #[.pointer (some ⟨b, 0, none⟩)] 24) := ⟨_, rfl⟩
      rw [← hw3] at hb3 HQ ⊢
      clear hw3
      refine ⟨trivial, (callsIn_wide.2 (HA.out w3)).mono ?_⟩
      rintro r w4 ⟨rfl, hb4⟩
      have hQ4 : Boxed w4 w2.heap.size _ _ := (hb4.block _ HQ.out.lt).trans HQ.out
      have hc4 := hQ4.cell
      have hb14 := hb3.trans (hb4.mono hb3.size)
      have hR4 : Boxed w4 (w.heap.size + 1 + 1) 4 (.bool false) := (hb14.block _ (by have := Hb1.out.2; omega)).trans HBx.out.2.2
      have hr4 := hR4.cell
      have hf4 := hR4.frozen
      have HE := Lib.hid (show Below w.heap.size w (w4.setCell ⟨w.heap.size + 1 + 1, 0, none⟩ (.bool true)) ∧ _ from ⟨(Hb1.out.1.trans (hb14.mono Hb1.out.1.size)).setCell (p := ⟨w.heap.size + 1 + 1, 0, none⟩) (by show w.heap.size ≤ w.heap.size + 1 + 1; omega) _, (hR4.set (.bool true)).cell⟩)
      clear hb3 hb4 hQ4 hb14 hR4
      gi_wp2
      have hres := HE.out.2
      refine ⟨.bool true, (by simp [results, Try.results5, go_sem, hres]), rfl, HE.out.1⟩
  · have hbi : ¬ (100 : Int) < (n : Int) := by omega
    have hbi2 : ¬ (100 : Int) < (no : Int) := by omega
    have hn2 : n ≤ 100 := by omega
    have hno : no ≤ 100 := by omega
    obtain ⟨L0, hL⟩ : ∃ L, L = newQ l := ⟨_, rfl⟩
    have hLn : L0.length ≤ n := by rw [hL, ← h.len]; exact newQ_len l
    have HR := Lib.hid (fun W (hW : Below w.heap.size w W) => rnew17_any p n c l W (h.below hW) (by omega))
    have HO := Lib.hid (And.intro hO hOw)
    rw [← hL] at HN HR
    clear h hn hbig hL hO hOw hr
    gi_wp2_with fail
    rw [← hw1]
    clear hw1
    refine ⟨trivial, (callsIn_wide.2 HN.out).mono ?_⟩
    rintro r w2 ⟨v, rfl, hS⟩
    obtain ⟨b, rfl⟩ := K.ptr hS
    have HS := Lib.hid hS
    clear hS
    have hc0 : (w2.alloc (.cells #[.pointer (some ⟨b, 0, none⟩)] 24)).cell? ⟨w.heap.size, 0, none⟩ = some (.slice po no co) := cell_below ((Below.refl _ _).alloc (Nat.le_refl _) _) (Boxed.cell (((K.base HS.out).block _ (by have := Hb1.out.2; omega)).trans HBx.out.1))
    gi_wp2_with fail
    clear hc0
    have hb23 : Below w2.heap.size w2 (w2.alloc (.cells #[.pointer (some ⟨b, 0, none⟩)] 24)) := (Below.refl _ _).alloc (Nat.le_refl _) _
    have hB3 := Boxed.new w2 24 (.pointer (some ⟨b, 0, none⟩))
    have hz3 : (w2.alloc (.cells #[.pointer (some ⟨b, 0, none⟩)] 24)).heap.size = w2.heap.size + 1 := by simp
    obtain ⟨w3, hw3⟩ : ∃ w3, w3 = w2.alloc (.cells #[.pointer (some ⟨b, 0, none⟩)] 24) := ⟨_, rfl⟩
    obtain ⟨Bq, hBq⟩ : ∃ Bq, Bq = w2.heap.size := ⟨_, rfl⟩
    rw [← hw3] at hb23 hB3 hz3 ⊢
    rw [← hBq] at hB3 hz3
    have hb13 := (K.base HS.out).trans (hb23.mono (K.base HS.out).size)
    refine ⟨trivial, (callsIn_wide.2 (HR.out w3 (Hb1.out.1.trans (hb13.mono Hb1.out.1.size)))).mono ?_⟩
    rintro r w4 ⟨q5, k5, rfl, hrow5, hb34⟩
    have hB4 : Boxed w4 Bq 24 (.pointer (some ⟨b, 0, none⟩)) := (hb34.block _ hB3.lt).trans hB3
    have hS4 := K.swap HS.out (hb23.trans (hb34.mono hb23.size)) (Y := fun b => Bq ≤ b ∧ b < w4.heap.size) (fun b hb => ⟨.inr (by omega), hb.2⟩)
    have HS4 := Lib.hid (And.intro hS4 (And.intro hB4 (And.intro hrow5 hz3)))
    rw [← hBq]
    have Hwq := Lib.hid (show w1.heap.size ≤ Bq from by rw [hBq]; exact (K.base HS.out).size)
    clear hw3 hBq hb23 hB3 hb13 hS4 hB4 hrow5 hz3
    have hz34 := hb34.size
    clear hb34
    have hc7 : ∀ o o', ((w4.alloc o).alloc o').cell? ⟨Bq, 0, none⟩ = some (.pointer (some ⟨b, 0, none⟩)) := fun o o' => ((HS4.out.2.1.alloc o).alloc o').cell
    have hc7' := hc7
    gi_wp2_with fail
    obtain ⟨w6, hw6⟩ : ∃ w6, w6 = (w4.alloc (.cells #[.slice q5 L0.length k5] 22)).alloc (.cells #[.int .i64 0] 3) := ⟨_, rfl⟩
    obtain ⟨Bw, hBw⟩ : ∃ Bw, Bw = w4.heap.size := ⟨_, rfl⟩
    have hz6 : w6.heap.size = Bw + 2 := by rw [hw6, hBw]; simp
    have hb46 : Below w4.heap.size w4 w6 := by rw [hw6]; exact ((Below.refl _ _).alloc (Nat.le_refl _) _).alloc (by simp) _
    have hBW : Boxed w6 Bw 22 (.slice q5 L0.length k5) := by rw [hw6, hBw]; exact (Boxed.new w4 _ _).alloc _
    have hBN : Boxed w6 (Bw + 1) 3 (.int .i64 0) := by
      have h5 := Boxed.new (w4.alloc (.cells #[.slice q5 L0.length k5] 22)) 3 (.int .i64 0)
      rw [World.size_alloc] at h5
      rw [hw6, hBw]; exact h5
    have hBQ : Boxed w6 Bq 24 (.pointer (some ⟨b, 0, none⟩)) := (hb46.block _ HS4.out.2.1.lt).trans HS4.out.2.1
    have hqw : Bq < Bw := by rw [hBw]; exact HS4.out.2.1.lt
    have hwq : w1.heap.size ≤ Bq := Hwq.out
    rw [← hBw, ← hw6]
    obtain ⟨B, hBe⟩ : ∃ B : DrB, B = ⟨Bq, Bw, Bw + 1, Bw + 2, Bw + 3, w1.heap.size, hwq, hqw, by omega, by omega, by omega⟩ := ⟨_, rfl⟩
    have hB : B.q = Bq ∧ B.w = Bw ∧ B.n = Bw + 1 ∧ B.d = Bw + 2 ∧ B.l = Bw + 3 ∧ B.base = w1.heap.size := by rw [hBe]; exact ⟨rfl, rfl, rfl, rfl, rfl, rfl⟩
    clear hBe
    have h0 : ∀ o o', DrI K w1 (.pointer (some ⟨b, 0, none⟩)) B n no (L0.length + no) ((w6.alloc o).alloc o') := fun o o' => by
      have hbb : Below w6.heap.size w6 ((w6.alloc o).alloc o') := ((Below.refl _ _).alloc (Nat.le_refl _) _).alloc (by simp) _
      have hzz : ((w6.alloc o).alloc o').heap.size = Bw + 4 := by simp [hz6]
      refine ⟨fun b => Bq ≤ b ∧ b < Bw + 4, L0, q5, k5, n, 0, ⟨K.swap HS4.out.1 (hb46.trans (hbb.mono hb46.size)) (fun b hb => ⟨by by_cases hlt : b < w4.heap.size; exact .inl ⟨hb.1, hlt⟩; exact .inr (by omega), by omega⟩), ?_, ?_, ?_, ?_, ?_, ?_⟩, by omega, by omega, by omega⟩
      · have hr := (HS4.out.2.2.1.below hb46).below hbb
        refine ⟨hr.items, hr.zero, hr.form, fun b' o' e => ?_⟩
        obtain ⟨g1, g2⟩ := HS4.out.2.2.1.mem b' o' e
        have := HS4.out.2.2.2
        refine ⟨⟨⟨by omega, by omega⟩, by omega, by omega, by omega⟩, by omega⟩
      · rw [hB.1]; exact (hbb.block _ hBQ.lt).trans hBQ
      · rw [hB.2.1]; exact (hbb.block _ hBW.lt).trans hBW
      · rw [hB.2.2.1]; exact (hbb.block _ hBN.lt).trans hBN
      · refine ⟨?_, ?_, ?_, ?_, ?_⟩ <;> constructor <;> omega
      · exact hB.2.2.2.2.2
    have H0 := Lib.hid h0
    have HB := Lib.hid hB
    have hd6 : w6.heap.size = B.d := by omega
    have hl6 : w6.heap.size + 1 = B.l := by omega
    have HBz := Lib.hid (And.intro hwq hqw)
    clear h0 hBW hBN hBQ hqw hwq hb46 hz6 hw6 hBw hz34 HS4 hB
    refine range_drainS (n := 6) (.pointer (some ⟨b, 0, none⟩)) 10 (by omega) rfl (DrI K w1 (.pointer (some ⟨b, 0, none⟩)) B n no) (DrF K w1 (.pointer (some ⟨b, 0, none⟩)) B n no) (DrD K w1 (.pointer (some ⟨b, 0, none⟩)) B n no) (DrX K w1 (.pointer (some ⟨b, 0, none⟩)) B n no st) (L0.length + no) H0.out ?put0 ?putB ?putD ?putX ?pop ?assign ?body ?done ?stop
    case put0 =>
      rintro k W o o' ⟨X, L, q, c, m, nn, h, h'⟩ _ _
      rw [hl6]
      exact ⟨X, L, q, c, m, nn, h.put, h'⟩
    case putB =>
      rintro k x W o o' ⟨X, L, q, c, m, nn, h, h'⟩ _ _
      rw [hl6]
      exact ⟨X, L, q, c, m, nn, h.put, h'⟩
    case putD =>
      rintro W o o' ⟨X, q, c, m, nn, h, h'⟩ _ _
      rw [hl6]
      exact ⟨X, q, c, m, nn, h.put, h'⟩
    case putX =>
      rintro e W o o' ⟨he, X, L, q, c, m, nn, h, h'⟩ _ _
      rw [hl6]
      exact ⟨he, X, L, q, c, m, nn, h.put, h'⟩
    case pop =>
      intro k W h
      rw [hl6, hd6]
      exact dr_pop hn2 hno k W h
    case assign =>
      intro l k x W K' _ hK
      simp only [List.setIfInBounds_toArray, List.set_cons_succ, List.set_cons_zero] at hK ⊢
      gi_wp2
      exact hK
    case body =>
      intro k x W hF
      obtain ⟨X, L, q, c8, m, nn, hC, hm, hlen, hk⟩ := hF
      simp only [List.setIfInBounds_toArray, List.set_cons_succ, List.set_cons_zero]
      rw [hl6, hd6]
      have eq := HB.out.1
      have ew := HB.out.2.1
      have en := HB.out.2.2.1
      have e8 : Boxed W Bw 22 (.slice q (L.length + 1) c8) := by have h5 := hC.bw; rw [ew] at h5; exact h5
      have e8c := e8.cell
      have HX := Lib.hid (rpop17_any _ x q L.length c8 L W hC.row)
      have HC := Lib.hid hC
      have Hm := Lib.hid (And.intro hm (And.intro hlen hk))
      clear hC hm hlen hk
      gi_wp2_with fail
      refine ⟨trivial, (CallsIn.inRound _ (callsIn_wide.2 HX.out)).mono ?_⟩
      rintro r W2 ⟨q2, k2, rfl, hrow2, hb2⟩
      have e8' : Boxed W2 Bw 22 (.slice q (L.length + 1) c8) := (hb2.block _ e8.lt).trans e8
      have c8' := e8'.cell
      have f8' := e8'.frozen
      obtain ⟨Z, hXZ, hC3⟩ := HC.out.setw hb2 (L2' := L) (hrow2.mono (fun b h => .inl h))
      rw [ew] at hC3
      obtain ⟨W3, hW3⟩ : ∃ W3, W3 = W2.setCell ⟨Bw, 0, none⟩ (.slice q2 L.length k2) := ⟨_, rfl⟩
      rw [← hW3] at hC3
      have Hld := Lib.hid (show W3.heap[B.l]? = W.heap[B.l]? ∧ W3.heap[B.d]? = W.heap[B.d]? from by
        have l0 := B.hq; have l1 := B.hw; have l2 := B.hn; have l3 := B.hd; have l4 := B.hl
        rw [hW3, ← ew]
        exact ⟨(heap_setCell_other _ _ _ _ (show B.l ≠ B.w from by omega)).trans (hb2.block _ (K.xb HC.out.s _ HC.out.x.2.2.2.2)), (heap_setCell_other _ _ _ _ (show B.d ≠ B.w from by omega)).trans (hb2.block _ (K.xb HC.out.s _ HC.out.x.2.2.2.1))⟩)
      have HC3 := Lib.hid hC3
      have e9 : Boxed W3 (Bw + 1) 3 (.int .i64 (nn : Int)) := by have h5 := hC3.bn; rw [en] at h5; exact h5
      have e9c := e9.cell
      have e7 : Boxed W3 Bq 24 (.pointer (some ⟨b, 0, none⟩)) := by have h5 := hC3.bq; rw [eq] at h5; exact h5
      have e7c := e7.cell
      have e10 : Boxed W3 Bw 22 (.slice q2 L.length k2) := by have h5 := hC3.bw; rw [ew] at h5; exact h5
      have e10c := e10.cell
      have hb13 := K.base hC3.s
      have e4c : W3.cell? ⟨w.heap.size, 0, none⟩ = some (.slice po no co) := cell_below hb13 (Boxed.cell HBx.out.1)
      have e5c : W3.cell? ⟨w.heap.size + 1, 0, none⟩ = some (.int .u8 (st : Int)) := cell_below hb13 (Boxed.cell HBx.out.2.1)
      have hn3 : ¬ (300 : Int) < (nn : Int) := by have := Hm.out.2.1; simp only [List.length_cons] at this; omega
      have hZ := Lib.hid hC3.x
      clear hb13 hC3 e8 e8c e8' hrow2 hb2 hXZ
      by_cases hlt : nn < no
      · have hlti : (nn : Int) < (no : Int) := by omega
        obtain ⟨bo, oo, rfl, hcm⟩ := HO.out.1.cell (by omega)
        obtain ⟨y, hy⟩ : ∃ y, lo[nn]? = some y := ⟨_, List.getElem?_eq_getElem (by rw [HO.out.1.len]; exact hlt)⟩
        have hyI := HO.out.2 y (List.mem_of_getElem? hy)
        have eyc : W3.cell? ⟨bo, oo + nn, none⟩ = some (.int .i64 y) := cell_below (K.base HC3.out.s) (cell_below Hb1.out.1 (hcm nn y hy))
        have HyI := Lib.hid hyI
        have Hy1 := Lib.hid (show w1.cell? ⟨bo, oo + nn, none⟩ = some (.int .i64 y) from cell_below Hb1.out.1 (hcm nn y hy))
        clear hcm hy hyI
        have hW3s := hW3.symm
        clear hW3
        gi_wp2_with fail
        have HPu := Lib.hid (K.push y (K.turned HC3.out.s (Below.refl _ _).drew) (by have := Hm.out.1; have := Hm.out.2.1; simp only [List.length_cons] at this; omega) HyI.out)
        obtain ⟨pr, hpr⟩ : ∃ pr, pr = decide (y ∉ L) := ⟨_, rfl⟩
        obtain ⟨L7, hL7⟩ : ∃ L7, L7 = pushQ L y := ⟨_, rfl⟩
        have HL7 := Lib.hid (show L7.length ≤ L.length + 1 from by rw [hL7]; exact pushQ_len L y)
        have HRq := Lib.hid (fun Y W (h : RowQ Y W q2 L.length k2 L) => rpush17_any Y y q2 _ k2 L W h (by have := Hm.out.2.1; simp only [List.length_cons] at this; omega))
        rw [← hpr, ← hL7] at HPu HRq
        clear hpr hL7
        refine cutIn (fun A a' W' => a' = { tmps := (((((A.tmps.setIfInBounds 60 (.pointer (some ⟨b, 0, none⟩))).setIfInBounds 61 (.slice (some ⟨bo, oo, none⟩) no co)).setIfInBounds 62 (.int .i64 (nn : Int))).setIfInBounds 63 (.pointer (some ⟨bo, oo + nn, none⟩))).setIfInBounds 64 (.int .i64 y)).setIfInBounds 65 (.bool pr), defers := [] } ∧ DrC K w1 (.pointer (some ⟨b, 0, none⟩)) B (m + 1) L7 L nn q2 k2 Z W' ∧ W'.heap[B.l]? = W3.heap[B.l]? ∧ W'.heap[B.d]? = W3.heap[B.d]?) ?_ ?_
        · have mixed : Try.prog.follows Departure.mixedOrders = true := by kernel_rfl
          gi_region_with_o (refine ⟨trivial, ?_⟩; gi_at_call 11; refine (CallsIn.inRound _ (callsIn_wide.2 HPu.out)).mono ?_; rintro r W4 ⟨rfl, hs4, hk4, hb4⟩)
          all_goals exact ⟨by simp only [List.setIfInBounds_toArray, List.set_cons_succ, List.set_cons_zero], (HC3.out.turned (Below.refl _ _).drew).code hs4 hk4 hb4, hk4 _ hZ.out.2.2.2.2, hk4 _ hZ.out.2.2.2.1⟩
        · rintro a' W4 ⟨rfl, hC4, hl4, hd4⟩
          simp only [List.setIfInBounds_toArray, List.set_cons_succ, List.set_cons_zero]
          have e7 : Boxed W4 Bq 24 (.pointer (some ⟨b, 0, none⟩)) := by have h5 := hC4.bq; rw [eq] at h5; exact h5
          have e8 : Boxed W4 Bw 22 (.slice q2 L.length k2) := by have h5 := hC4.bw; rw [ew] at h5; exact h5
          have e8c := e8.cell
          have e9 : Boxed W4 (Bw + 1) 3 (.int .i64 (nn : Int)) := by have h5 := hC4.bn; rw [en] at h5; exact h5
          have e9c' := e9.cell
          have e4c' : W4.cell? ⟨w.heap.size, 0, none⟩ = some (.slice (some ⟨bo, oo, none⟩) no co) := cell_below (K.base hC4.s) (Boxed.cell HBx.out.1)
          have eyc' : W4.cell? ⟨bo, oo + nn, none⟩ = some (.int .i64 y) := cell_below (K.base hC4.s) Hy1.out
          have HRp := Lib.hid (HRq.out _ W4.drew (hC4.row.below (Below.refl _ _).drew))
          have HC4 := Lib.hid hC4
          have He8 := Lib.hid e8
          have Hl4 := Lib.hid (And.intro hl4 hd4)
          clear hC4 hl4 hd4 e8 e9 e9c e10c e4c e5c e7c eyc hW3s HPu
          gi_wp2_with fail
          refine cutIn (fun A a' W' => ∃ q6 k6, a' = { tmps := ((((((((A.tmps.setIfInBounds 67 (.slice q2 L.length k2)).setIfInBounds 68 (.slice (some ⟨bo, oo, none⟩) no co)).setIfInBounds 69 (.int .i64 (nn : Int))).setIfInBounds 70 (.pointer (some ⟨bo, oo + nn, none⟩))).setIfInBounds 71 (.int .i64 y)).setIfInBounds 72 (.tuple #[.slice q6 L7.length k6, .bool pr])).setIfInBounds 66 (.tuple #[.slice q6 L7.length k6, .bool pr])).setIfInBounds 73 (.slice q6 L7.length k6)).setIfInBounds 74 (.bool pr), defers := [] } ∧ (∃ Z6, DrC K w1 (.pointer (some ⟨b, 0, none⟩)) B (m + 1) L7 L7 nn q6 k6 Z6 W') ∧ W'.heap[B.l]? = W4.heap[B.l]? ∧ W'.heap[B.d]? = W4.heap[B.d]?) ?_ ?_
          · have mixed : Try.prog.follows Departure.mixedOrders = true := by kernel_rfl
            gi_region_with_o (refine ⟨trivial, ?_⟩; gi_at_call 12; refine (CallsIn.inRound _ (callsIn_wide.2 HRp.out)).mono ?_; rintro r W5 ⟨q6, k6, rfl, hrow5, hb5⟩; have e85 : Boxed W5 Bw 22 (.slice q2 L.length k2) := (hb5.block _ He8.out.lt).trans He8.out; have e85c := e85.cell; have e85f := e85.frozen)
            all_goals
              refine ⟨q6, k6, by simp only [List.setIfInBounds_toArray, List.set_cons_succ, List.set_cons_zero], ?_⟩
              obtain ⟨Z6, _, hC6⟩ := (HC4.out.turned (Below.refl _ _).drew).setw hb5 hrow5
              have l0 := B.hq; have l1 := B.hw; have l2 := B.hn; have l3 := B.hd; have l4 := B.hl
              rw [← ew]
              exact ⟨⟨Z6, hC6⟩, (heap_setCell_other _ _ _ _ (show B.l ≠ B.w from by omega)).trans (hb5.block _ (K.xb HC4.out.s _ HC4.out.x.2.2.2.2)), (heap_setCell_other _ _ _ _ (show B.d ≠ B.w from by omega)).trans (hb5.block _ (K.xb HC4.out.s _ HC4.out.x.2.2.2.1))⟩
          · rintro a' W6 ⟨q6, k6, rfl, ⟨Z6, hC6⟩, hl6', hd6'⟩
            simp only [List.setIfInBounds_toArray, List.set_cons_succ, List.set_cons_zero]
            have HC6 := Lib.hid hC6
            have Hld6 := Lib.hid (show W6.heap[B.l]? = W.heap[B.l]? ∧ W6.heap[B.d]? = W.heap[B.d]? from ⟨hl6'.trans (Hl4.out.1.trans Hld.out.1), hd6'.trans (Hl4.out.2.trans Hld.out.2)⟩)
            have HM7 := Lib.hid (show m + 1 ≤ 100 + 2 * (nn + 1) ∧ L7.length + (nn + 1) ≤ n + min (nn + 1) no ∧ L7.length + (no - (nn + 1)) < k from by
              have h5 := Hm.out; have h6 := HL7.out
              simp only [List.length_cons] at h5
              omega)
            clear hC6 hl6' hd6' eyc' e9c' e8c e4c'
            have e9 : Boxed W6 (Bw + 1) 3 (.int .i64 (nn : Int)) := by have h5 := HC6.out.bn; rw [en] at h5; exact h5
            have e9c := e9.cell
            have e9f := e9.frozen
            obtain ⟨W7, hW7⟩ : ∃ W7, W7 = W6.setCell ⟨Bw + 1, 0, none⟩ (.int .i64 ((nn : Int) + 1)) := ⟨_, rfl⟩
            have hC7 := HC6.out.setn (nn + 1)
            rw [en] at hC7
            have hC7 : DrC K w1 (.pointer (some ⟨b, 0, none⟩)) B (m + 1) L7 L7 (nn + 1) q6 k6 Z6 W7 := by rw [hW7]; exact hC7
            have Hld7 := Lib.hid (show W7.heap[B.l]? = W.heap[B.l]? ∧ W7.heap[B.d]? = W.heap[B.d]? from by
              have l0 := B.hq; have l1 := B.hw; have l2 := B.hn; have l3 := B.hd; have l4 := B.hl
              rw [hW7, ← en]
              exact ⟨(heap_setCell_other _ _ _ _ (show B.l ≠ B.n from by omega)).trans Hld6.out.1, (heap_setCell_other _ _ _ _ (show B.d ≠ B.n from by omega)).trans Hld6.out.2⟩)
            have g9 : Boxed W7 (Bw + 1) 3 (.int .i64 ((nn : Int) + 1)) := by have h5 := hC7.bn; rw [en] at h5; exact h5
            have g9c := g9.cell
            have g5c : W7.cell? ⟨w.heap.size + 1, 0, none⟩ = some (.int .u8 (st : Int)) := cell_below (K.base hC7.s) (Boxed.cell HBx.out.2.1)
            have HC7 := Lib.hid hC7
            have hW7s := hW7.symm
            clear hC7 hW7 e9 g9
            by_cases hstop : st < nn + 1
            · have hsi : (st : Int) < (nn : Int) + 1 := by omega
              gi_wp2
              exact ⟨Hld7.out.1, Hld7.out.2, rfl, _, _, _, _, _, _, HC7.out, HM7.out.1, hstop, by have h5 := HM7.out.2.1; omega⟩
            · have hsi : ¬ (st : Int) < (nn : Int) + 1 := by omega
              gi_wp2
              exact ⟨Hld7.out.1, Hld7.out.2, _, HM7.out.2.2, _, _, _, _, _, _, HC7.out, HM7.out.1, HM7.out.2.1, rfl⟩
      · have hlti : ¬ (nn : Int) < (no : Int) := by omega
        have HC6 := HC3
        have Hld6 := Hld
        have HM7 := Lib.hid (show m ≤ 100 + 2 * (nn + 1) ∧ L.length + (nn + 1) ≤ n + min (nn + 1) no ∧ L.length + (no - (nn + 1)) < k from by
          have h5 := Hm.out
          simp only [List.length_cons] at h5
          omega)
        have hW3s := hW3.symm
        clear hW3
        have e9 : Boxed W3 (Bw + 1) 3 (.int .i64 (nn : Int)) := by have h5 := HC6.out.bn; rw [en] at h5; exact h5
        have e9c := e9.cell
        have e9f := e9.frozen
        obtain ⟨W7, hW7⟩ : ∃ W7, W7 = W3.setCell ⟨Bw + 1, 0, none⟩ (.int .i64 ((nn : Int) + 1)) := ⟨_, rfl⟩
        have hC7 := HC6.out.setn (nn + 1)
        rw [en] at hC7
        have hC7 : DrC K w1 (.pointer (some ⟨b, 0, none⟩)) B m L L (nn + 1) q2 k2 Z W7 := by rw [hW7]; exact hC7
        have Hld7 := Lib.hid (show W7.heap[B.l]? = W.heap[B.l]? ∧ W7.heap[B.d]? = W.heap[B.d]? from by
          have l0 := B.hq; have l1 := B.hw; have l2 := B.hn; have l3 := B.hd; have l4 := B.hl
          rw [hW7, ← en]
          exact ⟨(heap_setCell_other _ _ _ _ (show B.l ≠ B.n from by omega)).trans Hld6.out.1, (heap_setCell_other _ _ _ _ (show B.d ≠ B.n from by omega)).trans Hld6.out.2⟩)
        have g9 : Boxed W7 (Bw + 1) 3 (.int .i64 ((nn : Int) + 1)) := by have h5 := hC7.bn; rw [en] at h5; exact h5
        have g9c := g9.cell
        have g5c : W7.cell? ⟨w.heap.size + 1, 0, none⟩ = some (.int .u8 (st : Int)) := cell_below (K.base hC7.s) (Boxed.cell HBx.out.2.1)
        have HC7 := Lib.hid hC7
        have hW7s := hW7.symm
        clear hC7 hW7 e9 g9
        by_cases hstop : st < nn + 1
        · have hsi : (st : Int) < (nn : Int) + 1 := by omega
          gi_wp2
          exact ⟨Hld7.out.1, Hld7.out.2, rfl, _, _, _, _, _, _, HC7.out, HM7.out.1, hstop, by have h5 := HM7.out.2.1; omega⟩
        · have hsi : ¬ (st : Int) < (nn : Int) + 1 := by omega
          gi_wp2
          exact ⟨Hld7.out.1, Hld7.out.2, _, HM7.out.2.2, _, _, _, _, _, _, HC7.out, HM7.out.1, HM7.out.2.1, rfl⟩
    case done =>
      rintro W ⟨X, q, c8, m, nn, hC, hm, hnn⟩ hK
      rw [hd6] at hK ⊢
      by_cases hst2 : st < nn
      · have hsi : (st : Int) < (nn : Int) := by omega
        have hC0 := hC.turned (Below.refl _ _).drew
        have HC0 := Lib.hid hC0
        have HAl := Lib.hid (HA.out W.drew)
        have HLi := Lib.hid (fun W' (hb : Below W.drew.heap.size W.drew W') => K.list (HC0.out.turned hb).s (by omega))
        have eq := HB.out.1
        have ew := HB.out.2.1
        have en := HB.out.2.2.1
        have HBs := Lib.hid (fun W' {L1 L2 : List Int} {q : Option Addr} {c8 m nn : Nat} {X : Nat → Prop} (h : DrC K w1 (.pointer (some ⟨b, 0, none⟩)) B m L1 L2 nn q c8 X W') => (show W'.cell? ⟨Bq, 0, none⟩ = some (.pointer (some ⟨b, 0, none⟩)) ∧ W'.cell? ⟨Bw, 0, none⟩ = some (.slice q L2.length c8) ∧ W'.cell? ⟨Bw + 1, 0, none⟩ = some (.int .i64 (nn : Int)) ∧ W'.cell? ⟨w.heap.size + 1, 0, none⟩ = some (.int .u8 (st : Int)) ∧ Boxed W' (w.heap.size + 1 + 1) 4 (.bool false) from by
          have h5 := h.bq; have h6 := h.bw; have h7 := h.bn
          rw [eq] at h5; rw [ew] at h6; rw [en] at h7
          exact ⟨h5.cell, h6.cell, h7.cell, cell_below (K.base h.s) (Boxed.cell HBx.out.2.1), ((K.base h.s).block _ (by have := Hb1.out.2; omega)).trans HBx.out.2.2⟩))
        have HKd := Lib.hid hK
        clear hC hC0 hK
        gi_wp2_with fail
        refine cutIn (fun A a' W' => ∃ p9 c9, a' = { tmps := (((((((((((((((A.tmps.setIfInBounds 81 (.bool true)).setIfInBounds 82 (.bool true)).setIfInBounds 83 (.pointer (some ⟨b, 0, none⟩))).setIfInBounds 84 (.slice p9 0 c9)).setIfInBounds 85 (.slice q 0 c8)).setIfInBounds 86 (.bool true)).setIfInBounds 87 (.bool true)).setIfInBounds 88 (.bool true)).setIfInBounds 89 (.int .i64 (nn : Int))).setIfInBounds 90 (.int .u8 (st : Int))).setIfInBounds 91 (.int .i64 (IntKind.i64.wrap (st : Int)))).setIfInBounds 92 (.bool true)).setIfInBounds 93 (.bool true)).setIfInBounds 97 (.bool true)).setIfInBounds 98 (.bool true)), defers := A.defers } ∧ Below w.heap.size w W' ∧ W'.heap[B.d]? = some (.deferred (some [])) ∧ W'.cell? ⟨w.heap.size + 1 + 1, 0, none⟩ = some (.bool true)) ?_ ?_
        · refine wpIn_wide.2 ?_
          obtain ⟨s7, s8, s9, s5, s2⟩ := HBs.out _ HC0.out
          have s2c := s2.cell
          have s2f := s2.frozen
          have hsw : ¬ (nn : Int) ≤ IntKind.i64.wrap (st : Int) := by rw [IntKind.wrap_i64]; omega
          have hsw2 : IntKind.i64.wrap (st : Int) < (nn : Int) := by rw [IntKind.wrap_i64]; omega
          go_region_law (first
                | (go_simp; go_at_call 9; (with_reducible refine HAl.out.mono ?_); rintro r w8 ⟨rfl, hb8⟩; have hC8 := HC0.out.turned hb8; obtain ⟨a7, a8, a9, a5, a2⟩ := HBs.out _ hC8; have a2c := a2.cell; have a2f := a2.frozen)
                | (go_simp; go_at_call 19; (with_reducible refine (HLi.out _ hb8).mono ?_); rintro r w9 ⟨u9, rfl, hu9, hs9, hk9, hb9⟩; have hC9 := hC8.code (K.swap hs9 (Below.refl _ _) (fun b hx => ⟨.inl (.inl hx), Nat.lt_of_lt_of_le (K.xb hC8.s b hx) hb9.size⟩)) hk9 hb9; obtain ⟨p9, c9, rfl, hrow9⟩ := rowQ_own hu9 (n := 0) rfl; obtain ⟨d7, d8, d9, d5, d2⟩ := HBs.out _ hC9; have d2c := d2.cell; have d2f := d2.frozen; have hEq := (show Calls Try.prog 18 #[.slice p9 0 c9, .slice q 0 c8] w9 fun r w' => r = .returned (.bool true) ∧ Below w9.heap.size w9 w' from (qequal_any p9 q _ _ c9 c8 [] [] w9 hrow9.items hC9.row.items).mono (fun r w' h => ⟨h.1.trans (by simp), h.2⟩)))
                | (go_simp; go_at_call 18; (with_reducible refine hEq.mono ?_); rintro r w10 ⟨rfl, hb10⟩; have hC10 := hC9.turned hb10; obtain ⟨f7, f8, f9, f5, f2⟩ := HBs.out _ hC10; have f2c := f2.cell; have f2f := f2.frozen))
          all_goals
            have hbw := Hb1.out.1.trans ((K.base hC10.s).mono Hb1.out.1.size)
            have hd0 := (hb10.block B.d (K.xb hC9.s _ hC9.x.2.2.2.1)).trans ((hk9 _ hC8.x.2.2.2.1).trans ((hb8.block B.d (K.xb HC0.out.s _ HC0.out.x.2.2.2.1)).trans HKd.out))
            have hne : B.d ≠ w.heap.size + 1 + 1 := by have := Hb1.out.2; have := HBz.out; have := HB.out.2.2.2.1; omega
            exact ⟨p9, c9, by simp only [List.setIfInBounds_toArray, List.set_cons_succ, List.set_cons_zero], hbw.setCell (p := ⟨w.heap.size + 1 + 1, 0, none⟩) (by show w.heap.size ≤ w.heap.size + 1 + 1; omega) _, (heap_setCell_other _ _ _ _ hne).trans hd0, (f2.set (.bool true)).cell⟩
        · rintro a' W' ⟨p9, c9, rfl, hBW, hDW, hRW⟩
          simp only [List.setIfInBounds_toArray, List.set_cons_succ, List.set_cons_zero]
          gi_wp2
          refine ⟨by simp, .inl ⟨_, _, rfl, run_takeDeferred hDW, ?_⟩⟩
          have hne : w.heap.size + 1 + 1 ≠ B.d := by have := Hb1.out.2; have := HBz.out; have := HB.out.2.2.2.1; omega
          have hres := (World.cell?_of_block (a := ⟨w.heap.size + 1 + 1, 0, none⟩) (World.putObj_heap_other (w := W') (o := .deferred none) hne)).trans hRW
          refine ⟨.bool true, (by simp [results, Try.results5, go_sem, hres]), rfl, hBW.grown (grownBy_putObj' W' B.d (.deferred none)) hBW.size (fun k e => by cases e; have := Hb1.out.2; have := HBz.out; have := HB.out.2.2.2.1; omega)⟩
      · have hsi : ¬ (st : Int) < (nn : Int) := by omega
        have hC0 := hC.turned (Below.refl _ _).drew
        have HC0 := Lib.hid hC0
        have HAl := Lib.hid (HA.out W.drew)
        have HLi := Lib.hid (fun W' (hb : Below W.drew.heap.size W.drew W') => K.list (HC0.out.turned hb).s (by omega))
        have eq := HB.out.1
        have ew := HB.out.2.1
        have en := HB.out.2.2.1
        have HBs := Lib.hid (fun W' {L1 L2 : List Int} {q : Option Addr} {c8 m nn : Nat} {X : Nat → Prop} (h : DrC K w1 (.pointer (some ⟨b, 0, none⟩)) B m L1 L2 nn q c8 X W') => (show W'.cell? ⟨Bq, 0, none⟩ = some (.pointer (some ⟨b, 0, none⟩)) ∧ W'.cell? ⟨Bw, 0, none⟩ = some (.slice q L2.length c8) ∧ W'.cell? ⟨Bw + 1, 0, none⟩ = some (.int .i64 (nn : Int)) ∧ W'.cell? ⟨w.heap.size + 1, 0, none⟩ = some (.int .u8 (st : Int)) ∧ Boxed W' (w.heap.size + 1 + 1) 4 (.bool false) from by
          have h5 := h.bq; have h6 := h.bw; have h7 := h.bn
          rw [eq] at h5; rw [ew] at h6; rw [en] at h7
          exact ⟨h5.cell, h6.cell, h7.cell, cell_below (K.base h.s) (Boxed.cell HBx.out.2.1), ((K.base h.s).block _ (by have := Hb1.out.2; omega)).trans HBx.out.2.2⟩))
        have HKd := Lib.hid hK
        clear hC hC0 hK
        gi_wp2_with fail
        refine cutIn (fun A a' W' => ∃ p9 c9, a' = { tmps := ((((((((((((((((((A.tmps.setIfInBounds 81 (.bool true)).setIfInBounds 82 (.bool true)).setIfInBounds 83 (.pointer (some ⟨b, 0, none⟩))).setIfInBounds 84 (.slice p9 0 c9)).setIfInBounds 85 (.slice q 0 c8)).setIfInBounds 86 (.bool true)).setIfInBounds 87 (.bool true)).setIfInBounds 88 (.bool true)).setIfInBounds 89 (.int .i64 (nn : Int))).setIfInBounds 90 (.int .u8 (st : Int))).setIfInBounds 91 (.int .i64 (IntKind.i64.wrap (st : Int)))).setIfInBounds 92 (.bool false)).setIfInBounds 93 (.bool false)).setIfInBounds 94 (.slice q 0 c8)).setIfInBounds 95 (.int .i64 0)).setIfInBounds 96 (.bool true)).setIfInBounds 97 (.bool true)).setIfInBounds 98 (.bool true)), defers := A.defers } ∧ Below w.heap.size w W' ∧ W'.heap[B.d]? = some (.deferred (some [])) ∧ W'.cell? ⟨w.heap.size + 1 + 1, 0, none⟩ = some (.bool true)) ?_ ?_
        · refine wpIn_wide.2 ?_
          obtain ⟨s7, s8, s9, s5, s2⟩ := HBs.out _ HC0.out
          have s2c := s2.cell
          have s2f := s2.frozen
          have hsw : (nn : Int) ≤ IntKind.i64.wrap (st : Int) := by rw [IntKind.wrap_i64]; omega
          have hsw2 : ¬ IntKind.i64.wrap (st : Int) < (nn : Int) := by rw [IntKind.wrap_i64]; omega
          go_region_law (first
                | (go_simp; go_at_call 9; (with_reducible refine HAl.out.mono ?_); rintro r w8 ⟨rfl, hb8⟩; have hC8 := HC0.out.turned hb8; obtain ⟨a7, a8, a9, a5, a2⟩ := HBs.out _ hC8; have a2c := a2.cell; have a2f := a2.frozen)
                | (go_simp; go_at_call 19; (with_reducible refine (HLi.out _ hb8).mono ?_); rintro r w9 ⟨u9, rfl, hu9, hs9, hk9, hb9⟩; have hC9 := hC8.code (K.swap hs9 (Below.refl _ _) (fun b hx => ⟨.inl (.inl hx), Nat.lt_of_lt_of_le (K.xb hC8.s b hx) hb9.size⟩)) hk9 hb9; obtain ⟨p9, c9, rfl, hrow9⟩ := rowQ_own hu9 (n := 0) rfl; obtain ⟨d7, d8, d9, d5, d2⟩ := HBs.out _ hC9; have d2c := d2.cell; have d2f := d2.frozen; have hEq := (show Calls Try.prog 18 #[.slice p9 0 c9, .slice q 0 c8] w9 fun r w' => r = .returned (.bool true) ∧ Below w9.heap.size w9 w' from (qequal_any p9 q _ _ c9 c8 [] [] w9 hrow9.items hC9.row.items).mono (fun r w' h => ⟨h.1.trans (by simp), h.2⟩)))
                | (go_simp; go_at_call 18; (with_reducible refine hEq.mono ?_); rintro r w10 ⟨rfl, hb10⟩; have hC10 := hC9.turned hb10; obtain ⟨f7, f8, f9, f5, f2⟩ := HBs.out _ hC10; have f2c := f2.cell; have f2f := f2.frozen))
          all_goals
            have hbw := Hb1.out.1.trans ((K.base hC10.s).mono Hb1.out.1.size)
            have hd0 := (hb10.block B.d (K.xb hC9.s _ hC9.x.2.2.2.1)).trans ((hk9 _ hC8.x.2.2.2.1).trans ((hb8.block B.d (K.xb HC0.out.s _ HC0.out.x.2.2.2.1)).trans HKd.out))
            have hne : B.d ≠ w.heap.size + 1 + 1 := by have := Hb1.out.2; have := HBz.out; have := HB.out.2.2.2.1; omega
            exact ⟨p9, c9, by simp only [List.setIfInBounds_toArray, List.set_cons_succ, List.set_cons_zero], hbw.setCell (p := ⟨w.heap.size + 1 + 1, 0, none⟩) (by show w.heap.size ≤ w.heap.size + 1 + 1; omega) _, (heap_setCell_other _ _ _ _ hne).trans hd0, (f2.set (.bool true)).cell⟩
        · rintro a' W' ⟨p9, c9, rfl, hBW, hDW, hRW⟩
          simp only [List.setIfInBounds_toArray, List.set_cons_succ, List.set_cons_zero]
          gi_wp2
          refine ⟨by simp, .inl ⟨_, _, rfl, run_takeDeferred hDW, ?_⟩⟩
          have hne : w.heap.size + 1 + 1 ≠ B.d := by have := Hb1.out.2; have := HBz.out; have := HB.out.2.2.2.1; omega
          have hres := (World.cell?_of_block (a := ⟨w.heap.size + 1 + 1, 0, none⟩) (World.putObj_heap_other (w := W') (o := .deferred none) hne)).trans hRW
          refine ⟨.bool true, (by simp [results, Try.results5, go_sem, hres]), rfl, hBW.grown (grownBy_putObj' W' B.d (.deferred none)) hBW.size (fun k e => by cases e; have := Hb1.out.2; have := HBz.out; have := HB.out.2.2.2.1; omega)⟩
    case stop =>
      rintro e W ⟨rfl, X, L, q, c8, m, nn, hC, hm, hst2, hnn⟩ hK
      rw [hd6] at hK ⊢
      have hsi : (st : Int) < (nn : Int) := by omega
      have hC0 := hC.turned (Below.refl _ _).drew
      have HC0 := Lib.hid hC0
      have HAl := Lib.hid (HA.out W.drew)
      have HLi := Lib.hid (fun W' (hb : Below W.drew.heap.size W.drew W') => K.list (HC0.out.turned hb).s (by omega))
      have eq := HB.out.1
      have ew := HB.out.2.1
      have en := HB.out.2.2.1
      have HBs := Lib.hid (fun W' {L1 L2 : List Int} {q : Option Addr} {c8 m nn : Nat} {X : Nat → Prop} (h : DrC K w1 (.pointer (some ⟨b, 0, none⟩)) B m L1 L2 nn q c8 X W') => (show W'.cell? ⟨Bq, 0, none⟩ = some (.pointer (some ⟨b, 0, none⟩)) ∧ W'.cell? ⟨Bw, 0, none⟩ = some (.slice q L2.length c8) ∧ W'.cell? ⟨Bw + 1, 0, none⟩ = some (.int .i64 (nn : Int)) ∧ W'.cell? ⟨w.heap.size + 1, 0, none⟩ = some (.int .u8 (st : Int)) ∧ Boxed W' (w.heap.size + 1 + 1) 4 (.bool false) from by
        have h5 := h.bq; have h6 := h.bw; have h7 := h.bn
        rw [eq] at h5; rw [ew] at h6; rw [en] at h7
        exact ⟨h5.cell, h6.cell, h7.cell, cell_below (K.base h.s) (Boxed.cell HBx.out.2.1), ((K.base h.s).block _ (by have := Hb1.out.2; omega)).trans HBx.out.2.2⟩))
      have HKd := Lib.hid hK
      clear hC hC0 hK
      gi_wp2_with fail
      refine cutIn (fun A a' W' => ∃ p9 c9, a' = { tmps := (((((((((((((((A.tmps.setIfInBounds 81 (.bool true)).setIfInBounds 82 (.bool true)).setIfInBounds 83 (.pointer (some ⟨b, 0, none⟩))).setIfInBounds 84 (.slice p9 L.length c9)).setIfInBounds 85 (.slice q L.length c8)).setIfInBounds 86 (.bool true)).setIfInBounds 87 (.bool true)).setIfInBounds 88 (.bool true)).setIfInBounds 89 (.int .i64 (nn : Int))).setIfInBounds 90 (.int .u8 (st : Int))).setIfInBounds 91 (.int .i64 (IntKind.i64.wrap (st : Int)))).setIfInBounds 92 (.bool true)).setIfInBounds 93 (.bool true)).setIfInBounds 97 (.bool true)).setIfInBounds 98 (.bool true)), defers := A.defers } ∧ Below w.heap.size w W' ∧ W'.heap[B.d]? = some (.deferred (some [])) ∧ W'.cell? ⟨w.heap.size + 1 + 1, 0, none⟩ = some (.bool true)) ?_ ?_
      · refine wpIn_wide.2 ?_
        obtain ⟨s7, s8, s9, s5, s2⟩ := HBs.out _ HC0.out
        have s2c := s2.cell
        have s2f := s2.frozen
        have hsw : ¬ (nn : Int) ≤ IntKind.i64.wrap (st : Int) := by rw [IntKind.wrap_i64]; omega
        have hsw2 : IntKind.i64.wrap (st : Int) < (nn : Int) := by rw [IntKind.wrap_i64]; omega
        go_region_law (first
              | (go_simp; go_at_call 9; (with_reducible refine HAl.out.mono ?_); rintro r w8 ⟨rfl, hb8⟩; have hC8 := HC0.out.turned hb8; obtain ⟨a7, a8, a9, a5, a2⟩ := HBs.out _ hC8; have a2c := a2.cell; have a2f := a2.frozen)
              | (go_simp; go_at_call 19; (with_reducible refine (HLi.out _ hb8).mono ?_); rintro r w9 ⟨u9, rfl, hu9, hs9, hk9, hb9⟩; have hC9 := hC8.code (K.swap hs9 (Below.refl _ _) (fun b hx => ⟨.inl (.inl hx), Nat.lt_of_lt_of_le (K.xb hC8.s b hx) hb9.size⟩)) hk9 hb9; obtain ⟨p9, c9, rfl, hrow9⟩ := rowQ_own hu9 (n := L.length) rfl; obtain ⟨d7, d8, d9, d5, d2⟩ := HBs.out _ hC9; have d2c := d2.cell; have d2f := d2.frozen; have hEq := (show Calls Try.prog 18 #[.slice p9 L.length c9, .slice q L.length c8] w9 fun r w' => r = .returned (.bool true) ∧ Below w9.heap.size w9 w' from (qequal_any p9 q _ _ c9 c8 L L w9 hrow9.items hC9.row.items).mono (fun r w' h => ⟨h.1.trans (by simp), h.2⟩)))
              | (go_simp; go_at_call 18; (with_reducible refine hEq.mono ?_); rintro r w10 ⟨rfl, hb10⟩; have hC10 := hC9.turned hb10; obtain ⟨f7, f8, f9, f5, f2⟩ := HBs.out _ hC10; have f2c := f2.cell; have f2f := f2.frozen))
        all_goals
          have hbw := Hb1.out.1.trans ((K.base hC10.s).mono Hb1.out.1.size)
          have hd0 := (hb10.block B.d (K.xb hC9.s _ hC9.x.2.2.2.1)).trans ((hk9 _ hC8.x.2.2.2.1).trans ((hb8.block B.d (K.xb HC0.out.s _ HC0.out.x.2.2.2.1)).trans HKd.out))
          have hne : B.d ≠ w.heap.size + 1 + 1 := by have := Hb1.out.2; have := HBz.out; have := HB.out.2.2.2.1; omega
          exact ⟨p9, c9, by simp only [List.setIfInBounds_toArray, List.set_cons_succ, List.set_cons_zero], hbw.setCell (p := ⟨w.heap.size + 1 + 1, 0, none⟩) (by show w.heap.size ≤ w.heap.size + 1 + 1; omega) _, (heap_setCell_other _ _ _ _ hne).trans hd0, (f2.set (.bool true)).cell⟩
      · rintro a' W' ⟨p9, c9, rfl, hBW, hDW, hRW⟩
        simp only [List.setIfInBounds_toArray, List.set_cons_succ, List.set_cons_zero]
        gi_wp2
        refine ⟨by simp, .inl ⟨_, _, rfl, run_takeDeferred hDW, ?_⟩⟩
        have hne : w.heap.size + 1 + 1 ≠ B.d := by have := Hb1.out.2; have := HBz.out; have := HB.out.2.2.2.1; omega
        have hres := (World.cell?_of_block (a := ⟨w.heap.size + 1 + 1, 0, none⟩) (World.putObj_heap_other (w := W') (o := .deferred none) hne)).trans hRW
        refine ⟨.bool true, (by simp [results, Try.results5, go_sem, hres]), rfl, hBW.grown (grownBy_putObj' W' B.d (.deferred none)) hBW.size (fun k e => by cases e; have := Hb1.out.2; have := HBz.out; have := HB.out.2.2.2.1; omega)⟩
end Go.Proofs.Ytmmiommfbkcebaa
