/- The walk of play. -/
import Derived.Test.YthidinaflaogfaaWhPlayM
namespace Go.Proofs.Ythidinaflaogfaa
open Go.RowKit

set_option maxRecDepth 100000 in
set_option maxHeartbeats 6400000 in
theorem play16_any {w0 wr : World} {d now : Nat} (h : WhS w0 (fun _ => False) wr d now []) (p : Option Addr) (n c : Nat) (l : List Ow) (hO : Ows w0 p n c l) (hw : ∀ y ∈ l, owW y) (hn : n ≤ 100) :
    Calls Try.prog 10 #[.pointer (some ⟨d, 0, none⟩), .agg #[.int .u64 (now : Int), .slice none 0 0], .slice p n c] wr fun r w' => ∃ (m : Nat) (q : Option Addr) (u v : Nat), r = .returned (.tuple #[.agg #[.int .u64 (m : Int), .slice q u v], .bool true]) ∧ Below w0.heap.size w0 w' := by
  have hle := hO.le
  have hmx := hO.max
  have hL := LawP.start h (Below.refl wr.heap.size wr)
  obtain ⟨g0, g1⟩ := boxes_new wr (.int .u64 (now : Int)) (.slice none 0 0)
  have hJ0 : PlayJ w0 d wr.heap.size (wr.heap.size + 1) 0 ((wr.alloc (.cells #[.int .u64 (now : Int), .slice none 0 0] 29)).alloc (.cells #[.int .u64 0, .slice none 0 0] 29)) := by
    have hb : Below (wr.alloc (.cells #[.int .u64 (now : Int), .slice none 0 0] 29)).heap.size (wr.alloc (.cells #[.int .u64 (now : Int), .slice none 0 0] 29)) ((wr.alloc (.cells #[.int .u64 (now : Int), .slice none 0 0] 29)).alloc (.cells #[.int .u64 0, .slice none 0 0] 29)) := (Below.refl _ _).alloc (Nat.le_refl _) _
    refine ⟨now, [], fun b => b = wr.heap.size ∨ b = wr.heap.size + 1, hL.aside (hL.wh.swap hb (fun b hb' => ?_)) (fun b e => .inl e) (fun b e => hb.block b (by rw [e]; simp)) hb.size, tim_nil, Nat.le_refl _, ⟨.inr rfl, by omega⟩, g1⟩
    rcases hb' with rfl | rfl
    · exact ⟨.inl rfl, by simp; omega⟩
    · exact ⟨.inr (by simp), by simp⟩
  have hbb : Below wr.heap.size wr ((wr.alloc (.cells #[.int .u64 (now : Int), .slice none 0 0] 29)).alloc (.cells #[.int .u64 0, .slice none 0 0] 29)) := ((Below.refl _ _).alloc (Nat.le_refl _) _).alloc (by simp) _
  have HO := Lib.hid (And.intro hO hw)
  obtain ⟨B, hB⟩ : ∃ B, B = wr.heap.size := ⟨_, rfl⟩
  obtain ⟨R, hR⟩ : ∃ R, R = B + 1 := ⟨_, rfl⟩
  obtain ⟨W0, hW0⟩ : ∃ W0, W0 = (wr.alloc (.cells #[.int .u64 (now : Int), .slice none 0 0] 29)).alloc (.cells #[.int .u64 0, .slice none 0 0] 29) := ⟨_, rfl⟩
  rw [← hB, ← hR, ← hW0] at hJ0
  have HJ0 := Lib.hid hJ0
  have HRw := Lib.hid (show w0.heap.size ≤ R from by have := h.base.size; omega)
  have hn2 := hn
  clear h hO hw hL g0 g1 hJ0 hbb hn
  go_enter Try.func10, Try.ntmps10
  go_upto_region 1 with fail
  rw [← hB, ← hR, ← hW0]
  clear hB hR hW0
  go_wp2_with fail
  go_loopw [16] (fun q wr => ∃ j : Nat, j ≤ n ∧ q = .int .i64 (j : Int) ∧ RowKit.Hid (PlayJ w0 d B R j wr)  ) (fun q _ => n - (intOf q).toNat)
  case atStart => exact ⟨0, Nat.zero_le _, rfl, HJ0⟩
  case round =>
    clear HJ0
    obtain ⟨j, hj, rfl, HJ⟩ := hrel
    by_cases hlt : j < n
    · have hji : (j : Int) < (n : Int) := by omega
      obtain ⟨nw, T, X, hP, hT, hTl, hxR, hhR⟩ := HJ.out
      obtain ⟨b, o, rfl, hc⟩ := HO.out.1.cell (by omega)
      obtain ⟨x, hx⟩ : ∃ x, l[j]? = some x := ⟨_, List.getElem?_eq_getElem (by rw [HO.out.1.len]; exact hlt)⟩
      obtain ⟨⟨hk1, hk2⟩, hxi, hxa⟩ := HO.out.2 x (List.mem_of_getElem? hx)
      have hBelow : Below w0.heap.size w0 wr := hP.base
      have hc3 : ∀ q u, q < 3 → (owC x)[q]? = some u → wr.cell? ⟨b, o + j * 3 + q, none⟩ = some u := fun q u hq hu => by
        have h5 := (hc j x hx q hq).trans hu
        rw [hBelow.cell (World.block_lt_of_cell? _ _ h5)]
        exact h5
      have c0 := hc3 0 _ (by decide) rfl
      have c1 := hc3 1 _ (by decide) rfl
      have c2 := hc3 2 _ (by decide) rfl
      rw [Nat.add_zero] at c0
      obtain ⟨k, i, a⟩ := x
      obtain ⟨Z, hP1⟩ := PlayP.start (k := k) (i := i) (a := a) hP hxR hhR
      obtain ⟨Bo, hBo⟩ : ∃ Bo, Bo = wr.heap.size := ⟨_, rfl⟩
      obtain ⟨w1, hw1⟩ : ∃ w1, w1 = wr.alloc (.cells #[.int .i64 k, .int .u64 (i : Int), .int .u64 (a : Int)] 68) := ⟨_, rfl⟩
      rw [← hBo, ← hw1] at hP1
      change i < 18446744073709551616 at hxi
      change a < 18446744073709551616 at hxa
      change wr.cell? _ = some (.int .i64 k) at c0
      change wr.cell? _ = some (.int .u64 (i : Int)) at c1
      change wr.cell? _ = some (.int .u64 (a : Int)) at c2
      obtain ⟨d0, d1, d2⟩ := cells_of3 hP1.ho
      have HT := Lib.hid (And.intro hT (And.intro hTl (And.intro hxi hxa)))
      have HP1 := Lib.hid hP1
      clear hc hc3 hx hBelow hP hT hTl hxR hhR HJ hP1 hk1 hk2
      go_upto_region 8 with fail
      rw [← hBo, ← hw1]
      clear hBo hw1 c0 c1 c2
      have hkc : k = 0 ∨ (k ≠ 0 ∧ k = 1) ∨ (k ≠ 0 ∧ k ≠ 1) := by omega
      rcases hkc with rfl | ⟨hk0, rfl⟩ | ⟨hk0, hk1⟩
      · have HS := Lib.hid (wsched_any HP1.out.lp.wh (by have := HT.out.2.1; omega) (i, a) HT.out.2.2.1 HT.out.2.2.2)
        go_wp2_with fail
        refine HS.out.mono ?_
        rintro r w2 ⟨rfl, hE2⟩
        have hP2 := HP1.out.wheel hE2
        obtain ⟨px, cx, kx, hV2, _⟩ := hP2.lp.ref
        obtain ⟨x0, x1, _, _⟩ := cells_of2 kx
        obtain ⟨y0, y1, y2⟩ := cells_of3 hP2.ho
        have HC := Lib.hid (rsched16_any _ nw T _ (i, a) w2 hV2 HT.out.1.srt (by have := HT.out.2.1; omega) HT.out.2.2.2)
        have HP2 := Lib.hid hP2
        clear hE2 hP2 kx hV2 d0 d1 d2
        go_wp2_with fail
        refine HC.out.mono ?_
        rintro r w6 ⟨v6, rfl, hV6, hb6⟩
        obtain ⟨p6, c6, Z6, rfl, _, hP6, hR6⟩ := HP2.out.got hb6 hV6
        obtain ⟨p0, c0, k6, _, _⟩ := hP6.lp.ref
        obtain ⟨e0, e1, e2, e3⟩ := cells_of2 k6
        obtain ⟨f0, f1, f2⟩ := cells_of3 hP6.ho
        obtain ⟨s1, s2, _⟩ := schedT_tim HT.out.1 (i, a) HT.out.2.2.1
        have HT7 := Lib.hid (And.intro s1 (show (schedT T (i, a)).length ≤ j + 1 from by have h5 := HT.out.2.1; omega))
        have HT7N := Lib.hid (show 0 ≤ 1000 from by decide)
        have hE7 := hP6.done hR6 (items_nil w6) (fun b o e => by cases e) (items_nil w6) (fun b o e => by cases e)
        clear hP6 hR6 hV6 hb6 k6 s1 s2
        obtain ⟨w7, hw7⟩ : ∃ w7, w7 = (w6.setCell ⟨B, 0, none⟩ (.int .u64 (nw : Int))).setCell ⟨B, 1, none⟩ (.slice p6 (schedT T (i, a)).length c6) := ⟨_, rfl⟩
        rw [← hw7] at hE7
        have HE7 := Lib.hid hE7
        clear hE7
        go_upto_region 17 with fail
        rw [← hw7]
        clear hw7 e0 e1 e2 e3 f0 f1 f2
        have hE7 := HE7.out
        obtain ⟨cB, hcB⟩ : ∃ cB, cB = c6 := ⟨_, rfl⟩
        obtain ⟨pB, hpB⟩ : ∃ pB, pB = p6 := ⟨_, rfl⟩
        rw [← hcB, ← hpB] at hE7 ⊢
        clear hcB hpB HE7
        generalize hTe : schedT T (i, a) = T7 at *
        obtain ⟨b, hb⟩ : ∃ b, hasW T7 i = b := ⟨_, rfl⟩
        obtain ⟨Q, q7, qd, qc, kB, kE, kS, kH, kF, kJ⟩ := hE7.kit HT7.out.1 HT7.out.2 (by omega) HT7N.out HT.out.2.2.1 hb
        have H7 := Lib.hid (And.intro q7 (And.intro qd (And.intro qc kJ)))
        have KB := Lib.hid kB
        have KE := Lib.hid kE
        have KS := Lib.hid kS
        have KH := Lib.hid kH
        have KF := Lib.hid kF
        have s7 := qc _ q7
        clear q7 qd qc kB kE kS kH kF kJ hE7 hb
        cases b
        all_goals
          go_region_held3 (fun W => W.cell? ⟨B, 0, none⟩ = some (.int .u64 (nw : Int)) ∧ W.cell? ⟨B, 1, none⟩ = some (.slice pB T7.length cB) ∧ W.cell? ⟨Bo, 1, none⟩ = some (.int .u64 (i : Int)))
            (first | exact s7 | exact s8 | exact s9 | exact s10 | exact s11 | exact s12)
            (first
              | (go_at_call 22; (with_reducible refine (KB.out _ (by first | exact H7.out.1 | exact H7.out.2.1 _ H7.out.1)).mono ?_); rintro r w8 ⟨q8, cq8, rfl, hI8, hQ8⟩; have s8 := H7.out.2.2.1 _ hQ8)
              | (go_at_call 21; (with_reducible refine (KE.out _ _ _ hQ8 hI8).mono ?_); rintro r w9 ⟨rfl, hQ9⟩; have s9 := H7.out.2.2.1 _ hQ9)
              | (go_at_call 28; (with_reducible refine (KS.out _ hQ9).mono ?_); rintro r w10 ⟨rfl, hQ10⟩; have s10 := H7.out.2.2.1 _ hQ10)
              | (go_at_call 25; (with_reducible refine (KH.out _ hQ10).mono ?_); rintro r w11 ⟨rfl, hQ11⟩; have s11 := H7.out.2.2.1 _ hQ11)
              | (go_at_call 29; (with_reducible refine (KF.out _ hQ11).mono ?_); rintro r w12 ⟨x12, rfl, hx12, hQ12⟩; have s12 := H7.out.2.2.1 _ hQ12; simp only [Bool.false_eq_true, iff_false, iff_true] at hx12))
          all_goals
            have HJ12 := Lib.hid (H7.out.2.2.2 _ hQ12)
            clear s7 s8 s9 s10 s11 s12 hQ8 hQ9 hQ10 hQ11 hQ12 hI8
            go_wp2
            go_roundw
            case rel => exact ⟨j + 1, by omega, by go_num, HJ12⟩
            case measure => simp [intOf]; omega
      · obtain ⟨T7, hT7⟩ : ∃ x, x = cancT T i := ⟨_, rfl⟩
        obtain ⟨cd, hcd⟩ : ∃ cd : Int, cd = if hasW T i = true then 0 else 6 := ⟨_, rfl⟩
        have hS := wcancel_any HP1.out.lp.wh (by have := HT.out.2.1; omega) i HT.out.2.2.1
        rw [← hcd, ← hT7] at hS
        have HS := Lib.hid hS
        have HT8 := Lib.hid (And.intro hcd hT7)
        clear hS hcd hT7
        go_wp2_with fail
        refine HS.out.mono ?_
        rintro r w2 ⟨rfl, hE2⟩
        have hP2 := HP1.out.wheel hE2
        obtain ⟨px, cx, kx, hV2, _⟩ := hP2.lp.ref
        obtain ⟨x0, x1, _, _⟩ := cells_of2 kx
        obtain ⟨y0, y1, y2⟩ := cells_of3 hP2.ho
        have HC := Lib.hid (rcanc16_any _ nw T _ i w2 hV2 HT.out.1 (by have := HT.out.2.1; omega) cd HT8.out.1 T7 HT8.out.2)
        have HP2 := Lib.hid hP2
        clear hE2 hP2 kx hV2 d0 d1 d2
        go_wp2_with fail
        refine HC.out.mono ?_
        rintro r w6 ⟨v6, rfl, hV6, hb6⟩
        obtain ⟨p6, c6, Z6, rfl, _, hP6, hR6⟩ := HP2.out.got hb6 hV6
        obtain ⟨p0, c0, k6, _, _⟩ := hP6.lp.ref
        obtain ⟨e0, e1, e2, e3⟩ := cells_of2 k6
        obtain ⟨f0, f1, f2⟩ := cells_of3 hP6.ho
        have HT7 := Lib.hid (And.intro (show TimW T7 from hP6.lp.wh.tim) (show T7.length ≤ j + 1 from by
          have h5 := HT.out.2.1
          have h6 : (cancT T i).length ≤ T.length := List.length_filter_le _ _
          rw [HT8.out.2]; omega))
        have HT7N := Lib.hid (show 0 ≤ 1000 from by decide)
        have hE7 := hP6.done hR6 (items_nil w6) (fun b o e => by cases e) (items_nil w6) (fun b o e => by cases e)
        clear hP6 hR6 hV6 hb6 k6
        obtain ⟨w7, hw7⟩ : ∃ w7, w7 = (w6.setCell ⟨B, 0, none⟩ (.int .u64 (nw : Int))).setCell ⟨B, 1, none⟩ (.slice p6 T7.length c6) := ⟨_, rfl⟩
        rw [← hw7] at hE7
        have HE7 := Lib.hid hE7
        clear hE7
        go_upto_region 17 with fail
        rw [← hw7]
        clear hw7 e0 e1 e2 e3 f0 f1 f2
        have hE7 := HE7.out
        obtain ⟨cB, hcB⟩ : ∃ cB, cB = c6 := ⟨_, rfl⟩
        obtain ⟨pB, hpB⟩ : ∃ pB, pB = p6 := ⟨_, rfl⟩
        rw [← hcB, ← hpB] at hE7 ⊢
        clear hcB hpB HE7
        obtain ⟨b, hb⟩ : ∃ b, hasW T7 i = b := ⟨_, rfl⟩
        obtain ⟨Q, q7, qd, qc, kB, kE, kS, kH, kF, kJ⟩ := hE7.kit HT7.out.1 HT7.out.2 (by omega) HT7N.out HT.out.2.2.1 hb
        have H7 := Lib.hid (And.intro q7 (And.intro qd (And.intro qc kJ)))
        have KB := Lib.hid kB
        have KE := Lib.hid kE
        have KS := Lib.hid kS
        have KH := Lib.hid kH
        have KF := Lib.hid kF
        have s7 := qc _ q7
        clear q7 qd qc kB kE kS kH kF kJ hE7 hb
        cases b
        all_goals
          go_region_held3 (fun W => W.cell? ⟨B, 0, none⟩ = some (.int .u64 (nw : Int)) ∧ W.cell? ⟨B, 1, none⟩ = some (.slice pB T7.length cB) ∧ W.cell? ⟨Bo, 1, none⟩ = some (.int .u64 (i : Int)))
            (first | exact s7 | exact s8 | exact s9 | exact s10 | exact s11 | exact s12)
            (first
              | (go_at_call 22; (with_reducible refine (KB.out _ (by first | exact H7.out.1 | exact H7.out.2.1 _ H7.out.1)).mono ?_); rintro r w8 ⟨q8, cq8, rfl, hI8, hQ8⟩; have s8 := H7.out.2.2.1 _ hQ8)
              | (go_at_call 21; (with_reducible refine (KE.out _ _ _ hQ8 hI8).mono ?_); rintro r w9 ⟨rfl, hQ9⟩; have s9 := H7.out.2.2.1 _ hQ9)
              | (go_at_call 28; (with_reducible refine (KS.out _ hQ9).mono ?_); rintro r w10 ⟨rfl, hQ10⟩; have s10 := H7.out.2.2.1 _ hQ10)
              | (go_at_call 25; (with_reducible refine (KH.out _ hQ10).mono ?_); rintro r w11 ⟨rfl, hQ11⟩; have s11 := H7.out.2.2.1 _ hQ11)
              | (go_at_call 29; (with_reducible refine (KF.out _ hQ11).mono ?_); rintro r w12 ⟨x12, rfl, hx12, hQ12⟩; have s12 := H7.out.2.2.1 _ hQ12; simp only [Bool.false_eq_true, iff_false, iff_true] at hx12))
          all_goals
            have HJ12 := Lib.hid (H7.out.2.2.2 _ hQ12)
            clear s7 s8 s9 s10 s11 s12 hQ8 hQ9 hQ10 hQ11 hQ12 hI8
            go_wp2
            go_roundw
            case rel => exact ⟨j + 1, by omega, by go_num, HJ12⟩
            case measure => simp [intOf]; omega
      · obtain ⟨T7, hT7⟩ : ∃ x, x = advT nw a T := ⟨_, rfl⟩
        obtain ⟨D, hD⟩ : ∃ x, x = advD nw a T := ⟨_, rfl⟩
        obtain ⟨nw7, hnw7⟩ : ∃ x, x = advN nw a := ⟨_, rfl⟩
        obtain ⟨cd, hcd⟩ : ∃ x, x = advC nw a := ⟨_, rfl⟩
        have HS := Lib.hid (HP1.out.adv (by have := HT.out.2.1; omega) a HT.out.2.2.2 hcd.symm hD.symm hT7.symm hnw7.symm)
        have HT8 := Lib.hid (And.intro hcd (And.intro hT7 (And.intro hD hnw7)))
        clear hcd hT7 hD hnw7
        go_wp2_with fail
        refine HS.out.mono ?_
        rintro r w2 ⟨pg, cg, Z2, rfl, hI2, hx2, hP2⟩
        obtain ⟨px, cx, kx, hV2, _⟩ := hP2.lp.ref
        obtain ⟨x0, x1, _, _⟩ := cells_of2 kx
        obtain ⟨y0, y1, y2⟩ := cells_of3 hP2.ho
        have HC := Lib.hid (radv16_any _ nw T _ a w2 hV2 HT.out.1.srt (by have := HT.out.2.1; omega) HT.out.2.2.2 nw7 HT8.out.2.2.2 T7 HT8.out.2.1 D HT8.out.2.2.1 cd HT8.out.1)
        have HP2 := Lib.hid hP2
        have HI2 := Lib.hid (And.intro hI2 hx2)
        clear hP2 kx hV2 d0 d1 d2 hI2 hx2
        go_wp2_with fail
        refine HC.out.mono ?_
        rintro r w6 ⟨v6, pp, cc, rfl, hV6, hrow, hb6⟩
        obtain ⟨p6, c6, Z6, rfl, hXZ, hP6, hR6⟩ := HP2.out.got hb6 hV6
        obtain ⟨p0, c0, k6, _, _⟩ := hP6.lp.ref
        obtain ⟨e0, e1, e2, e3⟩ := cells_of2 k6
        obtain ⟨f0, f1, f2⟩ := cells_of3 hP6.ho
        have HT7 := Lib.hid (And.intro (show TimW T7 from hP6.lp.wh.tim) (show T7.length ≤ j + 1 from by
          have h5 := HT.out.2.1
          rw [HT8.out.2.1]
          unfold advT
          split
          · exact Nat.le_trans (List.length_filter_le _ _) (by omega)
          · omega))
        have HT7N := Lib.hid (show D.length ≤ 1000 from by
          have h5 := HT.out.2.1
          rw [HT8.out.2.2.1]
          unfold advD
          split
          · exact Nat.le_trans (List.length_filter_le _ _) (by omega)
          · exact Nat.zero_le _)
        have hE7 := hP6.done hR6 (HI2.out.1.below hb6) (fun b o e => ⟨hXZ b (HI2.out.2 b o e).1, (HI2.out.2 b o e).2⟩) hrow.items (fun b o e => ⟨hXZ b (hrow.mem b o e).1.1, (hrow.mem b o e).1.2⟩)
        clear hP6 hR6 hV6 hb6 k6 hrow hXZ
        obtain ⟨w7, hw7⟩ : ∃ w7, w7 = (w6.setCell ⟨B, 0, none⟩ (.int .u64 (nw7 : Int))).setCell ⟨B, 1, none⟩ (.slice p6 T7.length c6) := ⟨_, rfl⟩
        rw [← hw7] at hE7
        have HE7 := Lib.hid hE7
        clear hE7
        go_upto_region 17 with fail
        rw [← hw7]
        clear hw7 e0 e1 e2 e3 f0 f1 f2
        have hE7 := HE7.out
        obtain ⟨cB, hcB⟩ : ∃ cB, cB = c6 := ⟨_, rfl⟩
        obtain ⟨pB, hpB⟩ : ∃ pB, pB = p6 := ⟨_, rfl⟩
        rw [← hcB, ← hpB] at hE7 ⊢
        clear hcB hpB HE7
        obtain ⟨b, hb⟩ : ∃ b, hasW T7 i = b := ⟨_, rfl⟩
        obtain ⟨Q, q7, qd, qc, kB, kE, kS, kH, kF, kJ⟩ := hE7.kit HT7.out.1 HT7.out.2 (by omega) HT7N.out HT.out.2.2.1 hb
        have H7 := Lib.hid (And.intro q7 (And.intro qd (And.intro qc kJ)))
        have KB := Lib.hid kB
        have KE := Lib.hid kE
        have KS := Lib.hid kS
        have KH := Lib.hid kH
        have KF := Lib.hid kF
        have s7 := qc _ q7
        clear q7 qd qc kB kE kS kH kF kJ hE7 hb
        cases b
        all_goals
          go_region_held3 (fun W => W.cell? ⟨B, 0, none⟩ = some (.int .u64 (nw7 : Int)) ∧ W.cell? ⟨B, 1, none⟩ = some (.slice pB T7.length cB) ∧ W.cell? ⟨Bo, 1, none⟩ = some (.int .u64 (i : Int)))
            (first | exact s7 | exact s8 | exact s9 | exact s10 | exact s11 | exact s12)
            (first
              | (go_at_call 22; (with_reducible refine (KB.out _ (by first | exact H7.out.1 | exact H7.out.2.1 _ H7.out.1)).mono ?_); rintro r w8 ⟨q8, cq8, rfl, hI8, hQ8⟩; have s8 := H7.out.2.2.1 _ hQ8)
              | (go_at_call 21; (with_reducible refine (KE.out _ _ _ hQ8 hI8).mono ?_); rintro r w9 ⟨rfl, hQ9⟩; have s9 := H7.out.2.2.1 _ hQ9)
              | (go_at_call 28; (with_reducible refine (KS.out _ hQ9).mono ?_); rintro r w10 ⟨rfl, hQ10⟩; have s10 := H7.out.2.2.1 _ hQ10)
              | (go_at_call 25; (with_reducible refine (KH.out _ hQ10).mono ?_); rintro r w11 ⟨rfl, hQ11⟩; have s11 := H7.out.2.2.1 _ hQ11)
              | (go_at_call 29; (with_reducible refine (KF.out _ hQ11).mono ?_); rintro r w12 ⟨x12, rfl, hx12, hQ12⟩; have s12 := H7.out.2.2.1 _ hQ12; simp only [Bool.false_eq_true, iff_false, iff_true] at hx12))
          all_goals
            have HJ12 := Lib.hid (H7.out.2.2.2 _ hQ12)
            clear s7 s8 s9 s10 s11 s12 hQ8 hQ9 hQ10 hQ11 hQ12 hI8
            go_wp2
            go_roundw
            case rel => exact ⟨j + 1, by omega, by go_num, HJ12⟩
            case measure => simp [intOf]; omega
    · have hji : ¬ (j : Int) < (n : Int) := by omega
      obtain ⟨nw, T, X, hP, hT, hTl, hxR, hhR⟩ := HJ.out
      obtain ⟨pp, cc, k0, _, _⟩ := hP.ref
      obtain ⟨b0, b1, _, _⟩ := cells_of2 k0
      obtain ⟨c0, c1, c2, c3⟩ := cells_of2 hhR
      have HhR := Lib.hid hhR
      have Hend := Lib.hid (show ∀ u v, Below w0.heap.size w0 ((wr.setCell ⟨R, 0, none⟩ u).setCell ⟨R, 1, none⟩ v) from fun u v => (hP.base.setCell (show w0.heap.size ≤ R from HRw.out) _).setCell (show w0.heap.size ≤ R from HRw.out) _)
      clear hP hT hTl hxR hhR k0 HJ
      go_wp2
      refine bodyPost_ret (res_ct rfl _ _ R _ _ _ _ rfl (put2 (w := wr) HhR.out) Try.underlying29 rfl (infoW _ _)) rfl ?_
      first | exact ⟨⟨_, _, _, _, rfl⟩, Hend.out _ _⟩ | exact ⟨_, _, _, _, rfl, Hend.out _ _⟩ | exact ⟨⟨_, rfl⟩, ⟨_, _, _, rfl⟩, Hend.out _ _⟩
end Go.Proofs.Ythidinaflaogfaa
