/- The law LevelNil walked. -/
import Derived.Test.YtfahongfokbhbaaLvNilNo
namespace Go.Proofs.Ytfahongfokbhbaa
open Go.RowKit

set_option maxRecDepth 100000 in
set_option maxHeartbeats 12800000 in
theorem levelNil_yes (k : Nat) (i a : Nat) (s : Int) (w : World) (hk : k < 4) (ha : a < 18446744073709551616) :
    Calls Try.prog 7 #[.int .i64 (k : Int), .agg #[.int .u64 (i : Int), .int .u64 (a : Int)], .int .i64 s] w fun r w' => r = .returned (.bool true) ∧ Below w.heap.size w w' := by
  obtain ⟨w1, hw1⟩ : ∃ w1, w1 = w.alloc (.cells #[.int .u64 (i : Int), .int .u64 (a : Int)] 36) := ⟨_, rfl⟩
  have hb1 : Below w.heap.size w w1 := by rw [hw1]; exact (Below.refl _ _).alloc (Nat.le_refl _) _
  obtain ⟨d0, d1⟩ := box2 w (.int .u64 (i : Int)) (.int .u64 (a : Int)) 36
  rw [← hw1] at d0 d1
  have hs1 : w1.heap.size = w.heap.size + 1 := by rw [hw1]; simp
  have HN := Lib.hid (new_any k w1 hk)
  have hL := lv_new k w1
  have hb2 : Below w1.heap.size w1 (w1.alloc (.cells (lvC k nil64) 60)) := (Below.refl _ _).alloc (Nat.le_refl _) _
  obtain ⟨w2, hw2⟩ : ∃ w2, w2 = w1.alloc (.cells (lvC k nil64) 60) := ⟨_, rfl⟩
  rw [← hw2] at hL hb2 HN
  obtain ⟨D, hD⟩ : ∃ D, D = w1.heap.size := ⟨_, rfl⟩
  rw [← hD] at hL HN
  have HL := Lib.hid hL
  have Hb1 := Lib.hid hb1
  have Hb2 := Lib.hid (hb1.trans (hb2.mono hb1.size))
  have HDN := Lib.hid (show w.heap.size < D from by omega)
  have e0 := cell_below hb2 d0
  have e1 := cell_below hb2 d1
  have HP := Lib.hid (fun W => nil_put i a W)
  have HR := Lib.hid (fun W => nil_remove i a W)
  have HT := Lib.hid (fun W => nil_take s W)
  have HF := Lib.hid (fun W => nil_first s W)
  have HC := Lib.hid (fun W => nil_count W)
  have HS := Lib.hid (fun W => nil_slot a W)
  have HI := Lib.hid (fun W => nil_fits a a W)
  have HB := Lib.hid (fun W => nil_start a s W)
  have HA := Lib.hid (fun W => alive_any W)
  have hq1 : (0 : Int) ≤ (k : Int) := by omega
  have hq2 : (k : Int) ≤ (3 : Int) := by omega
  have HPut := Lib.hid (fun W hW => put_any (HL.out.below (w' := W) hW) hk (i, a) ha 0 (Nat.zero_le _) (Nat.zero_le _) (fun j y h => by simp at h) true rfl)
  have Hsame := Lib.hid (nil_same k (i, a) s)
  have Hof := Lib.hid (fun p n c W h => of_any k p n c [(i, a)] s W hk h)
  clear hb1 hb2 hL hs1
  go_enter Try.func7, Try.ntmps7
  go_upto_region 1 with fail
  rw [← hw1]
  clear hw1 hw2 hD
  go_wp2_with fail
  refine HN.out.mono ?_
  rintro r w2' ⟨rfl, rfl⟩
  clear d0 d1
  have d0 := e0
  have d1 := e1
  clear e0 e1
  go_wp2_with fail
  refine (HP.out _).mono ?_
  rintro r w3 ⟨rfl, hb3⟩
  have c0 := cell_below hb3 d0
  have c1 := cell_below hb3 d1
  have Hb3 := Lib.hid hb3
  clear d0 d1 hb3
  go_wp2_with fail
  refine (HR.out _).mono ?_
  rintro r w4 ⟨rfl, hb4⟩
  have d0 := cell_below hb4 c0
  have d1 := cell_below hb4 c1
  have Hb4 := Lib.hid (Hb3.out.trans (hb4.mono Hb3.out.size))
  clear c0 c1 hb4
  go_wp2_with fail
  refine (HT.out _).mono ?_
  rintro r w5 ⟨rfl, rfl⟩
  go_wp2_with fail
  refine (HF.out _).mono ?_
  rintro r w5 ⟨rfl, rfl⟩
  go_wp2_with fail
  refine (HC.out _).mono ?_
  rintro r w5 ⟨rfl, rfl⟩
  go_wp2_with fail
  refine (HS.out _).mono ?_
  rintro r w5 ⟨rfl, rfl⟩
  go_wp2_with fail
  refine (HI.out _).mono ?_
  rintro r w5 ⟨rfl, rfl⟩
  go_wp2_with fail
  refine (HB.out _).mono ?_
  rintro r w5 ⟨rfl, rfl⟩
  go_wp2_with fail
  refine (HPut.out _ Hb4.out).mono ?_
  rintro r w6 ⟨rfl, S6, V6, hL6, hS6, hc6⟩
  rw [if_pos trivial] at hL6
  change LvAt S6 w6 D k V6 (upd (fun _ => []) (slotN k a) [(i, a)]) at hL6
  have k0 := hc6.cell d0 (by show ¬ w.heap.size = D; have := HDN.out; omega)
  have k1 := hc6.cell d1 (by show ¬ w.heap.size = D; have := HDN.out; omega)
  have hSD : ∀ b, S6 b → w.heap.size < b := fun b hb => by
    have h1 := HDN.out
    rcases hS6 b hb with h2 | h2
    · have h3 : b = D := h2
      omega
    · have := Hb4.out.size; have := Hb2.out.size; have := (Array.getElem?_eq_some_iff.1 HL.out.head).1; omega
  have hb6 := hc6.below (k := w.heap.size) (fun b hb => by have h1 := HDN.out; have h3 : b = D := hb; omega) (Nat.le_trans Hb2.out.size Hb4.out.size)
  have Hb6 := Lib.hid ((Hb2.out.trans (Hb4.out.mono Hb2.out.size)).trans hb6)
  have Hs6 := Lib.hid (Nat.le_trans (Nat.le_trans Hb2.out.size Hb4.out.size) hc6.size)
  have HTk := Lib.hid (take_all hL6 s)
  have HSD := Lib.hid hSD
  have hk6 : w.heap.size < w6.heap.size := World.block_lt_of_cell? _ _ k0
  have Hk6 := Lib.hid hk6
  clear d0 d1 hL6 hS6 hc6 hSD hb6 hk6
  go_wp2_with fail
  refine HTk.out.mono ?_
  rintro r w7 ⟨p, n, c, rfl, hI7, S7, V7, _, _, hc7⟩
  have hsame := Hsame.out
  change (if isSlotB s = true then upd (fun _ => []) (slotN k a) [(i, a)] s.toNat else []) = _ at hsame
  rw [hsame] at hI7
  have d0 := hc7.cell k0 (fun h => absurd (HSD.out _ h) (Nat.lt_irrefl _))
  have d1 := hc7.cell k1 (fun h => absurd (HSD.out _ h) (Nat.lt_irrefl _))
  have hb7 := hc7.below (k := w.heap.size) (fun b hb => Nat.le_of_lt (HSD.out b hb)) Hs6.out
  have Hb7 := Lib.hid (Hb6.out.trans hb7)
  have Hs7 := Lib.hid (Nat.le_trans Hs6.out hc7.size)
  have hn7 : n ≤ 1000 := by
    have h1 := hI7.len
    have h2 := List.length_filter_le (fun y : It => decide ((slotN k y.2 : Int) = s)) [(i, a)]
    rw [h1] at h2
    simp at h2
    omega
  generalize [(i, a)].filter (fun y : It => decide ((slotN k y.2 : Int) = s)) = L at *
  have HI7 := Lib.hid hI7
  have HBk := Lib.hid (fun W hW => back_any p n c L W (hI7.below (w' := W) hW) hn7)
  have HD7 := Lib.hid (And.intro d0 d1)
  clear k0 k1 hI7 hb7 hsame hc7
  go_wp2_with fail
  go_upto_region 9 with fail
  have HEq := Lib.hid (fun p p' c c' W h h' => (equal_any p p' n n c c' L L W h h').mono (R' := fun r w' => r = .returned (.bool true) ∧ Below W.heap.size W w') (by rintro r w' ⟨e, hb⟩; exact ⟨by rw [e, decide_eq_true rfl], hb⟩))
  have Hln := Lib.hid HI7.out.len
  have Hof1 := Lib.hid (fun b c W h => Hof.out (some ⟨b, 0, none⟩) 1 c W h (by decide) (fun y hy => by rw [List.mem_singleton.1 hy]; exact ha))
  clear HI7
  go_region_law (first
    | (go_simp; go_at_call 15; (with_reducible refine (HA.out _).mono ?_); rintro r wA ⟨rfl, hbA⟩; have hA7 := (Below.refl w7.heap.size w7).drew.trans (hbA.mono (Nat.le_refl _)); have cA0 := cell_below hA7 HD7.out.1; have cA1 := cell_below hA7 HD7.out.2)
    | (go_simp; go_at_call 23;
        (first
          | ((with_reducible refine (HBk.out wA hA7).mono ?_); rintro r wB ⟨vB, rfl, hownB, hbB⟩; obtain ⟨pB, cB, rfl, hIB⟩ := hownB.items Hln.out; have hB7 := hA7.trans (hbB.mono hA7.size); have cB0 := cell_below hbB cA0; have cB1 := cell_below hbB cA1)
          | ((with_reducible refine (HBk.out (wA.alloc (.cells #[.int .u64 (i : Int), .int .u64 (a : Int)] 36)) (hA7.alloc hA7.size _)).mono ?_); rintro r wB ⟨vB, rfl, hownB, hbB⟩; obtain ⟨pB, cB, rfl, hIB⟩ := hownB.items Hln.out; have hB7 := (hA7.alloc hA7.size (.cells #[.int .u64 (i : Int), .int .u64 (a : Int)] 36)).trans (hbB.mono (hA7.alloc hA7.size (.cells #[.int .u64 (i : Int), .int .u64 (a : Int)] 36)).size); have xB0 := cell_below hbB (box2 wA _ _ _).1; have xB1 := cell_below hbB (box2 wA _ _ _).2)))
    | (go_simp; go_at_call 21;
        (first
          | ((with_reducible refine (Hof1.out wA.heap.size 1 wB (items_one xB0 xB1)).mono ?_); rintro r wC ⟨vC, rfl, hownC, hbC⟩; obtain ⟨pC, cC, rfl, hIC⟩ := hownC.items Hln.out; have hIB' := hIB.below hbC; have hC7 := hB7.trans (hbC.mono hB7.size))
          | ((with_reducible refine (Hof1.out wB.heap.size 1 (wB.alloc (.cells #[.int .u64 (i : Int), .int .u64 (a : Int)] 36)) (items_one (box2 wB _ _ _).1 (box2 wB _ _ _).2)).mono ?_); rintro r wC ⟨vC, rfl, hownC, hbC⟩; obtain ⟨pC, cC, rfl, hIC⟩ := hownC.items Hln.out; have hIB' := (hIB.below ((Below.refl _ _).alloc (Nat.le_refl _) (.cells #[.int .u64 (i : Int), .int .u64 (a : Int)] 36))).below hbC; have hC7 := (hB7.alloc hB7.size (.cells #[.int .u64 (i : Int), .int .u64 (a : Int)] 36)).trans (hbC.mono (hB7.alloc hB7.size (.cells #[.int .u64 (i : Int), .int .u64 (a : Int)] 36)).size))))
    | (go_simp; go_at_call 22; (with_reducible refine (HEq.out _ _ _ _ _ hIB' hIC).mono ?_); rintro r wD ⟨rfl, hbD⟩; have hD7 := hC7.trans (hbD.mono hC7.size)))
  all_goals
    go_wp2
    go_ret
    exact ⟨rfl, Hb7.out.trans (hD7.mono Hb7.out.size)⟩

theorem levelNil_any (n : Int) (i a : Nat) (s : Int) (w : World) (hl : -9223372036854775808 ≤ n) (hh : n < 9223372036854775808) (ha : a < 18446744073709551616) :
    Calls Try.prog 7 #[.int .i64 n, .agg #[.int .u64 (i : Int), .int .u64 (a : Int)], .int .i64 s] w fun r w' => r = .returned (.bool true) ∧ Below w.heap.size w w' := by
  by_cases h : 0 ≤ n ∧ n ≤ 3
  · obtain ⟨k, rfl⟩ := Int.eq_ofNat_of_zero_le h.1
    exact levelNil_yes k i a s w (by omega) ha
  · exact levelNil_no n i a s w (by omega) hl hh
end Go.Proofs.Ytfahongfokbhbaa
