/- The law LevelNil walked, where there is no level. -/
import Derived.Test.YtfahongfokbhbaaLvNil
import Derived.Deep.RegionLaw
namespace Go.Proofs.Ytfahongfokbhbaa
open Go.RowKit

theorem Chg.below {S : Nat → Prop} {w w' : World} {k : Nat} (h : Chg S w w') (hS : ∀ b, S b → k ≤ b) (hk : k ≤ w.heap.size) : Below k w w' :=
  ⟨h.os, h.tape, h.output, h.size, fun b hb => h.block b (Nat.lt_of_lt_of_le hb hk) (fun hs => absurd (hS b hs) (by omega))⟩

theorem Chg.cell {S : Nat → Prop} {w w' : World} (h : Chg S w w') {p : Addr} {v : Value} (hc : w.cell? p = some v) (hs : ¬ S p.block) : w'.cell? p = some v :=
  (World.cell?_of_block (h.block p.block (World.block_lt_of_cell? w p hc) hs)).trans hc

/-- What the last line compares. -/
theorem nil_same (k : Nat) (x : It) (s : Int) : (if isSlotB s = true then upd (fun _ => []) (slotN k x.2) [x] s.toNat else []) = [x].filter fun y => decide ((slotN k y.2 : Int) = s) := by
  have hl := slotN_lt k x.2
  cases hs : isSlotB s with
  | true =>
    obtain ⟨h0, h1⟩ := (isSlotB_iff s).1 hs
    obtain ⟨t, rfl⟩ := Int.eq_ofNat_of_zero_le h0
    rw [if_pos rfl, Int.toNat_natCast]
    unfold upd
    by_cases e : t = slotN k x.2
    · rw [if_pos e, List.filter_cons, if_pos (by rw [e]; simp)]
      rfl
    · rw [if_neg e, List.filter_cons, if_neg (by simp; omega)]
      rfl
  | false =>
    have hn : ¬ (0 ≤ s ∧ s < 64) := fun h => by rw [(isSlotB_iff s).2 h] at hs; cases hs
    rw [if_neg (by decide), List.filter_cons, if_neg (by simp; omega)]
    rfl

set_option maxRecDepth 100000 in
set_option maxHeartbeats 6400000 in
theorem levelNil_no (n : Int) (i a : Nat) (s : Int) (w : World) (hn : n < 0 ∨ 3 < n) (hl : -9223372036854775808 ≤ n) (hh : n < 9223372036854775808) :
    Calls Try.prog 7 #[.int .i64 n, .agg #[.int .u64 (i : Int), .int .u64 (a : Int)], .int .i64 s] w fun r w' => r = .returned (.bool true) ∧ Below w.heap.size w w' := by
  obtain ⟨w1, hw1⟩ : ∃ w1, w1 = w.alloc (.cells #[.int .u64 (i : Int), .int .u64 (a : Int)] 36) := ⟨_, rfl⟩
  have hb1 : Below w.heap.size w w1 := by rw [hw1]; exact (Below.refl _ _).alloc (Nat.le_refl _) _
  obtain ⟨d0, d1⟩ := box2 w (.int .u64 (i : Int)) (.int .u64 (a : Int)) 36
  rw [← hw1] at d0 d1
  have Hb1 := Lib.hid hb1
  have HN := Lib.hid (new_none n w1 hn)
  have HP := Lib.hid (fun W => nil_put i a W)
  have HR := Lib.hid (fun W => nil_remove i a W)
  have HT := Lib.hid (fun W => nil_take s W)
  have HF := Lib.hid (fun W => nil_first s W)
  have HC := Lib.hid (fun W => nil_count W)
  have HS := Lib.hid (fun W => nil_slot a W)
  have HI := Lib.hid (fun W => nil_fits a a W)
  have HB := Lib.hid (fun W => nil_start a s W)
  have HA := Lib.hid (fun W => alive_any W)
  clear hb1
  rcases hn with hn | hn
  · have hq1 : ¬ (0 : Int) ≤ n := by omega
    go_enter Try.func7, Try.ntmps7
    go_upto_region 1 with fail
    rw [← hw1]
    clear hw1
    go_wp2_with fail
    refine HN.out.mono ?_
    rintro r w2 ⟨rfl, rfl⟩
    go_wp2_with fail
    refine (HP.out _).mono ?_
    rintro r w3 ⟨rfl, hb3⟩
    have c0 := cell_below hb3 d0
    have c1 := cell_below hb3 d1
    have Hb3 := Lib.hid hb3
    clear d0 d1 hb3
    go_wp2_with fail
    refine (HR.out _).mono ?_
    rintro r w4 ⟨rfl, hb4⟩
    have d0 := cell_below hb4 c0
    have d1 := cell_below hb4 c1
    have Hb4 := Lib.hid (Hb3.out.trans (hb4.mono Hb3.out.size))
    clear c0 c1 hb4
    go_wp2_with fail
    refine (HT.out _).mono ?_
    rintro r w5 ⟨rfl, rfl⟩
    go_wp2_with fail
    refine (HF.out _).mono ?_
    rintro r w5 ⟨rfl, rfl⟩
    go_wp2_with fail
    refine (HC.out _).mono ?_
    rintro r w5 ⟨rfl, rfl⟩
    go_wp2_with fail
    refine (HS.out _).mono ?_
    rintro r w5 ⟨rfl, rfl⟩
    go_wp2_with fail
    refine (HI.out _).mono ?_
    rintro r w5 ⟨rfl, rfl⟩
    go_wp2_with fail
    refine (HB.out _).mono ?_
    rintro r w5 ⟨rfl, rfl⟩
    go_wp2_with fail
    refine (HA.out _).mono ?_
    rintro r w6 ⟨rfl, hb6⟩
    have Hb6 := Lib.hid (Hb1.out.trans ((Hb4.out.trans (hb6.mono Hb4.out.size)).mono Hb1.out.size))
    clear hb6
    go_wp2
    go_ret
    exact ⟨rfl, Hb6.out⟩
  · have hq1 : (0 : Int) ≤ n := by omega
    have hq2 : ¬ n ≤ (3 : Int) := by omega
    go_enter Try.func7, Try.ntmps7
    go_upto_region 1 with fail
    rw [← hw1]
    clear hw1
    go_wp2_with fail
    refine HN.out.mono ?_
    rintro r w2 ⟨rfl, rfl⟩
    go_wp2_with fail
    refine (HP.out _).mono ?_
    rintro r w3 ⟨rfl, hb3⟩
    have c0 := cell_below hb3 d0
    have c1 := cell_below hb3 d1
    have Hb3 := Lib.hid hb3
    clear d0 d1 hb3
    go_wp2_with fail
    refine (HR.out _).mono ?_
    rintro r w4 ⟨rfl, hb4⟩
    have d0 := cell_below hb4 c0
    have d1 := cell_below hb4 c1
    have Hb4 := Lib.hid (Hb3.out.trans (hb4.mono Hb3.out.size))
    clear c0 c1 hb4
    go_wp2_with fail
    refine (HT.out _).mono ?_
    rintro r w5 ⟨rfl, rfl⟩
    go_wp2_with fail
    refine (HF.out _).mono ?_
    rintro r w5 ⟨rfl, rfl⟩
    go_wp2_with fail
    refine (HC.out _).mono ?_
    rintro r w5 ⟨rfl, rfl⟩
    go_wp2_with fail
    refine (HS.out _).mono ?_
    rintro r w5 ⟨rfl, rfl⟩
    go_wp2_with fail
    refine (HI.out _).mono ?_
    rintro r w5 ⟨rfl, rfl⟩
    go_wp2_with fail
    refine (HB.out _).mono ?_
    rintro r w5 ⟨rfl, rfl⟩
    go_wp2_with fail
    refine (HA.out _).mono ?_
    rintro r w6 ⟨rfl, hb6⟩
    have Hb6 := Lib.hid (Hb1.out.trans ((Hb4.out.trans (hb6.mono Hb4.out.size)).mono Hb1.out.size))
    clear hb6
    go_wp2
    go_ret
    exact ⟨rfl, Hb6.out⟩
end Go.Proofs.Ytfahongfokbhbaa
