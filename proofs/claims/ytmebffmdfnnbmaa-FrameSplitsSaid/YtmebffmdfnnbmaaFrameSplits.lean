/- The walk of the statement FrameSplits: it returns true whatever the bytes are. -/
import Derived.Test.YtmebffmdfnnbmaaFrRSplit
import Derived.Test.YtmebffmdfnnbmaaFrSame
import Derived.Test.YtmebffmdfnnbmaaFrAlive
namespace Go.Proofs.Ytmebffmdfnnbmaa
open Go.RowKit Crc

set_option maxRecDepth 100000 in
set_option maxHeartbeats 1600000 in
theorem frameSplits_any (a : Option Addr) (n cap : Nat) (l : List Nat) (w : World) (hl : Bytes w a n cap l) (hf : Formed a cap) :
    Calls Try.prog 4 #[.slice a n cap] w fun e w' => e = .returned (.bool true) ∧ Below w.heap.size w w' := by
  have HB := Lib.hid hl
  have Hf := Lib.hid hf
  have hnb := hl.max
  clear hl hf
  by_cases hn : n ≤ 1500
  · have hn1 : (n : Int) ≤ 1500 := by omega
    have HN := Lib.hid (next_any a n cap l w HB.out (by omega))
    go_enter Try.func4, Try.ntmps4
    go_wp2_with fail
    refine HN.out.mono ?_
    rintro e w1 ⟨hb1, hc1⟩
    have hw1 : Below w.heap.size w w1 := hb1
    have h1 : ∃ p m cp r k, e = .returned (.tuple #[.slice p m cp, .int .i64 (k : Nat)]) ∧ Bytes w1 p m cp r ∧ ((∃ t, l = frameL r ++ t ∧ r.length ≤ 1048576 ∧ k = r.length + 8) ∨ (NoFrame l ∧ r = [] ∧ k = 0)) := by
      rcases hc1 with ⟨r, t, p, cp, hd, hrm, rfl, hBx, _⟩ | ⟨hno, rfl⟩
      · exact ⟨p, r.length, cp, r, r.length + 8, rfl, hBx, .inl ⟨t, hd, hrm, rfl⟩⟩
      · exact ⟨none, 0, 0, [], 0, rfl, bytes_nil _, .inr ⟨hno, rfl, rfl⟩⟩
    obtain ⟨p1, m1, c1, r1, k1, rfl, hX1, hk1⟩ := h1
    have HX1 := Lib.hid hX1
    have Hk1 := Lib.hid hk1
    have Hw1 := Lib.hid hw1
    have HN2 := Lib.hid (rnext_any a n cap l w1 (HB.out.grow hw1) (by omega))
    clear hc1 hb1 HN hX1 hk1 hw1
    go_wp2_with fail
    refine HN2.out.mono ?_
    rintro e w2 ⟨hb2, hc2⟩
    have h2 : ∃ p m cp r k, e = .returned (.tuple #[.slice p m cp, .int .i64 (k : Nat)]) ∧ Bytes w2 p m cp r ∧ ((∃ t, l = frameL r ++ t ∧ r.length ≤ 1048576 ∧ k = r.length + 8) ∨ (NoFrame l ∧ r = [] ∧ k = 0)) := by
      rcases hc2 with ⟨r, t, p, cp, hd, hrm, rfl, hBx, _⟩ | ⟨hno, rfl⟩
      · exact ⟨p, r.length, cp, r, r.length + 8, rfl, hBx, .inl ⟨t, hd, hrm, rfl⟩⟩
      · exact ⟨none, 0, 0, [], 0, rfl, bytes_nil _, .inr ⟨hno, rfl, rfl⟩⟩
    obtain ⟨p2, m2, c2, r2, k2, rfl, hX2, hk2⟩ := h2
    have hs : r1 = r2 ∧ k1 = k2 := by
      rcases Hk1.out with ⟨t, e1, e2, e3⟩ | ⟨e1, e2, e3⟩ <;> rcases hk2 with ⟨t', e1', e2', e3'⟩ | ⟨e1', e2', e3'⟩
      · obtain ⟨rfl, _⟩ := frame_uniq (e1.symm.trans e1')
        exact ⟨rfl, by omega⟩
      · exact absurd e1 (e1' _ _ e2)
      · exact absurd e1' (e1 _ _ e2')
      · exact ⟨by rw [e2, e2'], by omega⟩
    obtain ⟨rfl, rfl⟩ := hs
    have hX1 := HX1.out.grow hb2
    have hw2 := Hw1.out.trans (hb2.mono Hw1.out.size)
    have HX2 := Lib.hid hX2
    have HX1 := Lib.hid hX1
    have Hw2 := Lib.hid hw2
    have HN3 := Lib.hid (split_any a n cap l w2 (HB.out.grow hw2) (by omega))
    clear hc2 hX2 hk2 hX1 hb2 hw2 HN2 Hk1
    go_wp2_with fail
    refine HN3.out.mono ?_
    rintro e w3 ⟨ls, t, v, hS, rfl, hown, hb3⟩
    obtain ⟨p3, c3, rfl, hP3⟩ := hown.parts
    have hw3 := Hw2.out.trans (hb3.mono Hw2.out.size)
    have HX1 := Lib.hid (HX1.out.grow hb3)
    have HX2 := Lib.hid (HX2.out.grow hb3)
    have Hw3 := Lib.hid hw3
    have HP3 := Lib.hid hP3
    have HS := Lib.hid hS
    have HN4 := Lib.hid (rsplit_any a n cap l w3 (HB.out.grow hw3) Hf.out (by omega))
    clear hS hown hb3 hP3 hw3 HN3
    go_wp2_with fail
    refine HN4.out.mono ?_
    rintro e w4 ⟨ls', t', v, hS', rfl, hown, hb4⟩
    obtain ⟨rfl, rfl⟩ := splits_uniq HS.out hS'
    obtain ⟨p4, c4, rfl, hP4⟩ := hown.parts
    have hw4 := Hw3.out.trans (hb4.mono Hw3.out.size)
    have HX1 := Lib.hid (HX1.out.grow hb4)
    have HX2 := Lib.hid (HX2.out.grow hb4)
    have HP3 := Lib.hid (HP3.out.grow hb4)
    have HP4 := Lib.hid hP4
    have Hw4 := Lib.hid hw4
    clear hS' hown hb4 hP4 hw4 HN4 HS
    generalize sizeL ls = z at *
    generalize ls.length = y at *
    go_wp2_with fail
    refine (falive_any _).mono ?_
    rintro e w5 ⟨rfl, hb5⟩
    have Hw5 := Lib.hid (Hw4.out.trans (hb5.mono Hw4.out.size))
    have HE := Lib.hid (equal_yes p1 p2 m1 c1 m2 c2 r1 w5 (HX1.out.grow hb5) (HX2.out.grow hb5))
    have HP3 := Lib.hid (HP3.out.grow hb5)
    have HP4 := Lib.hid (HP4.out.grow hb5)
    clear hb5
    go_wp2_with fail
    refine HE.out.mono ?_
    rintro e w6 ⟨rfl, hb6⟩
    have Hw6 := Lib.hid (Hw5.out.trans (hb6.mono Hw5.out.size))
    have HQ := Lib.hid (same_yes p3 p4 y c3 c4 ls w6 (HP3.out.grow hb6) (HP4.out.grow hb6))
    clear hb6 HE
    go_wp2_with fail
    refine HQ.out.mono ?_
    rintro e w7 ⟨rfl, q, rfl⟩
    go_wp2
    go_ret
    exact ⟨rfl, below_drewN Hw6.out q⟩
  · have hn1 : (1500 : Int) < n := by omega
    go_enter Try.func4, Try.ntmps4
    go_wp2_with fail
    refine (falive_any _).mono ?_
    rintro e w1 ⟨rfl, hb1⟩
    go_wp2
    go_ret
    exact ⟨rfl, hb1⟩
end Go.Proofs.Ytmebffmdfnnbmaa
