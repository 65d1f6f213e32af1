/- The walk of the statement FrameJoins: it returns true whatever the records are. -/
import Derived.Test.YtmebffmdfnnbmaaFrSplit
import Derived.Test.YtmebffmdfnnbmaaFrJoin
import Derived.Test.YtmebffmdfnnbmaaFrSame
import Derived.Test.YtmebffmdfnnbmaaFrAlive
namespace Go.Proofs.Ytmebffmdfnnbmaa
open Go.RowKit Crc

theorem few_bounds {ls : List (List Nat)} (h : minsF ls ≤ 1500 ∧ ls.length ≤ 60) : sizeL ls ≤ 1980 ∧ ∀ r ∈ ls, r.length ≤ 1048576 := by
  obtain ⟨h1, h2⟩ := minsF_bound ls h.1
  exact ⟨by omega, h2⟩

set_option maxRecDepth 100000 in
set_option maxHeartbeats 1600000 in
theorem frameJoins_any (a : Option Addr) (n cap : Nat) (ls : List (List Nat)) (w : World) (hl : Parts w a n cap ls) :
    Calls Try.prog 3 #[.slice a n cap] w fun e w' => e = .returned (.bool true) ∧ Below w.heap.size w w' := by
  have HP := Lib.hid hl
  clear hl
  have HFew := Lib.hid (fewF_any a n cap ls w HP.out)
  go_enter Try.func3, Try.ntmps3
  go_wp2_with fail
  refine HFew.out.mono ?_
  rintro e w' ⟨⟨b, rfl, hb⟩, rfl⟩
  have Hb := Lib.hid hb
  clear hb HFew
  cases b
  · go_wp2_with fail
    refine (falive_any _).mono ?_
    rintro e w1 ⟨rfl, hb1⟩
    go_wp2
    go_ret
    exact ⟨rfl, hb1⟩
  · obtain ⟨hz, hr⟩ := few_bounds (Hb.out rfl)
    have hjl := joinL_len ls
    have Hjl := Lib.hid hjl
    have hz2 : (joinL ls).length ≤ 1980 := by omega
    have HJ := Lib.hid (join_any a n cap ls w HP.out hr (by omega))
    have HS := Lib.hid (splits_all ls hr)
    have Hr := Lib.hid hr
    have Hby := Lib.hid (joinL_byte HP.out.byte hr)
    clear hjl
    go_wp2_with fail
    refine HJ.out.mono ?_
    rintro e w1 ⟨v, rfl, hown, hb1⟩
    obtain ⟨p1, c1, rfl, hC⟩ := own_slice hown Hby.out
    have HC1 := Lib.hid hC
    have Hw1 := Lib.hid hb1
    have HJ2 := Lib.hid (rjoin_any a n cap ls w1 (HP.out.grow hb1) Hr.out (by omega))
    clear hown hC hb1 HJ hr
    go_wp2_with fail
    refine HJ2.out.mono ?_
    rintro e w2 ⟨v, rfl, hown, hb2⟩
    obtain ⟨p2, c2, rfl, hC⟩ := own_slice hown Hby.out
    have HC2 := Lib.hid hC
    have Hw2 := Lib.hid (Hw1.out.trans (hb2.mono Hw1.out.size))
    have HC1 := Lib.hid (HC1.out.grow hb2)
    have HT := Lib.hid (split_any p1 _ c1 (joinL ls) w2 HC1.out (by omega))
    clear hown hC hb2 HJ2
    go_wp2_with fail
    refine HT.out.mono ?_
    rintro e w3 ⟨ls', t, v, hS, rfl, hown, hb3⟩
    obtain ⟨rfl, ht⟩ := splits_uniq HS.out hS
    clear ht
    obtain ⟨p3, c3, rfl, hP3⟩ := hown.parts
    have hw3 := Hw2.out.trans (hb3.mono Hw2.out.size)
    have Hw3 := Lib.hid hw3
    have HC1 := Lib.hid (HC1.out.grow hb3)
    have HC2 := Lib.hid (HC2.out.grow hb3)
    have HP3 := Lib.hid hP3
    have hnl : ls.length = n := HP.out.len
    rw [hnl] at hP3 ⊢
    have HP3 := Lib.hid hP3
    clear hS hown hb3 hP3 hw3 HT HS
    have hjl := Hjl.out
    have HZ := Lib.hid (fun w hP => size_any a n cap ls w hP (by omega))
    rw [hjl]
    rw [hjl] at HC1 HC2
    clear hjl Hjl hz2
    generalize joinL ls = fl at *
    generalize sizeL ls = z at *
    go_wp2_with fail
    refine (falive_any _).mono ?_
    rintro e w4 ⟨rfl, hb4⟩
    have Hw4 := Lib.hid (Hw3.out.trans (hb4.mono Hw3.out.size))
    have HE := Lib.hid (equal_yes p1 p2 _ c1 _ c2 fl w4 (HC1.out.grow hb4) (HC2.out.grow hb4))
    have HP3 := Lib.hid (HP3.out.grow hb4)
    clear hb4
    go_wp2_with fail
    refine HE.out.mono ?_
    rintro e w5 ⟨rfl, hb5⟩
    have Hw5 := Lib.hid (Hw4.out.trans (hb5.mono Hw4.out.size))
    have HQ := Lib.hid (same_yes p3 a n c3 cap ls w5 (HP3.out.grow hb5) (HP.out.grow Hw5.out))
    clear hb5 HE
    go_wp2_with fail
    refine HQ.out.mono ?_
    rintro e w6 ⟨rfl, q, rfl⟩
    have Hw6 := Lib.hid (below_drewN Hw5.out q)
    have HZ := Lib.hid (HZ.out (w5.drewN q) (HP.out.grow Hw6.out))
    clear HQ
    go_wp2_with fail
    refine HZ.out.mono ?_
    rintro e w7 ⟨rfl, rfl⟩
    go_wp2
    go_ret
    exact ⟨rfl, Hw6.out⟩
end Go.Proofs.Ytmebffmdfnnbmaa
