/- The walk of the statement FrameFollows: it returns true whatever the records and the bytes behind them are. -/
import Derived.Test.YtmebffmdfnnbmaaFrameJoins
import Derived.Test.YtmebffmdfnnbmaaFrConcat
import Derived.Test.YtmebffmdfnnbmaaFrRSplit
import Derived.Test.YtmebffmdfnnbmaaConcat
namespace Go.Proofs.Ytmebffmdfnnbmaa
open Go.RowKit Crc

set_option maxRecDepth 100000 in
set_option maxHeartbeats 1600000 in
theorem frameFollows_any (a a2 : Option Addr) (n cap n2 cap2 : Nat) (ls : List (List Nat)) (more : List Nat) (w : World) (hl : Parts w a n cap ls) (hm : Bytes w a2 n2 cap2 more) (hf : Formed a2 cap2) :
    Calls Try.prog 6 #[.slice a n cap, .slice a2 n2 cap2] w fun e w' => e = .returned (.bool true) ∧ Below w.heap.size w w' := by
  have HP := Lib.hid hl
  have HM := Lib.hid hm
  have Hf := Lib.hid hf
  have hnb := hm.max
  clear hl hm hf
  have HFew := Lib.hid (fewF_any a n cap ls w HP.out)
  go_enter Try.func6, Try.ntmps6
  go_wp2_with fail
  refine HFew.out.mono ?_
  rintro e w' ⟨⟨b, rfl, hb⟩, rfl⟩
  have Hb := Lib.hid hb
  clear hb HFew
  cases b
  · go_wp2_with fail
    refine (falive_any _).mono ?_
    rintro e w1 ⟨rfl, hb1⟩
    go_wp2
    go_ret
    exact ⟨rfl, hb1⟩
  · obtain ⟨hz, hr⟩ := few_bounds (Hb.out rfl)
    by_cases h5 : n2 ≤ 500
    · have h51 : (n2 : Int) ≤ 500 := by omega
      have h60 : n ≤ 60 := by have := (Hb.out rfl).2; rw [HP.out.len] at this; exact this
      have hjl := joinL_len ls
      have HJ := Lib.hid (rjoin_any a n cap ls w HP.out hr (by omega))
      have Hr := Lib.hid hr
      have Hby := Lib.hid (joinL_byte HP.out.byte hr)
      have Hjl := Lib.hid hjl
      clear hjl
      go_wp2_with fail
      refine HJ.out.mono ?_
      rintro e w1 ⟨v, rfl, hown, hb1⟩
      rw [Hjl.out] at hown
      obtain ⟨p1, c1, rfl, hC⟩ := own_slice hown Hby.out
      have HC1 := Lib.hid hC
      have Hw1 := Lib.hid hb1
      generalize hzz : sizeL ls = z at *
      have Hzz := Lib.hid hzz
      have HT := Lib.hid (concat_any _ 2 2 [joinL ls, more] _ (parts_two hC (HM.out.grow hb1) 25 rfl) (by simp only [List.flatten_cons, List.flatten_nil, List.append_nil, List.length_append, hC.len, HM.out.len]; omega))
      have hfl : [joinL ls, more].flatten = joinL ls ++ more := by simp
      rw [hfl] at HT
      have hfll : (joinL ls ++ more).length = z + n2 := by rw [List.length_append, hC.len, HM.out.len]
      have Hfll := Lib.hid hfll
      clear hown hC hb1 HJ hr hzz hfl hfll
      go_wp2_with fail
      refine HT.out.mono ?_
      rintro e w2 ⟨v, rfl, hown, hb2⟩
      obtain ⟨p2, c2, rfl, hC⟩ := own_slice hown (fun y hy => by
        rcases List.mem_append.1 hy with hy | hy
        · exact Hby.out y hy
        · exact HM.out.byte y hy)
      rw [Hfll.out] at hC ⊢
      have Hw2 := Lib.hid (Hw1.out.trans ((below_call hb2).mono Hw1.out.size))
      have HS2 := Lib.hid (split_any p2 (z + n2) c2 (joinL ls ++ more) w2 hC (by omega))
      clear hown hb2 HT hC
      go_wp2_with fail
      refine HS2.out.mono ?_
      rintro e w3 ⟨xs, t, v, hS, rfl, hown, hb3⟩
      obtain ⟨p3, c3, rfl, hP3⟩ := hown.parts
      have Hw3 := Lib.hid (Hw2.out.trans (hb3.mono Hw2.out.size))
      have HP3 := Lib.hid hP3
      have HS := Lib.hid hS
      have HT4 := Lib.hid (rsplit_any a2 n2 cap2 more w3 (HM.out.grow Hw3.out) Hf.out (by omega))
      clear hown hb3 hP3 HS2 hS
      go_wp2_with fail
      refine HT4.out.mono ?_
      rintro e w4 ⟨ys, t', v, hS', rfl, hown, hb4⟩
      obtain ⟨e1, ht⟩ := splits_uniq HS.out (splits_follow ls Hr.out hS')
      subst e1
      obtain ⟨p4, c4, rfl, hP4⟩ := hown.parts
      have hyl : ys.length ≤ n2 := by
        have h1 := joinL_many ys
        have h2 := congrArg List.length hS'.eq
        rw [List.length_append, HM.out.len] at h2
        omega
      have hsz : sizeL (ls ++ ys) = z + sizeL ys := by rw [sizeL_append, Hzz.out]
      have hlen : (ls ++ ys).length = n + ys.length := by rw [List.length_append, HP.out.len]
      have hyb : sizeL ys ≤ 500 := by
        have h2 := congrArg List.length hS'.eq
        rw [List.length_append, HM.out.len, joinL_len] at h2
        omega
      have Hw4 := Lib.hid (Hw3.out.trans (hb4.mono Hw3.out.size))
      have HP3 := Lib.hid (show Parts w4 p3 (n + ys.length) c3 (ls ++ ys) by have h := HP3.out.grow hb4; rw [hlen] at h; exact h)
      have HP4 := Lib.hid hP4
      rw [hsz, hlen]
      clear ht hown hP4 hb4 HT4 hS' HS hsz hlen
      generalize sizeL ys = zy at *
      generalize hyy : ys.length = ny at *
      have Hyy := Lib.hid hyy
      clear hyy
      go_wp2_with fail
      refine (falive_any _).mono ?_
      rintro e w5 ⟨rfl, hb5⟩
      have Hw5 := Lib.hid (Hw4.out.trans (hb5.mono Hw4.out.size))
      have HP3 := Lib.hid (HP3.out.grow hb5)
      have HP4 := Lib.hid (HP4.out.grow hb5)
      have HPl := Lib.hid (HP.out.grow Hw5.out)
      clear hb5
      have ha6 : Below w5.heap.size w5 (w5.alloc (.cells #[.slice a n cap, .slice p4 ny c4] 22)) := (Below.refl _ _).alloc (Nat.le_refl _) _
      have HQ := Lib.hid (concatRows_any w5.heap.size a p4 n cap ny c4 ls ys (w5.alloc (.cells #[.slice a n cap, .slice p4 ny c4] 22)) (by rw [cell_of_row _ _ _ _ _ (0, 0) (heap_alloc_new _ _)]; rfl) (by rw [cell_of_row _ _ _ _ _ (0, 0) (heap_alloc_new _ _)]; rfl) (HPl.out.grow ha6) (HP4.out.grow ha6) (by omega))
      have HP3 := Lib.hid (HP3.out.grow ha6)
      have Hw6 := Lib.hid (Hw5.out.trans (ha6.mono Hw5.out.size))
      clear ha6
      go_wp2_with fail
      refine HQ.out.mono ?_
      rintro e w7 ⟨v, rfl, hown, hb7⟩
      obtain ⟨p7, c7, rfl, hP7⟩ := hown.parts
      have hlen : (ls ++ ys).length = n + ny := by rw [List.length_append, HP.out.len, Hyy.out]
      rw [hlen] at hP7 ⊢
      have Hw7 := Lib.hid (Hw6.out.trans (hb7.mono Hw6.out.size))
      have HZ := Lib.hid (same_yes p3 p7 (n + ny) c3 c7 (ls ++ ys) w7 (HP3.out.grow hb7) hP7)
      clear hown hP7 hlen hb7 HQ
      go_wp2_with fail
      refine HZ.out.mono ?_
      rintro e w8 ⟨rfl, q, rfl⟩
      go_wp2
      go_ret
      exact ⟨rfl, below_drewN Hw7.out q⟩
    · have h51 : (500 : Int) < n2 := by omega
      go_wp2_with fail
      refine (falive_any _).mono ?_
      rintro e w1 ⟨rfl, hb1⟩
      go_wp2
      go_ret
      exact ⟨rfl, hb1⟩
end Go.Proofs.Ytmebffmdfnnbmaa
