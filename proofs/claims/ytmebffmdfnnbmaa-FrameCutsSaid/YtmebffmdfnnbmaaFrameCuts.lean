/- The walk of the statement FrameCuts: it returns true whatever the records and the cut are. -/
import Derived.Test.YtmebffmdfnnbmaaFrameJoins
import Derived.Test.YtmebffmdfnnbmaaFrSize
namespace Go.Proofs.Ytmebffmdfnnbmaa
open Go.RowKit Crc

/-- 'l[:k]' of a slice of byte slices. -/
theorem parts_to {a : Option Addr} {n c k : Nat} (hk : k ≤ n) (hn : n ≤ c) :
    ∃ a', (∀ (w : World) (kl : IntKind), (Instr.slice 22 (.slice a n c) none (some (.int kl (k : Int))) none).run Try.prog w = .ok (.slice a' k c) w) ∧ ∀ (w : World) (ls : List (List Nat)), Parts w a n c ls → Parts w a' k c (ls.take k) := by
  obtain ⟨i, hi, _, hsz, _⟩ := info_parts info_rows
  have hT' : Try.prog.underlying 22 = some (.slice (Try.prog.elem 22)) := by kernel_rfl
  have hE : Try.prog.elem 22 = 25 := by kernel_rfl
  have hsize : ∀ w : World, (sizeOf (Try.prog.elem 22)).run Try.prog w = .ok 1 w := fun w => by rw [hE]; simp [sizeOf, typeInfo, hi, hsz]
  refine ⟨if c = 0 then a else a.map (·.add (0 * 1)), fun w kl => ?_, fun w ls hl => ?_⟩
  · rw [run_slice_h w 22 a n c hT' kl (k : Int) (by omega) (by omega), hsize]
    rfl
  · refine ⟨by rw [List.length_take, hl.len]; omega, Nat.le_trans hk hn, hl.capmax, fun hk0 => ?_⟩
    obtain ⟨b, o, rfl, hb, hc⟩ := hl.cell (by omega)
    refine ⟨b, o, ?_, hb, fun j hj => ?_⟩
    · rw [if_neg (by omega)]
      simp [addr_add]
    · obtain ⟨a', n', c', h1, h2⟩ := hc j (by omega)
      refine ⟨a', n', c', h1, ?_⟩
      rw [List.getD_eq_getElem?_getD, List.getElem?_take, if_pos hj, ← List.getD_eq_getElem?_getD]
      exact h2

set_option maxRecDepth 100000 in
set_option maxHeartbeats 1600000 in
theorem frameCuts_any (a : Option Addr) (n cap : Nat) (ls : List (List Nat)) (x : Nat) (w : World) (hl : Parts w a n cap ls) (hx : x < 65536) :
    Calls Try.prog 5 #[.slice a n cap, .int .u16 (x : Int)] w fun e w' => e = .returned (.bool true) ∧ Below w.heap.size w w' := by
  have HP := Lib.hid hl
  clear hl
  have HFew := Lib.hid (fewF_any a n cap ls w HP.out)
  go_enter Try.func5, Try.ntmps5
  go_wp2_with fail
  refine HFew.out.mono ?_
  rintro e w' ⟨⟨b, rfl, hb⟩, rfl⟩
  have Hb := Lib.hid hb
  clear hb HFew
  cases b
  · go_wp2_with fail
    refine (falive_any _).mono ?_
    rintro e w1 ⟨rfl, hb1⟩
    go_wp2
    go_ret
    exact ⟨rfl, hb1⟩
  · obtain ⟨hz, hr⟩ := few_bounds (Hb.out rfl)
    have h60 : n ≤ 60 := by have := (Hb.out rfl).2; rw [HP.out.len] at this; exact this
    have hjl := joinL_len ls
    have HJ := Lib.hid (rjoin_any a n cap ls w HP.out hr (by omega))
    have Hr := Lib.hid hr
    have Hby := Lib.hid (joinL_byte HP.out.byte hr)
    have Hjl := Lib.hid hjl
    clear hjl
    go_wp2_with fail
    refine HJ.out.mono ?_
    rintro e w1 ⟨v, rfl, hown, hb1⟩
    rw [Hjl.out] at hown
    obtain ⟨p1, c1, rfl, hC⟩ := own_slice hown Hby.out
    have hf := own_formed hown
    have HC1 := Lib.hid hC
    have Hw1 := Lib.hid hb1
    have hle := hC.le
    have hcm := hC.capmax
    obtain ⟨k, hk⟩ : ∃ k, k = x % (sizeL ls + 1) := ⟨_, rfl⟩
    have hkz : k ≤ sizeL ls := by have := Nat.mod_lt x (show 0 < sizeL ls + 1 by omega); omega
    have hmod : ((x : Int)).tmod ((sizeL ls : Int) + 1) = (k : Int) := by
      rw [hk, show ((sizeL ls : Int) + 1) = ((sizeL ls + 1 : Nat) : Int) by simp]
      rfl
    obtain ⟨q, hsl0, _, hT⟩ := slice_to (P := Try.prog) (T := 25) (E := 5) Try.underlying25 info_u8 (a := p1) (n := sizeL ls) (c := c1) (k := k) hkz hle hf
    have hsl := fun w => hsl0 w .i64
    have HT := Lib.hid (split_any q k c1 ((joinL ls).take k) w1 (hT w1 _ hC) (by omega))
    have Hz := Lib.hid (fun m (_ : m ≤ ls.length) => sizeL_le (ls := ls) (k := m))
    have Hst := Lib.hid (fun m (h : m < ls.length) => sizeL_take (ls := ls) (k := m) h)
    have Hcut := Lib.hid (fun i hi h1 h2 => splits_cut ls Hr.out i k hi h1 h2)
    clear hown hC hb1 HJ hr hf hT hsl0 hk
    generalize hzz : sizeL ls = z at *
    have Hzz := Lib.hid hzz
    clear hzz
    go_wp2_with fail
    refine HT.out.mono ?_
    rintro e w2 ⟨ls', t, v, hS, rfl, hown, hb2⟩
    obtain ⟨p3, c3, rfl, hP3⟩ := hown.parts
    have Hw2 := Lib.hid (Hw1.out.trans (hb2.mono Hw1.out.size))
    have HP3 := Lib.hid hP3
    have HS := Lib.hid hS
    have HP2 := Lib.hid (HP.out.grow Hw2.out)
    clear hS hown hb2 hP3 HT
    go_wp2_with fail
    go_loop [10, 11] (fun s i => ∃ m : Nat, m ≤ n ∧ i = .int .i64 m ∧ s = .int .i64 (sizeL (ls.take m) : Nat) ∧ sizeL (ls.take m) ≤ k) (fun _ i => n - (intOf i).toNat)
    case atStart => exact ⟨0, Nat.zero_le _, rfl, rfl, Nat.zero_le _⟩
    case round =>
      obtain ⟨m, hm, rfl, rfl, hmk⟩ := hrel
      have hfin : (m < n → k < sizeL (ls.take (m + 1))) → ls' = ls.take m := by
        intro h
        obtain ⟨t', hS'⟩ := Hcut.out m (by rw [HP.out.len]; exact hm) hmk (fun h1 => h (by rw [HP.out.len] at h1; exact h1))
        exact (splits_uniq HS.out hS').1
      have Hfin := Lib.hid hfin
      have hq : ∃ q2, (∀ (w : World), (Instr.slice 22 (.slice a n cap) none (some (.int .i64 (m : Int))) none).run Try.prog w = .ok (.slice q2 m cap) w) ∧ Parts w2 q2 m cap (ls.take m) := by
        obtain ⟨q2, h1, h2⟩ := parts_to (a := a) hm HP.out.le
        exact ⟨q2, fun w => h1 w .i64, h2 _ _ HP2.out⟩
      obtain ⟨q2, hsl2, hQ2⟩ := hq
      have HQ2 := Lib.hid hQ2
      have hmz := Hz.out m (by rw [HP.out.len]; exact hm)
      clear hfin hQ2
      by_cases hlt : m < n
      · obtain ⟨b, o, a', n', c', rfl, hc, hB⟩ := bytes_get_all HP2.out hlt
        have hs := Hst.out m (by rw [HP.out.len]; exact hlt)
        rw [hB.len] at hs
        have hmz2 := Hz.out (m + 1) (by rw [HP.out.len]; exact hlt)
        rw [hs] at hmz2
        have Hs := Lib.hid hs
        clear hs hB
        by_cases hle2 : sizeL (ls.take m) + n' + 8 ≤ k
        · generalize hg : sizeL (ls.take m) = s at *
          have Hg := Lib.hid hg
          clear hg
          have hle3 : (s : Int) + (n' : Int) + 8 ≤ (k : Int) := by omega
          go_wp2
          go_round
          case rel => exact ⟨m + 1, by omega, by go_num, by rw [Hs.out]; go_num, by rw [Hs.out]; omega⟩
          case measure => simp [intOf]; omega
        · have e := Hfin.out (fun _ => by rw [Hs.out]; omega)
          subst e
          have hlen : (ls.take m).length = m := by rw [List.length_take, HP.out.len]; omega
          have HP3 := Lib.hid (show Parts w2 p3 m c3 (ls.take m) by have h := HP3.out; rw [hlen] at h; exact h)
          rw [hlen]
          generalize hg : sizeL (ls.take m) = s at *
          have Hg := Lib.hid hg
          clear hg hlen
          have hle3 : ¬ ((s : Int) + (n' : Int) + 8 ≤ (k : Int)) := by omega
          go_wp2_with fail
          refine (falive_any _).mono ?_
          rintro e w3 ⟨rfl, hb3⟩
          have Hw3 := Lib.hid (Hw2.out.trans (hb3.mono Hw2.out.size))
          have HQ := Lib.hid (same_yes p3 q2 m c3 cap (ls.take m) w3 (HP3.out.grow hb3) (HQ2.out.grow hb3))
          clear hb3
          go_wp2_with fail
          refine HQ.out.mono ?_
          rintro e w4 ⟨rfl, y, rfl⟩
          go_wp2
          go_ret
          exact ⟨rfl, below_drewN Hw3.out y⟩
      · obtain rfl : m = n := by omega
        have e := Hfin.out (fun h => absurd h hlt)
        subst e
        have hlen : (ls.take m).length = m := by rw [List.length_take, HP.out.len]; omega
        have HP3 := Lib.hid (show Parts w2 p3 m c3 (ls.take m) by have h := HP3.out; rw [hlen] at h; exact h)
        rw [hlen]
        generalize hg : sizeL (ls.take m) = s at *
        have Hg := Lib.hid hg
        clear hg hlen
        go_wp2_with fail
        refine (falive_any _).mono ?_
        rintro e w3 ⟨rfl, hb3⟩
        have Hw3 := Lib.hid (Hw2.out.trans (hb3.mono Hw2.out.size))
        have HQ := Lib.hid (same_yes p3 q2 m c3 cap (ls.take m) w3 (HP3.out.grow hb3) (HQ2.out.grow hb3))
        clear hb3
        go_wp2_with fail
        refine HQ.out.mono ?_
        rintro e w4 ⟨rfl, y, rfl⟩
        go_wp2
        go_ret
        exact ⟨rfl, below_drewN Hw3.out y⟩
end Go.Proofs.Ytmebffmdfnnbmaa
