/- The walk of the statement BinReads: it returns true whatever the bytes and the reads are. -/
import Derived.Test.YtjkpcpoplpgecaaReadsL
import Derived.Deep.DeepCutAuto
import Derived.Deep.CutBlock
import Derived.Deep.RegionHeld
namespace Go.Proofs.Ytjkpcpoplpgecaa
open Go.RowKit

set_option maxRecDepth 100000 in
set_option maxHeartbeats 3200000 in
theorem binReads_any (a : Option Addr) (n cap : Nat) (l : List Nat) (a' : Option Addr) (m cap' : Nat) (ks : List Int) (w : World) (hl : Bytes w a n cap l) (hf : Formed a cap) (hk : Nums w a' m cap' ks) :
    Calls Try.prog 4 #[.slice a n cap, .slice a' m cap'] w fun e w' => e = .returned (.bool true) ∧ Below w.heap.size w w' := by
  have HB := Lib.hid hl
  have HK := Lib.hid hk
  clear hl hk
  by_cases hn : n ≤ 500 ∧ m ≤ 100
  · obtain ⟨hn, hm⟩ := hn
    go_enter Try.func4, Try.ntmps4
    go_wp2_with fail
    refine (new_any a n cap l w HB.out (by omega)).mono ?_
    rintro e w1 ⟨g, rfl, hg, hR, hw1⟩
    have hgs : g < w1.heap.size := by obtain ⟨_, _, _, h, _⟩ := hR; exact (Array.getElem?_eq_some_iff.1 h).1
    have hB1 : RB (w1.alloc (.cells #[.slice a n cap, .bool false] 35)) w1.heap.size l true := ⟨a, n, cap, heap_alloc_new _ _, HB.out.grow (hw1.alloc hw1.size _), hf⟩
    have hR1 := hR.below ((Below.refl _ _).alloc (Nat.le_refl _) (.cells #[.slice a n cap, .bool false] 35))
    have hw2 : Below w.heap.size w (w1.alloc (.cells #[.slice a n cap, .bool false] 35)) := hw1.alloc hw1.size _
    have hBs : w.heap.size ≤ w1.heap.size := hw1.size
    obtain ⟨B, hBB⟩ : ∃ B, B = w1.heap.size := ⟨_, rfl⟩
    have HR1 := Lib.hid hR1
    have HB1 := Lib.hid hB1
    have hl5 : l.length ≤ 500 := by rw [HB.out.len]; exact hn
    have HL5 := Lib.hid hl5
    have hne : w1.heap.size ≠ g := by omega
    have Hne := Lib.hid hne
    clear hR hB1 hR1 hl5 hBB hne
    go_wp2_with fail
    go_loopw [31] (fun i wr => ReadsRel w g w1.heap.size m i wr) (fun i _ => m - (intOf i).toNat)
    case atStart => exact ⟨0, l, true, Nat.zero_le _, rfl, HR1.out, HB1.out, HL5.out, hw2⟩
    case round =>
      obtain ⟨k, l0, ok, hk, rfl, hR, hB, hl0, hwr⟩ := hrel
      have HR := Lib.hid hR
      have HBB := Lib.hid hB
      have HL0 := Lib.hid hl0
      clear hR hB hl0
      by_cases hlt : k < m
      · obtain ⟨kb, ko, rfl, hc0⟩ := (HK.out.grow hwr).cell (by omega)
        have hc := hc0 k hlt
        obtain ⟨kv1, kv2⟩ := HK.out.get hlt
        clear hc0
        generalize ks.getD k 0 = kv at hc kv1 kv2
        go_upto_block 2 with fail
        go_cut [9, 10, 11, 12, 13, 14] (fun x y i j got want wx => Met w g w1.heap.size x y i j got want wx)
        case first =>
          by_cases e0 : kv = 0
          · have hq0 : (kv == 0) = true := beq_iff_eq.2 e0
            clear e0
            go_wp2_with fail
            refine (mUint _ g l0 ok wr wr (orNone_some g wr) HR.out).mono ?_
            rintro e w2 ⟨rfl, hE⟩
            have hw2 := below_rd hwr hg hE
            obtain ⟨aB, nB, cB, hk2, hBb, hBf⟩ := HBB.out.keepRd HR.out hE Hne.out
            obtain ⟨p0, p1, p2, p3⟩ := block_cells hk2
            have HBb := Lib.hid hBb
            have HBf := Lib.hid hBf
            have HK2 := Lib.hid hk2
            have HE := Lib.hid hE
            clear hBb hBf hk2 hE
            go_wp2_with fail
            refine (cUint aB nB cB ok l0 w2 HBb.out HBf.out).mono ?_
            rintro e w3 ⟨a3, n3, c3, rfl, hB3, hf3, hb3⟩
            have hk3 := (hb3.block _ (Array.getElem?_eq_some_iff.1 HK2.out).1).trans HK2.out
            obtain ⟨q0, q1, q2, q3⟩ := block_cells hk3
            have hsz3 : w1.heap.size < w3.heap.size := (Array.getElem?_eq_some_iff.1 hk3).1
            have HS := Lib.hid (stored (hw2.trans (hb3.mono hw2.size)) hBs Hne.out hk3 hB3 hf3 (HE.out.1.below hb3))
            have hle := Lib.hid (readN_le (l := l0) (ok := ok))
            clear hk3 hB3 hf3 hb3
            generalize readN l0 ok = r at *
            go_wp2
            go_meet
            exact ⟨r.1, 0, none, none, 0, 0, 0, 0, [], r.2.1, r.2.2, rfl, rfl, rfl, rfl, rfl, rfl, bytes_nil _, bytes_nil _, HS.out.2.1, HS.out.1, Nat.le_trans hle.out HL0.out, HS.out.2.2.1⟩
          have hq0 : (kv == 0) = false := beq_eq_false_iff_ne.2 e0
          by_cases e1 : kv = 1
          · have hq1 : (kv == 1) = true := beq_iff_eq.2 e1
            clear e0 e1
            go_wp2_with fail
            refine (mInt _ g l0 ok wr wr (orNone_some g wr) HR.out).mono ?_
            rintro e w2 ⟨rfl, hE⟩
            have hw2 := below_rd hwr hg hE
            obtain ⟨aB, nB, cB, hk2, hBb, hBf⟩ := HBB.out.keepRd HR.out hE Hne.out
            obtain ⟨p0, p1, p2, p3⟩ := block_cells hk2
            have HBb := Lib.hid hBb
            have HBf := Lib.hid hBf
            have HK2 := Lib.hid hk2
            have HE := Lib.hid hE
            clear hBb hBf hk2 hE
            go_wp2_with fail
            refine (cInt aB nB cB ok l0 w2 HBb.out HBf.out).mono ?_
            rintro e w3 ⟨a3, n3, c3, rfl, hB3, hf3, hb3⟩
            have hk3 := (hb3.block _ (Array.getElem?_eq_some_iff.1 HK2.out).1).trans HK2.out
            obtain ⟨q0, q1, q2, q3⟩ := block_cells hk3
            have hsz3 : w1.heap.size < w3.heap.size := (Array.getElem?_eq_some_iff.1 hk3).1
            have HS := Lib.hid (stored (hw2.trans (hb3.mono hw2.size)) hBs Hne.out hk3 hB3 hf3 (HE.out.1.below hb3))
            have hle := Lib.hid (readN_le (l := l0) (ok := ok))
            clear hk3 hB3 hf3 hb3
            generalize readN l0 ok = r at *
            generalize unfoldL r.1 = Y at *
            go_wp2
            go_meet
            exact ⟨0, Y, none, none, 0, 0, 0, 0, [], r.2.1, r.2.2, rfl, rfl, rfl, rfl, rfl, rfl, bytes_nil _, bytes_nil _, HS.out.2.1, HS.out.1, Nat.le_trans hle.out HL0.out, HS.out.2.2.1⟩
          have hq1 : (kv == 1) = false := beq_eq_false_iff_ne.2 e1
          by_cases e2 : kv = 2
          · have hq2 : (kv == 2) = true := beq_iff_eq.2 e2
            clear e0 e1 e2
            go_wp2_with fail
            refine (mBytes _ g l0 ok wr wr (orNone_some g wr) HR.out (Nat.le_trans HL0.out (by decide))).mono ?_
            rintro e w2 ⟨pg, mg, cg, rfl, hG, hE⟩
            have hw2 := below_rd hwr hg hE
            obtain ⟨aB, nB, cB, hk2, hBb, hBf⟩ := HBB.out.keepRd HR.out hE Hne.out
            obtain ⟨p0, p1, p2, p3⟩ := block_cells hk2
            have HBb := Lib.hid hBb
            have HBf := Lib.hid hBf
            have HK2 := Lib.hid hk2
            have HE := Lib.hid hE
            clear hBb hBf hk2 hE
            have HG := Lib.hid hG
            clear hG
            go_wp2_with fail
            refine (cBytes aB nB cB ok l0 w2 HBb.out HBf.out).mono ?_
            rintro e w3 ⟨a3, n3, c3, pw, mw, cw, rfl, hB3, hf3, hW, hb3⟩
            have hk3 := (hb3.block _ (Array.getElem?_eq_some_iff.1 HK2.out).1).trans HK2.out
            obtain ⟨q0, q1, q2, q3⟩ := block_cells hk3
            have hsz3 : w1.heap.size < w3.heap.size := (Array.getElem?_eq_some_iff.1 hk3).1
            have HS := Lib.hid (stored (hw2.trans (hb3.mono hw2.size)) hBs Hne.out hk3 hB3 hf3 (HE.out.1.below hb3))
            have HW := Lib.hid hW
            have HG3 := Lib.hid (HG.out.grow hb3)
            have hle := Lib.hid (readB_le (l := l0) (ok := ok)).1
            clear hk3 hB3 hf3 hb3 hW HG
            generalize readB l0 ok = r at *
            go_wp2
            go_meet
            exact ⟨0, 0, pg, pw, mg, mw, cg, cw, r.1, r.2.1, r.2.2, rfl, rfl, rfl, rfl, rfl, rfl, HS.out.2.2.2 _ _ _ _ HG3.out, HS.out.2.2.2 _ _ _ _ HW.out, HS.out.2.1, HS.out.1, Nat.le_trans hle.out HL0.out, HS.out.2.2.1⟩
          have hq2 : (kv == 2) = false := beq_eq_false_iff_ne.2 e2
          by_cases e3 : kv = 3
          · have hq3 : (kv == 3) = true := beq_iff_eq.2 e3
            clear e0 e1 e2 e3
            go_wp2_with fail
            refine (mText _ g l0 ok wr wr (orNone_some g wr) HR.out).mono ?_
            rintro e w2 ⟨rfl, hE⟩
            have hw2 := below_rd hwr hg hE
            obtain ⟨aB, nB, cB, hk2, hBb, hBf⟩ := HBB.out.keepRd HR.out hE Hne.out
            have hby := readB_byte (l := l0) (ok := ok) (by obtain ⟨_, _, _, _, h, _⟩ := HR.out; exact h.byte)
            obtain ⟨cg, w2', hcv, hG, hb2⟩ := to_bytes (readB l0 ok).1 w2 hby (Nat.le_trans (readB_le (l := l0) (ok := ok)).2 (Nat.le_trans HL0.out (by decide)))
            have hw2' := hw2.trans (hb2.mono hw2.size)
            have hk2' := (hb2.block _ (Array.getElem?_eq_some_iff.1 hk2).1).trans hk2
            obtain ⟨p0, p1, p2, p3⟩ := block_cells hk2'
            have HBb := Lib.hid (hBb.grow hb2)
            have HBf := Lib.hid hBf
            have HK2 := Lib.hid hk2'
            have HE := Lib.hid (hE.1.below hb2)
            have HG := Lib.hid hG
            clear hBb hBf hk2 hk2' hE hG hby hb2
            go_wp2_with fail
            refine (cBytes aB nB cB ok l0 w2' HBb.out HBf.out).mono ?_
            rintro e w3 ⟨a3, n3, c3, pw, mw, cw, rfl, hB3, hf3, hW, hb3⟩
            have hk3 := (hb3.block _ (Array.getElem?_eq_some_iff.1 HK2.out).1).trans HK2.out
            obtain ⟨q0, q1, q2, q3⟩ := block_cells hk3
            have hsz3 : w1.heap.size < w3.heap.size := (Array.getElem?_eq_some_iff.1 hk3).1
            have HS := Lib.hid (stored (hw2'.trans (hb3.mono hw2'.size)) hBs Hne.out hk3 hB3 hf3 (HE.out.below hb3))
            have HW := Lib.hid hW
            have HG3 := Lib.hid (HG.out.grow hb3)
            have hle := Lib.hid (readB_le (l := l0) (ok := ok)).1
            clear hk3 hB3 hf3 hb3 hW HG hcv
            generalize readB l0 ok = r at *
            go_wp2
            go_meet
            exact ⟨0, 0, _, pw, _, mw, _, cw, r.1, r.2.1, r.2.2, rfl, rfl, rfl, rfl, rfl, rfl, HS.out.2.2.2 _ _ _ _ HG3.out, HS.out.2.2.2 _ _ _ _ HW.out, HS.out.2.1, HS.out.1, Nat.le_trans hle.out HL0.out, HS.out.2.2.1⟩
          · have hq3 : (kv == 3) = false := beq_eq_false_iff_ne.2 e3
            clear e0 e1 e2 e3
            by_cases hlow : kv < -1000
            · go_wp2_with fail
              refine (mTake _ g l0 ok wr wr (orNone_some g wr) HR.out (-1004) (by omega) (by omega) (Nat.le_trans HL0.out (by decide))).mono ?_
              rintro e w2 ⟨pg, mg, cg, rfl, hG, hE⟩
              have hw2 := below_rd hwr hg hE
              obtain ⟨aB, nB, cB, hk2, hBb, hBf⟩ := HBB.out.keepRd HR.out hE Hne.out
              obtain ⟨p0, p1, p2, p3⟩ := block_cells hk2
              have HBb := Lib.hid hBb
              have HBf := Lib.hid hBf
              have HK2 := Lib.hid hk2
              have HE := Lib.hid hE
              clear hBb hBf hk2 hE
              have HG := Lib.hid hG
              clear hG
              go_wp2_with fail
              refine (cTake aB nB cB ok l0 w2 HBb.out HBf.out (-1004) (by omega) (by omega)).mono ?_
              rintro e w3 ⟨a3, n3, c3, pw, mw, cw, rfl, hB3, hf3, hW, hb3⟩
              have hk3 := (hb3.block _ (Array.getElem?_eq_some_iff.1 HK2.out).1).trans HK2.out
              obtain ⟨q0, q1, q2, q3⟩ := block_cells hk3
              have hsz3 : w1.heap.size < w3.heap.size := (Array.getElem?_eq_some_iff.1 hk3).1
              have HS := Lib.hid (stored (hw2.trans (hb3.mono hw2.size)) hBs Hne.out hk3 hB3 hf3 (HE.out.1.below hb3))
              have HW := Lib.hid hW
              have HG3 := Lib.hid (HG.out.grow hb3)
              have hle := Lib.hid (takeN_le (l := l0) (ok := ok) (k := -1004))
              clear hk3 hB3 hf3 hb3 hW HG
              generalize takeN l0 ok (-1004) = r at *
              go_wp2
              go_meet
              exact ⟨0, 0, pg, pw, mg, mw, cg, cw, r.1, r.2.1, r.2.2, rfl, rfl, rfl, rfl, rfl, rfl, HS.out.2.2.2 _ _ _ _ HG3.out, HS.out.2.2.2 _ _ _ _ HW.out, HS.out.2.1, HS.out.1, Nat.le_trans hle.out HL0.out, HS.out.2.2.1⟩
            · have hlow' : -1000 ≤ kv := by omega
              go_wp2_with fail
              refine (mTake _ g l0 ok wr wr (orNone_some g wr) HR.out (kv - 4) (by omega) (by omega) (Nat.le_trans HL0.out (by decide))).mono ?_
              rintro e w2 ⟨pg, mg, cg, rfl, hG, hE⟩
              have hw2 := below_rd hwr hg hE
              obtain ⟨aB, nB, cB, hk2, hBb, hBf⟩ := HBB.out.keepRd HR.out hE Hne.out
              obtain ⟨p0, p1, p2, p3⟩ := block_cells hk2
              have HBb := Lib.hid hBb
              have HBf := Lib.hid hBf
              have HK2 := Lib.hid hk2
              have HE := Lib.hid hE
              clear hBb hBf hk2 hE
              have HG := Lib.hid hG
              clear hG
              go_wp2_with fail
              refine (cTake aB nB cB ok l0 w2 HBb.out HBf.out (kv - 4) (by omega) (by omega)).mono ?_
              rintro e w3 ⟨a3, n3, c3, pw, mw, cw, rfl, hB3, hf3, hW, hb3⟩
              have hk3 := (hb3.block _ (Array.getElem?_eq_some_iff.1 HK2.out).1).trans HK2.out
              obtain ⟨q0, q1, q2, q3⟩ := block_cells hk3
              have hsz3 : w1.heap.size < w3.heap.size := (Array.getElem?_eq_some_iff.1 hk3).1
              have HS := Lib.hid (stored (hw2.trans (hb3.mono hw2.size)) hBs Hne.out hk3 hB3 hf3 (HE.out.1.below hb3))
              have HW := Lib.hid hW
              have HG3 := Lib.hid (HG.out.grow hb3)
              have hle := Lib.hid (takeN_le (l := l0) (ok := ok) (k := kv - 4))
              clear hk3 hB3 hf3 hb3 hW HG
              generalize takeN l0 ok (kv - 4) = r at *
              go_wp2
              go_meet
              exact ⟨0, 0, pg, pw, mg, mw, cg, cw, r.1, r.2.1, r.2.2, rfl, rfl, rfl, rfl, rfl, rfl, HS.out.2.2.2 _ _ _ _ HG3.out, HS.out.2.2.2 _ _ _ _ HW.out, HS.out.2.1, HS.out.1, Nat.le_trans hle.out HL0.out, HS.out.2.2.1⟩
        case rest =>
          obtain ⟨X, Y, p, q, mp, mq, cp, cq, G, l', ok', rfl, rfl, rfl, rfl, rfl, rfl, hG1, hG2, hR', hB', hl', hwx⟩ := hcut
          have hdr : Below wc.heap.size wc wc.drew := (Below.refl _ _).drew
          have hwd := hwx.trans (hdr.mono hwx.size)
          have HRx := Lib.hid (hR'.below hdr)
          have HBx := hB'.below hdr
          obtain ⟨aB, nB, cB, hkB, hBb, hBf⟩ := HBx
          obtain ⟨p0, p1, _, _⟩ := block_cells hkB
          have HLn := Lib.hid hBb.len
          have HKB := Lib.hid hkB
          have HBb := Lib.hid hBb
          have HBf := Lib.hid hBf
          have HG1 := Lib.hid (hG1.grow hdr)
          have HG2 := Lib.hid (hG2.grow hdr)
          have HL := Lib.hid hl'
          have hqok : (ok' == !ok') = false := by cases ok' <;> rfl
          obtain ⟨d, hd⟩ : ∃ d, doneB l' ok' = d := ⟨_, rfl⟩
          have Hd := Lib.hid hd
          have hqd : (d != d) = false := by cases d <;> rfl
          clear hG1 hG2 hR' hB' hl' hwx hkB hBb hBf hdr hd
          go_wp2
          go_region_held (fun w' => w'.cell? ⟨w1.heap.size, 0, none⟩ = some (.slice aB nB cB) ∧ w'.cell? ⟨w1.heap.size, 1, none⟩ = some (.bool (!ok')))
            (first | exact ⟨p0, p1⟩ | exact ⟨s0, s1⟩ | exact ⟨t0, t1⟩)
            (first
              | (go_at_call 9; (with_reducible refine (equal_yes _ _ _ _ _ _ G _ HG1.out HG2.out).mono ?_); rintro e w5 ⟨rfl, hb⟩; have hw5 := hwd.trans (hb.mono hwd.size); have HR5 := Lib.hid (HRx.out.below hb); have HB5 := Lib.hid (HBb.out.grow hb); have hkB5 := (hb.block _ (Array.getElem?_eq_some_iff.1 HKB.out).1).trans HKB.out; have HK5 := Lib.hid hkB5; obtain ⟨s0, s1, _, _⟩ := block_cells hkB5; clear hb hkB5 p0 p1)
              | (go_at_call 27; (with_reducible refine (rLeft HR5.out HLn.out).mono ?_); rintro e w6 ⟨rfl, rfl⟩)
              | (go_at_call 28; (with_reducible refine (rOk HR5.out).mono ?_); rintro e w6 ⟨rfl, rfl⟩)
              | (go_at_call 29; (with_reducible refine (rDone HR5.out Hd.out).mono ?_); rintro e w6 ⟨rfl, rfl⟩)
              | (go_at_call 30; (with_reducible refine (cDone HB5.out Hd.out).mono ?_); rintro e w7 ⟨rfl, hb⟩; have hw7 := hw5.trans (hb.mono hw5.size); have HR7 := Lib.hid (HR5.out.below hb); have HRB7 := Lib.hid (RB.below ⟨aB, nB, cB, HK5.out, HB5.out, HBf.out⟩ hb); have hkB7 := (hb.block _ (Array.getElem?_eq_some_iff.1 HK5.out).1).trans HK5.out; obtain ⟨t0, t1, _, _⟩ := block_cells hkB7; clear hb hkB7 s0 s1))
          all_goals go_wp2
          all_goals go_roundw
          case rel => exact ⟨k + 1, l', ok', hlt, by go_num, HR7.out, HRB7.out, HL.out, hw7⟩
          case measure => simp [intOf]; omega
      · obtain rfl : k = m := by omega
        go_wp2_with ((with_reducible refine (alive_any _).mono ?_); rintro e w9 ⟨rfl, hb9⟩)
        go_ret
        exact ⟨rfl, hwr.trans (hb9.mono hwr.size)⟩
  · have hn' : (500 : Int) < (n : Int) ∨ (100 : Int) < (m : Int) := by omega
    by_cases hnn : (500 : Int) < (n : Int)
    · clear hn hn'
      go_enter Try.func4, Try.ntmps4
      go_wp2_with ((with_reducible refine (alive_any _).mono ?_); rintro e w9 ⟨rfl, hb9⟩)
      go_ret
      exact ⟨rfl, hb9⟩
    · have hmm : (100 : Int) < (m : Int) := by omega
      have hnn' : (n : Int) ≤ 500 := by omega
      clear hn hn' hnn
      go_enter Try.func4, Try.ntmps4
      go_wp2_with ((with_reducible refine (alive_any _).mono ?_); rintro e w9 ⟨rfl, hb9⟩)
      go_ret
      exact ⟨rfl, hb9⟩
end Go.Proofs.Ytjkpcpoplpgecaa
