/- The walk of the statement WalDurable: it returns true whatever the records, the greatest size and the crash are. -/
import Derived.Test.YtehjgkkcpiblcaaGreatHWalDurableWlLawO
import Derived.Test.YtehjgkkcpiblcaaGreatMB38
import Derived.Test.YtehjgkkcpiblcaaGreatMB39
import Derived.Test.YtehjgkkcpiblcaaGreatMB41
import Derived.Test.YtehjgkkcpiblcaaGreatMB42
import Derived.Test.YtehjgkkcpiblcaaGreatMB43
import Derived.Deep.RegionHeld3
namespace Go.Proofs.YtehjgkkcpiblcaaGreat
open Go.RowKit Go.Maps Go.Shelf

attribute [local go_sem ↓] Go.wp_at_zero Go.wp_at_succ

theorem few_small2 {ls : List (List Nat)} (h : minsF ls ≤ 1500 ∧ ls.length ≤ 60) : sizeL ls ≤ 2000 ∧ ls.length ≤ 60 := by
  have := (minsF_bound ls h.1).1
  exact ⟨by omega, h.2⟩

/-- Bytes do not lie in a box that holds a log. -/
theorem bytes_not_log {w : World} {p : Option Addr} {n c B : Nat} {l : List Nat} {ro pl mo N S K : Int} {a : Option Addr} {n' c' : Nat} {dn : Bool} (h : Bytes w p n c l) (hB : w.heap[B]? = some (logO ro a n' c' pl dn mo N S K)) (hn : 0 < n) : ∀ x, p = some x → x.block ≠ B := by
  rintro x rfl e
  obtain ⟨b, o, e2, hc⟩ := h.cell hn
  cases e2
  simp only at e
  subst e
  have h0 := hc 0 hn
  unfold logO at hB
  rw [Nat.add_zero, cell_of_row _ _ _ _ _ (0, 0) hB] at h0
  rcases o with _ | _ | _ | _ | _ | _ | _ | _ | o <;> simp at h0

theorem parts_not_log {w : World} {B base : Nat} {v : Value} {ls : List (List Nat)} {ro pl mo N S K : Int} {a : Option Addr} {n' c' : Nat} {dn : Bool} (h : OwnParts w base v ls) (hB : w.heap[B]? = some (logO ro a n' c' pl dn mo N S K)) : PartsZ (fun b => b ≠ B) w base v ls := by
  obtain ⟨vs, h1, h2, h3⟩ := h
  refine ⟨vs, h1, h2, fun i hi => ?_⟩
  obtain ⟨p, n, c, h4, h5, h6⟩ := h3 i hi
  exact ⟨p, n, c, h4, h5, fun hn x hx => ⟨h6 hn x hx, bytes_not_log h5 hB hn x hx⟩⟩

set_option maxRecDepth 100000 in
set_option maxHeartbeats 12800000 in
theorem walDurable_any (x : Nat) (a : Option Addr) (n cap : Nat) (ls : List (List Nat)) (a' : Option Addr) (n' cap' : Nat) (ms : List (List Nat)) (y : Int) (w : World) (hl : Parts w a n cap ls) (hm : Parts w a' n' cap' ms) (hx : x < 65536) (hy1 : -9223372036854775808 ≤ y) (hy2 : y ≤ 9223372036854775807) :
    Calls Tryz.prog 5 #[.int .u16 (x : Int), .agg #[.slice a n cap, .slice a' n' cap'], .int .i64 y] w fun e w' => e = .returned (.bool true) ∧ Below w.heap.size w w' := by
  have HP := Lib.hid hl
  have HQ := Lib.hid hm
  clear hl hm
  obtain ⟨w1, hw1⟩ : ∃ w1, w1 = w.alloc (.cells #[.slice a n cap, .slice a' n' cap'] 57) := ⟨_, rfl⟩
  have hb1 : Below w.heap.size w w1 := by rw [hw1]; exact (Below.refl _ _).alloc (Nat.le_refl _) _
  have hB1 : w1.heap[w.heap.size]? = some (.cells #[.slice a n cap, .slice a' n' cap'] 57 (0, 0)) := by rw [hw1]; exact heap_alloc_new _ _
  have k0 : w1.cell? ⟨w.heap.size, 0, none⟩ = some (.slice a n cap) := by rw [cell_of_row _ _ _ _ _ (0, 0) hB1]; rfl
  have k1 : w1.cell? ⟨w.heap.size, 1, none⟩ = some (.slice a' n' cap') := by rw [cell_of_row _ _ _ _ _ (0, 0) hB1]; rfl
  have HFew := Lib.hid (fun W (hW : Below w1.heap.size w1 W) => fewF_any a n cap ls W (HP.out.grow (hb1.trans (hW.mono hb1.size))))
  have HFew2 := Lib.hid (fun W (hW : Below w1.heap.size w1 W) => fewF_any a' n' cap' ms W (HQ.out.grow (hb1.trans (hW.mono hb1.size))))
  have Hb1 := Lib.hid hb1
  have Hw1 := Lib.hid hw1
  clear hb1 hw1 hB1
  go_enter Tryz.func5, Tryz.ntmps5
  go_wp2_with fail
  rw [← Hw1.out]
  go_region
  go_wp2_with fail
  have hbd : Below w1.heap.size w1 w1.drew := (Below.refl _ _).drew
  have Hbw := Lib.hid (Hb1.out.trans (hbd.mono Hb1.out.size))
  obtain ⟨wb, hwb⟩ : ∃ wb, wb = w1.drew := ⟨_, rfl⟩
  rw [← hwb] at Hbw hbd
  rw [← hwb]
  have HF1 := Lib.hid (HFew.out wb hbd)
  have HF2 := Lib.hid (HFew2.out wb hbd)
  have HPb := Lib.hid (HP.out.grow Hbw.out)
  have HQb := Lib.hid (HQ.out.grow Hbw.out)
  clear HFew HFew2 hbd hwb HP HQ k0 k1 Hw1
  have HP := HPb
  have HQ := HQb
  clear HPb HQb
  refine HF1.out.mono ?_
  rintro e w' ⟨⟨b, rfl, hb⟩, rfl⟩
  have Hba := Lib.hid hb
  clear hb HF1
  cases b
  · go_wp2_with fail
    refine (walive_any _).mono ?_
    rintro e w2 ⟨rfl, hb2⟩
    have Hend := Lib.hid (Hbw.out.trans (hb2.mono Hbw.out.size))
    clear hb2
    go_wp2
    go_ret
    exact ⟨rfl, Hend.out⟩
  · go_wp2_with fail
    refine HF2.out.mono ?_
    rintro e w' ⟨⟨b, rfl, hb⟩, rfl⟩
    have Hbb := Lib.hid hb
    clear hb HF2
    cases b
    · go_wp2_with fail
      refine (walive_any _).mono ?_
      rintro e w2 ⟨rfl, hb2⟩
      have Hend := Lib.hid (Hbw.out.trans (hb2.mono Hbw.out.size))
      clear hb2
      go_wp2
      go_ret
      exact ⟨rfl, Hend.out⟩
    · obtain ⟨hz, h60⟩ := few_small2 (Hba.out trivial)
      obtain ⟨hz', h60'⟩ := few_small2 (Hbb.out rfl)
      have hln := HP.out.len
      have hln' := HQ.out.len
      obtain ⟨i0, hi, hz0, hz1, hz2⟩ := info_parts info_rows
      obtain ⟨hinv0, hroom0⟩ := start_inv 100000 (x : Int)
      obtain ⟨S0, hS0⟩ : ∃ S0, S0 = startW 100000 (x : Int) := ⟨_, rfl⟩
      have HN0 := Lib.hid (show S0.n ≤ 1000 ∧ S0.wait ≤ 1000 from by rw [hS0]; show 1 ≤ 1000 ∧ 0 ≤ 1000; omega)
      have HMost := Lib.hid (show S0.most = (x : Int) from by rw [hS0]; rfl)
      have hroomS : S0.D.room = 100000 := by rw [hS0, hroom0]; rfl
      have HRoom := Lib.hid hroomS
      have HAcc := Lib.hid (show ([] : List (List Nat)).length ≤ 500 from by decide)
      have HSz := Lib.hid (show sizeL ([] : List (List Nat)) ≤ 10000 from by decide)
      rw [← hS0] at hinv0
      have HRun := Lib.hid (run_from hinv0 (acc := []) rfl ls (by rw [hroomS]; have := HSz.out; omega) (by have := HN0.out; omega))
      have HSt := Lib.hid (start_any 100000 (x : Int) wb (by omega))
      rw [← hS0] at HSt
      have HS0 := Lib.hid hS0
      have Hinv0 := Lib.hid hinv0
      clear hroomS hroom0 hinv0 hS0
      go_wp2_with fail
      refine HSt.out.mono ?_
      rintro e w1' ⟨d, g, rfl, hL1⟩
      have HL1 := Lib.hid hL1
      clear hL1 HSt
      go_wp2_with fail
      go_loopw [11, 45] (fun v i wr => WantFrom wb g d S0 [] ls n v i wr) (fun _ i _ => n - (intOf i).toNat)
      case atStart => exact ⟨0, _, Nat.zero_le _, rfl, HL1.out, PartsZ.nil _ _ _, fun k h => by cases h⟩
      case round =>
        obtain ⟨j, Y, hj, rfl, hL, hW, hWY⟩ := hrel
        by_cases hlt : j < n
        · obtain ⟨b, o, ax, nx, cx, rfl, hc0, hB⟩ := bytes_get_all HP.out hlt
          have hc := cell_keep hL.own.base hc0
          have hr := HRun.out j
          have hjl : j < ls.length := by omega
          have hxj : ls.getD j [] = ls[j] := by rw [List.getD_eq_getElem?_getD, List.getElem?_eq_getElem hjl]; rfl
          have hpb : 0 < nx → ∀ x, ax = some x → x.block < wb.heap.size := by
            intro hn x hx
            obtain ⟨b', o', rfl, hc'⟩ := hB.cell hn
            cases hx
            exact World.block_lt_of_cell? _ _ (hc' 0 hn)
          rw [hxj] at hB
          have htl := takeP_len S0.most ls j
          have HPut := Lib.hid (put_any hL ax nx cx ls[j] (hB.grow hL.own.base) hr.n1 (by have := hr.n2; have := HN0.out; omega) (by have := hr.size; have := HSz.out; omega) (by have := hr.wait; have := HN0.out; omega) (by rw [hr.same, HMost.out]; omega) (by rw [hr.same, HMost.out]; omega) (by have := hr.len; have := HN0.out; omega) (by rw [hr.rm, HRoom.out]; decide))
          have hnx : runP S0 (ls.take (j + 1)) = (putW (runP S0 (ls.take j)) ls[j]).1 := runP_next hjl
          have hcode := put_from hr (by rw [HRoom.out]; have := HSz.out; omega) (by have := HN0.out; omega) hjl
          rw [← hnx] at HPut
          have Hlt := Lib.hid hlt
          have HB := Lib.hid hB
          have HL := Lib.hid hL
          have HW := Lib.hid hW
          have HWY := Lib.hid hWY
          have Hpb := Lib.hid hpb
          have Htl := Lib.hid htl
          have hpl : ([] ++ takeP S0.most (ls.take j)).length ≤ 1000 := by rw [List.length_append]; have := HAcc.out; omega
          have Hpl := Lib.hid hpl
          generalize ls[j] = l at *
          generalize (putW (runP S0 (ls.take j)) l).2 = z at *
          clear hB hr hnx hxj hL hlt hW hWY hpb hc0 htl hpl
          rcases hcode with ⟨hz, ht⟩ | ⟨hz, ht⟩
          · have hzb : (z == 0) = false := by rw [beq_eq_false_iff_ne]; exact hz
            have Ht := Lib.hid ht
            clear ht hz
            go_wp2_with fail
            refine HPut.out.mono ?_
            rintro e w2 ⟨rfl, hE⟩
            have HE := Lib.hid hE
            clear hE
            go_wp2
            go_roundw
            case rel => exact ⟨j + 1, Y, Hlt.out, by go_num, HE.out.1, by rw [Ht.out]; exact want_kept HE.out HW.out HWY.out, HWY.out⟩
            case measure => simp [intOf]; omega
          · subst hz
            have Ht := Lib.hid ht
            clear ht
            go_wp2_with fail
            refine HPut.out.mono ?_
            rintro e w2 ⟨rfl, hE⟩
            have hW2 := (want_kept hE HW.out HWY.out)
            have hb3 : Below w2.heap.size w2 (w2.alloc (.cells #[.slice ax nx cx] 47)) := (Below.refl _ _).alloc (Nat.le_refl _) _
            obtain ⟨vs, hlen, hown, hel⟩ := hW2.grow hb3
            have HE := Lib.hid hE
            have Hown := Lib.hid hown
            have Hel := Lib.hid hel
            have Hlen := Lib.hid hlen
            have Hsz := Lib.hid hE.1.own.base.size
            have HB2 := Lib.hid ((HB.out.grow hE.1.own.base).grow hb3)
            clear hE hW2 hown hel hlen hb3
            go_wp2_with (at_builtin; refine wpList_append_own_at _ rfl _ _ 42 rfl wb.heap.size 47 i0 (.slice none 0 0) 1 24 Tryz.underlying42 hi hz0 hz1 hz2 rfl (by decide) _ _ _ rfl Hown.out ⟨w2.heap.size, 0, none⟩ 1 1 [.slice ax nx cx] rfl rfl (cell_one_new _ _ _) (by simp [Value.oneCell']) (by rw [maxLen_nat]; have := Hpl.out; omega) (by have := Hpl.out; omega) (by rw [World.size_alloc]; have := Hsz.out; omega) ?_; intro v' w3 hown' hgrow _ hblk)
            go_roundw
            case rel =>
              obtain ⟨Y', k1, k2, k3⟩ := want_more HE.out.1 _ Hlen.out Hel.out hown' HB2.out Hpb.out hgrow HWY.out (fun k hk => (Hown.out.lt k hk).1) hblk
              exact ⟨j + 1, Y', Hlt.out, by go_num, k1, by rw [Ht.out, ← List.append_assoc]; exact k2, k3⟩
            case measure => simp [intOf]; omega
        · obtain rfl : n = j := by omega
          have hall : ls.take n = ls := List.take_of_length_le (by omega)
          have hr := HRun.out n
          obtain ⟨B1, c1, hinv1, hBc1⟩ := hr.inv
          have hn2 := hr.n2
          have hsame := hr.same
          have hrm := hr.rm
          rw [hall] at hL hW hinv1 hBc1 hn2 hsame hrm
          rw [HMost.out, List.nil_append] at hW hBc1
          rw [HMost.out] at hsame
          obtain ⟨W1, hW1⟩ : ∃ W1, W1 = runP S0 ls := ⟨_, rfl⟩
          rw [← hW1] at hL hinv1 hn2 hsame hrm
          obtain ⟨hs1, hs2, hs3, hs4, hs5⟩ := hinv1.sync
          have hN1 : W1.n ≤ 61 := by have := HN0.out; rw [HS0.out] at hn2; have h1 : (startW 100000 (x : Int)).n = 1 := rfl; omega
          have HSy := Lib.hid (wsync_any hL (by rw [hinv1.n]; omega) hinv1.nmax)
          rw [hs1] at HSy
          obtain ⟨W2, hW2⟩ : ∃ W2, W2 = (syncW W1).1 := ⟨_, rfl⟩
          rw [← hW2] at HSy hs2 hs3 hs4 hs5
          have hn12 : W2.n = W1.n := by rw [hs2.n, hinv1.n]
          have HN1 := Lib.hid (show W2.n ≤ 100 ∧ W2.wait ≤ 1000 from by omega)
          have HMost1 := Lib.hid (show W2.most = (x : Int) from by rw [hs4, hsame])
          have HRoom1 := Lib.hid (show W2.D.room = 100000 from by rw [hs5, hrm, HRoom.out])
          obtain ⟨ta, hta⟩ : ∃ ta, ta = takeP (x : Int) ls := ⟨_, rfl⟩
          rw [← hta] at hW hBc1
          have htl1 : ta.length ≤ 60 := by
            have h1 := List.length_filter_le (okR (x : Int)) ls
            rw [hta]; unfold takeP; omega
          have hts1 : sizeL ta ≤ 2000 := by
            have h1 := sizeL_filter (okR (x : Int)) ls
            rw [hta]; unfold takeP; omega
          have HAcc1 := Lib.hid (show ta.length ≤ 500 from by omega)
          have HSz1 := Lib.hid (show sizeL ta ≤ 10000 from by omega)
          have HRun1 := Lib.hid (run_from hs2 hBc1 ms (by rw [HRoom1.out]; omega) (by have := HN1.out; omega))
          have Hta := Lib.hid hta
          have HW1 := Lib.hid hW
          have HWY1 := Lib.hid hWY
          have Hw20 := Lib.hid hs3
          obtain ⟨pa, ka, rfl, hQa⟩ := hW.own.parts
          have Hsb := Lib.hid hL.own.base.size
          clear hL hall hr hinv1 hBc1 hn2 hsame hrm hW1 hs1 hs2 hs3 hs4 hs5 hW2 hn12 hta hW hWY hQa hN1 HRun HSz HAcc HRoom HMost HN0
          generalize hma : ta.length = ma at *
          have Hma := Lib.hid hma
          clear hma
          go_wp2_with fail
          refine HSy.out.mono ?_
          rintro e ws ⟨rfl, hE⟩
          have HE := Lib.hid hE
          have HWa := Lib.hid (waiting_any (g := g) (z := 0) (w := ws) (by rw [cell_of_row _ _ _ _ _ (0, 0) hE.1.cells]; unfold logC; rw [Hw20.out]; rfl))
          clear hE HSy
          go_wp2_with fail
          refine HWa.out.mono ?_
          rintro e ws2 ⟨rfl, rfl⟩
          have HW2 := Lib.hid (want_kept HE.out HW1.out HWY1.out)
          go_wp2_with fail
          go_loopw [11, 70] (fun v i wr => WantFrom wb g d W2 ta ms n' v i wr) (fun _ i _ => n' - (intOf i).toNat)
          case atStart => exact ⟨0, _, Nat.zero_le _, rfl, HE.out.1, by rw [List.take_zero, show takeP W2.most [] = [] from rfl, List.append_nil]; exact HW2.out, HWY1.out⟩
          case round =>
            obtain ⟨j, Y, hj, rfl, hL, hW, hWY⟩ := hrel
            by_cases hlt : j < n'
            · obtain ⟨b, o, ax, nx, cx, rfl, hc0, hB⟩ := bytes_get_all HQ.out hlt
              have hc := cell_keep hL.own.base hc0
              have hr := HRun1.out j
              have hjl : j < ms.length := by omega
              have hxj : ms.getD j [] = ms[j] := by rw [List.getD_eq_getElem?_getD, List.getElem?_eq_getElem hjl]; rfl
              have hpb : 0 < nx → ∀ x, ax = some x → x.block < wb.heap.size := by
                intro hn x hx
                obtain ⟨b', o', rfl, hc'⟩ := hB.cell hn
                cases hx
                exact World.block_lt_of_cell? _ _ (hc' 0 hn)
              rw [hxj] at hB
              have htl := takeP_len W2.most ms j
              have HPut := Lib.hid (put_any hL ax nx cx ms[j] (hB.grow hL.own.base) hr.n1 (by have := hr.n2; have := HN1.out; omega) (by have := hr.size; have := HSz1.out; omega) (by have := hr.wait; have := HN1.out; omega) (by rw [hr.same, HMost1.out]; omega) (by rw [hr.same, HMost1.out]; omega) (by have := hr.len; have := HN1.out; omega) (by rw [hr.rm, HRoom1.out]; decide))
              have hnx : runP W2 (ms.take (j + 1)) = (putW (runP W2 (ms.take j)) ms[j]).1 := runP_next hjl
              have hcode := put_from hr (by rw [HRoom1.out]; have := HSz1.out; omega) (by have := HN1.out; omega) hjl
              rw [← hnx] at HPut
              have Hlt := Lib.hid hlt
              have HB := Lib.hid hB
              have HL := Lib.hid hL
              have HW := Lib.hid hW
              have HWY := Lib.hid hWY
              have Hpb := Lib.hid hpb
              have Htl := Lib.hid htl
              have hpl : (ta ++ takeP W2.most (ms.take j)).length ≤ 1000 := by rw [List.length_append]; have := HAcc1.out; have := Hma.out; omega
              have Hpl := Lib.hid hpl
              generalize ms[j] = l at *
              generalize (putW (runP W2 (ms.take j)) l).2 = z at *
              clear hB hr hnx hxj hL hlt hW hWY hpb hc0 htl hpl
              rcases hcode with ⟨hz, ht⟩ | ⟨hz, ht⟩
              · have hzb : (z == 0) = false := by rw [beq_eq_false_iff_ne]; exact hz
                have Ht := Lib.hid ht
                clear ht hz
                go_wp2_with fail
                refine HPut.out.mono ?_
                rintro e w2 ⟨rfl, hE⟩
                have HE := Lib.hid hE
                clear hE
                go_wp2
                go_roundw
                case rel => exact ⟨j + 1, Y, Hlt.out, by go_num, HE.out.1, by rw [Ht.out]; exact want_kept HE.out HW.out HWY.out, HWY.out⟩
                case measure => simp [intOf]; omega
              · subst hz
                have Ht := Lib.hid ht
                clear ht
                go_wp2_with fail
                refine HPut.out.mono ?_
                rintro e w2 ⟨rfl, hE⟩
                have hW2 := (want_kept hE HW.out HWY.out)
                have hb3 : Below w2.heap.size w2 (w2.alloc (.cells #[.slice ax nx cx] 47)) := (Below.refl _ _).alloc (Nat.le_refl _) _
                obtain ⟨vs, hlen, hown, hel⟩ := hW2.grow hb3
                have HE := Lib.hid hE
                have Hown := Lib.hid hown
                have Hel := Lib.hid hel
                have Hlen := Lib.hid hlen
                have Hsz := Lib.hid hE.1.own.base.size
                have HB2 := Lib.hid ((HB.out.grow hE.1.own.base).grow hb3)
                clear hE hW2 hown hel hlen hb3
                go_wp2_with (at_builtin; refine wpList_append_own_at _ rfl _ _ 42 rfl wb.heap.size 47 i0 (.slice none 0 0) 1 24 Tryz.underlying42 hi hz0 hz1 hz2 rfl (by decide) _ _ _ rfl Hown.out ⟨w2.heap.size, 0, none⟩ 1 1 [.slice ax nx cx] rfl rfl (cell_one_new _ _ _) (by simp [Value.oneCell']) (by rw [maxLen_nat]; have := Hpl.out; omega) (by have := Hpl.out; omega) (by rw [World.size_alloc]; have := Hsz.out; omega) ?_; intro v' w3 hown' hgrow _ hblk)
                go_roundw
                case rel =>
                  obtain ⟨Y', k1, k2, k3⟩ := want_more HE.out.1 _ Hlen.out Hel.out hown' HB2.out Hpb.out hgrow HWY.out (fun k hk => (Hown.out.lt k hk).1) hblk
                  exact ⟨j + 1, Y', Hlt.out, by go_num, k1, by rw [Ht.out, ← List.append_assoc]; exact k2, k3⟩
                case measure => simp [intOf]; omega
            · obtain rfl : n' = j := by omega
              have hall : ms.take n' = ms := List.take_of_length_le (by omega)
              obtain ⟨wp, rfl⟩ : ∃ wp, wp = wr := ⟨_, rfl⟩
              have hr := HRun1.out n'
              obtain ⟨B3, c3, hinv3, hBc3⟩ := hr.inv
              have hn2 := hr.n2
              have hsame := hr.same
              have hwt := hr.wait
              have husd := hr.used
              rw [hall] at hL hW hinv3 hBc3 hn2 hsame hwt husd
              rw [HMost1.out] at hW hBc3 hwt
              rw [Hw20.out, Nat.zero_add] at hwt
              obtain ⟨W3, hW3⟩ : ∃ W3, W3 = runP W2 ms := ⟨_, rfl⟩
              rw [← hW3] at hL hinv3 hn2 hsame hwt husd
              obtain ⟨s1, s2, s3⟩ := hinv3.small
              have hN3 : W3.n ≤ 160 := by have := HN1.out; omega
              obtain ⟨tb, htb⟩ : ∃ tb, tb = takeP (x : Int) ms := ⟨_, rfl⟩
              rw [← htb] at hW hBc3 hwt
              have htl2 : tb.length ≤ 60 := by
                have h1 := List.length_filter_le (okR (x : Int)) ms
                rw [htb]; unfold takeP; omega
              have hnf : W3.D.fs.length ≤ 160 := by omega
              have husd2 : usedF W3.D.fs ≤ 4000 := by rw [s2, hBc3, sizeL_append]; have h1 := sizeL_filter (okR (x : Int)) ms; rw [htb]; unfold takeP; omega
              have HLi := Lib.hid (own_list hL.own (by omega))
              obtain ⟨hrecs, _⟩ := hinv3.records
              have HL3 := Lib.hid hL
              have HW3 := Lib.hid hW
              have HWY3 := Lib.hid hWY
              have Hinv3 := Lib.hid hinv3
              have HBc3 := Lib.hid hBc3
              have Hwt := Lib.hid hwt
              have Hnf := Lib.hid hnf
              have Hused := Lib.hid husd2
              have Hnm := Lib.hid s3
              have Htb := Lib.hid htb
              have Htl2 := Lib.hid htl2
              obtain ⟨pw, kw, rfl, hQw⟩ := hW.own.parts
              generalize hmw : (ta ++ tb).length = mw at *
              have Hmw := Lib.hid hmw
              clear hall hr hn2 hsame husd hL hW hWY hinv3 hBc3 hwt hnf husd2 s1 s2 s3 htb htl2 hW3 hN3 hQw hmw hrecs HRun1
              go_wp2_with fail
              refine HLi.out.mono ?_
              rintro e w5 ⟨v5, rfl, hown5, hb5⟩
              obtain ⟨p5, k5, rfl, _⟩ := strs_row hown5 (fun n hn => by obtain ⟨f, hf, rfl⟩ := List.mem_map.1 hn; exact Hnm.out f hf)
              have Hb5 := Lib.hid hb5
              clear hown5 hb5 HLi
              generalize hnff : W3.D.fs.length = nf at *
              have Hnff := Lib.hid hnff
              clear hnff
              go_wp2_with fail
              go_loopw [17, 86] (fun v i wr => ∃ q : Nat, q ≤ nf ∧ i = .int .i64 (q : Int) ∧ wr.ownsRow w5.heap.size 3 1 v q (intsE (List.replicate q y)) ∧ Below w5.heap.size w5 wr) (fun _ i _ => nf - (intOf i).toNat)
              case atStart => exact ⟨0, Nat.zero_le _, rfl, World.ownsRow_nil _ _ _ _, Below.refl _ _⟩
              case round =>
                obtain ⟨q, hq, rfl, hown, hbel⟩ := hrel
                have Hown := Lib.hid hown
                have Hbel := Lib.hid hbel
                clear hown hbel
                by_cases hlt : q < nf
                · have Hlt := Lib.hid hlt
                  have Hrow := Lib.hid (int_row wr y)
                  have Hown1 := Lib.hid (Hown.out.alloc (.cells #[.int .i64 y] 3))
                  have hji : (q : Int) < (nf : Int) := by omega
                  have hnfb : (nf : Int) ≤ 1000 := by have := Hnf.out; omega
                  go_wp2_with (at_builtin; refine wpList_append_ints _ rfl _ _ 40 rfl w5.heap.size 3 Tryz.underlying40 info_int _ _ _ rfl Hown1.out _ 1 1 [y] rfl Hrow.out (by have := Hnf.out; omega) (by simp; have := Hbel.out.size; omega) ?_; intro v' w6 g1 g2)
                  go_roundw
                  case rel =>
                    refine ⟨q + 1, Hlt.out, by go_num, by rw [List.replicate_succ']; exact g1, ?_⟩
                    have hb : Below w5.heap.size w5 (wr.alloc (.cells #[.int .i64 y] 3)) := Hbel.out.alloc Hbel.out.size _
                    exact hb.grown g2 hb.size (fun x hx => (Hown.out.lt x hx).1)
                  case measure => simp [intOf]; have := Hlt.out; omega
                · obtain rfl : q = nf := by omega
                  obtain ⟨pc, kc, rfl, hIc⟩ := own_ints Hown.out
                  have hbw : Below wp.heap.size wp wr := Hb5.out.trans (Hbel.out.mono Hb5.out.size)
                  have hA := HL3.out.all hbw
                  have hNu : Nums wr pc q kc (List.replicate q y) := ⟨hIc.len, hIc.le, hIc.capmax, fun z hz => by rw [List.eq_of_mem_replicate hz]; exact ⟨hy1, hy2⟩, hIc.cell⟩
                  have HCr := Lib.hid (own_crash hA.own (by have := Hnff.out; have := Hnf.out; omega) pc q kc (List.replicate q y) hNu (fun h0 z hz => .inl (.inr (by
                    have h1 := Hown.out.lt z.block (by subst hz; rfl)
                    have := Hb5.out.size
                    exact ⟨by omega, h1.2⟩))))
                  obtain ⟨i, hi1, hi2, hcr, _⟩ := Hinv3.out.crash (List.replicate q y)
                  have HW6 := Lib.hid (HW3.out.grow hbw)
                  have HA := Lib.hid hA
                  have Hcr := Lib.hid hcr
                  have Hi := Lib.hid (And.intro hi1 hi2)
                  clear hIc hNu hbw hA hcr hi1 hi2
                  go_wp2_with fail
                  refine HCr.out.mono ?_
                  rintro e wc ⟨⟨vc, rfl⟩, hoc, hkc, hbc, hsc⟩
                  have Hoc := Lib.hid hoc
                  have HPc := Lib.hid (HW6.out.moved (W' := wc) (fun b hz hlt => hbc.block b hz) (fun b hb => hkc b (.inl (HWY3.out b hb).1)))
                  have hCs := crashM_small (List.replicate q y) W3.D
                  have HCs := Lib.hid hCs
                  have HRe := Lib.hid (records_any hoc (by have := hCs.1; have := Hnff.out; have := Hnf.out; omega) (by have := hCs.2.2.1; have := Hused.out; omega) (crashM_names Hnm.out))
                  clear hoc hkc hbc hsc hCs
                  go_wp2_with fail
                  refine HRe.out.mono ?_
                  rintro e wg ⟨vg, lsg, rfl, hPg, hRg, hbg⟩
                  obtain rfl : lsg = B3.flatten ++ c3.take i := recsOf_uniq hRg Hcr.out
                  have HPg := Lib.hid hPg
                  have HPd := Lib.hid (HPc.out.grow hbg)
                  have hog := Hoc.out.below hbg
                  have Hog := Lib.hid hog
                  have HNew := Lib.hid (rnew_any 100000 (x : Int) wg (by omega) (by omega))
                  rw [← HS0.out] at HNew
                  clear hPg hRg hbg hog HRe
                  go_wp2_with fail
                  refine HNew.out.mono ?_
                  rintro e w7 ⟨v7, rfl, hR7, hb7⟩
                  obtain ⟨a7, n7, c7, R7, rfl, hR7, hf7, hn7⟩ := hR7
                  unfold logV
                  have HbB := Lib.hid hb7
                  have hbox0 : RBox (fun b => wg.heap.size ≤ b ∧ b < w7.heap.size) (w7.alloc (logO (S0.D.room : Int) a7 n7 c7 (S0.D.plan : Int) S0.D.down S0.most (S0.n : Int) (S0.size : Int) (S0.wait : Int))) w7.heap.size S0 :=
                    ⟨a7, n7, c7, R7, heap_alloc_new _ _, hR7.mono (fun b hb => Below.heap_alloc _ _ _ hb.2) (fun _ h => h), hf7, hn7, fun b hb => ⟨by rw [World.size_alloc]; omega, by omega⟩⟩
                  obtain ⟨w7b, hw7b⟩ : ∃ w7b, w7b = w7.alloc (logO (S0.D.room : Int) a7 n7 c7 (S0.D.plan : Int) S0.D.down S0.most (S0.n : Int) (S0.size : Int) (S0.wait : Int)) := ⟨_, rfl⟩
                  have hsz7 : w7b.heap.size = w7.heap.size + 1 := by rw [hw7b]; simp
                  have hb7b : Below wg.heap.size wg w7b := by rw [hw7b]; exact hb7.alloc hb7.size _
                  rw [← hw7b] at hbox0
                  obtain ⟨w8, hw8⟩ : ∃ w8, w8 = w7b.alloc (.cells #[.slice a n cap, .slice a' n' cap'] 42) := ⟨_, rfl⟩
                  have hb8b : Below w7b.heap.size w7b w8 := by rw [hw8]; exact (Below.refl _ _).alloc (Nat.le_refl _) _
                  have hb8 : Below wg.heap.size wg w8 := hb7b.trans (hb8b.mono hb7b.size)
                  have hB8 : w8.heap[w7.heap.size + 1]? = some (.cells #[.slice a n cap, .slice a' n' cap'] 42 (0, 0)) := by rw [hw8, ← hsz7]; exact heap_alloc_new _ _
                  have hbase8 : Below wb.heap.size wb w8 := Hog.out.base.trans (hb8.mono Hog.out.base.size)
                  have HCo := Lib.hid (concatRows_any (w7.heap.size + 1) a a' n cap n' cap' ls ms w8 (by rw [cell_of_row _ _ _ _ _ (0, 0) hB8]; rfl) (by rw [cell_of_row _ _ _ _ _ (0, 0) hB8]; rfl) (HP.out.grow hbase8) (HQ.out.grow hbase8) (by omega))
                  have Hbox8 := Lib.hid (hbox0.below hb8b)
                  have Hb8 := Lib.hid hb8
                  have Hbase8 := Lib.hid hbase8
                  have Hb7 := Lib.hid hb7
                  have Hsz8 := Lib.hid (show w7.heap.size < w8.heap.size from by rw [hw8, World.size_alloc, hsz7]; omega)
                  have Hw8 := Lib.hid hw8
                  have Hw7b := Lib.hid hw7b
                  unfold logO at Hw7b
                  clear hR7 hf7 hn7 hb7 HbB hbox0 hsz7 hb7b hb8b hb8 hB8 hbase8 hw8 hw7b
                  go_wp2_with fail
                  rw [← Hw7b.out, ← Hw8.out]
                  refine HCo.out.mono ?_
                  rintro e w9 ⟨v9, rfl, hown9, hb9⟩
                  have hbx9 := Hbox8.out.below hb9
                  obtain ⟨ar, nr, cr, Rr, hcr, _⟩ := hbx9.ref
                  have hZ9 := parts_not_log hown9 hcr
                  obtain ⟨p9, k9, rfl, hQ9⟩ := hZ9.own.parts
                  obtain ⟨NN, hNN⟩ : ∃ NN, NN = n + n' := ⟨_, rfl⟩
                  have hcat0 : (ls ++ ms).length = NN := by rw [List.length_append, hln, hln', hNN]
                  have hNNle : NN ≤ 120 := by omega
                  have Hcat := Lib.hid hcat0
                  rw [hcat0] at hQ9 hZ9
                  rw [hcat0]
                  have HZ9 := Lib.hid hZ9
                  have Hbx9 := Lib.hid hbx9
                  have Hb9 := Lib.hid hb9
                  have HRunR := Lib.hid (run_from Hinv0.out (acc := []) rfl (ls ++ ms) (by rw [HS0.out]; show sizeL [] + _ ≤ 100000; rw [sizeL_append, sizeL_nil]; omega) (by rw [HS0.out]; show 1 + _ ≤ _; rw [List.length_append]; omega))
                  have HR9 := Lib.hid (fun b (hb : b < wg.heap.size) => (show w9.heap[b]? = wg.heap[b]? from (hb9.block b (Nat.lt_of_lt_of_le hb Hb8.out.size)).trans (Hb8.out.block b hb)))
                  clear hown9 hb9 hbx9 hcr hZ9 hQ9 HCo hcat0 hNN
                  go_wp2_with fail
                  go_loopw [106] (fun i wq => RPutFrom w9 w7.heap.size wg.heap.size S0 (ls ++ ms) NN i wq) (fun i _ => NN - (intOf i).toNat)
                  case atStart => exact ⟨0, _, Nat.zero_le _, rfl, Hbx9.out, fun b hb => hb.1, Chg.refl _ _⟩
                  case round =>
                    obtain ⟨k, X, hk, rfl, hbx, hXlo, hchg⟩ := hrel
                    have hcat : (ls ++ ms).length = NN := Hcat.out
                    have hZr : PartsZ (fun b => b ≠ w7.heap.size) wr w8.heap.size (.slice p9 NN k9) (ls ++ ms) := HZ9.out.moved (fun b hb hlt => hchg.block b hlt hb) (fun b hb => hchg.block b (HZ9.out.lt b hb).2 (fun e => by have := (HZ9.out.lt b hb).1; have := Hsz8.out; omega))
                    by_cases hlt : k < NN
                    · obtain ⟨pr, kr, er, hPr⟩ := hZr.own.parts
                      rw [hcat] at hPr er
                      cases er
                      obtain ⟨b, o, ax, nx, cx, rfl, hc, hB⟩ := bytes_get_all hPr hlt
                      have hjl : k < (ls ++ ms).length := by omega
                      have hxj : (ls ++ ms).getD k [] = (ls ++ ms)[k] := by rw [List.getD_eq_getElem?_getD, List.getElem?_eq_getElem hjl]; rfl
                      rw [hxj] at hB
                      obtain ⟨W, r, a4, n4, c4, hcells, hput⟩ := rput_from (HRunR.out k) (HRunR.out (k + 1)) (by rw [HS0.out]; show 1 + _ ≤ _; omega) (by rw [sizeL_append, sizeL_nil]; omega) (by rw [HS0.out]; show 0 + _ ≤ _; omega) hbx hjl hB
                      have HRPut := Lib.hid hput
                      have HXlo := Lib.hid hXlo
                      have Hchg := Lib.hid hchg
                      unfold logO at hcells HRPut
                      unfold logV at HRPut
                      obtain ⟨c0, c1, c2', c3', c4', c5, c6, c7', cf⟩ := box8 hcells
                      have Hlt := Lib.hid hlt
                      have hji : (k : Int) < (NN : Int) := by omega
                      have Hwlo := Lib.hid (show wg.heap.size ≤ wr.heap.size from Nat.le_trans (Nat.le_trans Hb8.out.size Hb9.out.size) hchg.size)
                      clear hbx hXlo hchg hB hxj hcells hput hlt hZr hPr hcat
                      go_wp2_with fail
                      refine HRPut.out.mono ?_
                      rintro e w5' ⟨a5, n5, c5', z, rfl, hb5, hcells, X', hbx', hX'⟩
                      obtain ⟨d0, d1, d2, d3, d4, d5, d6, d7, df⟩ := box8 hcells
                      have Hbx' := Lib.hid hbx'
                      have HX' := Lib.hid hX'
                      have Hb5' := Lib.hid hb5
                      clear hcells hbx' hX' hb5
                      go_wp2
                      go_roundw
                      case rel => exact ⟨k + 1, X', Hlt.out, by go_num, Hbx'.out, fun b hb => (HX'.out b hb).elim (HXlo.out b) (fun h => Nat.le_trans Hwlo.out h), (Hchg.out.trans (Chg.of_below (S := fun b => b = w7.heap.size) Hb5'.out) (fun b h => .inl h)).same (set8_chg _ _ _ _ _ _ _ _ _ _)⟩
                      case measure => simp [intOf]; omega
                    · obtain rfl : NN = k := by omega
                      have hall : (ls ++ ms).take NN = ls ++ ms := List.take_of_length_le (by omega)
                      have hr := HRunR.out NN
                      obtain ⟨B4, c4, hinv4, hBc4⟩ := hr.inv
                      have hlen := hr.len
                      have hused := hr.used
                      have hnm := hr.names
                      have hdn := hr.down
                      rw [hall] at hbx hinv4 hBc4 hlen hused hnm hdn
                      have hmo : S0.most = (x : Int) := by rw [HS0.out]; rfl
                      rw [hmo, List.nil_append, takeP_append, ← Hta.out, ← Htb.out] at hBc4
                      obtain ⟨W4, hW4⟩ : ∃ W4, W4 = runP S0 (ls ++ ms) := ⟨_, rfl⟩
                      rw [← hW4] at hbx hinv4 hlen hused hnm hdn
                      have hlen4 : W4.D.fs.length ≤ 1000 := by
                        have h1 : S0.n = 1 := by rw [HS0.out]; rfl
                        omega
                      have hused4 : usedF W4.D.fs ≤ 200000 := by rw [sizeL_append, sizeL_nil] at hused; omega
                      obtain ⟨hrec4, _⟩ := hinv4.records
                      rw [hBc4] at hrec4
                      have hkeep : ∀ b, b < wg.heap.size → wr.heap[b]? = wg.heap[b]? := fun b hb => (hchg.block b (Nat.lt_of_lt_of_le hb (Nat.le_trans Hb8.out.size Hb9.out.size)) (fun e => by have := Hb7.out.size; omega)).trans (HR9.out b hb)
                      have hPg := HPg.out.moved (W' := wr) (fun b _ hlt => hkeep b hlt) (fun b hb => hkeep b (HPg.out.lt b hb).2)
                      have hPd := HPd.out.moved (W' := wr) (fun b _ hlt => hkeep b hlt) (fun b hb => hkeep b (HPd.out.lt b hb).2)
                      have hbwr : Below wb.heap.size wb wr := (Hbase8.out.trans (Hb9.out.mono Hbase8.out.size)).trans (hchg.below (fun b e => by have := Hog.out.base.size; have := Hb7.out.size; omega) (Nat.le_trans Hbase8.out.size Hb9.out.size))
                      obtain ⟨hi1, hi2⟩ := Hi.out
                      have hBc3 := HBc3.out
                      have hlen3 := congrArg List.length hBc3
                      rw [List.length_append, Hmw.out] at hlen3
                      have hmw := Hmw.out
                      rw [List.length_append] at hmw
                      have hma := Hma.out
                      have hwt := Hwt.out
                      have htl2 := Htl2.out
                      have htake : B3.flatten ++ c3.take i = (ta ++ tb).take (B3.flatten.length + i) := by rw [← hBc3, List.take_length_add_append]
                      obtain ⟨mg, hmg⟩ : ∃ mg, mg = B3.flatten.length + i := ⟨_, rfl⟩
                      rw [htake, ← hmg] at hPg
                      have hgl : ((ta ++ tb).take mg).length = mg := by rw [List.length_take, Hmw.out]; omega
                      have hmg1 : ma ≤ mg := by omega
                      have hmg2 : mg ≤ mw := by omega
                      obtain ⟨pg, kg, eg, hQg⟩ := hPg.own.parts
                      rw [hgl] at hQg eg
                      subst eg
                      obtain ⟨pd, kd, ed, hQd⟩ := hPd.own.parts
                      rw [Hmw.out] at ed hQd
                      cases ed
                      obtain ⟨q2, hsl0, hsl2⟩ := parts_upto (a := pw) (n := mw) (c := kw) (k := mg) hmg2 hQd.le
                      have hsl := fun W => hsl0 W .i64
                      have hmi1 : (ma : Int) ≤ (mg : Int) := by omega
                      have hmi2 : (mg : Int) ≤ (mw : Int) := by omega
                      obtain ⟨a4, n4, c4', R4, hcells, _, href, hrow⟩ := hbx.ref
                      have hXb : ∀ b, X b → b < wr.heap.size := by
                        obtain ⟨_, _, _, _, _, _, _, _, hXb⟩ := hbx
                        exact fun b hb => (hXb b hb).1
                      unfold logO at hcells
                      obtain ⟨d0, d1, d2, d3, _, _, _, _, _⟩ := box8 hcells
                      have HKK := Lib.hid (fun W (hW : Below wr.heap.size wr W) => (show W.cell? ⟨w7.heap.size, 0, none⟩ = some (.int .i64 (W4.D.room : Int)) ∧ W.cell? ⟨w7.heap.size, 1, none⟩ = some (.slice a4 n4 c4') ∧ W.cell? ⟨w7.heap.size, 2, none⟩ = some (.int .i64 (W4.D.plan : Int)) ∧ W.cell? ⟨w7.heap.size, 3, none⟩ = some (.bool W4.D.down) from
                        ⟨cell_keep hW d0, cell_keep hW d1, cell_keep hW d2, cell_keep hW d3⟩))
                      have HS1 := Lib.hid (fun W (hW : Below wr.heap.size wr W) => same_yes pg q2 mg kg kw ((ta ++ tb).take mg) W (hQg.grow hW) (hsl2 W _ (hQd.grow hW)))
                      have HQd := Lib.hid (fun W (hW : Below wr.heap.size wr W) => hQd.grow hW)
                      have hrefW : ∀ W, Below wr.heap.size wr W → RefAt X W (refV (W4.D.room : Int) a4 n4 c4' (W4.D.plan : Int) W4.D.down) W4.D := fun W hW => by
                        obtain ⟨a, n, c, R, e, h1, h2, h3⟩ := href
                        exact ⟨a, n, c, R, e, h1.below hXb hW, h2, h3⟩
                      unfold refV at hrefW
                      have HRR := Lib.hid (fun W (hW : Below wr.heap.size wr W) => (rrecords_any (hrefW W hW) (fun b hb => Nat.lt_of_lt_of_le (hXb b hb) hW.size) hdn hlen4 hused4 hnm).mono (R' := fun e w' => ∃ p c, e = .returned (.slice p mw c) ∧ Parts w' p mw c (ta ++ tb) ∧ Below W.heap.size W w') (by
                        rintro e w' ⟨v, ls', rfl, hP, hR, hb⟩
                        obtain rfl : ls' = ta ++ tb := recsOf_uniq hR hrec4
                        obtain ⟨p, c', rfl, hQ⟩ := hP.parts
                        rw [Hmw.out] at hQ ⊢
                        exact ⟨p, c', rfl, hQ, hb⟩))
                      have Hbwr := Lib.hid (Hbw.out.trans (hbwr.mono Hbw.out.size))
                      clear hall hr hBc4 hlen hused hnm hdn hmo hW4 hlen4 hused4 hrec4 hkeep hPg hPd hbwr hi1 hi2 hBc3 hlen3 hmw hma hwt htl2 htake hmg hgl hQg hQd hsl0 hsl2 hbx hXlo hchg hinv4 href hXb hrefW hcells hrow d0 d1 d2 d3 hZr hcat
                      generalize (W4.D.room : Int) = ro at *
                      generalize (W4.D.plan : Int) = pl at *
                      generalize W4.D.down = dn at *
                      go_wp2_with fail
                      refine (walive_any _).mono ?_
                      rintro e wa ⟨rfl, hg1⟩
                      go_wp2_with fail
                      refine (HS1.out _ hg1).mono ?_
                      rintro e wb' ⟨rfl, q1, hq1⟩
                      have hg2 : Below wr.heap.size wr wb' := by rw [hq1]; exact below_drewN hg1 q1
                      obtain ⟨d0, d1, d2, d3⟩ := HKK.out _ hg2
                      clear hg1 hq1
                      go_wp2_with fail
                      refine (HRR.out _ hg2).mono ?_
                      rintro e wc' ⟨p6, c6, rfl, hQ6, hb0⟩
                      have hg3 : Below wr.heap.size wr wc' := hg2.trans (hb0.mono hg2.size)
                      have HS2 := Lib.hid (same_yes _ _ _ _ _ _ _ (HQd.out _ hg3) hQ6)
                      have Hg3 := Lib.hid (Hbwr.out.trans (hg3.mono Hbwr.out.size))
                      clear hb0 hQ6 hg2 hg3 d0 d1 d2 d3
                      go_wp2_with fail
                      refine HS2.out.mono ?_
                      rintro e wd ⟨rfl, q2', hq2⟩
                      have Hend := Lib.hid (show Below w.heap.size w wd from by rw [hq2]; exact below_drewN Hg3.out q2')
                      clear hq2
                      go_wp2
                      go_ret
                      exact ⟨rfl, Hend.out⟩
end Go.Proofs.YtehjgkkcpiblcaaGreat
