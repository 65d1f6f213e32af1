/- The walk of the statement WalRecords: it returns true whatever the records and the greatest size are. -/
import Derived.Test.YtehjgkkcpiblcaaGreatHWalRecordsWlLawN
import Derived.Test.YtehjgkkcpiblcaaGreatMB38
import Derived.Test.YtehjgkkcpiblcaaGreatMB39
import Derived.Test.YtehjgkkcpiblcaaGreatMB41
import Derived.Test.YtehjgkkcpiblcaaGreatMB42
import Derived.Test.YtehjgkkcpiblcaaGreatHWalRecordsGapAny
import Derived.Deep.RegionHeld3
namespace Go.Proofs.YtehjgkkcpiblcaaGreat
open Go.RowKit Go.Maps Go.Shelf

attribute [local go_sem ↓] Go.wp_at_zero Go.wp_at_succ

theorem few_small' {ls : List (List Nat)} (h : minsF ls ≤ 1500 ∧ ls.length ≤ 60) : sizeL ls ≤ 2000 ∧ ls.length ≤ 60 := by
  have := (minsF_bound ls h.1).1
  exact ⟨by omega, h.2⟩

theorem gap_upTo (n : Nat) : gapL (upTo n) = 0 := by
  have h := (gapL_zero (L := upTo n) (fun x hx => by have := (upTo_mem n x).1 hx; omega) 0).2 (fun i hi _ => by
    rw [upTo_get n hi, upTo_get n (by omega)]
    omega)
  rwa [List.drop_zero] at h

set_option maxRecDepth 100000 in
set_option maxHeartbeats 6400000 in
theorem walRecords_any (x : Nat) (a : Option Addr) (n cap : Nat) (ls : List (List Nat)) (w : World) (hl : Parts w a n cap ls) (hx : x < 65536) :
    Calls Tryz.prog 4 #[.int .u16 (x : Int), .slice a n cap] w fun e w' => e = .returned (.bool true) ∧ Below w.heap.size w w' := by
  have HP := Lib.hid hl
  clear hl
  have HFew := Lib.hid (fewF_any a n cap ls w HP.out)
  go_enter Tryz.func4, Tryz.ntmps4
  go_wp2_with fail
  refine HFew.out.mono ?_
  rintro e w' ⟨⟨b, rfl, hb⟩, rfl⟩
  have Hb := Lib.hid hb
  clear hb HFew
  cases b
  · go_wp2_with fail
    refine (walive_any _).mono ?_
    rintro e w1 ⟨rfl, hb1⟩
    go_wp2
    go_ret
    exact ⟨rfl, hb1⟩
  · obtain ⟨hz, h60⟩ := few_small' (Hb.out rfl)
    have hln := HP.out.len
    obtain ⟨i0, hi, hz0, hz1, hz2⟩ := info_parts info_rows
    have HRun := Lib.hid (run_ok 100000 (x : Int) ls (by omega) h60)
    have HSt := Lib.hid (start_any 100000 (x : Int) w (by omega))
    go_wp2_with fail
    refine HSt.out.mono ?_
    rintro e w1 ⟨d, g, rfl, hL1⟩
    have HL1 := Lib.hid hL1
    clear hL1 HSt
    go_wp2_with fail
    go_loopw [7, 28] (fun v i wr => WantRel w g d 100000 (x : Int) ls n v i wr) (fun _ i _ => n - (intOf i).toNat)
    case atStart => exact ⟨0, _, Nat.zero_le _, rfl, HL1.out, PartsZ.nil _ _ _, fun k h => by cases h⟩
    case round =>
      obtain ⟨j, Y, hj, rfl, hL, hW, hWY⟩ := hrel
      by_cases hlt : j < n
      · obtain ⟨b, o, a', n', c', rfl, hc0, hB⟩ := bytes_get_all HP.out hlt
        have hc := cell_keep hL.own.base hc0
        have hr := HRun.out j
        have hjl : j < ls.length := by omega
        have hxj : ls.getD j [] = ls[j] := by rw [List.getD_eq_getElem?_getD, List.getElem?_eq_getElem hjl]; rfl
        have hpb : 0 < n' → ∀ x, a' = some x → x.block < w.heap.size := by
          intro hn x hx
          obtain ⟨b', o', rfl, hc'⟩ := hB.cell hn
          cases hx
          exact World.block_lt_of_cell? _ _ (hc' 0 hn)
        rw [hxj] at hB
        have HPut := Lib.hid (put_any hL a' n' c' ls[j] (hB.grow hL.own.base) hr.n1 (by have := hr.n2; omega) (by have := hr.size; omega) (by have := hr.wait; omega) (by rw [hr.same]; omega) (by rw [hr.same]; omega) (by have := hr.len; omega) (by rw [hr.rm]; decide))
        have hnx : runP (startW 100000 (x : Int)) (ls.take (j + 1)) = (putW (runP (startW 100000 (x : Int)) (ls.take j)) ls[j]).1 := runP_next hjl
        have hcode := put_code (room := 100000) (most := (x : Int)) (ls := ls) (k := j) (by omega) h60 hjl
        rw [← hnx] at HPut
        have Hnx := Lib.hid hnx
        have Hlt := Lib.hid hlt
        have HB := Lib.hid hB
        have HL := Lib.hid hL
        have HW := Lib.hid hW
        have HWY := Lib.hid hWY
        have Hpb := Lib.hid hpb
        have Htl := Lib.hid (takeP_len (x : Int) ls j)
        generalize ls[j] = l at *
        generalize (putW (runP (startW 100000 (x : Int)) (ls.take j)) l).2 = z at *
        clear hB hr hnx hxj hL hlt hW hWY hpb hc0
        rcases hcode with ⟨hz, ht⟩ | ⟨hz, ht⟩
        · have hzb : (z == 0) = false := by rw [beq_eq_false_iff_ne]; exact hz
          have Ht := Lib.hid ht
          clear ht hz
          go_wp2_with fail
          refine HPut.out.mono ?_
          rintro e w2 ⟨rfl, hE⟩
          have HE := Lib.hid hE
          clear hE
          go_wp2
          go_roundw
          case rel => exact ⟨j + 1, Y, Hlt.out, by go_num, HE.out.1, by rw [Ht.out]; exact want_kept HE.out HW.out HWY.out, HWY.out⟩
          case measure => simp [intOf]; omega
        · subst hz
          have Ht := Lib.hid ht
          clear ht
          go_wp2_with fail
          refine HPut.out.mono ?_
          rintro e w2 ⟨rfl, hE⟩
          have hW2 := (want_kept hE HW.out HWY.out)
          have hb3 : Below w2.heap.size w2 (w2.alloc (.cells #[.slice a' n' c'] 47)) := (Below.refl _ _).alloc (Nat.le_refl _) _
          obtain ⟨vs, hlen, hown, hel⟩ := hW2.grow hb3
          have HE := Lib.hid hE
          have Hown := Lib.hid hown
          have Hel := Lib.hid hel
          have Hlen := Lib.hid hlen
          have Hsz := Lib.hid hE.1.own.base.size
          have HB2 := Lib.hid ((HB.out.grow hE.1.own.base).grow hb3)
          clear hE hW2 hown hel hlen hb3
          go_wp2_with (at_builtin; refine wpList_append_own_at _ rfl _ _ 42 rfl w.heap.size 47 i0 (.slice none 0 0) 1 24 Tryz.underlying42 hi hz0 hz1 hz2 rfl (by decide) _ _ _ rfl Hown.out ⟨w2.heap.size, 0, none⟩ 1 1 [.slice a' n' c'] rfl rfl (cell_one_new _ _ _) (by simp [Value.oneCell']) (by rw [maxLen_nat]; have := Htl.out; omega) (by have := Htl.out; omega) (by rw [World.size_alloc]; have := Hsz.out; omega) ?_; intro v' w3 hown' hgrow _ hblk)
          go_roundw
          case rel =>
            obtain ⟨Y', k1, k2, k3⟩ := want_more HE.out.1 _ Hlen.out Hel.out hown' HB2.out Hpb.out hgrow HWY.out (fun k hk => (Hown.out.lt k hk).1) hblk
            exact ⟨j + 1, Y', Hlt.out, by go_num, k1, by rw [Ht.out]; exact k2, k3⟩
          case measure => simp [intOf]; omega
      · obtain rfl : j = n := by omega
        have hall : ls.take j = ls := List.take_of_length_le (by omega)
        rw [hall] at hL
        obtain ⟨wp, rfl⟩ : ∃ wp, wp = wr := ⟨_, rfl⟩
        have HL := Lib.hid hL
        rw [hall] at hW
        have HW := Lib.hid hW
        have HWY := Lib.hid hWY
        have HNew := Lib.hid (rnew_any 100000 (x : Int) wp (by omega) (by omega))
        clear hL hall hW hWY
        go_wp2_with fail
        refine HNew.out.mono ?_
        rintro e w2 ⟨v2, rfl, hR2, hb2⟩
        obtain ⟨a2, n2, c2, R2, rfl, hR2, hf2, hn2⟩ := hR2
        unfold logV
        have HR2 := Lib.hid hR2
        have Hf2 := Lib.hid hf2
        have Hn2 := Lib.hid hn2
        have Hb2 := Lib.hid hb2
        have hbox0 : RBox (fun b => wp.heap.size ≤ b ∧ b < w2.heap.size) (w2.alloc (logO ((startW 100000 (x : Int)).D.room : Int) a2 n2 c2 ((startW 100000 (x : Int)).D.plan : Int) (startW 100000 (x : Int)).D.down (startW 100000 (x : Int)).most ((startW 100000 (x : Int)).n : Int) ((startW 100000 (x : Int)).size : Int) ((startW 100000 (x : Int)).wait : Int))) w2.heap.size (startW 100000 (x : Int)) :=
          ⟨a2, n2, c2, R2, heap_alloc_new _ _, hR2.mono (fun b hb => Below.heap_alloc _ _ _ hb.2) (fun _ h => h), hf2, hn2, fun b hb => ⟨by rw [World.size_alloc]; omega, by omega⟩⟩
        have Hbox0 := Lib.hid hbox0
        have HL3 := Lib.hid (HL.out.all (hb2.alloc hb2.size (logO ((startW 100000 (x : Int)).D.room : Int) a2 n2 c2 ((startW 100000 (x : Int)).D.plan : Int) (startW 100000 (x : Int)).D.down (startW 100000 (x : Int)).most ((startW 100000 (x : Int)).n : Int) ((startW 100000 (x : Int)).size : Int) ((startW 100000 (x : Int)).wait : Int))))
        have Hgs := Lib.hid (show g < wp.heap.size from HL.out.lt)
        unfold logO at Hbox0 HL3
        clear hR2 hf2 hn2 hb2 hbox0
        go_wp2_with fail
        go_loopw [46] (fun i wq => RPutRel (w2.alloc (.cells #[.int .i64 ((startW 100000 (x : Int)).D.room : Int), .slice a2 n2 c2, .int .i64 ((startW 100000 (x : Int)).D.plan : Int), .bool (startW 100000 (x : Int)).D.down, .int .i64 (startW 100000 (x : Int)).most, .int .i64 ((startW 100000 (x : Int)).n : Int), .int .i64 ((startW 100000 (x : Int)).size : Int), .int .i64 ((startW 100000 (x : Int)).wait : Int)] 34)) w2.heap.size wp.heap.size 100000 (x : Int) ls j i wq) (fun i _ => j - (intOf i).toNat)
        case atStart => exact ⟨0, _, Nat.zero_le _, rfl, Hbox0.out, fun b hb => hb.1, Chg.refl _ _⟩
        case round =>
          obtain ⟨k, X, hk, rfl, hbx, hXlo, hchg⟩ := hrel
          by_cases hlt : k < j
          · have hbw : Below w.heap.size w wr := (HL3.out.turned hchg (fun b hb => by
              have h1 := Hgs.out
              have h2 := Hb2.out.size
              have h3 := HL3.out.own.base.size
              refine ⟨.inr ⟨by omega, by rw [World.size_alloc]; omega⟩, by omega, ?_⟩
              have h4 := HL.out.own.base.size
              omega)).own.base
            obtain ⟨b, o, a', n', c', rfl, hc, hB⟩ := bytes_get_all (HP.out.grow hbw) hlt
            have hjl : k < ls.length := by omega
            have hxj : ls.getD k [] = ls[k] := by rw [List.getD_eq_getElem?_getD, List.getElem?_eq_getElem hjl]; rfl
            rw [hxj] at hB
            obtain ⟨W, r, _, a4, n4, c4, hcells, hput⟩ := rput_step (by omega) h60 (by omega) hbx hjl hB
            have HRPut := Lib.hid hput
            have HXlo := Lib.hid hXlo
            have Hchg := Lib.hid hchg
            unfold logO at hcells HRPut
            unfold logV at HRPut
            obtain ⟨c0, c1, c2', c3, c4', c5, c6, c7, cf⟩ := box8 hcells
            have Hlt := Lib.hid hlt
            have Hwlo := Lib.hid (show wp.heap.size ≤ wr.heap.size from by have h1 := hchg.size; rw [World.size_alloc] at h1; have := Hb2.out.size; omega)
            clear hbx hXlo hchg hbw hB hxj hcells hput hlt
            go_wp2_with fail
            refine HRPut.out.mono ?_
            rintro e w5 ⟨a5, n5, c5', z, rfl, hb5, hcells, X', hbx', hX'⟩
            obtain ⟨d0, d1, d2, d3, d4, d5, d6, d7, df⟩ := box8 hcells
            have Hbx' := Lib.hid hbx'
            have HX' := Lib.hid hX'
            have Hb5 := Lib.hid hb5
            clear hcells hbx' hX' hb5
            go_wp2
            go_roundw
            case rel => exact ⟨k + 1, X', Hlt.out, by go_num, Hbx'.out, fun b hb => (HX'.out b hb).elim (HXlo.out b) (fun h => Nat.le_trans Hwlo.out h), (Hchg.out.trans (Chg.of_below (S := fun b => b = w2.heap.size) Hb5.out) (fun b h => .inl h)).same (set8_chg _ _ _ _ _ _ _ _ _ _)⟩
            case measure => simp [intOf]; omega
          · obtain rfl : k = j := by omega
            have hall : ls.take k = ls := List.take_of_length_le (by omega)
            have hr := HRun.out k
            obtain ⟨B, c, hinv, hBc⟩ := hr.inv
            have hlen := hr.len
            have hused := hr.used
            have hnm := hr.names
            have hn2 := hr.n2
            have hsame := hr.same
            rw [hall] at hbx hinv hBc hlen hused hnm hn2 hsame
            have hL4 := HL3.out.turned hchg (fun b hb => by
              have h1 := Hgs.out
              have h2 := Hb2.out.size
              have h3 := HL3.out.own.base.size
              refine ⟨.inr ⟨by omega, by rw [World.size_alloc]; omega⟩, by omega, ?_⟩
              have h4 := HL.out.own.base.size
              omega)
            obtain ⟨Wf, hWf⟩ : ∃ Wf, Wf = runP (startW 100000 (x : Int)) ls := ⟨_, rfl⟩
            rw [← hWf] at hbx hinv hlen hused hnm hn2 hsame hL4
            obtain ⟨hrecs, hsegs⟩ := hinv.records
            have HL4 := Lib.hid (hL4.own.sub (Y := fun b => b = g) fun b hb => by rw [hb]; exact hL4.inY)
            have HG := Lib.hid (LogAt.mk HL4.out rfl hL4.new hL4.cells)
            obtain ⟨a4, n4, c4, R4, hcells, _, _, _⟩ := hbx.ref
            unfold logO at hcells
            obtain ⟨c0, c1, c2', c3, c4', c5, c6, c7, cf⟩ := box8 hcells
            have hW4 : PartsZ (fun b => b < w.heap.size) wr w.heap.size u7 (takeP (x : Int) ls) := by
              have h5 := HW.out.grow (Hb2.out.alloc Hb2.out.size (.cells #[.int .i64 ((startW 100000 (x : Int)).D.room : Int), .slice a2 n2 c2, .int .i64 ((startW 100000 (x : Int)).D.plan : Int), .bool (startW 100000 (x : Int)).D.down, .int .i64 (startW 100000 (x : Int)).most, .int .i64 ((startW 100000 (x : Int)).n : Int), .int .i64 ((startW 100000 (x : Int)).size : Int), .int .i64 ((startW 100000 (x : Int)).wait : Int)] 34))
              refine h5.moved (fun b hb hlt => hchg.block b hlt (fun e => ?_)) (fun k hk => hchg.block k (h5.lt k hk).2 (fun e => ?_))
              · have := HL.out.own.base.size; have := Hb2.out.size; omega
              · have := (HW.out.lt k hk).2; have := Hb2.out.size; omega
            have HW4 := Lib.hid hW4
            have Hbx := Lib.hid hbx
            have hplan := (HRun.out k).plan
            have hdn := (HRun.out k).down
            rw [hall, ← hWf] at hdn
            have Hdn := Lib.hid hdn
            have HRe := Lib.hid (records_any HL4.out (by omega) (by omega) hnm)
            have Hcells := Lib.hid hcells
            have Hinv := Lib.hid hinv
            have HBc := Lib.hid hBc
            have Hrecs := Lib.hid hrecs
            have Hsegs := Lib.hid hsegs
            have Hlen := Lib.hid hlen
            have Hused := Lib.hid hused
            have Hnm := Lib.hid hnm
            have Hn2 := Lib.hid hn2
            have Hsame := Lib.hid hsame
            clear hW4 hbx hXlo hchg hinv hBc hlen hused hnm hn2 hsame hL4 hall hr hWf hrecs hsegs hcells hplan hdn
            go_wp2_with fail
            refine HRe.out.mono ?_
            rintro e w5 ⟨v5, ls5, rfl, hP5, hR5, hb5⟩
            obtain rfl : ls5 = B.flatten ++ c := recsOf_uniq hR5 Hrecs.out
            obtain ⟨p5, k5, rfl, hQ5⟩ := hP5.own.parts
            obtain ⟨pw, kw, rfl, hQw⟩ := (HW4.out.grow hb5).own.parts
            have hrec := Hrecs.out
            rw [HBc.out] at hQ5 hrec
            rw [HBc.out]
            obtain ⟨tk, htk⟩ : ∃ tk, tk = takeP (x : Int) ls := ⟨_, rfl⟩
            rw [← htk] at hQ5 hQw hrec
            rw [← htk]
            obtain ⟨m, hm⟩ : ∃ m, m = tk.length := ⟨_, rfl⟩
            rw [← hm] at hQ5 hQw
            rw [← hm]
            have Hm := Lib.hid hm
            have hbx5 := Hbx.out.below hb5
            obtain ⟨a4, n4, c4, R4, hcells, _, href, hrow⟩ := hbx5.ref
            have hXb : ∀ b, X b → b < w5.heap.size := by
              obtain ⟨_, _, _, _, _, _, _, _, hXb⟩ := hbx5
              exact fun b hb => (hXb b hb).1
            unfold logO at hcells
            obtain ⟨d0, d1, d2, d3, _, _, _, _, _⟩ := box8 hcells
            have HKK := Lib.hid (fun W (hW : Below w5.heap.size w5 W) => (show W.cell? ⟨w2.heap.size, 0, none⟩ = some (.int .i64 (Wf.D.room : Int)) ∧ W.cell? ⟨w2.heap.size, 1, none⟩ = some (.slice a4 n4 c4) ∧ W.cell? ⟨w2.heap.size, 2, none⟩ = some (.int .i64 (Wf.D.plan : Int)) ∧ W.cell? ⟨w2.heap.size, 3, none⟩ = some (.bool Wf.D.down) from
              ⟨cell_keep hW d0, cell_keep hW d1, cell_keep hW d2, cell_keep hW d3⟩))
            have HQ5 := Lib.hid (fun W (hW : Below w5.heap.size w5 W) => hQ5.grow hW)
            have HS1 := Lib.hid (fun W (hW : Below w5.heap.size w5 W) => same_yes p5 pw m k5 kw tk W (hQ5.grow hW) (hQw.grow hW))
            have hrefW : ∀ W, Below w5.heap.size w5 W → RefAt X W (refV (Wf.D.room : Int) a4 n4 c4 (Wf.D.plan : Int) Wf.D.down) Wf.D := fun W hW => by
              obtain ⟨a, n, c, R, e, h1, h2, h3⟩ := href
              exact ⟨a, n, c, R, e, h1.below hXb hW, h2, h3⟩
            unfold refV at hrefW
            have HRR := Lib.hid (fun W (hW : Below w5.heap.size w5 W) => (rrecords_any (hrefW W hW) (fun b hb => Nat.lt_of_lt_of_le (hXb b hb) hW.size) Hdn.out (by have := Hlen.out; omega) (by have := Hused.out; omega) Hnm.out).mono (R' := fun e w' => ∃ p c, e = .returned (.slice p m c) ∧ Parts w' p m c tk ∧ Below W.heap.size W w') (by
              rintro e w' ⟨v, ls', rfl, hP, hR, hb⟩
              obtain rfl : ls' = tk := recsOf_uniq hR hrec
              obtain ⟨p, c', rfl, hQ⟩ := hP.parts
              rw [← Hm.out] at hQ ⊢
              exact ⟨p, c', rfl, hQ, hb⟩))
            have HLi := Lib.hid (fun W (hW : Below w5.heap.size w5 W) => (own_list (HL4.out.below (hb5.trans (hW.mono hb5.size))) (by have := Hlen.out; omega)).mono (R' := fun e w' => ∃ p c, e = .returned (.slice p Wf.D.fs.length c) ∧ Strs w' p Wf.D.fs.length c ((Wf.D.fs.map F.n).map nmL) ∧ Below W.heap.size W w') (by
              rintro e w' ⟨v, rfl, hown, hb⟩
              obtain ⟨p, c, rfl, hS⟩ := strs_row hown (fun n hn => by obtain ⟨f, hf, rfl⟩ := List.mem_map.1 hn; exact Hnm.out f hf)
              exact ⟨p, c, rfl, hS, hb⟩))
            have HSL := Lib.hid (fun W p c (hS : Strs W p Wf.D.fs.length c ((Wf.D.fs.map F.n).map nmL)) => (seglist_any p Wf.D.fs.length c _ W hS (by have := Hlen.out; omega)).mono (R' := fun e w' => ∃ p c, e = .returned (.slice p Wf.n c) ∧ Ints w' p Wf.n c (upTo Wf.n) ∧ Below W.heap.size W w') (by
              rintro e w' ⟨v, out, rfl, hasc, hmem, _, hown, hb⟩
              have hmap : (Wf.D.fs.map F.n).map nmL = Wf.D.fs.map fun f => nmL f.n := by rw [List.map_map]; rfl
              rw [hmap] at hmem
              obtain rfl : out = upTo Wf.n := segsOf_uniq ⟨hasc, hmem⟩ Hsegs.out
              rw [upTo_len] at hown
              obtain ⟨p, c, rfl, hI⟩ := own_ints hown
              exact ⟨p, c, rfl, hI, hb⟩))
            have HGp := Lib.hid (fun W p c (hI : Ints W p Wf.n c (upTo Wf.n)) => (gap_any p Wf.n c (upTo Wf.n) W hI (by have := Hn2.out; omega) (upTo_asc _) (fun x hx => by have := (upTo_mem _ x).1 hx; have := Hn2.out; omega)).mono (R' := fun e w' => e = .returned (.int .i64 0) ∧ Below W.heap.size W w') (by
              rintro e w' ⟨rfl, hb⟩
              rw [gap_upTo]
              exact ⟨rfl, hb⟩))
            have Hb5 := Lib.hid (HL4.out.base.trans (hb5.mono HL4.out.base.size))
            clear hQ5 hQw hrec hbx5 href hXb hrefW hcells hP5 hR5 hb5 hrow d0 d1 d2 d3 HRe hm htk
            generalize (Wf.D.room : Int) = ro at *
            generalize (Wf.D.plan : Int) = pl at *
            generalize Wf.D.down = dn at *
            generalize Wf.D.fs.length = nf at *
            generalize Wf.n = nn at *
            go_wp2_with fail
            refine (walive_any _).mono ?_
            rintro e wa ⟨rfl, hb0⟩
            have hg1 : Below w5.heap.size w5 wa := hb0
            clear hb0
            go_wp2_with fail
            refine (HS1.out _ hg1).mono ?_
            rintro e wb ⟨rfl, q1, hq⟩
            have hg2 : Below w5.heap.size w5 wb := by rw [hq]; exact below_drewN hg1 q1
            obtain ⟨d0, d1, d2, d3⟩ := HKK.out _ hg2
            clear hg1 hq
            go_wp2_with fail
            refine (HRR.out _ hg2).mono ?_
            rintro e wc ⟨p6, c6, rfl, hQ6, hb0⟩
            have hg3 : Below w5.heap.size w5 wc := hg2.trans (hb0.mono hg2.size)
            have HS2 := Lib.hid (same_yes _ _ _ _ _ _ _ (HQ5.out _ hg3) hQ6)
            clear hb0 hQ6 hg2 d0 d1 d2 d3
            go_wp2_with fail
            refine HS2.out.mono ?_
            rintro e wd ⟨rfl, q2, hq⟩
            have hg4 : Below w5.heap.size w5 wd := by rw [hq]; exact below_drewN hg3 q2
            clear hq hg3
            go_wp2_with fail
            refine (HLi.out _ hg4).mono ?_
            rintro e we ⟨p7, c7, rfl, hS7, hb0⟩
            have hg5 : Below w5.heap.size w5 we := hg4.trans (hb0.mono hg4.size)
            have HS7 := Lib.hid hS7
            clear hb0 hS7 hg4
            go_wp2_with fail
            refine (HSL.out _ _ _ HS7.out).mono ?_
            rintro e wf ⟨p8, c8, rfl, hI8, hb0⟩
            have hg6 : Below w5.heap.size w5 wf := hg5.trans (hb0.mono hg5.size)
            have HI8 := Lib.hid hI8
            clear hb0 hI8 hg5
            go_wp2_with fail
            refine (HGp.out _ _ _ HI8.out).mono ?_
            rintro e wg ⟨rfl, hb0⟩
            have Hend := Lib.hid (Hb5.out.trans ((hg6.trans (hb0.mono hg6.size)).mono Hb5.out.size))
            clear hb0 hg6
            go_wp2
            go_ret
            exact ⟨rfl, Hend.out⟩
end Go.Proofs.YtehjgkkcpiblcaaGreat
