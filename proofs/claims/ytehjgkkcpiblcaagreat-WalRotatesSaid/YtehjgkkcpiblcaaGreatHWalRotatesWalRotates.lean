/- The walk of the statement WalRotates: it returns true whatever the records and the greatest size are. -/
import Derived.Test.YtehjgkkcpiblcaaGreatMB34
import Derived.Test.YtehjgkkcpiblcaaGreatMB38
import Derived.Test.YtehjgkkcpiblcaaGreatMB41
import Derived.Test.YtehjgkkcpiblcaaGreatMB40
import Derived.Test.YtehjgkkcpiblcaaGreatMB42
import Derived.Deep.RegionHeld3
namespace Go.Proofs.YtehjgkkcpiblcaaGreat
open Go.RowKit Go.Maps Go.Shelf

attribute [local go_sem ↓] Go.wp_at_zero Go.wp_at_succ

theorem few_small {ls : List (List Nat)} (h : minsF ls ≤ 1500 ∧ ls.length ≤ 60) : sizeL ls ≤ 2000 ∧ ls.length ≤ 60 := by
  have := (minsF_bound ls h.1).1
  exact ⟨by omega, h.2⟩

/-- What the loop of Puts leaves behind j records. -/
def PutRel (w : World) (g d : Nat) (most : Int) (ls : List (List Nat)) (n : Nat) (i : Value) (wr : World) : Prop :=
  ∃ j : Nat, j ≤ n ∧ i = .int .i64 (j : Int) ∧ LogAt w (fun b => b = g) wr g d (runP (startW 100000 most) (ls.take j))

set_option maxRecDepth 100000 in
set_option maxHeartbeats 6400000 in
theorem walRotates_any (x : Nat) (a : Option Addr) (n cap : Nat) (ls : List (List Nat)) (w : World) (hl : Parts w a n cap ls) (hx : x < 256) :
    Calls Tryz.prog 6 #[.int .u8 (x : Int), .slice a n cap] w fun e w' => e = .returned (.bool true) ∧ Below w.heap.size w w' := by
  have HP := Lib.hid hl
  clear hl
  have HFew := Lib.hid (fewF_any a n cap ls w HP.out)
  go_enter Tryz.func6, Tryz.ntmps6
  go_wp2_with fail
  refine HFew.out.mono ?_
  rintro e w' ⟨⟨b, rfl, hb⟩, rfl⟩
  have Hb := Lib.hid hb
  clear hb HFew
  cases b
  · go_wp2_with fail
    refine (walive_any _).mono ?_
    rintro e w1 ⟨rfl, hb1⟩
    go_wp2
    go_ret
    exact ⟨rfl, hb1⟩
  · obtain ⟨hz, h60⟩ := few_small (Hb.out rfl)
    have hln := HP.out.len
    have HRun := Lib.hid (run_ok 100000 (x : Int) ls (by omega) h60)
    have HSt := Lib.hid (start_any 100000 (x : Int) w (by omega))
    go_wp2_with fail
    refine HSt.out.mono ?_
    rintro e w1 ⟨d, g, rfl, hL1⟩
    have HL1 := Lib.hid hL1
    clear hL1 HSt
    go_wp2_with fail
    go_loopw [35] (fun i wr => PutRel w g d (x : Int) ls n i wr) (fun i _ => n - (intOf i).toNat)
    case atStart => exact ⟨0, Nat.zero_le _, rfl, HL1.out⟩
    case round =>
      obtain ⟨j, hj, rfl, hL⟩ := hrel
      by_cases hlt : j < n
      · obtain ⟨b, o, a', n', c', rfl, hc, hB⟩ := bytes_get_all (HP.out.grow hL.own.base) hlt
        have hr := HRun.out j
        have hjl : j < ls.length := by omega
        have hxj : ls.getD j [] = ls[j] := by rw [List.getD_eq_getElem?_getD, List.getElem?_eq_getElem hjl]; rfl
        rw [hxj] at hB
        have HPut := Lib.hid (put_any hL a' n' c' ls[j] hB hr.n1 (by have := hr.n2; omega) (by have := hr.size; omega) (by have := hr.wait; omega) (by rw [hr.same]; omega) (by rw [hr.same]; omega) (by have := hr.len; omega) (by rw [hr.rm]; decide))
        have hnx : runP (startW 100000 (x : Int)) (ls.take (j + 1)) = (putW (runP (startW 100000 (x : Int)) (ls.take j)) ls[j]).1 := runP_next hjl
        rw [← hnx] at HPut
        have Hlt := Lib.hid hlt
        clear hB hr hnx hxj hL hlt
        go_wp2_with fail
        refine HPut.out.mono ?_
        rintro e w2 ⟨rfl, hL2, _⟩
        have HL2 := Lib.hid hL2
        clear hL2
        go_wp2
        go_roundw
        case rel => exact ⟨j + 1, Hlt.out, by go_num, HL2.out⟩
        case measure => simp [intOf]; omega
      · obtain rfl : j = n := by omega
        have hall : ls.take j = ls := List.take_of_length_le (by omega)
        rw [hall] at hL
        obtain ⟨wp, rfl⟩ : ∃ wp, wp = wr := ⟨_, rfl⟩
        have HL := Lib.hid hL
        have HNew := Lib.hid (rnew_any 100000 (x : Int) wp (by omega) (by omega))
        clear hL hall
        go_wp2_with fail
        refine HNew.out.mono ?_
        rintro e w2 ⟨v2, rfl, hR2, hb2⟩
        obtain ⟨a2, n2, c2, R2, rfl, hR2, hf2, hn2⟩ := hR2
        unfold logV
        have HR2 := Lib.hid hR2
        have Hf2 := Lib.hid hf2
        have Hn2 := Lib.hid hn2
        have Hb2 := Lib.hid hb2
        have hbox0 : RBox (fun b => wp.heap.size ≤ b ∧ b < w2.heap.size) (w2.alloc (logO ((startW 100000 (x : Int)).D.room : Int) a2 n2 c2 ((startW 100000 (x : Int)).D.plan : Int) (startW 100000 (x : Int)).D.down (startW 100000 (x : Int)).most ((startW 100000 (x : Int)).n : Int) ((startW 100000 (x : Int)).size : Int) ((startW 100000 (x : Int)).wait : Int))) w2.heap.size (startW 100000 (x : Int)) :=
          ⟨a2, n2, c2, R2, heap_alloc_new _ _, hR2.mono (fun b hb => Below.heap_alloc _ _ _ hb.2) (fun _ h => h), hf2, hn2, fun b hb => ⟨by rw [World.size_alloc]; omega, by omega⟩⟩
        have Hbox0 := Lib.hid hbox0
        have HL3 := Lib.hid (HL.out.all (hb2.alloc hb2.size (logO ((startW 100000 (x : Int)).D.room : Int) a2 n2 c2 ((startW 100000 (x : Int)).D.plan : Int) (startW 100000 (x : Int)).D.down (startW 100000 (x : Int)).most ((startW 100000 (x : Int)).n : Int) ((startW 100000 (x : Int)).size : Int) ((startW 100000 (x : Int)).wait : Int))))
        have Hgs := Lib.hid (show g < wp.heap.size from HL.out.lt)
        unfold logO at Hbox0 HL3
        clear hR2 hf2 hn2 hb2 hbox0
        go_wp2_with fail
        go_loopw [48] (fun i wq => RPutRel (w2.alloc (.cells #[.int .i64 ((startW 100000 (x : Int)).D.room : Int), .slice a2 n2 c2, .int .i64 ((startW 100000 (x : Int)).D.plan : Int), .bool (startW 100000 (x : Int)).D.down, .int .i64 (startW 100000 (x : Int)).most, .int .i64 ((startW 100000 (x : Int)).n : Int), .int .i64 ((startW 100000 (x : Int)).size : Int), .int .i64 ((startW 100000 (x : Int)).wait : Int)] 34)) w2.heap.size wp.heap.size 100000 (x : Int) ls j i wq) (fun i _ => j - (intOf i).toNat)
        case atStart => exact ⟨0, _, Nat.zero_le _, rfl, Hbox0.out, fun b hb => hb.1, Chg.refl _ _⟩
        case round =>
          obtain ⟨k, X, hk, rfl, hbx, hXlo, hchg⟩ := hrel
          by_cases hlt : k < j
          · have hbw : Below w.heap.size w wr := (HL3.out.turned hchg (fun b hb => by
              have h1 := Hgs.out
              have h2 := Hb2.out.size
              have h3 := HL3.out.own.base.size
              refine ⟨.inr ⟨by omega, by rw [World.size_alloc]; omega⟩, by omega, ?_⟩
              have h4 := HL.out.own.base.size
              omega)).own.base
            obtain ⟨b, o, a', n', c', rfl, hc, hB⟩ := bytes_get_all (HP.out.grow hbw) hlt
            have hjl : k < ls.length := by omega
            have hxj : ls.getD k [] = ls[k] := by rw [List.getD_eq_getElem?_getD, List.getElem?_eq_getElem hjl]; rfl
            rw [hxj] at hB
            obtain ⟨W, r, _, a4, n4, c4, hcells, hput⟩ := rput_step (by omega) h60 (by omega) hbx hjl hB
            have HRPut := Lib.hid hput
            have HXlo := Lib.hid hXlo
            have Hchg := Lib.hid hchg
            unfold logO at hcells HRPut
            unfold logV at HRPut
            obtain ⟨c0, c1, c2', c3, c4', c5, c6, c7, cf⟩ := box8 hcells
            have Hlt := Lib.hid hlt
            have Hwlo := Lib.hid (show wp.heap.size ≤ wr.heap.size from by have h1 := hchg.size; rw [World.size_alloc] at h1; have := Hb2.out.size; omega)
            clear hbx hXlo hchg hbw hB hxj hcells hput hlt
            go_wp2_with fail
            refine HRPut.out.mono ?_
            rintro e w5 ⟨a5, n5, c5', z, rfl, hb5, hcells, X', hbx', hX'⟩
            obtain ⟨d0, d1, d2, d3, d4, d5, d6, d7, df⟩ := box8 hcells
            have Hbx' := Lib.hid hbx'
            have HX' := Lib.hid hX'
            have Hb5 := Lib.hid hb5
            clear hcells hbx' hX' hb5
            go_wp2
            go_roundw
            case rel => exact ⟨k + 1, X', Hlt.out, by go_num, Hbx'.out, fun b hb => (HX'.out b hb).elim (HXlo.out b) (fun h => Nat.le_trans Hwlo.out h), (Hchg.out.trans (Chg.of_below (S := fun b => b = w2.heap.size) Hb5.out) (fun b h => .inl h)).same (set8_chg _ _ _ _ _ _ _ _ _ _)⟩
            case measure => simp [intOf]; omega
          · obtain rfl : k = j := by omega
            have hall : ls.take k = ls := List.take_of_length_le (by omega)
            have hr := HRun.out k
            obtain ⟨B, c, hinv, hBc⟩ := hr.inv
            have hlen := hr.len
            have hused := hr.used
            have hnm := hr.names
            have hn2 := hr.n2
            have hsame := hr.same
            rw [hall] at hbx hinv hBc hlen hused hnm hn2 hsame
            have hL4 := HL3.out.turned hchg (fun b hb => by
              have h1 := Hgs.out
              have h2 := Hb2.out.size
              have h3 := HL3.out.own.base.size
              refine ⟨.inr ⟨by omega, by rw [World.size_alloc]; omega⟩, by omega, ?_⟩
              have h4 := HL.out.own.base.size
              omega)
            obtain ⟨Wf, hWf⟩ : ∃ Wf, Wf = runP (startW 100000 (x : Int)) ls := ⟨_, rfl⟩
            rw [← hWf] at hbx hinv hlen hused hnm hn2 hsame hL4
            obtain ⟨hrecs, hsegs⟩ := hinv.records
            have HL4 := Lib.hid (hL4.own.sub (Y := fun b => b = g) fun b hb => by rw [hb]; exact hL4.inY)
            have HG := Lib.hid (LogAt.mk HL4.out rfl hL4.new hL4.cells)
            obtain ⟨a4, n4, c4, R4, hcells, _, _, _⟩ := hbx.ref
            unfold logO at hcells
            obtain ⟨c0, c1, c2', c3, c4', c5, c6, c7, cf⟩ := box8 hcells
            have HLi := Lib.hid (own_list HL4.out (by omega))
            have Hcells := Lib.hid hcells
            have Hinv := Lib.hid hinv
            have HBc := Lib.hid hBc
            have Hrecs := Lib.hid hrecs
            have Hsegs := Lib.hid hsegs
            have Hlen := Lib.hid hlen
            have Hused := Lib.hid hused
            have Hnm := Lib.hid hnm
            have Hn2 := Lib.hid hn2
            have Hsame := Lib.hid hsame
            clear hbx hXlo hchg hinv hBc hlen hused hnm hn2 hsame hL4 hall hr hWf hrecs hsegs hcells
            go_wp2_with fail
            refine HLi.out.mono ?_
            rintro e w5 ⟨v5, rfl, hown5, hb5⟩
            obtain ⟨p5, k5, rfl, hS5⟩ := strs_row hown5 (fun n hn => by obtain ⟨f, hf, rfl⟩ := List.mem_map.1 hn; exact Hnm.out f hf)
            have HSl := Lib.hid (seglist_any p5 Wf.D.fs.length k5 _ w5 hS5 (by have := Hlen.out; omega))
            have Hb5 := Lib.hid hb5
            clear hown5 hS5 hb5 HLi
            go_wp2_with fail
            refine HSl.out.mono ?_
            rintro e w6 ⟨v6, out, rfl, hasc, hmem, hol, hown6, hb6⟩
            have hmap : (Wf.D.fs.map F.n).map nmL = Wf.D.fs.map fun f => nmL f.n := by rw [List.map_map]; rfl
            rw [hmap] at hmem
            obtain rfl : out = upTo Wf.n := segsOf_uniq ⟨hasc, hmem⟩ Hsegs.out
            rw [upTo_len] at hown6
            obtain ⟨p6, k6, rfl, hI⟩ := own_ints hown6
            have HI := Lib.hid hI
            have Hb6 := Lib.hid (Hb5.out.trans (hb6.mono Hb5.out.size))
            obtain ⟨c0, c1, c2', c3, c4', c5, c6, c7, cf⟩ := box8 ((Hb6.out.block _ (Array.getElem?_eq_some_iff.1 Hcells.out).1).trans Hcells.out)
            have HG6 := Lib.hid (HG.out.below Hb6.out)
            have HSeg := Lib.hid (segment_any (g := g) (z := (Wf.n : Int)) (w := w6.drew) (by show w6.cell? _ = _; rw [cell_of_row _ _ _ _ _ (0, 0) HG6.out.cells]; rfl))
            have hne : ((Wf.n : Int) != (Wf.n : Int)) = false := by simp
            clear hasc hmem hol hmap hown6 hI hb6 HSl
            go_wp2_with fail
            go_region_held3 (fun w' => w'.cell? ⟨w2.heap.size, 5, none⟩ = some (.int .i64 (Wf.n : Int))) (first | exact c5)
              (first | (go_at_call 31; (with_reducible refine HSeg.out.mono ?_); rintro e w7 ⟨rfl, rfl⟩))
            have hbd : Below w6.heap.size w6 w6.drew := (Below.refl _ _).drew
            have HG7 := Lib.hid (HG6.out.below hbd)
            have HRe := Lib.hid (records_any HG7.out.own (by have := Hlen.out; omega) (by have := Hused.out; omega) Hnm.out)
            have HI7 := Lib.hid (HI.out.grow hbd)
            clear hbd
            go_wp2_with fail
            generalize w6.drew = w7 at *
            refine HRe.out.mono ?_
            rintro e w8 ⟨v8, ls8, rfl, hP8, hR8, hb8⟩
            obtain rfl : ls8 = B.flatten ++ c := recsOf_uniq hR8 Hrecs.out
            obtain ⟨p8, k8, rfl, hQ8⟩ := hP8.own.parts
            have HP8 := Lib.hid hP8
            have Hb8 := Lib.hid hb8
            have hwle := Hinv.out.bound.2
            have hll : (B.flatten ++ c).length ≤ 60 := by
              rw [HBc.out]
              unfold takeP
              have := List.length_filter_le (okR (x : Int)) ls
              omega
            generalize hm8 : (B.flatten ++ c).length = m8 at *
            have HI8 := Lib.hid (HI7.out.grow hb8)
            have Hm8 := Lib.hid hm8
            have HQ8 := Lib.hid hQ8
            clear hP8 hR8 hb8 hQ8 hm8 HRe
            go_wp2_with fail
            go_loopw [78] (fun i wr => ∃ j : Nat, j ≤ Wf.n ∧ i = .int .i64 (j : Int) ∧ Below w8.heap.size w8 wr) (fun i _ => Wf.n - (intOf i).toNat)
            case atStart => exact ⟨0, Nat.zero_le _, rfl, Below.refl _ _⟩
            case round =>
              obtain ⟨j, hj, rfl, hb⟩ := hrel
              by_cases hlt : j < Wf.n
              · obtain ⟨b, o, rfl, hc0⟩ := (HI8.out.grow hb).cell (by omega)
                have hc := hc0 j hlt
                have hxj : (upTo Wf.n).getD j 0 = ((j + 1 : Nat) : Int) := by
                  rw [List.getD_eq_getElem?_getD, List.getElem?_eq_getElem (by rw [upTo_len]; exact hlt), upTo_get]
                  rfl
                rw [hxj] at hc
                have hn99 := Hn2.out
                have HNa := Lib.hid (fun W => segname_yes (j + 1) W (by omega) (by omega))
                have hbw7 : Below w7.heap.size w7 wr := Hb8.out.trans (hb.mono Hb8.out.size)
                have HRd := Lib.hid (fun W (hW : Below wr.heap.size wr W) => own_read (HG7.out.own.below (hbw7.trans (hW.mono hbw7.size))) (nmB (j + 1)) (by unfold nmB; rw [List.length_map, nameL_len]; decide) (by have := Hused.out; omega))
                have Hle := Lib.hid (Hinv.out.reads (by rw [Hsame.out]; omega) (nmB (j + 1)))
                have Hb := Lib.hid hb
                have Hlt := Lib.hid hlt
                have hji : (j : Int) < (Wf.n : Int) := by omega
                clear hc0 hxj hb hbw7 hlt
                go_wp2_with fail
                refine (HNa.out _).mono ?_
                rintro e w9 ⟨rfl, hb9⟩
                have HR := Lib.hid (HRd.out w9 hb9)
                have Hb9 := Lib.hid (Hb.out.trans (hb9.mono Hb.out.size))
                clear hb9
                go_wp2_with fail
                refine HR.out.mono ?_
                rintro e w10 ⟨p10, c10, rfl, hB10, _, hb10, _⟩
                have Hb10 := Lib.hid (Hb9.out.trans (hb10.mono Hb9.out.size))
                have hle2 : ¬ (x : Int) < (((readM (nmB (j + 1)) Wf.D).1.length : Nat) : Int) := by have := Hle.out; rw [Hsame.out] at this; omega
                generalize (readM (nmB (j + 1)) Wf.D).1.length = rl at *
                clear hB10 hb10
                go_wp2
                go_roundw
                case rel => exact ⟨j + 1, Hlt.out, by go_num, Hb10.out⟩
                case measure => simp [intOf]; have := Hlt.out; omega
              · obtain rfl : j = Wf.n := by omega
                obtain ⟨wl, rfl⟩ : ∃ wl, wl = wr := ⟨_, rfl⟩
                have hbw7 : Below w7.heap.size w7 wl := Hb8.out.trans (hb.mono Hb8.out.size)
                have hA := HG7.out.all hbw7
                have HWa := Lib.hid (waiting_any (g := g) (z := (Wf.wait : Int)) (w := wl) (by rw [cell_of_row _ _ _ _ _ (0, 0) hA.cells]; rfl))
                have hwle2 : Wf.wait ≤ m8 := by have := Hinv.out.bound.2; rw [Hm8.out] at this; exact this
                obtain ⟨q, hq⟩ : ∃ q, q = m8 - Wf.wait := ⟨_, rfl⟩
                have hqi : (m8 : Int) - (Wf.wait : Int) = (q : Int) := by omega
                have hq0 : ¬ (q : Int) < 0 := by omega
                have HCr := Lib.hid (own_crash hA.own (by have := Hlen.out; omega) none 0 0 [] (nums_nil wl) (fun h => absurd h (Nat.lt_irrefl _)))
                have HP9 := Lib.hid (HP8.out.grow hb)
                have Hb := Lib.hid hb
                have HA := Lib.hid hA
                have Hq := Lib.hid hq
                clear hb hA hq hbw7
                go_wp2_with fail
                refine HWa.out.mono ?_
                rintro e w9 ⟨rfl, rfl⟩
                go_wp2_with fail
                refine HCr.out.mono ?_
                rintro e wc ⟨⟨vc, rfl⟩, hoc, hkc, hbc, hsc⟩
                have Hoc := Lib.hid hoc
                have HPc := Lib.hid (HP9.out.moved (W' := wc) (fun b hz hlt => hkc b (.inr ⟨hz, hlt⟩)) (fun b hb => hkc b (.inr (HP9.out.lt b hb))))
                clear hoc hkc hsc
                have Hbc := Lib.hid (HA.out.own.base.trans hbc)
                have hCs := crashM_small [] Wf.D
                have HCs := Lib.hid hCs
                clear hbc hCs
                have hcrash : RecsOf (crashM [] Wf.D) ((B.flatten ++ c).take q) := by
                  obtain ⟨i, _, _, h3, h4⟩ := Hinv.out.crash []
                  have hi := h4 (fun k hk => by cases hk)
                  have hw := Hinv.out.wait
                  have e : (B.flatten ++ c).take q = B.flatten ++ c.take i := by
                    have hm := Hm8.out
                    rw [List.length_append] at hm
                    have hq := Hq.out
                    rw [show q = B.flatten.length + i by omega, List.take_length_add_append]
                  rw [e]
                  exact h3
                have hq8 : q ≤ m8 := by have := Hq.out; omega
                obtain ⟨q2, hsl0, hsl2⟩ := parts_upto (k := q) hq8 HQ8.out.le
                have hsl := fun W => hsl0 W .i64
                have HSl2 := Lib.hid hsl2
                have HRe := Lib.hid (fun W (hW : Below wc.heap.size wc W) => (records_any (Hoc.out.below hW) (by have := HCs.out.1; have := Hlen.out; omega) (by have := HCs.out.2.2.1; have := Hused.out; omega) (crashM_names Hnm.out)).mono (R' := fun e w' => ∃ v p c', v = .slice p q c' ∧ e = .returned v ∧ Parts w' p q c' ((B.flatten ++ c).take q) ∧ Below W.heap.size W w') (by
                  rintro e w' ⟨v, ls', rfl, hP, hR, hb⟩
                  obtain rfl : ls' = (B.flatten ++ c).take q := recsOf_uniq hR hcrash
                  obtain ⟨p, c', rfl, hQ⟩ := hP.own.parts
                  have hl : ((B.flatten ++ c).take q).length = q := by rw [List.length_take, Hm8.out]; omega
                  rw [hl] at hQ ⊢
                  exact ⟨_, p, c', rfl, rfl, hQ, hb⟩))
                have hPcP : ∀ W, Below wc.heap.size wc W → Parts W q2 q k8 ((B.flatten ++ c).take q) := fun W hW => by
                  obtain ⟨pz, kz, hz1, hz2⟩ := (HPc.out.grow hW).own.parts
                  cases hz1
                  exact hsl2 W _ (by rw [Hm8.out] at hz2; exact hz2)
                have HPcP := Lib.hid hPcP
                clear hsl2 hPcP hsl0 hcrash hq8
                have hq0' : (0 : Int) ≤ (q : Int) := by omega
                go_wp2_with fail
                go_region_held3 (fun _ => True) (first | trivial)
                  (first
                    | (go_at_call 13; (with_reducible refine (walive_any _).mono ?_); rintro e wa ⟨rfl, hba0⟩; have hba : Below wc.heap.size wc wa := (Below.drew (Below.refl _ _)).trans hba0)
                    | (go_at_call 20; (with_reducible refine (HRe.out _ hba).mono ?_); rintro e wb ⟨v, p9, c9, rfl, rfl, hP9, hbb0⟩; have hbb : Below wc.heap.size wc wb := hba.trans (hbb0.mono hba.size))
                    | (go_at_call 19; (with_reducible refine (same_yes _ _ _ _ _ _ _ hP9 (HPcP.out _ hbb)).mono ?_); rintro e wd ⟨rfl, qq, rfl⟩))
                have Hend := Lib.hid (below_drewN (Hbc.out.trans (hbb.mono Hbc.out.size)) qq)
                clear hba hbb hba0 hbb0 hP9
                go_wp2
                go_ret
                exact ⟨rfl, Hend.out⟩
end Go.Proofs.YtehjgkkcpiblcaaGreat
