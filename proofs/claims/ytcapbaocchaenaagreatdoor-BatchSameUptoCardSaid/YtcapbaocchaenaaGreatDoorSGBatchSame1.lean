import Derived.Test.YtcapbaocchaenaaGreatDoorSG30
import Derived.Test.YtcapbaocchaenaaGreatDoorSG31
import Derived.Test.YtcapbaocchaenaaGreatDoorSG35
import Derived.Test.YtcapbaocchaenaaGreatDoorSG38
import Derived.Test.YtcapbaocchaenaaGreatDoorSG6
import Derived.Deep.RegionHeld3
/- The walk of the statement BatchSame. -/
namespace Go.Proofs.YtcapbaocchaenaaGreatDoor
open Go.RowKit Go.Shelf Fl
attribute [local go_sem ↓] Go.wp_at_zero Go.wp_at_succ

theorem sameE_self (e : Ev) : sameE e e = true := by
  have h : sameV e.v e.v = true := sameV_refl _
  unfold sameE
  rw [h, Bool.and_true]
  exact decide_eq_true (by simp)

theorem sameEs_self : ∀ l : List Ev, sameEs l l = true
  | [] => sameEs_nil
  | e :: l => sameEs_cons (sameE_self e) (sameEs_self l)

theorem sameB_self (t : Bt) : sameB t t = true := by
  unfold sameB
  rw [sameEs_self, Bool.and_true]
  exact decide_eq_true ⟨rfl, rfl⟩

theorem textBt_byte {w : World} {t : Bt} {x : Array Value} (h : BtIn w t x) : ∀ c ∈ textBt t, c < 256 := by
  obtain ⟨hf, _, a, n, c, _, hE⟩ := h
  intro y hy
  unfold textBt headT tailT at hy
  rcases List.mem_append.1 hy with hy | hy
  · rcases List.mem_append.1 hy with hy | hy
    · rw [quoteL_is] at hy
      rcases List.mem_cons.1 hy with rfl | hy
      · decide
      · rcases List.mem_append.1 hy with hy | hy
        · exact hex2_byte hf.1 y hy
        · rw [List.mem_singleton.1 hy]; decide
    · rcases List.mem_cons.1 hy with rfl | hy
      · decide
      · have := decD_digit _ y hy; omega
  · obtain ⟨l, hl, hy⟩ := List.mem_flatten.1 hy
    obtain ⟨e, he, rfl⟩ := List.mem_map.1 hl
    obtain ⟨i, hi, rfl⟩ := List.getElem_of_mem he
    obtain ⟨b, o, _, hc⟩ := hE.cell (by have := hE.len; omega)
    obtain ⟨a', cap', hI, _⟩ := hc i hi
    rcases List.mem_cons.1 hy with rfl | hy
    · decide
    · rcases List.mem_cons.1 hy with rfl | hy
      · decide
      · exact textE_byte hI y hy

set_option maxRecDepth 100000 in
set_option maxHeartbeats 12800000 in
theorem batchSame_any (t t' : Bt) (x x' : Array Value) (w : World) (hn : t.es.length ≤ 1048576) (hn' : t'.es.length ≤ 1048576) (h : BtIn w t x) (h' : BtIn w t' x') (hp : Pow10 w) (ht : Tab16 w) :
    Calls Tryz.prog 4 #[.agg x, .agg x'] w fun r w' => r = .returned (.bool true) ∧ Below w.heap.size w w' := by
  have HA := Lib.hid (fun W => alive13_any W)
  have Hn := Lib.hid (And.intro hn hn')
  have HI0 := Lib.hid h
  have HI0' := Lib.hid h'
  have HP := Lib.hid hp
  have HT := Lib.hid ht
  obtain ⟨_, _, a, n, c, rfl, _⟩ := h
  obtain ⟨_, _, a', n', c', rfl, _⟩ := h'
  have hal := (Below.refl w.heap.size w).alloc (Nat.le_refl _) (.cells #[.string (str t.flow), .int .u64 (t.at_ : Int), .slice a n c] 25)
  have hal2 := (Below.refl (w.alloc (.cells #[.string (str t.flow), .int .u64 (t.at_ : Int), .slice a n c] 25)).heap.size _).alloc (Nat.le_refl _) (.cells #[.string (str t'.flow), .int .u64 (t'.at_ : Int), .slice a' n' c'] 25)
  have HX1 := Lib.hid (blk (heap_alloc_new w (.cells #[.string (str t.flow), .int .u64 (t.at_ : Int), .slice a n c] 25)) hal2)
  have hy := heap_alloc_new (w.alloc (.cells #[.string (str t.flow), .int .u64 (t.at_ : Int), .slice a n c] 25)) (.cells #[.string (str t'.flow), .int .u64 (t'.at_ : Int), .slice a' n' c'] 25)
  rw [World.size_alloc] at hy
  have HY1 := Lib.hid hy
  have Hb1 := Lib.hid (hal.trans (hal2.mono hal.size))
  clear hal hal2 hy hn hn' hp ht
  go_enter Tryz.func4, Tryz.ntmps4
  go_upto_region 1 with fail
  generalize (w.alloc (.cells #[.string (str t.flow), .int .u64 (t.at_ : Int), .slice a n c] 25)).alloc (.cells #[.string (str t'.flow), .int .u64 (t'.at_ : Int), .slice a' n' c'] 25) = w1 at *
  have HK := Lib.hid (fun W (hW : Below w1.heap.size w1 W) => And.intro (box3 (blk HX1.out hW)) (box3 (blk HY1.out hW)))
  have HJ := Lib.hid (fun W (hW : Below w1.heap.size w1 W) => Hb1.out.trans (hW.mono Hb1.out.size))
  have HI := Lib.hid (fun W (hW : Below w1.heap.size w1 W) => And.intro (HI0.out.below (HJ.out W hW)) (HI0'.out.below (HJ.out W hW)))
  have HFa := Lib.hid (fun W (hW : Below w1.heap.size w1 W) => few13_any t _ W (HI.out W hW).1)
  have HFb := Lib.hid (fun W (hW : Below w1.heap.size w1 W) => few13_any t' _ W (HI.out W hW).2)
  obtain ⟨⟨y0, y1, y2⟩, z0, z1, z2⟩ := HK.out w1 (Below.refl _ _)
  go_wp2_with fail
  refine (HFa.out w1 (Below.refl _ _)).mono ?_
  rintro r w2 ⟨rfl, hb2⟩
  have Hb2 := Lib.hid hb2
  clear hb2 y0 y1 y2 z0 z1 z2
  obtain ⟨⟨y0, y1, y2⟩, z0, z1, z2⟩ := HK.out w2 Hb2.out
  cases hfa : fewB13 t with
  | false =>
    go_wp2_with fail
    refine (HA.out _).mono ?_
    rintro r w3 ⟨rfl, hb3⟩
    have Hz := Lib.hid (HJ.out _ (Hb2.out.trans (hb3.mono Hb2.out.size)))
    clear hb3
    go_wp2
    go_ret
    exact ⟨rfl, Hz.out⟩
  | true =>
    obtain ⟨hfl, hfe⟩ : t.flow.length ≤ 1100 ∧ t.es.all fewE = true := by
      unfold fewB13 at hfa
      rw [Bool.and_eq_true, decide_eq_true_eq] at hfa
      exact hfa
    have Hfe := Lib.hid hfe
    clear hfa hfl hfe
    go_wp2_with fail
    refine (HFb.out w2 Hb2.out).mono ?_
    rintro r w3 ⟨rfl, hb3⟩
    have Hb3 := Lib.hid (Hb2.out.trans (hb3.mono Hb2.out.size))
    clear hb3 y0 y1 y2 z0 z1 z2
    obtain ⟨⟨y0, y1, y2⟩, z0, z1, z2⟩ := HK.out w3 Hb3.out
    cases hfb : fewB13 t' with
    | false =>
      go_wp2_with fail
      refine (HA.out _).mono ?_
      rintro r w4 ⟨rfl, hb4⟩
      have Hz := Lib.hid (HJ.out _ (Hb3.out.trans (hb4.mono Hb3.out.size)))
      clear hb4
      go_wp2
      go_ret
      exact ⟨rfl, Hz.out⟩
    | true =>
      obtain ⟨hfl, hfe⟩ : t'.flow.length ≤ 1100 ∧ t'.es.all fewE = true := by
        unfold fewB13 at hfb
        rw [Bool.and_eq_true, decide_eq_true_eq] at hfb
        exact hfb
      have Hfe' := Lib.hid hfe
      clear hfb hfl hfe
      have HSm := Lib.hid (fun W (hW : Below w1.heap.size w1 W) => rsame12_any t t' _ _ W (HI.out W hW).1 (HI.out W hW).2)
      have HCs := Lib.hid (fun W (hW : Below w1.heap.size w1 W) => bsame_any t t' _ _ W (HI.out W hW).1 (HI.out W hW).2)
      have HCr := Lib.hid (fun W (hW : Below w1.heap.size w1 W) => bsame_any t t _ _ W (HI.out W hW).1 (HI.out W hW).1)
      rw [sameB_self] at HCr
      have HCm := Lib.hid (fun W (hW : Below w1.heap.size w1 W) => cmds_any t _ W Hn.out.1 (fun e he => by have := (few_parts (List.all_eq_true.1 Hfe.out e he)).1; omega) (HI.out W hW).1)
      have HRm := Lib.hid (fun W (hW : Below w1.heap.size w1 W) => rcmds_any t _ W Hn.out.1 (HI.out W hW).1)
      obtain ⟨sm, hsm⟩ : ∃ sm, sm = sameB t t' := ⟨_, rfl⟩
      rw [← hsm] at HSm HCs
      have Hsm := Lib.hid hsm
      clear hsm
      go_wp2_with fail
      refine (HSm.out w3 Hb3.out).mono ?_
      rintro r w4 ⟨rfl, hb4⟩
      have Hb4 := Lib.hid (Hb3.out.trans (hb4.mono Hb3.out.size))
      clear hb4 y0 y1 y2 z0 z1 z2 HSm
      have hbn : (sm != sm) = false := by simp
      have hd : Below w1.heap.size w1 w4.drew := Hb4.out.trans ((Below.refl _ _).drew)
      have Hd := Lib.hid hd
      clear hd
      go_wp2_with fail
      go_region_held3 (fun W => (W.cell? ⟨w.heap.size, 0, none⟩ = some (.string (str t.flow)) ∧ W.cell? ⟨w.heap.size, 1, none⟩ = some (.int .u64 (t.at_ : Int)) ∧ W.cell? ⟨w.heap.size, 2, none⟩ = some (.slice a n c)) ∧ W.cell? ⟨w.heap.size + 1, 0, none⟩ = some (.string (str t'.flow)) ∧ W.cell? ⟨w.heap.size + 1, 1, none⟩ = some (.int .u64 (t'.at_ : Int)) ∧ W.cell? ⟨w.heap.size + 1, 2, none⟩ = some (.slice a' n' c'))
        (first | with_reducible exact HK.out _ Hd.out | with_reducible exact HK.out _ hb6 | with_reducible exact HK.out _ hb7 | with_reducible exact HK.out _ hb8 | with_reducible exact HK.out _ hb9 | with_reducible exact HK.out _ hb10)
        (first | (go_at_call 15; (with_reducible refine (HCs.out _ Hd.out).mono ?_); rintro r w6 ⟨rfl, hb60⟩
                  have hb6 : Below w1.heap.size w1 w6 := Hd.out.trans (hb60.mono Hd.out.size)
                  clear hb60)
               | (go_at_call 15; (with_reducible refine (HCr.out _ hb6).mono ?_); rintro r w7 ⟨rfl, hb70⟩
                  have hb7 : Below w1.heap.size w1 w7 := hb6.trans (hb70.mono hb6.size)
                  clear hb70)
               | (go_at_call 17; (with_reducible refine (HCm.out _ hb7).mono ?_); rintro r w8 ⟨ac, nc, cc, rfl, hEc, hb80⟩
                  have hb8 : Below w1.heap.size w1 w8 := hb7.trans (hb80.mono hb7.size)
                  have HEc := Lib.hid hEc
                  clear hb80 hEc)
               | (go_at_call 18; (with_reducible refine (HRm.out _ hb8).mono ?_); rintro r w9 ⟨ar, nr, cr, rfl, hEr, hb90⟩
                  have hb9 : Below w1.heap.size w1 w9 := hb8.trans (hb90.mono hb8.size)
                  have HSe := Lib.hid (sameevents_any ac ar nc nr cc cr _ _ w9 (HEc.out.below hb90) hEr)
                  rw [sameEs_self] at HSe
                  clear hb90 hEr)
               | (go_at_call 16; (with_reducible refine HSe.out.mono ?_); rintro r w10 ⟨rfl, hb100⟩
                  have hb10 : Below w1.heap.size w1 w10 := hb9.trans (hb100.mono hb9.size)
                  clear hb100))
      have Hb10 := Lib.hid hb10
      clear hbn hb6 hb7 hb8 hb9 hb10 HCs HCr HCm HRm HSe HEc
      have HBa := Lib.hid (fun W (hW : Below w1.heap.size w1 W) => bbytes_any t _ W Hn.out.1 Hfe.out (HI.out W hW).1)
      have HBb := Lib.hid (fun W (hW : Below w1.heap.size w1 W) => bbytes_any t' _ W Hn.out.2 Hfe'.out (HI.out W hW).2)
      obtain ⟨⟨y0, y1, y2⟩, z0, z1, z2⟩ := HK.out w10 Hb10.out
      go_wp2_with fail
      refine (HBa.out w10 Hb10.out).mono ?_
      intro r w11 hr11
      obtain ⟨p, cp, rfl, hB11, hb11⟩ := bytes_end hr11 (HI.out _ Hb10.out).1
      have Hb11 := Lib.hid (Hb10.out.trans (hb11.mono Hb10.out.size))
      have HB11 := Lib.hid hB11
      clear hr11 hB11 hb11 y0 y1 y2 z0 z1 z2 HBa
      obtain ⟨⟨y0, y1, y2⟩, z0, z1, z2⟩ := HK.out w11 Hb11.out
      go_wp2_with fail
      refine (HBb.out w11 Hb11.out).mono ?_
      intro r w12 hr12
      obtain ⟨p', cp', rfl, hB12, hb12⟩ := bytes_end hr12 (HI.out _ Hb11.out).2
      have Hb12 := Lib.hid (Hb11.out.trans (hb12.mono Hb11.out.size))
      have HB12' := Lib.hid hB12
      have HB12 := Lib.hid (HB11.out.grow hb12)
      clear hr12 hB12 hb12 y0 y1 y2 z0 z1 z2 HBb HB11
      have HW := Lib.hid (fun W (hW : Below w12.heap.size w12 W) => Hb12.out.trans (hW.mono Hb12.out.size))
      have Hd := Lib.hid (show Below w12.heap.size w12 w12.drew from (Below.refl _ _).drew)
      cases hoa : okB t with
      | false =>
        clear hoa
        go_wp2_with fail
        refine wp_region_held_drew (S := (fun W => Below w12.heap.size w12 W)) (by kernel_rfl) ((Below.refl _ _).drew) (fun hHeld => ?_)
        refine wpAnyH_ready (rs := [0]) (by kernel_rfl) (by simp) ?_
        refine AllReadyH.cons (o := { dst := some 51, op := Op.call { callee := Callee.value (Operand.func 6), args := #[], argTypes := #[] }, type := 4, pos := "law.go:60", after := #[], guard := none }) rfl (fun K hK => ?_) AllReadyH.nil
        go_simp
        go_at_call 6
        refine (HA.out _).mono ?_
        rintro r w20 ⟨rfl, hb200⟩
        have hb20 : Below w12.heap.size w12 w20 := hHeld.trans (hb200.mono hHeld.size)
        clear hb200
        refine hK.out _ _ hb20 (fun _ => ?_)
        clear hK K
        try simp only [Act.put, List.setIfInBounds_toArray, List.set_cons_zero, List.set_cons_succ]
        refine wpAnyH_take (i := 1) (oi := { dst := some 52, op := Op.move (Operand.tmp 51), type := 4, pos := "law.go:60", after := #[{ on := 0, ground := Ground.data }, { on := 0, ground := Ground.chain }], guard := none }) (v := ?av1) rfl (by kernel_rfl) (by kernel_rfl) (by kernel_rfl) (fun _ _ _ h => h) (Or.inl ⟨by rfl, ?ay1⟩) hb20 ?ar1
        case ay1 => (intro W hSw; go_simp; first | done | with_reducible rfl)
        try simp only [Act.put, List.setIfInBounds_toArray, List.set_cons_zero, List.set_cons_succ]
        refine wpAnyH_take (i := 2) (oi := { dst := some 53, op := Op.move (Operand.tmp 7), type := 4, pos := "law.go:60", after := #[{ on := 1, ground := Ground.guard }], guard := some (1, true) }) (v := ?av2) rfl (by kernel_rfl) (by kernel_rfl) (by kernel_rfl) (fun _ _ _ h => h) (Or.inl ⟨by rfl, ?ay2⟩) hb20 ?ar2
        case ay2 => (intro W hSw; go_simp; first | done | with_reducible rfl)
        try simp only [Act.put, List.setIfInBounds_toArray, List.set_cons_zero, List.set_cons_succ]
        refine wpAnyH_take (i := 3) (oi := { dst := some 54, op := Op.unOp UnOp.not 4 (Operand.tmp 53), type := 4, pos := "law.go:60", after := #[{ on := 2, ground := Ground.data }, { on := 1, ground := Ground.guard }], guard := some (1, true) }) (v := ?av3) rfl (by kernel_rfl) (by kernel_rfl) (by kernel_rfl) (fun _ _ _ h => h) (Or.inl ⟨by rfl, ?ay3⟩) hb20 ?ar3
        case ay3 => (intro W hSw; go_simp; first | done | with_reducible rfl)
        try simp only [Act.put, List.setIfInBounds_toArray, List.set_cons_zero, List.set_cons_succ]
        refine wpAnyH_take (i := 4) (oi := { dst := some 55, op := Op.move (Operand.tmp 54), type := 4, pos := "law.go:60", after := #[{ on := 3, ground := Ground.data }, { on := 1, ground := Ground.chain }, { on := 1, ground := Ground.guard }], guard := some (1, true) }) (v := ?av4) rfl (by kernel_rfl) (by kernel_rfl) (by kernel_rfl) (fun _ _ _ h => h) (Or.inl ⟨by rfl, ?ay4⟩) hb20 ?ar4
        case ay4 => (intro W hSw; go_simp; first | done | with_reducible rfl)
        try simp only [Act.put, List.setIfInBounds_toArray, List.set_cons_zero, List.set_cons_succ]
        refine wpAnyH_take (i := 5) (oi := { dst := some 56, op := Op.move (Operand.tmp 9), type := 4, pos := "law.go:60", after := #[{ on := 4, ground := Ground.guard }], guard := some (4, false) }) (v := undef) rfl (by kernel_rfl) (by kernel_rfl) (by kernel_rfl) (fun _ _ _ h => h) (Or.inr ⟨by rfl, rfl⟩) hb20 ?_
        try simp only [Act.put, List.setIfInBounds_toArray, List.set_cons_zero, List.set_cons_succ]
        refine wpAnyH_take (i := 6) (oi := { dst := some 57, op := Op.unOp UnOp.not 4 (Operand.tmp 56), type := 4, pos := "law.go:60", after := #[{ on := 5, ground := Ground.data }, { on := 4, ground := Ground.guard }], guard := some (4, false) }) (v := undef) rfl (by kernel_rfl) (by kernel_rfl) (by kernel_rfl) (fun _ _ _ h => h) (Or.inr ⟨by rfl, rfl⟩) hb20 ?_
        try simp only [Act.put, List.setIfInBounds_toArray, List.set_cons_zero, List.set_cons_succ]
        refine wpAnyH_take (i := 7) (oi := { dst := some 58, op := Op.pick (Operand.tmp 55) (Operand.const (Value.bool true)) (Operand.tmp 57), type := 4, pos := "law.go:60", after := #[{ on := 4, ground := Ground.data }, { on := 6, ground := Ground.data }, { on := 1, ground := Ground.guard }], guard := some (1, true) }) (v := ?av5) rfl (by kernel_rfl) (by kernel_rfl) (by kernel_rfl) (fun _ _ _ h => h) (Or.inl ⟨by rfl, ?ay5⟩) hb20 ?ar5
        case ay5 => (intro W hSw; go_simp; first | done | with_reducible rfl)
        try simp only [Act.put, List.setIfInBounds_toArray, List.set_cons_zero, List.set_cons_succ]
        refine wpAnyH_take (i := 8) (oi := { dst := some 59, op := Op.move (Operand.tmp 58), type := 4, pos := "law.go:60", after := #[{ on := 7, ground := Ground.data }, { on := 4, ground := Ground.chain }, { on := 1, ground := Ground.guard }], guard := some (1, true) }) (v := ?av6) rfl (by kernel_rfl) (by kernel_rfl) (by kernel_rfl) (fun _ _ _ h => h) (Or.inl ⟨by rfl, ?ay6⟩) hb20 ?ar6
        case ay6 => (intro W hSw; go_simp; first | done | with_reducible rfl)
        try simp only [Act.put, List.setIfInBounds_toArray, List.set_cons_zero, List.set_cons_succ]
        refine wpAnyH_take (i := 9) (oi := { dst := some 60, op := Op.move (Operand.tmp 6), type := 28, pos := "law.go:60", after := #[{ on := 8, ground := Ground.guard }], guard := some (8, false) }) (v := undef) rfl (by kernel_rfl) (by kernel_rfl) (by kernel_rfl) (fun _ _ _ h => h) (Or.inr ⟨by rfl, rfl⟩) hb20 ?_
        try simp only [Act.put, List.setIfInBounds_toArray, List.set_cons_zero, List.set_cons_succ]
        refine wpAnyH_take (i := 10) (oi := { dst := some 61, op := Op.move (Operand.tmp 8), type := 28, pos := "law.go:60", after := #[{ on := 8, ground := Ground.guard }], guard := some (8, false) }) (v := undef) rfl (by kernel_rfl) (by kernel_rfl) (by kernel_rfl) (fun _ _ _ h => h) (Or.inr ⟨by rfl, rfl⟩) hb20 ?_
        try simp only [Act.put, List.setIfInBounds_toArray, List.set_cons_zero, List.set_cons_succ]
        refine wpAnyH_take (i := 11) (oi := { dst := some 62, op := Op.call { callee := Callee.value (Operand.func 10), args := #[Operand.tmp 60, Operand.tmp 61], argTypes := #[28, 28] }, type := 4, pos := "law.go:60", after := #[{ on := 9, ground := Ground.data }, { on := 10, ground := Ground.data }, { on := 8, ground := Ground.chain }, { on := 8, ground := Ground.guard }], guard := some (8, false) }) (v := undef) rfl (by kernel_rfl) (by kernel_rfl) (by kernel_rfl) (fun _ _ _ h => h) (Or.inr ⟨by rfl, rfl⟩) hb20 ?_
        try simp only [Act.put, List.setIfInBounds_toArray, List.set_cons_zero, List.set_cons_succ]
        refine wpAnyH_take (i := 12) (oi := { dst := some 63, op := Op.move (Operand.tmp 5), type := 4, pos := "law.go:60", after := #[{ on := 8, ground := Ground.guard }], guard := some (8, false) }) (v := undef) rfl (by kernel_rfl) (by kernel_rfl) (by kernel_rfl) (fun _ _ _ h => h) (Or.inr ⟨by rfl, rfl⟩) hb20 ?_
        try simp only [Act.put, List.setIfInBounds_toArray, List.set_cons_zero, List.set_cons_succ]
        refine wpAnyH_take (i := 13) (oi := { dst := some 64, op := Op.binOp BinOp.eql 4 (Operand.tmp 62) (Operand.tmp 63) 4, type := 4, pos := "law.go:60", after := #[{ on := 11, ground := Ground.data }, { on := 12, ground := Ground.data }, { on := 8, ground := Ground.guard }], guard := some (8, false) }) (v := undef) rfl (by kernel_rfl) (by kernel_rfl) (by kernel_rfl) (fun _ _ _ h => h) (Or.inr ⟨by rfl, rfl⟩) hb20 ?_
        try simp only [Act.put, List.setIfInBounds_toArray, List.set_cons_zero, List.set_cons_succ]
        refine wpAnyH_take (i := 14) (oi := { dst := some 65, op := Op.move (Operand.tmp 64), type := 4, pos := "law.go:60", after := #[{ on := 13, ground := Ground.data }, { on := 11, ground := Ground.chain }, { on := 8, ground := Ground.guard }], guard := some (8, false) }) (v := undef) rfl (by kernel_rfl) (by kernel_rfl) (by kernel_rfl) (fun _ _ _ h => h) (Or.inr ⟨by rfl, rfl⟩) hb20 ?_
        try simp only [Act.put, List.setIfInBounds_toArray, List.set_cons_zero, List.set_cons_succ]
        refine wpAnyH_take (i := 15) (oi := { dst := some 66, op := Op.load 25 (Operand.tmp 2), type := 25, pos := "law.go:60", after := #[{ on := 14, ground := Ground.guard }], guard := some (14, true) }) (v := undef) rfl (by kernel_rfl) (by kernel_rfl) (by kernel_rfl) (fun _ _ _ h => h) (Or.inr ⟨by rfl, rfl⟩) hb20 ?_
        try simp only [Act.put, List.setIfInBounds_toArray, List.set_cons_zero, List.set_cons_succ]
        refine wpAnyH_take (i := 16) (oi := { dst := some 67, op := Op.call { callee := Callee.value (Operand.func 11), args := #[Operand.tmp 66], argTypes := #[25] }, type := 9, pos := "law.go:60", after := #[{ on := 15, ground := Ground.data }, { on := 14, ground := Ground.chain }, { on := 14, ground := Ground.guard }], guard := some (14, true) }) (v := undef) rfl (by kernel_rfl) (by kernel_rfl) (by kernel_rfl) (fun _ _ _ h => h) (Or.inr ⟨by rfl, rfl⟩) hb20 ?_
        try simp only [Act.put, List.setIfInBounds_toArray, List.set_cons_zero, List.set_cons_succ]
        refine wpAnyH_take (i := 17) (oi := { dst := some 68, op := Op.load 25 (Operand.tmp 3), type := 25, pos := "law.go:60", after := #[{ on := 14, ground := Ground.guard }], guard := some (14, true) }) (v := undef) rfl (by kernel_rfl) (by kernel_rfl) (by kernel_rfl) (fun _ _ _ h => h) (Or.inr ⟨by rfl, rfl⟩) hb20 ?_
        try simp only [Act.put, List.setIfInBounds_toArray, List.set_cons_zero, List.set_cons_succ]
        refine wpAnyH_take (i := 18) (oi := { dst := some 69, op := Op.call { callee := Callee.value (Operand.func 11), args := #[Operand.tmp 68], argTypes := #[25] }, type := 9, pos := "law.go:60", after := #[{ on := 17, ground := Ground.data }, { on := 16, ground := Ground.chain }, { on := 14, ground := Ground.guard }], guard := some (14, true) }) (v := undef) rfl (by kernel_rfl) (by kernel_rfl) (by kernel_rfl) (fun _ _ _ h => h) (Or.inr ⟨by rfl, rfl⟩) hb20 ?_
        try simp only [Act.put, List.setIfInBounds_toArray, List.set_cons_zero, List.set_cons_succ]
        refine wpAnyH_take (i := 19) (oi := { dst := some 70, op := Op.binOp BinOp.eql 9 (Operand.tmp 67) (Operand.tmp 69) 9, type := 4, pos := "law.go:60", after := #[{ on := 16, ground := Ground.data }, { on := 18, ground := Ground.data }, { on := 14, ground := Ground.guard }], guard := some (14, true) }) (v := undef) rfl (by kernel_rfl) (by kernel_rfl) (by kernel_rfl) (fun _ _ _ h => h) (Or.inr ⟨by rfl, rfl⟩) hb20 ?_
        try simp only [Act.put, List.setIfInBounds_toArray, List.set_cons_zero, List.set_cons_succ]
        refine wpAnyH_take (i := 20) (oi := { dst := some 71, op := Op.move (Operand.tmp 5), type := 4, pos := "law.go:60", after := #[{ on := 14, ground := Ground.guard }], guard := some (14, true) }) (v := undef) rfl (by kernel_rfl) (by kernel_rfl) (by kernel_rfl) (fun _ _ _ h => h) (Or.inr ⟨by rfl, rfl⟩) hb20 ?_
        try simp only [Act.put, List.setIfInBounds_toArray, List.set_cons_zero, List.set_cons_succ]
        refine wpAnyH_take (i := 21) (oi := { dst := some 72, op := Op.binOp BinOp.eql 4 (Operand.tmp 70) (Operand.tmp 71) 4, type := 4, pos := "law.go:60", after := #[{ on := 19, ground := Ground.data }, { on := 20, ground := Ground.data }, { on := 14, ground := Ground.guard }], guard := some (14, true) }) (v := undef) rfl (by kernel_rfl) (by kernel_rfl) (by kernel_rfl) (fun _ _ _ h => h) (Or.inr ⟨by rfl, rfl⟩) hb20 ?_
        try simp only [Act.put, List.setIfInBounds_toArray, List.set_cons_zero, List.set_cons_succ]
        refine wpAnyH_take (i := 22) (oi := { dst := some 73, op := Op.pick (Operand.tmp 65) (Operand.tmp 72) (Operand.const (Value.bool false)), type := 4, pos := "law.go:60", after := #[{ on := 14, ground := Ground.data }, { on := 21, ground := Ground.data }, { on := 8, ground := Ground.guard }], guard := some (8, false) }) (v := undef) rfl (by kernel_rfl) (by kernel_rfl) (by kernel_rfl) (fun _ _ _ h => h) (Or.inr ⟨by rfl, rfl⟩) hb20 ?_
        try simp only [Act.put, List.setIfInBounds_toArray, List.set_cons_zero, List.set_cons_succ]
        refine wpAnyH_take (i := 23) (oi := { dst := some 74, op := Op.pick (Operand.tmp 59) (Operand.const (Value.bool true)) (Operand.tmp 73), type := 4, pos := "law.go:60", after := #[{ on := 8, ground := Ground.data }, { on := 22, ground := Ground.data }, { on := 1, ground := Ground.guard }], guard := some (1, true) }) (v := ?av7) rfl (by kernel_rfl) (by kernel_rfl) (by kernel_rfl) (fun _ _ _ h => h) (Or.inl ⟨by rfl, ?ay7⟩) hb20 ?ar7
        case ay7 => (intro W hSw; go_simp; first | done | with_reducible rfl)
        try simp only [Act.put, List.setIfInBounds_toArray, List.set_cons_zero, List.set_cons_succ]
        refine wpAnyH_take (i := 24) (oi := { dst := some 75, op := Op.pick (Operand.tmp 52) (Operand.tmp 74) (Operand.const (Value.bool false)), type := 4, pos := "law.go:60", after := #[{ on := 1, ground := Ground.data }, { on := 23, ground := Ground.data }], guard := none }) (v := ?av8) rfl (by kernel_rfl) (by kernel_rfl) (by kernel_rfl) (fun _ _ _ h => h) (Or.inl ⟨by rfl, ?ay8⟩) hb20 ?ar8
        case ay8 => (intro W hSw; go_simp; first | done | with_reducible rfl)
        try simp only [Act.put, List.setIfInBounds_toArray, List.set_cons_zero, List.set_cons_succ]
        refine wpAnyH_take (i := 25) (oi := { dst := some 4, op := Op.assign (Operand.tmp 75), type := 4, pos := "law.go:60", after := #[{ on := 24, ground := Ground.data }, { on := 18, ground := Ground.chain }, { on := 0, ground := Ground.phase }, { on := 1, ground := Ground.phase }, { on := 2, ground := Ground.phase }, { on := 3, ground := Ground.phase }, { on := 4, ground := Ground.phase }, { on := 5, ground := Ground.phase }, { on := 6, ground := Ground.phase }, { on := 7, ground := Ground.phase }, { on := 8, ground := Ground.phase }, { on := 9, ground := Ground.phase }, { on := 10, ground := Ground.phase }, { on := 11, ground := Ground.phase }, { on := 12, ground := Ground.phase }, { on := 13, ground := Ground.phase }, { on := 14, ground := Ground.phase }, { on := 15, ground := Ground.phase }, { on := 16, ground := Ground.phase }, { on := 17, ground := Ground.phase }, { on := 18, ground := Ground.phase }, { on := 19, ground := Ground.phase }, { on := 20, ground := Ground.phase }, { on := 21, ground := Ground.phase }, { on := 22, ground := Ground.phase }, { on := 23, ground := Ground.phase }, { on := 24, ground := Ground.phase }], guard := none }) (v := ?av9) rfl (by kernel_rfl) (by kernel_rfl) (by kernel_rfl) (fun _ _ _ h => h) (Or.inl ⟨by rfl, ?ay9⟩) hb20 ?ar9
        case ay9 => (intro W hSw; go_simp; first | done | with_reducible rfl)
        try simp only [Act.put, List.setIfInBounds_toArray, List.set_cons_zero, List.set_cons_succ]
        refine wpAnyH_done (by kernel_rfl) ?_ _
        have Hz := Lib.hid (HJ.out _ (HW.out _ hb20))
        go_wp2
        go_ret
        exact ⟨rfl, Hz.out⟩
      | true =>
        cases hob : okB t' with
        | false =>
          clear hoa hob
          go_wp2_with fail
          refine wp_region_held_drew (S := (fun W => Below w12.heap.size w12 W)) (by kernel_rfl) ((Below.refl _ _).drew) (fun hHeld => ?_)
          refine wpAnyH_ready (rs := [0]) (by kernel_rfl) (by simp) ?_
          refine AllReadyH.cons (o := { dst := some 51, op := Op.call { callee := Callee.value (Operand.func 6), args := #[], argTypes := #[] }, type := 4, pos := "law.go:60", after := #[], guard := none }) rfl (fun K hK => ?_) AllReadyH.nil
          go_simp
          go_at_call 6
          refine (HA.out _).mono ?_
          rintro r w20 ⟨rfl, hb200⟩
          have hb20 : Below w12.heap.size w12 w20 := hHeld.trans (hb200.mono hHeld.size)
          clear hb200
          refine hK.out _ _ hb20 (fun _ => ?_)
          clear hK K
          try simp only [Act.put, List.setIfInBounds_toArray, List.set_cons_zero, List.set_cons_succ]
          refine wpAnyH_take (i := 1) (oi := { dst := some 52, op := Op.move (Operand.tmp 51), type := 4, pos := "law.go:60", after := #[{ on := 0, ground := Ground.data }, { on := 0, ground := Ground.chain }], guard := none }) (v := ?bv1) rfl (by kernel_rfl) (by kernel_rfl) (by kernel_rfl) (fun _ _ _ h => h) (Or.inl ⟨by rfl, ?by1⟩) hb20 ?br1
          case by1 => (intro W hSw; go_simp; first | done | with_reducible rfl)
          try simp only [Act.put, List.setIfInBounds_toArray, List.set_cons_zero, List.set_cons_succ]
          refine wpAnyH_take (i := 2) (oi := { dst := some 53, op := Op.move (Operand.tmp 7), type := 4, pos := "law.go:60", after := #[{ on := 1, ground := Ground.guard }], guard := some (1, true) }) (v := ?bv2) rfl (by kernel_rfl) (by kernel_rfl) (by kernel_rfl) (fun _ _ _ h => h) (Or.inl ⟨by rfl, ?by2⟩) hb20 ?br2
          case by2 => (intro W hSw; go_simp; first | done | with_reducible rfl)
          try simp only [Act.put, List.setIfInBounds_toArray, List.set_cons_zero, List.set_cons_succ]
          refine wpAnyH_take (i := 3) (oi := { dst := some 54, op := Op.unOp UnOp.not 4 (Operand.tmp 53), type := 4, pos := "law.go:60", after := #[{ on := 2, ground := Ground.data }, { on := 1, ground := Ground.guard }], guard := some (1, true) }) (v := ?bv3) rfl (by kernel_rfl) (by kernel_rfl) (by kernel_rfl) (fun _ _ _ h => h) (Or.inl ⟨by rfl, ?by3⟩) hb20 ?br3
          case by3 => (intro W hSw; go_simp; first | done | with_reducible rfl)
          try simp only [Act.put, List.setIfInBounds_toArray, List.set_cons_zero, List.set_cons_succ]
          refine wpAnyH_take (i := 4) (oi := { dst := some 55, op := Op.move (Operand.tmp 54), type := 4, pos := "law.go:60", after := #[{ on := 3, ground := Ground.data }, { on := 1, ground := Ground.chain }, { on := 1, ground := Ground.guard }], guard := some (1, true) }) (v := ?bv4) rfl (by kernel_rfl) (by kernel_rfl) (by kernel_rfl) (fun _ _ _ h => h) (Or.inl ⟨by rfl, ?by4⟩) hb20 ?br4
          case by4 => (intro W hSw; go_simp; first | done | with_reducible rfl)
          try simp only [Act.put, List.setIfInBounds_toArray, List.set_cons_zero, List.set_cons_succ]
          refine wpAnyH_take (i := 5) (oi := { dst := some 56, op := Op.move (Operand.tmp 9), type := 4, pos := "law.go:60", after := #[{ on := 4, ground := Ground.guard }], guard := some (4, false) }) (v := ?bv5) rfl (by kernel_rfl) (by kernel_rfl) (by kernel_rfl) (fun _ _ _ h => h) (Or.inl ⟨by rfl, ?by5⟩) hb20 ?br5
          case by5 => (intro W hSw; go_simp; first | done | with_reducible rfl)
          try simp only [Act.put, List.setIfInBounds_toArray, List.set_cons_zero, List.set_cons_succ]
          refine wpAnyH_take (i := 6) (oi := { dst := some 57, op := Op.unOp UnOp.not 4 (Operand.tmp 56), type := 4, pos := "law.go:60", after := #[{ on := 5, ground := Ground.data }, { on := 4, ground := Ground.guard }], guard := some (4, false) }) (v := ?bv6) rfl (by kernel_rfl) (by kernel_rfl) (by kernel_rfl) (fun _ _ _ h => h) (Or.inl ⟨by rfl, ?by6⟩) hb20 ?br6
          case by6 => (intro W hSw; go_simp; first | done | with_reducible rfl)
          try simp only [Act.put, List.setIfInBounds_toArray, List.set_cons_zero, List.set_cons_succ]
          refine wpAnyH_take (i := 7) (oi := { dst := some 58, op := Op.pick (Operand.tmp 55) (Operand.const (Value.bool true)) (Operand.tmp 57), type := 4, pos := "law.go:60", after := #[{ on := 4, ground := Ground.data }, { on := 6, ground := Ground.data }, { on := 1, ground := Ground.guard }], guard := some (1, true) }) (v := ?bv7) rfl (by kernel_rfl) (by kernel_rfl) (by kernel_rfl) (fun _ _ _ h => h) (Or.inl ⟨by rfl, ?by7⟩) hb20 ?br7
          case by7 => (intro W hSw; go_simp; first | done | with_reducible rfl)
          try simp only [Act.put, List.setIfInBounds_toArray, List.set_cons_zero, List.set_cons_succ]
          refine wpAnyH_take (i := 8) (oi := { dst := some 59, op := Op.move (Operand.tmp 58), type := 4, pos := "law.go:60", after := #[{ on := 7, ground := Ground.data }, { on := 4, ground := Ground.chain }, { on := 1, ground := Ground.guard }], guard := some (1, true) }) (v := ?bv8) rfl (by kernel_rfl) (by kernel_rfl) (by kernel_rfl) (fun _ _ _ h => h) (Or.inl ⟨by rfl, ?by8⟩) hb20 ?br8
          case by8 => (intro W hSw; go_simp; first | done | with_reducible rfl)
          try simp only [Act.put, List.setIfInBounds_toArray, List.set_cons_zero, List.set_cons_succ]
          refine wpAnyH_take (i := 9) (oi := { dst := some 60, op := Op.move (Operand.tmp 6), type := 28, pos := "law.go:60", after := #[{ on := 8, ground := Ground.guard }], guard := some (8, false) }) (v := undef) rfl (by kernel_rfl) (by kernel_rfl) (by kernel_rfl) (fun _ _ _ h => h) (Or.inr ⟨by rfl, rfl⟩) hb20 ?_
          try simp only [Act.put, List.setIfInBounds_toArray, List.set_cons_zero, List.set_cons_succ]
          refine wpAnyH_take (i := 10) (oi := { dst := some 61, op := Op.move (Operand.tmp 8), type := 28, pos := "law.go:60", after := #[{ on := 8, ground := Ground.guard }], guard := some (8, false) }) (v := undef) rfl (by kernel_rfl) (by kernel_rfl) (by kernel_rfl) (fun _ _ _ h => h) (Or.inr ⟨by rfl, rfl⟩) hb20 ?_
          try simp only [Act.put, List.setIfInBounds_toArray, List.set_cons_zero, List.set_cons_succ]
          refine wpAnyH_take (i := 11) (oi := { dst := some 62, op := Op.call { callee := Callee.value (Operand.func 10), args := #[Operand.tmp 60, Operand.tmp 61], argTypes := #[28, 28] }, type := 4, pos := "law.go:60", after := #[{ on := 9, ground := Ground.data }, { on := 10, ground := Ground.data }, { on := 8, ground := Ground.chain }, { on := 8, ground := Ground.guard }], guard := some (8, false) }) (v := undef) rfl (by kernel_rfl) (by kernel_rfl) (by kernel_rfl) (fun _ _ _ h => h) (Or.inr ⟨by rfl, rfl⟩) hb20 ?_
          try simp only [Act.put, List.setIfInBounds_toArray, List.set_cons_zero, List.set_cons_succ]
          refine wpAnyH_take (i := 12) (oi := { dst := some 63, op := Op.move (Operand.tmp 5), type := 4, pos := "law.go:60", after := #[{ on := 8, ground := Ground.guard }], guard := some (8, false) }) (v := undef) rfl (by kernel_rfl) (by kernel_rfl) (by kernel_rfl) (fun _ _ _ h => h) (Or.inr ⟨by rfl, rfl⟩) hb20 ?_
          try simp only [Act.put, List.setIfInBounds_toArray, List.set_cons_zero, List.set_cons_succ]
          refine wpAnyH_take (i := 13) (oi := { dst := some 64, op := Op.binOp BinOp.eql 4 (Operand.tmp 62) (Operand.tmp 63) 4, type := 4, pos := "law.go:60", after := #[{ on := 11, ground := Ground.data }, { on := 12, ground := Ground.data }, { on := 8, ground := Ground.guard }], guard := some (8, false) }) (v := undef) rfl (by kernel_rfl) (by kernel_rfl) (by kernel_rfl) (fun _ _ _ h => h) (Or.inr ⟨by rfl, rfl⟩) hb20 ?_
          try simp only [Act.put, List.setIfInBounds_toArray, List.set_cons_zero, List.set_cons_succ]
          refine wpAnyH_take (i := 14) (oi := { dst := some 65, op := Op.move (Operand.tmp 64), type := 4, pos := "law.go:60", after := #[{ on := 13, ground := Ground.data }, { on := 11, ground := Ground.chain }, { on := 8, ground := Ground.guard }], guard := some (8, false) }) (v := undef) rfl (by kernel_rfl) (by kernel_rfl) (by kernel_rfl) (fun _ _ _ h => h) (Or.inr ⟨by rfl, rfl⟩) hb20 ?_
          try simp only [Act.put, List.setIfInBounds_toArray, List.set_cons_zero, List.set_cons_succ]
          refine wpAnyH_take (i := 15) (oi := { dst := some 66, op := Op.load 25 (Operand.tmp 2), type := 25, pos := "law.go:60", after := #[{ on := 14, ground := Ground.guard }], guard := some (14, true) }) (v := undef) rfl (by kernel_rfl) (by kernel_rfl) (by kernel_rfl) (fun _ _ _ h => h) (Or.inr ⟨by rfl, rfl⟩) hb20 ?_
          try simp only [Act.put, List.setIfInBounds_toArray, List.set_cons_zero, List.set_cons_succ]
          refine wpAnyH_take (i := 16) (oi := { dst := some 67, op := Op.call { callee := Callee.value (Operand.func 11), args := #[Operand.tmp 66], argTypes := #[25] }, type := 9, pos := "law.go:60", after := #[{ on := 15, ground := Ground.data }, { on := 14, ground := Ground.chain }, { on := 14, ground := Ground.guard }], guard := some (14, true) }) (v := undef) rfl (by kernel_rfl) (by kernel_rfl) (by kernel_rfl) (fun _ _ _ h => h) (Or.inr ⟨by rfl, rfl⟩) hb20 ?_
          try simp only [Act.put, List.setIfInBounds_toArray, List.set_cons_zero, List.set_cons_succ]
          refine wpAnyH_take (i := 17) (oi := { dst := some 68, op := Op.load 25 (Operand.tmp 3), type := 25, pos := "law.go:60", after := #[{ on := 14, ground := Ground.guard }], guard := some (14, true) }) (v := undef) rfl (by kernel_rfl) (by kernel_rfl) (by kernel_rfl) (fun _ _ _ h => h) (Or.inr ⟨by rfl, rfl⟩) hb20 ?_
          try simp only [Act.put, List.setIfInBounds_toArray, List.set_cons_zero, List.set_cons_succ]
          refine wpAnyH_take (i := 18) (oi := { dst := some 69, op := Op.call { callee := Callee.value (Operand.func 11), args := #[Operand.tmp 68], argTypes := #[25] }, type := 9, pos := "law.go:60", after := #[{ on := 17, ground := Ground.data }, { on := 16, ground := Ground.chain }, { on := 14, ground := Ground.guard }], guard := some (14, true) }) (v := undef) rfl (by kernel_rfl) (by kernel_rfl) (by kernel_rfl) (fun _ _ _ h => h) (Or.inr ⟨by rfl, rfl⟩) hb20 ?_
          try simp only [Act.put, List.setIfInBounds_toArray, List.set_cons_zero, List.set_cons_succ]
          refine wpAnyH_take (i := 19) (oi := { dst := some 70, op := Op.binOp BinOp.eql 9 (Operand.tmp 67) (Operand.tmp 69) 9, type := 4, pos := "law.go:60", after := #[{ on := 16, ground := Ground.data }, { on := 18, ground := Ground.data }, { on := 14, ground := Ground.guard }], guard := some (14, true) }) (v := undef) rfl (by kernel_rfl) (by kernel_rfl) (by kernel_rfl) (fun _ _ _ h => h) (Or.inr ⟨by rfl, rfl⟩) hb20 ?_
          try simp only [Act.put, List.setIfInBounds_toArray, List.set_cons_zero, List.set_cons_succ]
          refine wpAnyH_take (i := 20) (oi := { dst := some 71, op := Op.move (Operand.tmp 5), type := 4, pos := "law.go:60", after := #[{ on := 14, ground := Ground.guard }], guard := some (14, true) }) (v := undef) rfl (by kernel_rfl) (by kernel_rfl) (by kernel_rfl) (fun _ _ _ h => h) (Or.inr ⟨by rfl, rfl⟩) hb20 ?_
          try simp only [Act.put, List.setIfInBounds_toArray, List.set_cons_zero, List.set_cons_succ]
          refine wpAnyH_take (i := 21) (oi := { dst := some 72, op := Op.binOp BinOp.eql 4 (Operand.tmp 70) (Operand.tmp 71) 4, type := 4, pos := "law.go:60", after := #[{ on := 19, ground := Ground.data }, { on := 20, ground := Ground.data }, { on := 14, ground := Ground.guard }], guard := some (14, true) }) (v := undef) rfl (by kernel_rfl) (by kernel_rfl) (by kernel_rfl) (fun _ _ _ h => h) (Or.inr ⟨by rfl, rfl⟩) hb20 ?_
          try simp only [Act.put, List.setIfInBounds_toArray, List.set_cons_zero, List.set_cons_succ]
          refine wpAnyH_take (i := 22) (oi := { dst := some 73, op := Op.pick (Operand.tmp 65) (Operand.tmp 72) (Operand.const (Value.bool false)), type := 4, pos := "law.go:60", after := #[{ on := 14, ground := Ground.data }, { on := 21, ground := Ground.data }, { on := 8, ground := Ground.guard }], guard := some (8, false) }) (v := undef) rfl (by kernel_rfl) (by kernel_rfl) (by kernel_rfl) (fun _ _ _ h => h) (Or.inr ⟨by rfl, rfl⟩) hb20 ?_
          try simp only [Act.put, List.setIfInBounds_toArray, List.set_cons_zero, List.set_cons_succ]
          refine wpAnyH_take (i := 23) (oi := { dst := some 74, op := Op.pick (Operand.tmp 59) (Operand.const (Value.bool true)) (Operand.tmp 73), type := 4, pos := "law.go:60", after := #[{ on := 8, ground := Ground.data }, { on := 22, ground := Ground.data }, { on := 1, ground := Ground.guard }], guard := some (1, true) }) (v := ?bv9) rfl (by kernel_rfl) (by kernel_rfl) (by kernel_rfl) (fun _ _ _ h => h) (Or.inl ⟨by rfl, ?by9⟩) hb20 ?br9
          case by9 => (intro W hSw; go_simp; first | done | with_reducible rfl)
          try simp only [Act.put, List.setIfInBounds_toArray, List.set_cons_zero, List.set_cons_succ]
          refine wpAnyH_take (i := 24) (oi := { dst := some 75, op := Op.pick (Operand.tmp 52) (Operand.tmp 74) (Operand.const (Value.bool false)), type := 4, pos := "law.go:60", after := #[{ on := 1, ground := Ground.data }, { on := 23, ground := Ground.data }], guard := none }) (v := ?bv10) rfl (by kernel_rfl) (by kernel_rfl) (by kernel_rfl) (fun _ _ _ h => h) (Or.inl ⟨by rfl, ?by10⟩) hb20 ?br10
          case by10 => (intro W hSw; go_simp; first | done | with_reducible rfl)
          try simp only [Act.put, List.setIfInBounds_toArray, List.set_cons_zero, List.set_cons_succ]
          refine wpAnyH_take (i := 25) (oi := { dst := some 4, op := Op.assign (Operand.tmp 75), type := 4, pos := "law.go:60", after := #[{ on := 24, ground := Ground.data }, { on := 18, ground := Ground.chain }, { on := 0, ground := Ground.phase }, { on := 1, ground := Ground.phase }, { on := 2, ground := Ground.phase }, { on := 3, ground := Ground.phase }, { on := 4, ground := Ground.phase }, { on := 5, ground := Ground.phase }, { on := 6, ground := Ground.phase }, { on := 7, ground := Ground.phase }, { on := 8, ground := Ground.phase }, { on := 9, ground := Ground.phase }, { on := 10, ground := Ground.phase }, { on := 11, ground := Ground.phase }, { on := 12, ground := Ground.phase }, { on := 13, ground := Ground.phase }, { on := 14, ground := Ground.phase }, { on := 15, ground := Ground.phase }, { on := 16, ground := Ground.phase }, { on := 17, ground := Ground.phase }, { on := 18, ground := Ground.phase }, { on := 19, ground := Ground.phase }, { on := 20, ground := Ground.phase }, { on := 21, ground := Ground.phase }, { on := 22, ground := Ground.phase }, { on := 23, ground := Ground.phase }, { on := 24, ground := Ground.phase }], guard := none }) (v := ?bv11) rfl (by kernel_rfl) (by kernel_rfl) (by kernel_rfl) (fun _ _ _ h => h) (Or.inl ⟨by rfl, ?by11⟩) hb20 ?br11
          case by11 => (intro W hSw; go_simp; first | done | with_reducible rfl)
          try simp only [Act.put, List.setIfInBounds_toArray, List.set_cons_zero, List.set_cons_succ]
          refine wpAnyH_done (by kernel_rfl) ?_ _
          have Hz := Lib.hid (HJ.out _ (HW.out _ hb20))
          go_wp2
          go_ret
          exact ⟨rfl, Hz.out⟩
        | true =>
          have hfo : formOr t = formBt t := by unfold formOr; rw [hoa, if_pos rfl]
          have hfo' : formOr t' = formBt t' := by unfold formOr; rw [hob, if_pos rfl]
          have hB := (btIn_isB HI0.out hoa Hn.out.1).2.1
          have hB' := (btIn_isB HI0'.out hob Hn.out.2).2.1
          have HEq := Lib.hid (fun W (hW : Below w12.heap.size w12 W) => equal_any p p' (formOr t).length cp (formOr t').length cp' (formOr t) (formOr t') W (HB12.out.grow hW) (HB12'.out.grow hW))
          rw [show decide (formOr t = formOr t') = sm by rw [hfo, hfo', formBt_iff hB hB', Hsm.out]] at HEq
          have HTa := Lib.hid (fun W (hW : Below w12.heap.size w12 W) => btext_any t _ W Hn.out.1 Hfe.out (HI.out _ (HW.out W hW)).1 (HP.out.below (HJ.out _ (HW.out W hW))) (tab_below HT.out (HJ.out _ (HW.out W hW))))
          rw [if_pos hoa] at HTa
          have HTb := Lib.hid (fun W (hW : Below w12.heap.size w12 W) => btext_any t' _ W Hn.out.2 Hfe'.out (HI.out _ (HW.out W hW)).2 (HP.out.below (HJ.out _ (HW.out W hW))) (tab_below HT.out (HJ.out _ (HW.out W hW))))
          rw [if_pos hob] at HTb
          have htx : ((str (textBt t)).toList == (str (textBt t')).toList) = sm := by
            have h1 := textBt_iff hB hB'
            rw [← Hsm.out] at h1
            cases sm with
            | true => rw [of_decide_eq_true h1]; exact str_eq _
            | false => exact str_ne (textBt_byte HI0.out) (textBt_byte HI0'.out) (of_decide_eq_false h1)
          have hss : (sm == sm) = true := by simp
          clear hfo hfo' hB hB' hoa hob
          generalize textBt t = tx at *
          generalize textBt t' = tx' at *
          go_wp2_with fail
          go_region_held3 (fun W => (W.cell? ⟨w.heap.size, 0, none⟩ = some (.string (str t.flow)) ∧ W.cell? ⟨w.heap.size, 1, none⟩ = some (.int .u64 (t.at_ : Int)) ∧ W.cell? ⟨w.heap.size, 2, none⟩ = some (.slice a n c)) ∧ W.cell? ⟨w.heap.size + 1, 0, none⟩ = some (.string (str t'.flow)) ∧ W.cell? ⟨w.heap.size + 1, 1, none⟩ = some (.int .u64 (t'.at_ : Int)) ∧ W.cell? ⟨w.heap.size + 1, 2, none⟩ = some (.slice a' n' c'))
            (first | with_reducible exact HK.out _ (HW.out _ Hd.out) | with_reducible exact HK.out _ (HW.out _ hb20) | with_reducible exact HK.out _ (HW.out _ hb21) | with_reducible exact HK.out _ (HW.out _ hb22) | with_reducible exact HK.out _ (HW.out _ hb23))
            (first | (go_at_call 6; (with_reducible refine (HA.out _).mono ?_); rintro r w20 ⟨rfl, hb200⟩
                      have hb20 : Below w12.heap.size w12 w20 := Hd.out.trans (hb200.mono Hd.out.size)
                      clear hb200)
                   | (go_at_call 10; (with_reducible refine (HEq.out _ hb20).mono ?_); rintro r w21 ⟨rfl, hb210⟩
                      have hb21 : Below w12.heap.size w12 w21 := hb20.trans (hb210.mono hb20.size)
                      clear hb210)
                   | (go_at_call 11; (with_reducible refine (HTa.out _ hb21).mono ?_); rintro r w22 ⟨rfl, hb220⟩
                      have hb22 : Below w12.heap.size w12 w22 := hb21.trans (hb220.mono hb21.size)
                      clear hb220)
                   | (go_at_call 11; (with_reducible refine (HTb.out _ hb22).mono ?_); rintro r w23 ⟨rfl, hb230⟩
                      have hb23 : Below w12.heap.size w12 w23 := hb22.trans (hb230.mono hb22.size)
                      clear hb230))
          have Hz := Lib.hid (HJ.out _ (HW.out _ hb23))
          go_wp2
          go_ret
          exact ⟨rfl, Hz.out⟩
end Go.Proofs.YtcapbaocchaenaaGreatDoor

