/- The law LevelMatches walked. -/
import Derived.Test.YtfahongfokbhbaaLvMat2
namespace Go.Proofs.Ytfahongfokbhbaa
open Go.RowKit

theorem box4 (w : World) (a b c d : Value) (t : TypeId) : ((w.alloc (.cells #[a, b, c, d] t)).cell? ⟨w.heap.size, 0, none⟩ = some a ∧ (w.alloc (.cells #[a, b, c, d] t)).cell? ⟨w.heap.size, 1, none⟩ = some b) ∧ (w.alloc (.cells #[a, b, c, d] t)).cell? ⟨w.heap.size, 2, none⟩ = some c ∧ (w.alloc (.cells #[a, b, c, d] t)).cell? ⟨w.heap.size, 3, none⟩ = some d := by
  refine ⟨⟨?_, ?_⟩, ?_, ?_⟩ <;> (rw [cell_of_row _ _ _ _ _ (0, 0) (heap_alloc_new _ _)]; rfl)

/-- The cells of an operation's box. -/
def BoxAt (w : World) (B : Nat) (kd : Int) (y1 y2 : Nat) (sn : Int) : Prop := (w.cell? ⟨B, 0, none⟩ = some (.int .i64 kd) ∧ w.cell? ⟨B, 1, none⟩ = some (.int .u64 (y1 : Int))) ∧ w.cell? ⟨B, 2, none⟩ = some (.int .u64 (y2 : Int)) ∧ w.cell? ⟨B, 3, none⟩ = some (.int .i64 sn)
theorem BoxAt.below {w w' : World} {B : Nat} {kd : Int} {y1 y2 : Nat} {sn : Int} (h : BoxAt w B kd y1 y2 sn) (hb : Below w.heap.size w w') : BoxAt w' B kd y1 y2 sn := ⟨⟨cell_below hb h.1.1, cell_below hb h.1.2⟩, cell_below hb h.2.1, cell_below hb h.2.2⟩
theorem BoxAt.keep {w w' : World} {B : Nat} {kd : Int} {y1 y2 : Nat} {sn : Int} (h : BoxAt w B kd y1 y2 sn) (hb : w'.heap[B]? = w.heap[B]?) : BoxAt w' B kd y1 y2 sn :=
  ⟨⟨(World.cell?_of_block (a := ⟨B, 0, none⟩) hb).trans h.1.1, (World.cell?_of_block (a := ⟨B, 1, none⟩) hb).trans h.1.2⟩, (World.cell?_of_block (a := ⟨B, 2, none⟩) hb).trans h.2.1, (World.cell?_of_block (a := ⟨B, 3, none⟩) hb).trans h.2.2⟩

/-- The state amid an operation: the row v holds L, the level too, the operation's box lies in B. -/
structure MdR (w0 : World) (D k B : Nat) (kd : Int) (y1 y2 : Nat) (sn : Int) (L : List It) (v : Value) (w : World) : Prop where
  row : OwnI w w0.heap.size v L
  lv : LvO w0 (fun b => v.ownBlock = some b ∨ b = B) w D k (slF k L)
  box : BoxAt w B kd y1 y2 sn

theorem MdR.below {w0 w w' : World} {D k B : Nat} {kd : Int} {y1 y2 : Nat} {sn : Int} {L : List It} {v : Value} (h : MdR w0 D k B kd y1 y2 sn L v w) (hb : Below w.heap.size w w') : MdR w0 D k B kd y1 y2 sn L v w' := ⟨h.row.below hb, h.lv.below hb, h.box.below hb⟩

theorem MdR.done {w0 w : World} {D k B : Nat} {kd : Int} {y1 y2 : Nat} {sn : Int} {L : List It} {v : Value} {j : Nat} (h : MdR w0 D k B kd y1 y2 sn L v w) (hs : srtI L) (hl : L.length ≤ j) (hw : ∀ y ∈ L, y.2 < 18446744073709551616) : MtR w0 D k j v w :=
  ⟨L, hs, hl, hw, h.row, h.lv.swap (Below.refl _ _) (fun b hb => ⟨.inl (.inl hb), (World.ownsRow.lt h.row b hb).2⟩)⟩

/-- A new row in the place of the old one. -/
theorem MdR.renew {w0 w w' : World} {D k B : Nat} {kd : Int} {y1 y2 : Nat} {sn : Int} {L L' : List It} {v v' : Value} (h : MdR w0 D k B kd y1 y2 sn L v w) (hlv : slF k L = slF k L') (hr : OwnI w' w.heap.size v' L') (hb : Below w.heap.size w w') : MdR w0 D k B kd y1 y2 sn L' v' w' :=
  ⟨Joins.ownsRow_le hr h.lv.base.size, by
    rw [← hlv]
    exact h.lv.swap hb (fun b hb' => by
      rcases hb' with h1 | rfl
      · exact ⟨.inr (World.ownsRow.lt hr b h1).1, (World.ownsRow.lt hr b h1).2⟩
      · exact ⟨.inl (.inr rfl), Nat.lt_of_lt_of_le (World.block_lt_of_cell? _ _ h.box.1.1) hb.size⟩), h.box.below hb⟩

/-- The level has turned, the row not yet: v holds L, the level L'. -/
structure MhR (w0 : World) (D k B : Nat) (kd : Int) (y1 y2 : Nat) (sn : Int) (L : List It) (F : Nat → List It) (v : Value) (w : World) : Prop where
  row : OwnI w w0.heap.size v L
  lv : LvO w0 (fun b => v.ownBlock = some b ∨ b = B) w D k F
  box : BoxAt w B kd y1 y2 sn

theorem MdR.turn {w0 w w' : World} {D k B : Nat} {kd : Int} {y1 y2 : Nat} {sn : Int} {L : List It} {F : Nat → List It} {v : Value} (h : MdR w0 D k B kd y1 y2 sn L v w) (hE : LvOEnd w0 (fun b => v.ownBlock = some b ∨ b = B) w D k F w') : MhR w0 D k B kd y1 y2 sn L F v w' :=
  ⟨h.row.kept (fun b hb => hE.keep b (.inl hb)), hE.lv, h.box.keep (hE.keep B (.inr rfl))⟩
theorem MhR.below {w0 w w' : World} {D k B : Nat} {kd : Int} {y1 y2 : Nat} {sn : Int} {L : List It} {F : Nat → List It} {v : Value} (h : MhR w0 D k B kd y1 y2 sn L F v w) (hb : Below w.heap.size w w') : MhR w0 D k B kd y1 y2 sn L F v w' := ⟨h.row.below hb, h.lv.below hb, h.box.below hb⟩
theorem MhR.renew {w0 w w' : World} {D k B : Nat} {kd : Int} {y1 y2 : Nat} {sn : Int} {L L' : List It} {F : Nat → List It} {v v' : Value} (h : MhR w0 D k B kd y1 y2 sn L F v w) (hr : OwnI w' w.heap.size v' L') (hb : Below w.heap.size w w') : MhR w0 D k B kd y1 y2 sn L' F v' w' :=
  ⟨Joins.ownsRow_le hr h.lv.base.size, h.lv.swap hb (fun b hb' => by
      rcases hb' with h1 | rfl
      · exact ⟨.inr (World.ownsRow.lt hr b h1).1, (World.ownsRow.lt hr b h1).2⟩
      · exact ⟨.inl (.inr rfl), Nat.lt_of_lt_of_le (World.block_lt_of_cell? _ _ h.box.1.1) hb.size⟩), h.box.below hb⟩
theorem MhR.md {w0 w : World} {D k B : Nat} {kd : Int} {y1 y2 : Nat} {sn : Int} {L : List It} {F : Nat → List It} {v : Value} (h : MhR w0 D k B kd y1 y2 sn L F v w) (e : F = slF k L) : MdR w0 D k B kd y1 y2 sn L v w := ⟨h.row, e ▸ h.lv, h.box⟩

theorem len_delI (x : It) (L : List It) : (delI x L).length ≤ L.length := List.length_filter_le _ _

set_option maxRecDepth 100000 in
set_option maxHeartbeats 12800000 in
theorem levelMatches_any (m : Nat) (p : Option Addr) (n c : Nat) (ops : List Om) (w : World) (hI : Oms w p n c ops) (hw : ∀ y ∈ ops, omW y) (hm : m < 256) :
    Calls Try.prog 4 #[.int .u8 (m : Int), .slice p n c] w fun r w' => r = .returned (.bool true) ∧ Below w.heap.size w w' := by
  have hk : m % 4 < 4 := Nat.mod_lt _ (by decide)
  have e4 : (m : Int) % 4 = ((m % 4 : Nat) : Int) := rfl
  have hlen := hI.len
  have hle := hI.le
  have hmx := hI.max
  generalize m % 4 = k at *
  have HN := Lib.hid (new_any k w hk)
  have HL0 := Lib.hid (own_new k w)
  have hb1 := (Below.refl w.heap.size w).alloc (Nat.le_refl _) (.cells (lvC k nil64) 60)
  obtain ⟨D, hD⟩ : ∃ D, D = w.heap.size := ⟨_, rfl⟩
  rw [← hD] at HN HL0
  generalize hw1 : w.alloc (.cells (lvC k nil64) 60) = w1 at *
  have Hb1 := Lib.hid hb1
  have HA := Lib.hid (fun W => alive_any W)
  have HI := Lib.hid hI
  have HW := Lib.hid hw
  clear hb1 hw1 hI hw hD
  go_enter Try.func4, Try.ntmps4
  go_wp2_with fail
  refine HN.out.mono ?_
  rintro r w2 ⟨rfl, rfl⟩
  by_cases hn : 100 < n
  · have hni : (100 : Int) < (n : Int) := by omega
    go_wp2_with fail
    refine (HA.out _).mono ?_
    rintro r w3 ⟨rfl, hb3⟩
    have Hb3 := Lib.hid (Hb1.out.trans (hb3.mono Hb1.out.size))
    clear hb3
    go_wp2
    go_ret
    exact ⟨rfl, Hb3.out⟩
  have hni : ¬ (100 : Int) < (n : Int) := by omega
  have H0 := Lib.hid (show MtR w D k 0 (.slice none 0 0) w2 from ⟨[], List.Pairwise.nil, Nat.le_refl _, fun _ h => (by cases h), World.ownsRow_nil _ _ _ _, HL0.out.swap (Below.refl _ _) (fun b hb => (by cases hb))⟩)
  go_wp2
  go_loopw [7, 33] (fun v i wr => ∃ j : Nat, j ≤ n ∧ i = .int .i64 (j : Int) ∧ MtR w D k j v wr) (fun _ i _ => n - (intOf i).toNat)
  case atStart => exact ⟨0, Nat.zero_le _, rfl, H0.out⟩
  case round =>
    obtain ⟨j, hj, rfl, L, hs, hLl, hLw, hown, hlv⟩ := hrel
    by_cases hlt : j < n
    · have hji : (j : Int) < (n : Int) := by omega
      obtain ⟨g, o, rfl, hc⟩ := HI.out.cell (by omega)
      obtain ⟨y, hy⟩ : ∃ y, ops[j]? = some y := ⟨_, List.getElem?_eq_getElem (by omega)⟩
      have hcy := hc j y hy
      have hbase := hlv.base
      have hyw := HW.out y (List.mem_of_getElem? hy)
      obtain ⟨kd, ⟨y1, y2⟩, sn⟩ := y
      have g0 := cell_below hbase (hcy 0 (by decide))
      have g1 := cell_below hbase (hcy 1 (by decide))
      have g2 := cell_below hbase (hcy 2 (by decide))
      have g3 := cell_below hbase (hcy 3 (by decide))
      rw [Nat.add_zero] at g0
      obtain ⟨N, hN⟩ : ∃ N, L.length = N := ⟨_, rfl⟩
      obtain ⟨p', c', rfl, hIt⟩ := hown.items hN
      obtain ⟨wa, hwa⟩ : ∃ wa, wa = wr.alloc (.cells #[.int .i64 kd, .int .u64 (y1 : Int), .int .u64 (y2 : Int), .int .i64 sn] 38) := ⟨_, rfl⟩
      have hba : Below wr.heap.size wr wa := by rw [hwa]; exact (Below.refl _ _).alloc (Nat.le_refl _) _
      have hza : wa.heap.size = wr.heap.size + 1 := by rw [hwa]; simp
      have hbx : BoxAt wa wr.heap.size kd y1 y2 sn := by rw [hwa]; exact box4 wr _ _ _ _ _
      have hmd : MdR w D k wr.heap.size kd y1 y2 sn L (.slice p' N c') wa := ⟨hown.below hba, hlv.swap hba (fun b hb => by
        rcases hb with h | rfl
        · exact ⟨.inl h, by have := (World.ownsRow.lt hown b h).2; omega⟩
        · exact ⟨.inr (Nat.le_refl _), by omega⟩), hbx⟩
      have hL100 : L.length ≤ 100 := by omega
      have HMd := Lib.hid hmd
      have HHas := Lib.hid (has_any p' N c' L (y1, y2) wa hmd.row.it.1)
      have HL := Lib.hid (And.intro hs (And.intro hLl hLw))
      have HLN := Lib.hid hN
      have Hyw := Lib.hid hyw
      have Hlt := Lib.hid hlt
      have hN100 : N ≤ 100 := by omega
      obtain ⟨b, hb⟩ : ∃ b, b = decide ((y1, y2) ∈ L) := ⟨_, rfl⟩
      rw [← hb] at HHas
      have Hb := Lib.hid hb
      clear hc hy hcy hyw hIt hba hza hbx hmd hL100 hlt hb hs hLl hLw hown hlv hbase hN
      go_upto_region 9 with fail
      rw [← hwa]
      clear hwa
      obtain ⟨⟨c0, c1⟩, c2, c3⟩ := HMd.out.box
      go_wp2_with fail
      refine HHas.out.mono ?_
      rintro r w3 ⟨rfl, hb3⟩
      have HM3 := Lib.hid (HMd.out.below hb3)
      obtain ⟨⟨e0, e1⟩, e2, e3⟩ := HM3.out.box
      clear hb3 HMd HHas c0 c1 c2 c3 g0 g1 g2 g3
      by_cases hk0 : kd = 0
      · subst hk0
        have hbb : ((!b) == b) = false := by cases b <;> rfl
        have HP := Lib.hid (own_put HM3.out.lv hk HL.out.1 (by have := HLN.out; omega) (y1, y2) Hyw.out.2.1.2)
        rw [← Hb.out] at HP
        go_wp2_with fail
        refine HP.out.mono ?_
        rintro r w4 ⟨rfl, hE⟩
        have HM4 := Lib.hid (HM3.out.turn hE)
        clear hE HM3 HP e0 e1 e2 e3
        obtain ⟨⟨e0, e1⟩, e2, e3⟩ := HM4.out.box
        cases b with
        | true =>
          have hyL : (y1, y2) ∈ L := of_decide_eq_true Hb.out.symm
          have HMe := Lib.hid (HM4.out.md (by rw [if_pos hyL]))
          clear hyL HM4
          have HCnt := Lib.hid (own_count (HMe.out).lv HLN.out (by omega))
          go_wp2_with fail
          refine HCnt.out.mono ?_
          rintro r w9 ⟨rfl, rfl⟩
          have Hend := Lib.hid (MdR.done (j := j + 1) (HMe.out) HL.out.1 (Nat.le_succ_of_le HL.out.2.1) HL.out.2.2)
          clear HCnt
          go_wp2
          go_roundw
          case rel => exact ⟨j + 1, Hlt.out, by go_num, Hend.out⟩
          case measure => simp [intOf]; have := Hlt.out; omega
        | false =>
          have hyL : (y1, y2) ∉ L := of_decide_eq_false Hb.out.symm
          have HyL := Lib.hid hyL
          clear hyL
          have HIn := Lib.hid (rinsert_any p' N c' L (y1, y2) (cntI (y1, y2) L) w4 HM4.out.row.it.1 HM4.out.row.it.2.1 HM4.out.row.it.2.2 (by omega) (by rw [← HLN.out]; exact cntI_le _ _) (srt_idx HL.out.1 (y1, y2)))
          go_wp2_with fail
          refine HIn.out.mono ?_
          rintro r w5 ⟨v5, rfl, hown5, hb5⟩
          have hNi : (insI (y1, y2) L).length = N + 1 := by rw [len_ins, HLN.out]
          obtain ⟨p5, c5, rfl, _⟩ := OwnI.items (l := insI (y1, y2) L) hown5 hNi
          have HMe := Lib.hid ((HM4.out.renew (L' := insI (y1, y2) L) hown5 hb5).md (by rw [if_neg HyL.out]))
          have HNi := Lib.hid hNi
          clear hown5 hb5 hNi HM4 HIn e0 e1 e2 e3
          have HCnt := Lib.hid (own_count (HMe.out).lv HNi.out (by omega))
          go_wp2_with fail
          refine HCnt.out.mono ?_
          rintro r w9 ⟨rfl, rfl⟩
          have Hend := Lib.hid (MdR.done (j := j + 1) (HMe.out) (srt_ins HL.out.1 HyL.out) (by rw [len_ins]; have := HL.out.2.1; omega) (fun z hz => by rcases (mem_ins HL.out.1).1 hz with rfl | h; exact Hyw.out.2.1.2; exact HL.out.2.2 z h))
          clear HCnt
          go_wp2
          go_roundw
          case rel => exact ⟨j + 1, Hlt.out, by go_num, Hend.out⟩
          case measure => simp [intOf]; have := Hlt.out; omega
      by_cases hk1 : kd = 1
      · subst hk1
        have hbb : (b != b) = false := by simp
        have HP := Lib.hid (own_remove HM3.out.lv hk HL.out.1 (by have := HLN.out; omega) (y1, y2) Hyw.out.2.1.2)
        rw [← Hb.out] at HP
        go_wp2_with fail
        refine HP.out.mono ?_
        rintro r w4 ⟨rfl, hE⟩
        have HM4 := Lib.hid (HM3.out.turn hE)
        clear hE HM3 HP e0 e1 e2 e3
        obtain ⟨⟨e0, e1⟩, e2, e3⟩ := HM4.out.box
        have HWo := Lib.hid (without_any p' N c' L (y1, y2) w4 HM4.out.row.it.1 (by omega))
        go_wp2_with fail
        refine HWo.out.mono ?_
        rintro r w5 ⟨v5, rfl, hown5, hb5⟩
        obtain ⟨N5, hN5⟩ : ∃ N5, (delI (y1, y2) L).length = N5 := ⟨_, rfl⟩
        obtain ⟨p5, c5, rfl, _⟩ := OwnI.items (l := delI (y1, y2) L) hown5 hN5
        have HMe := Lib.hid ((HM4.out.renew (L' := delI (y1, y2) L) hown5 hb5).md rfl)
        have hN5l : N5 ≤ N := by rw [← hN5, ← HLN.out]; exact len_delI _ _
        have HN5 := Lib.hid hN5
        clear hown5 hb5 HM4 HWo hN5 e0 e1 e2 e3
        have HCnt := Lib.hid (own_count (HMe.out).lv HN5.out (by omega))
        go_wp2_with fail
        refine HCnt.out.mono ?_
        rintro r w9 ⟨rfl, rfl⟩
        have Hend := Lib.hid (MdR.done (j := j + 1) (HMe.out) (List.Pairwise.filter _ HL.out.1) (Nat.le_succ_of_le (Nat.le_trans (len_delI _ _) HL.out.2.1)) (fun z hz => HL.out.2.2 z (List.mem_filter.1 hz).1))
        clear HCnt
        go_wp2
        go_roundw
        case rel => exact ⟨j + 1, Hlt.out, by go_num, Hend.out⟩
        case measure => simp [intOf]; have := Hlt.out; omega
      by_cases hk2 : kd = 2
      · subst hk2
        have hT := of_take k L sn
        have hF := slF_minus k L sn
        obtain ⟨T, hTT⟩ : ∃ T, T = L.filter (fun y => decide ((slotN k y.2 : Int) = sn)) := ⟨_, rfl⟩
        obtain ⟨M, hM⟩ : ∃ M, T.length = M := ⟨_, rfl⟩
        rw [← hTT] at hT hF
        rw [hM] at hF
        obtain ⟨F', hF'⟩ : ∃ F', F' = (if isSlotB sn = true then upd (slF k L) sn.toNat [] else slF k L) := ⟨_, rfl⟩
        rw [← hF'] at hF
        have hM100 : M ≤ 100 := by rw [← hM, hTT]; exact Nat.le_trans (List.length_filter_le _ _) (by have := HLN.out; omega)
        have HOf := Lib.hid (of_any k p' N c' L sn w3 hk HM3.out.row.it.1 (by omega) HL.out.2.2)
        rw [← hTT] at HOf
        have HTm := Lib.hid hM
        have HT := Lib.hid hT
        have HF := Lib.hid hF
        have HF' := Lib.hid hF'
        clear hT hF hTT hM hF'
        go_wp2_with fail
        refine HOf.out.mono ?_
        rintro r w4 ⟨v4, rfl, hown4, hb4⟩
        obtain ⟨p4, c4, rfl, hI4⟩ := OwnI.items (l := T) hown4 HTm.out
        have HM4 := Lib.hid (HM3.out.below hb4)
        have hlv4 := HM3.out.lv.swap (Y := fun b => ((Value.slice p' N c').ownBlock = some b ∨ b = wr.heap.size) ∨ (Value.slice p4 M c4).ownBlock = some b) hb4 (fun b hb => by
          rcases hb with (h | rfl) | h
          · exact ⟨.inl (.inl h), Nat.lt_of_lt_of_le (World.ownsRow.lt HM3.out.row b h).2 hb4.size⟩
          · exact ⟨.inl (.inr rfl), Nat.lt_of_lt_of_le (World.block_lt_of_cell? _ _ HM3.out.box.1.1) hb4.size⟩
          · exact ⟨.inr (World.ownsRow.lt hown4 b h).1, (World.ownsRow.lt hown4 b h).2⟩)
        have HTk := Lib.hid (own_take_all hlv4 sn)
        have Hown4 := Lib.hid hown4
        clear hb4 hI4 hlv4 hown4 HOf HM3 e0 e1 e2 e3
        obtain ⟨⟨e0, e1⟩, e2, e3⟩ := HM4.out.box
        go_wp2_with fail
        refine HTk.out.mono ?_
        rintro r w5 ⟨pT, nT, cT, rfl, hIT, hE⟩
        rw [HT.out] at hIT
        rw [← HF'.out] at hE
        have HM5 := Lib.hid (show MhR w D k wr.heap.size 2 y1 y2 sn L F' (.slice p' N c') w5 from ⟨HM4.out.row.kept (fun b hb => hE.keep b (.inl (.inl hb))), hE.lv.swap (Below.refl _ _) (fun b hb => ⟨.inl (.inl hb), by
          rcases hb with h | rfl
          · exact Nat.lt_of_lt_of_le (World.ownsRow.lt HM4.out.row b h).2 hE.size
          · exact Nat.lt_of_lt_of_le (World.block_lt_of_cell? _ _ HM4.out.box.1.1) hE.size⟩), HM4.out.box.keep (hE.keep _ (.inl (.inr rfl)))⟩)
        have Hown5 := Lib.hid (OwnI.kept (w' := w5) Hown4.out (fun b hb => hE.keep b (.inr hb)))
        have hnT : nT = M := by rw [← hIT.len]; exact HTm.out
        subst hnT
        have HBk := Lib.hid (back_any pT nT cT T w5 hIT (by omega))
        clear hIT hE HTk HM4 Hown4 e0 e1 e2 e3
        go_wp2_with fail
        refine HBk.out.mono ?_
        rintro r w6 ⟨v6, rfl, hown6, hb6⟩
        obtain ⟨p6, c6, rfl, hI6⟩ := OwnI.items (l := T) hown6 HTm.out
        have HM6 := Lib.hid (HM5.out.below hb6)
        have Hown6 := Lib.hid (Hown5.out.below hb6)
        have HEq := Lib.hid ((equal_any p6 p4 nT nT c6 c4 T T w6 hI6 Hown6.out.it.1).mono (R' := fun r w' => r = .returned (.bool true) ∧ Below w6.heap.size w6 w') (by rintro r w' ⟨e, hb⟩; exact ⟨by rw [e, decide_eq_true rfl], hb⟩))
        clear hown6 hb6 hI6 HBk HM5 Hown5
        go_wp2_with fail
        refine HEq.out.mono ?_
        rintro r w7 ⟨rfl, hb7⟩
        have HM7 := Lib.hid (HM6.out.below hb7)
        have HI7 := Lib.hid ((Hown6.out.below hb7).it.1)
        have hle4 := HI7.out.le
        have hmx4 := HI7.out.max
        have Hm0 := Lib.hid (show MhR w D k wr.heap.size 2 y1 y2 sn (minus L T 0) F' (.slice p' N c') w7 from by rw [minus_zero]; exact HM7.out)
        have Hln := Lib.hid (show ∀ t, (minus L T t).length ≤ N from fun t => by rw [← HLN.out]; exact List.length_filter_le _ _)
        obtain ⟨B, hB⟩ : ∃ B, B = wr.heap.size := ⟨_, rfl⟩
        rw [← hB] at Hm0
        clear hb7 HM6 Hown6 HEq HM7
        go_wp2
        obtain ⟨wo, hwo⟩ : ∃ wo, wo = wr := ⟨_, rfl⟩
        subst hwo
        go_loopw [7, 96] (fun v i ws => ∃ t : Nat, t ≤ nT ∧ i = .int .i64 (t : Int) ∧ MhR w D k B 2 y1 y2 sn (minus L T t) F' v ws ∧ Below w7.heap.size w7 ws) (fun _ i _ => nT - (intOf i).toNat)
        case atStart => exact ⟨0, Nat.zero_le _, rfl, Hm0.out, Below.refl _ _⟩
        case round =>
          obtain ⟨t, ht, rfl, hmh, hbt⟩ := hrel
          have HMh := Lib.hid hmh
          have Hbt := Lib.hid hbt
          obtain ⟨Nt, hNt⟩ : ∃ Nt, (minus L T t).length = Nt := ⟨_, rfl⟩
          obtain ⟨pv, cv, rfl, _⟩ := hmh.row.items hNt
          have hNt100 : Nt ≤ 100 := by have := Hln.out t; omega
          have HNt := Lib.hid hNt
          clear hmh hbt hNt
          by_cases hlt2 : t < nT
          · have hti : (t : Int) < (nT : Int) := by omega
            obtain ⟨g, o, rfl, hc⟩ := HI7.out.cell (by omega)
            obtain ⟨z, hz⟩ : ∃ z, T[t]? = some z := ⟨_, List.getElem?_eq_getElem (by have := HTm.out; omega)⟩
            obtain ⟨k0, k1⟩ := hc t z hz
            have q0 := cell_below Hbt.out k0
            have q1 := cell_below Hbt.out k1
            obtain ⟨z1, z2⟩ := z
            obtain ⟨wa, hwa⟩ : ∃ wa, wa = wr.alloc (.cells #[.int .u64 (z1 : Int), .int .u64 (z2 : Int)] 36) := ⟨_, rfl⟩
            have hba : Below wr.heap.size wr wa := by rw [hwa]; exact (Below.refl _ _).alloc (Nat.le_refl _) _
            obtain ⟨d0, d1⟩ := box2 wr (.int .u64 (z1 : Int)) (.int .u64 (z2 : Int)) 36
            rw [← hwa] at d0 d1
            have HMa := Lib.hid (HMh.out.below hba)
            have Hba := Lib.hid (Hbt.out.trans (hba.mono Hbt.out.size))
            have HWo := Lib.hid (without_any pv Nt cv (minus L T t) (z1, z2) wa HMa.out.row.it.1 (by omega))
            have Hms := Lib.hid (minus_succ (L := L) hz)
            have Hlt2 := Lib.hid hlt2
            change wr.cell? _ = some (.int .u64 (z1 : Int)) at q0
            change wr.cell? _ = some (.int .u64 (z2 : Int)) at q1
            clear k0 k1 hc hz hba hlt2 HMh Hbt
            go_upto_region 29 with fail
            rw [← hwa]
            clear hwa
            go_wp2_with fail
            refine HWo.out.mono ?_
            rintro r w8 ⟨v8, rfl, hown8, hb8⟩
            have HM8 := Lib.hid (HMa.out.renew hown8 hb8)
            rw [← Hms.out] at HM8
            have Hb8 := Lib.hid (Hba.out.trans (hb8.mono Hba.out.size))
            clear hown8 hb8 HMa HWo
            go_wp2
            go_roundw
            case rel => exact ⟨t + 1, Hlt2.out, by go_num, HM8.out, Hb8.out⟩
            case measure => simp [intOf]; have := Hlt2.out; omega
          · have hti : ¬ (t : Int) < (nT : Int) := by omega
            obtain rfl : t = nT := by omega
            have HMe := Lib.hid (HMh.out.md HF.out.symm)
            have hNtN : Nt ≤ N := by rw [← HNt.out]; exact Hln.out t
            clear HMh
            have HCnt := Lib.hid (own_count (HMe.out).lv HNt.out (by omega))
            go_wp2_with fail
            refine HCnt.out.mono ?_
            rintro r w9 ⟨rfl, rfl⟩
            have Hend := Lib.hid (MdR.done (j := j + 1) (HMe.out) (List.Pairwise.filter _ HL.out.1) (Nat.le_succ_of_le (Nat.le_trans (List.length_filter_le _ _) HL.out.2.1)) (fun z hz => HL.out.2.2 z (List.mem_filter.1 hz).1))
            clear HCnt
            go_wp2
            go_roundw
            case rel => exact ⟨j + 1, Hlt.out, by go_num, Hend.out⟩
            case measure => simp [intOf]; have := Hlt.out; omega
      · have hq0 : (kd == 0) = false := by rw [beq_eq_false_iff_ne]; exact hk0
        have hq1 : (kd == 1) = false := by rw [beq_eq_false_iff_ne]; exact hk1
        have hq2 : (kd == 2) = false := by rw [beq_eq_false_iff_ne]; exact hk2
        obtain ⟨f, hf⟩ : ∃ f : Nat, max sn 0 = (f : Int) := ⟨(max sn 0).toNat, by omega⟩
        have HF1 := Lib.hid (own_first (w := w3.drew) (HM3.out.below (Below.refl _ _).drew).lv sn f hf)
        have HF2 := Lib.hid (fun W (h : Items W p' N c' L) => rfirst_any k p' N c' L sn f W hf hk h (by omega) HL.out.2.2)
        have HI3 := Lib.hid (HM3.out.below (Below.refl _ _).drew).row.it.1
        go_wp2_with fail
        go_region_held3 (fun W => W.cell? ⟨wr.heap.size, 3, none⟩ = some (.int .i64 sn))
          (first | exact e3 | exact cell_below hb5 e3)
          (first
            | (go_at_call 25; (with_reducible refine HF1.out.mono ?_); rintro r w4 ⟨x1, rfl, hx1, rfl⟩)
            | (go_at_call 26; (with_reducible refine (HF2.out _ HI3.out).mono ?_); rintro r w5 ⟨x2, rfl, hx2, hb5⟩; have hxx : (x1 != x2) = false := by rw [hx1.uniq (fun _ _ => Iff.rfl) hx2]; simp))
        have hxx : (x1 != x2) = false := by rw [hx1.uniq (fun _ _ => Iff.rfl) hx2]; simp
        have HMe := Lib.hid ((HM3.out.below (Below.refl _ _).drew).below hb5)
        clear hb5 HM3 HF1 HF2 HI3 hx1 hx2 e0 e1 e2 e3
        have HCnt := Lib.hid (own_count (HMe.out).lv HLN.out (by omega))
        go_wp2_with fail
        refine HCnt.out.mono ?_
        rintro r w9 ⟨rfl, rfl⟩
        have Hend := Lib.hid (MdR.done (j := j + 1) (HMe.out) HL.out.1 (Nat.le_succ_of_le HL.out.2.1) HL.out.2.2)
        clear HCnt
        go_wp2
        go_roundw
        case rel => exact ⟨j + 1, Hlt.out, by go_num, Hend.out⟩
        case measure => simp [intOf]; have := Hlt.out; omega
    · have hji : ¬ (j : Int) < (n : Int) := by omega
      have Hbs := Lib.hid hlv.base
      clear hs hLl hLw hown hlv
      go_wp2_with fail
      refine (HA.out _).mono ?_
      rintro r w3 ⟨rfl, hb3⟩
      have Hb3 := Lib.hid (Hbs.out.trans (hb3.mono Hbs.out.size))
      clear hb3
      go_wp2
      go_ret
      exact ⟨rfl, Hb3.out⟩
end Go.Proofs.Ytfahongfokbhbaa
