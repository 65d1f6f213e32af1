/- Remove of a level of the law's own; the reference's Without and First. -/
import Derived.Test.YthidinaflaogfaaLvOwn
import Derived.Test.YthidinaflaogfaaLvRem
namespace Go.Proofs.Ythidinaflaogfaa
open Go.RowKit

/-- The list without an item. -/
def delI (x : It) (L : List It) : List It := L.filter fun y => !decide (y = x)

theorem delI_not {x : It} {L : List It} (h : x ∉ L) : delI x L = L := List.filter_eq_self.2 fun y hy => by
  cases e : decide (y = x) with
  | false => rfl
  | true => rw [decide_eq_true_eq] at e; exact absurd (e ▸ hy) h

theorem srt_del {M : List It} (h : srtI M) {x : It} (hx : M[cntI x M]? = some x) : M.take (cntI x M) ++ M.drop (cntI x M + 1) = delI x M := by
  obtain ⟨h1, h2⟩ := srt_parts h x
  obtain ⟨hl, he⟩ := List.getElem?_eq_some_iff.1 hx
  have hd : M.drop (cntI x M) = x :: M.drop (cntI x M + 1) := by rw [List.drop_eq_getElem_cons hl, he]
  have hs : srtI (M.drop (cntI x M)) := List.Pairwise.sublist (List.drop_sublist _ _) h
  rw [hd] at hs
  have e1 : delI x (M.take (cntI x M)) = M.take (cntI x M) := delI_not fun hm => by
    rw [h1] at hm
    have := (List.mem_filter.1 hm).2
    rw [ltI_irr] at this
    cases this
  have e2 : delI x (M.drop (cntI x M + 1)) = M.drop (cntI x M + 1) := delI_not fun hm => by
    have := (List.pairwise_cons.1 hs).1 x hm
    rw [ltI_irr] at this
    cases this
  have e3 : delI x M = delI x (M.take (cntI x M)) ++ delI x (M.drop (cntI x M)) := by
    unfold delI
    rw [← List.filter_append, List.take_append_drop]
  rw [e3, e1, hd]
  unfold delI at *
  rw [List.filter_cons, if_neg (by simp), e2]

theorem slF_del {k : Nat} {L : List It} (h : srtI L) (x : It) (hx : x ∈ L) : slF k (delI x L) = upd (slF k L) (slotN k x.2) ((slF k L (slotN k x.2)).take (cntI x (slF k L (slotN k x.2))) ++ (slF k L (slotN k x.2)).drop (cntI x (slF k L (slotN k x.2)) + 1)) := by
  have hF := srt_slF (k := k) h (slotN k x.2)
  rw [srt_del hF ((srt_mem hF x).2 (mem_slF.2 ⟨hx, rfl⟩))]
  funext t
  have e : slF k (delI x L) t = delI x (slF k L t) := filter_comm _ _ _
  rw [e]
  unfold upd
  by_cases ht : t = slotN k x.2
  · rw [if_pos ht, ht]
  · rw [if_neg ht]
    exact delI_not fun hm => ht (mem_slF.1 hm).2.symm

theorem own_remove {w0 : World} {X : Nat → Prop} {w : World} {d k : Nat} {L : List It} (h : LvO w0 X w d k (slF k L)) (hk : k < 4) (hs : srtI L) (hl : L.length ≤ 999) (x : It) (hx : x.2 < 18446744073709551616) :
    Calls Try.prog 35 #[.pointer (some ⟨d, 0, none⟩), .agg #[.int .u64 (x.1 : Int), .int .u64 (x.2 : Int)]] w fun r w' => r = .returned (.bool (decide (x ∈ L))) ∧ LvOEnd w0 X w d k (slF k (delI x L)) w' := by
  obtain ⟨V, h1, h2, h3, h4⟩ := h
  have hF := srt_slF (k := k) hs (slotN k x.2)
  have hle : (slF k L (slotN k x.2)).length ≤ 999 := Nat.le_trans (List.length_filter_le _ _) hl
  have hmm : decide ((slF k L (slotN k x.2))[cntI x (slF k L (slotN k x.2))]? = some x) = decide (x ∈ L) := by
    rw [decide_eq_decide, srt_mem hF, mem_slF]
    exact ⟨fun h => h.1, fun h => ⟨h, rfl⟩⟩
  refine (remove_any h1 hk x hx (cntI x (slF k L (slotN k x.2))) hle (cntI_le _ _) (srt_idx hF x) (decide (x ∈ L)) (by rw [hmm])).mono ?_
  rintro r w' ⟨e, hst⟩
  refine ⟨e, LvO.step h2 h3 h4 ?_⟩
  by_cases hm : x ∈ L
  · rw [slF_del hs x hm]
    rw [if_pos (decide_eq_true hm)] at hst
    exact hst
  · rw [delI_not hm]
    rw [if_neg (by rw [decide_eq_false hm]; decide)] at hst
    exact hst

/-- The items of all slots are all items. -/
theorem cntF_all (k : Nat) (L : List It) : cntF (slF k L) 64 = L.length := by
  have h : ∀ j, cntF (slF k L) j = (L.filter fun y => decide (slotN k y.2 < j)).length := by
    intro j
    induction j with
    | zero => rw [List.filter_eq_nil_iff.2 (fun y _ => by simp)]; rfl
    | succ j ih =>
      rw [cntF_succ, ih]
      unfold slF
      clear ih
      induction L with
      | nil => rfl
      | cons a L ihL =>
        simp only [List.filter_cons]
        by_cases h1 : slotN k a.2 < j
        · rw [if_pos (decide_eq_true h1), if_neg (by simp; omega), if_pos (decide_eq_true (by omega)), List.length_cons, List.length_cons]
          omega
        · by_cases h2 : slotN k a.2 = j
          · rw [if_neg (by simp; omega), if_pos (by simp; omega), if_pos (decide_eq_true (by omega)), List.length_cons, List.length_cons]
            omega
          · rw [if_neg (by simp; omega), if_neg (by simp; omega), if_neg (by simp; omega)]
            exact ihL
  rw [h 64, List.filter_eq_self.2 (fun y _ => decide_eq_true (slotN_lt k y.2))]

set_option maxRecDepth 100000 in
set_option maxHeartbeats 6400000 in
theorem without_any (p : Option Addr) (n c : Nat) (l : List It) (x : It) (w : World) (h : Items w p n c l) (hn : n ≤ 1000) :
    Calls Try.prog 16 #[.slice p n c, .agg #[.int .u64 (x.1 : Int), .int .u64 (x.2 : Int)]] w (NewRow w (delI x l)) := by
  have hlen := h.len
  have hle := h.le
  have hmx := h.max
  obtain ⟨x1, x2⟩ := x
  obtain ⟨w1, hw1⟩ : ∃ w1, w1 = w.alloc (.cells #[.int .u64 (x1 : Int), .int .u64 (x2 : Int)] 36) := ⟨_, rfl⟩
  have hb1 : Below w.heap.size w w1 := by rw [hw1]; exact (Below.refl _ _).alloc (Nat.le_refl _) _
  have hs1 : w1.heap.size = w.heap.size + 1 := by rw [hw1]; simp
  obtain ⟨d0, d1⟩ := box2 w (.int .u64 (x1 : Int)) (.int .u64 (x2 : Int)) 36
  rw [← hw1] at d0 d1
  have HI := Lib.hid (h.below hb1)
  have HD := Lib.hid (And.intro d0 d1)
  have Hb1 := Lib.hid hb1
  obtain ⟨P, hP⟩ : ∃ P, P = fun y : It => !decide (y = (x1, x2)) := ⟨_, rfl⟩
  have HP := Lib.hid (show ∀ y, P y = !decide (y = (x1, x2)) from fun y => by rw [hP])
  have HPd := Lib.hid (show delI (x1, x2) l = l.filter P from by rw [hP]; rfl)
  rw [HPd.out]
  clear h hb1 d0 d1 hP
  go_enter Try.func16, Try.ntmps16
  go_upto_region 1 with fail
  rw [← hw1]
  clear hw1
  go_wp2
  obtain ⟨wo, hwo⟩ : ∃ wo, wo = w1 := ⟨_, rfl⟩
  subst hwo
  go_loopw [5, 6] (fun o i wr => ∃ j : Nat, j ≤ n ∧ i = .int .i64 (j : Int) ∧ OwnI wr wo.heap.size o ((l.take j).filter P) ∧ Below wo.heap.size wo wr) (fun _ i _ => n - (intOf i).toNat)
  case atStart => exact ⟨0, Nat.zero_le _, rfl, World.ownsRow_nil _ _ _ _, Below.refl _ _⟩
  case round =>
    obtain ⟨j, hj, rfl, hown, hb⟩ := hrel
    have Hown := Lib.hid hown
    have Hb := Lib.hid hb
    clear hown hb
    by_cases hlt : j < n
    · have hji : (j : Int) < (n : Int) := by omega
      obtain ⟨g, o, rfl, hc⟩ := HI.out.cell (by omega)
      obtain ⟨y, hy⟩ : ∃ y, l[j]? = some y := ⟨_, List.getElem?_eq_getElem (by omega)⟩
      obtain ⟨c0, c1⟩ := hc j y hy
      have Hft := Lib.hid (filter_take P hy)
      have HPy := Lib.hid (HP.out y)
      have Hlt := Lib.hid hlt
      have g0 := cell_below Hb.out c0
      have g1 := cell_below Hb.out c1
      have e0 := cell_below Hb.out HD.out.1
      have e1 := cell_below Hb.out HD.out.2
      have Hll := Lib.hid (show ((l.take j).filter P).length ≤ 100000 from Nat.le_trans (List.length_filter_le _ _) (by rw [List.length_take]; omega))
      obtain ⟨y1, y2⟩ := y
      clear c0 c1 hc hy hlt
      change wr.cell? _ = some (.int .u64 (y1 : Int)) at g0
      change wr.cell? _ = some (.int .u64 (y2 : Int)) at g1
      by_cases hab : y1 = x1 ∧ y2 = x2
      · obtain ⟨rfl, rfl⟩ := hab
        have Hfin := Lib.hid (show (l.take (j + 1)).filter P = (l.take j).filter P from by rw [Hft.out, if_neg (by rw [HPy.out]; simp)])
        go_wp2_with fail
        go_region_held3 (fun w' => (w'.cell? ⟨g, o + j * 2, none⟩ = some (.int .u64 (y1 : Int)) ∧ w'.cell? ⟨g, o + j * 2 + 1, none⟩ = some (.int .u64 (y2 : Int))) ∧ w'.cell? ⟨w.heap.size, 0, none⟩ = some (.int .u64 (y1 : Int)) ∧ w'.cell? ⟨w.heap.size, 1, none⟩ = some (.int .u64 (y2 : Int)))
          (first | exact ⟨⟨g0, g1⟩, e0, e1⟩) (first | fail)
        go_wp2
        go_roundw
        case rel => exact ⟨j + 1, Hlt.out, by go_num, by rw [Hfin.out]; exact Hown.out.below (Below.refl _ _).drew, Hb.out.drew⟩
        case measure => simp [intOf]; have := Hlt.out; omega
      · have Hfin := Lib.hid (show (l.take (j + 1)).filter P = (l.take j).filter P ++ [(y1, y2)] from by rw [Hft.out, if_pos (by rw [HPy.out, decide_eq_false (fun e => hab (by cases e; exact ⟨rfl, rfl⟩))]; rfl)])
        have hor : (y1 ≠ x1) ∨ (y1 = x1 ∧ y2 ≠ x2) := by omega
        clear hab
        have Hbd := Lib.hid ((Below.refl wr.heap.size wr).drew)
        obtain ⟨wd, hwd⟩ : ∃ wd, wd = wr.drew := ⟨_, rfl⟩
        have hg0 : wd.cell? ⟨g, o + j * 2, none⟩ = some (.int .u64 (y1 : Int)) := by rw [hwd]; exact g0
        have hg1 : wd.cell? ⟨g, o + j * 2 + 1, none⟩ = some (.int .u64 (y2 : Int)) := by rw [hwd]; exact g1
        have hbd : Below wr.heap.size wr wd := by rw [hwd]; exact Hbd.out
        have Hal := Lib.hid ((Below.refl wd.heap.size wd).alloc (Nat.le_refl _) (.cells #[.int .u64 (y1 : Int), .int .u64 (y2 : Int)] 36))
        have Hownd := Lib.hid (Hown.out.below (hbd.trans (Hal.out.mono hbd.size)))
        have Hszd := Lib.hid (Nat.le_trans Hb.out.size (Nat.le_trans hbd.size Hal.out.size))
        have Hbd2 := Lib.hid (Hb.out.trans ((hbd.trans (Hal.out.mono hbd.size)).mono Hb.out.size))
        clear hbd
        rcases hor with ha | ⟨ha, hb⟩
        · have hq1 : ((y1 : Int) == (x1 : Int)) = false := by rw [beq_eq_false_iff_ne]; omega
          have hq2 : ¬ (y1 : Int) = (x1 : Int) := by omega
          go_wp2_with fail
          go_region_held3 (fun w' => (w'.cell? ⟨g, o + j * 2, none⟩ = some (.int .u64 (y1 : Int)) ∧ w'.cell? ⟨g, o + j * 2 + 1, none⟩ = some (.int .u64 (y2 : Int))) ∧ w'.cell? ⟨w.heap.size, 0, none⟩ = some (.int .u64 (x1 : Int)) ∧ w'.cell? ⟨w.heap.size, 1, none⟩ = some (.int .u64 (x2 : Int)))
            (first | exact ⟨⟨g0, g1⟩, e0, e1⟩) (first | fail)
          rw [← hwd]
          clear hwd
          go_wp2_with (at_builtin; refine app_item (y := (y1, y2)) rfl _ _ rfl (by first | rfl | go_simp) Hownd.out (bx := wd.heap.size) (by first | rfl | go_simp) (box2 wd _ _ _).1 (box2 wd _ _ _).2 Hszd.out Hll.out ?_; intro v6 w6 hown6 hb6)
          have Hown6 := Lib.hid hown6
          have Hb6 := Lib.hid (Hbd2.out.trans hb6)
          clear hown6 hb6
          go_wp2
          go_roundw
          case rel => exact ⟨j + 1, Hlt.out, by go_num, by rw [Hfin.out]; exact Hown6.out, Hb6.out⟩
          case measure => simp [intOf]; have := Hlt.out; omega
        · subst ha
          have hq1 : ((y2 : Int) == (x2 : Int)) = false := by rw [beq_eq_false_iff_ne]; omega
          have hq2 : ¬ (y2 : Int) = (x2 : Int) := by omega
          go_wp2_with fail
          go_region_held3 (fun w' => (w'.cell? ⟨g, o + j * 2, none⟩ = some (.int .u64 (y1 : Int)) ∧ w'.cell? ⟨g, o + j * 2 + 1, none⟩ = some (.int .u64 (y2 : Int))) ∧ w'.cell? ⟨w.heap.size, 0, none⟩ = some (.int .u64 (y1 : Int)) ∧ w'.cell? ⟨w.heap.size, 1, none⟩ = some (.int .u64 (x2 : Int)))
            (first | exact ⟨⟨g0, g1⟩, e0, e1⟩) (first | fail)
          rw [← hwd]
          clear hwd
          go_wp2_with (at_builtin; refine app_item (y := (y1, y2)) rfl _ _ rfl (by first | rfl | go_simp) Hownd.out (bx := wd.heap.size) (by first | rfl | go_simp) (box2 wd _ _ _).1 (box2 wd _ _ _).2 Hszd.out Hll.out ?_; intro v6 w6 hown6 hb6)
          have Hown6 := Lib.hid hown6
          have Hb6 := Lib.hid (Hbd2.out.trans hb6)
          clear hown6 hb6
          go_wp2
          go_roundw
          case rel => exact ⟨j + 1, Hlt.out, by go_num, by rw [Hfin.out]; exact Hown6.out, Hb6.out⟩
          case measure => simp [intOf]; have := Hlt.out; omega
    · have hji : ¬ (j : Int) < (n : Int) := by omega
      obtain rfl : j = n := by omega
      have Hfin := Lib.hid (show l.take j = l from List.take_of_length_le (by omega))
      go_wp2
      go_ret
      exact ⟨_, rfl, by rw [← Hfin.out]; exact Joins.ownsRow_le Hown.out (by omega), Hb1.out.trans (Hb.out.mono (by omega))⟩
end Go.Proofs.Ythidinaflaogfaa
