/- The reference's queue: New, Pop, Remove. -/
import Derived.Test.YtmmiommfbkcebaaQuRef
namespace Go.Proofs.Ytmmiommfbkcebaa
open Go.RowKit

/-- What New holds between two rounds. -/
def NewJ (w0 : World) (l : List Int) (j : Nat) (v : Value) (wr : World) : Prop :=
  ∃ q k, v = .slice q (newQ (l.take j)).length k ∧ RowQ (fun b => w0.heap.size ≤ b) wr q (newQ (l.take j)).length k (newQ (l.take j)) ∧ Below w0.heap.size w0 wr

set_option maxRecDepth 100000 in
theorem rnew17_any (p : Option Addr) (n c : Nat) (l : List Int) (w : World) (h : Qs w p n c l) (hn : n ≤ 90000) :
    Calls Try.prog 10 #[.slice p n c] w fun r w' => ∃ q k, r = .returned (.slice q (newQ l).length k) ∧ RowQ (fun b => w.heap.size ≤ b) w' q (newQ l).length k (newQ l) ∧ Below w.heap.size w w' := by
  have hlen := h.len
  have hle := h.le
  have hmx := h.max
  obtain ⟨wo, hwo⟩ : ∃ wo, wo = w := ⟨_, rfl⟩
  subst hwo
  have HI := Lib.hid h
  clear h
  go_enter Try.func10, Try.ntmps10
  go_wp2_with fail
  go_loopw [3, 4] (fun v i wr => ∃ j : Nat, j ≤ n ∧ i = .int .i64 (j : Int) ∧ RowKit.Hid (NewJ wo l j v wr)) (fun _ i _ => n - (intOf i).toNat)
  case atStart => exact ⟨0, Nat.zero_le _, rfl, Lib.hid ⟨none, 0, rfl, rowQ_nil _ _, Below.refl _ _⟩⟩
  case round =>
    obtain ⟨j, hj, rfl, HJ⟩ := hrel
    obtain ⟨q, k, rfl, hrow, hbw⟩ := HJ.out
    by_cases hlt : j < n
    · have hji : (j : Int) < (n : Int) := by omega
      obtain ⟨b, o, rfl, hc⟩ := HI.out.cell (by omega)
      obtain ⟨y, hy⟩ : ∃ y, l[j]? = some y := ⟨_, List.getElem?_eq_getElem (by omega)⟩
      have c0 := cell_below hbw (hc j y hy)
      have hnl : (newQ (l.take j)).length ≤ 90000 := by
        have h5 := newQ_len (l.take j)
        rw [List.length_take] at h5
        omega
      have HP := Lib.hid (rpush17_any _ y q _ k _ wr hrow hnl)
      have Hs := Lib.hid (newQ_take_succ hy)
      have Hbw := Lib.hid hbw
      clear hc hy hrow hbw hnl HJ
      go_wp2_with fail
      refine HP.out.mono ?_
      rintro r w2 ⟨q2, k2, rfl, hrow2, hb2⟩
      have HJ2 := Lib.hid (show NewJ wo l (j + 1) (.slice q2 (pushQ (newQ (l.take j)) y).length k2) w2 from ⟨q2, k2, by rw [Hs.out], by
        rw [Hs.out]
        exact hrow2.mono (fun b hb => by
          rcases hb with hb | hb
          · exact hb
          · exact Nat.le_trans Hbw.out.size hb), Hbw.out.trans (hb2.mono Hbw.out.size)⟩)
      clear hrow2 hb2
      go_wp2
      go_roundw
      case rel => exact ⟨j + 1, by omega, by go_num, HJ2⟩
      case measure => simp [intOf]; omega
    · have hji : ¬ (j : Int) < (n : Int) := by omega
      obtain rfl : j = n := by omega
      have Hend := Lib.hid (And.intro hrow hbw)
      have Ht := Lib.hid (show l.take j = l from List.take_of_length_le (by omega))
      clear hrow hbw HJ
      go_wp2
      go_ret
      refine ⟨q, k, ?_, ?_, Hend.out.2⟩
      · rw [Ht.out]; rfl
      · have h5 := Hend.out.1
        rw [Ht.out] at h5
        exact h5

set_option maxRecDepth 100000 in
theorem rpop17_no (p : Option Addr) (c : Nat) (w : World) :
    Calls Try.prog 14 #[.slice p 0 c] w fun r w' => r = .returned (.tuple #[.slice p 0 c, .int .i64 0, .bool false]) ∧ Below w.heap.size w w' := by
  have Hb := Lib.hid (Below.refl w.heap.size w)
  go_enter Try.func14, Try.ntmps14
  go_wp2
  refine bodyPost_ret (results_tmp3 rfl _ _ _) rfl ?_
  exact ⟨rfl, Hb.out⟩

set_option maxRecDepth 100000 in
theorem rpop17_any (Y : Nat → Prop) (x : Int) (p : Option Addr) (n c : Nat) (l : List Int) (w : World) (h : RowQ Y w p (n + 1) c (x :: l)) :
    Calls Try.prog 14 #[.slice p (n + 1) c] w fun r w' => ∃ q k, r = .returned (.tuple #[.slice q n k, .int .i64 x, .bool true]) ∧ RowQ Y w' q n k l ∧ Below w.heap.size w w' := by
  have hlen := h.items.len
  have hle := h.items.le
  have hmx := h.items.max
  obtain ⟨b, o, rfl, hc⟩ := h.items.cell (by omega)
  have c0 := hc 0 x rfl
  rw [Nat.add_zero] at c0
  have HR := Lib.hid h
  have hn0 : ¬ ((n : Int) + 1 = 0) := by omega
  have hne : (((n + 1 : Nat) : Int) == 0) = false := beq_eq_false_iff_ne.2 (by omega)
  clear h hc
  go_enter Try.func14, Try.ntmps14
  have Hd := Lib.hid (show c ≠ 1 → RowQ Y w (some ⟨b, o + 1, none⟩) n (c - 1) l from fun hc1 => ⟨by have h5 := qs_drop HR.out.items (K := 1) (by omega); simpa using h5, fun e => (by cases e), fun a e => ⟨b, o + 1, (Option.some.inj e).symm⟩, fun b' o' e => by cases e; exact HR.out.mem b o rfl⟩)
  have Hz := Lib.hid (show c = 1 → n = 0 ∧ l = [] from fun hc1 => ⟨by omega, List.length_eq_zero_iff.1 (by have h6 : l.length + 1 = n + 1 := hlen; omega)⟩)
  by_cases hc1 : c = 1
  · obtain ⟨rfl, rfl⟩ := Hz.out hc1
    subst hc1
    have Hm := Lib.hid (HR.out.mem b o rfl)
    go_wp2_with fail
    go_quiet (fail)
    go_wp2
    refine bodyPost_ret (results_tmp3 rfl _ _ _) rfl ?_
    exact ⟨_, _, rfl, ⟨qs_zero _ _ 0 (by decide), fun _ => rfl, fun a e => ⟨b, o, (Option.some.inj e).symm⟩, fun b' o' e => by cases e; exact Hm.out⟩, below_drewQ _ _⟩
  · have hc2 : 1 ≤ c := by omega
    have hc3 : ¬ (1 = c) := by omega
    go_wp2_with fail
    go_quiet (fail)
    go_wp2
    refine bodyPost_ret (results_tmp3 rfl _ _ _) rfl ?_
    exact ⟨_, _, rfl, (Hd.out hc1).below (below_drewQ _ _), below_drewQ _ _⟩

/-- What Remove leaves. -/
def remQ (l : List Int) (x : Int) : List Int := if x ∈ l then l.take (l.idxOf x) ++ l.drop (l.idxOf x + 1) else l

set_option maxRecDepth 100000 in
set_option maxHeartbeats 3200000 in
theorem rremove17_any (Y : Nat → Prop) (x : Int) (p : Option Addr) (n c : Nat) (l : List Int) (w : World) (h : RowQ Y w p n c l) (hn : n ≤ 90000) :
    Calls Try.prog 16 #[.slice p n c, .int .i64 x] w fun r w' => ∃ q k, r = .returned (.tuple #[.slice q (remQ l x).length k, .bool (decide (x ∈ l))]) ∧ RowQ (fun b => Y b ∨ w.heap.size ≤ b) w' q (remQ l x).length k (remQ l x) ∧ Below w.heap.size w w' := by
  have hlen := h.items.len
  have hle := h.items.le
  have hmx := h.items.max
  have HP := Lib.hid (rplace17_any x p n c l w h.items)
  have HR := Lib.hid (fun W (hW : Below w.heap.size w W) => h.below hW)
  have Hn := Lib.hid hn
  go_enter Try.func16, Try.ntmps16
  go_wp2_with fail
  refine HP.out.mono ?_
  rintro r w2 ⟨rfl, hb1⟩
  have Hb1 := Lib.hid hb1
  clear hb1
  by_cases hm : x ∈ l
  · obtain ⟨i, hi⟩ : ∃ i, i = l.idxOf x := ⟨_, rfl⟩
    have hin : i < n := by rw [hi, ← hlen]; exact List.idxOf_lt_length_of_mem hm
    have hpos : posQ l x = (i : Int) := by rw [hi]; exact if_pos hm
    have Hfin := Lib.hid (show remQ l x = [] ++ l.take i ++ l.drop (i + 1) from by rw [hi]; exact if_pos hm)
    have Hm := Lib.hid hm
    have hni : ¬ (i : Int) < 0 := by omega
    obtain ⟨z, hz⟩ : ∃ z, z = posQ l x := ⟨_, rfl⟩
    have hzi : z = (i : Int) := by rw [hz, hpos]
    rw [← hz]
    have hzn : ¬ z < 0 := by omega
    have Hzi := Lib.hid hzi
    obtain ⟨g, o, rfl, _⟩ := h.items.cell (by omega)
    clear h hm hi hpos hz hzi hni
    go_wp2_with fail
    obtain rfl := Hzi.out
    generalize w2 = wz at *
    have HT := Lib.hid (fun W (hW : Below wz.heap.size wz W) => qs_take (HR.out W (Hb1.out.trans (hW.mono Hb1.out.size))).items (K := i) (by omega))
    have HO3 := Lib.hid (show OwnQ (wz.alloc (.cells #[] 3)).drew wz.heap.size (.slice (some ⟨wz.heap.size, 0, none⟩) 0 0) [] from ownQ_none wz _ (Nat.le_refl _))
    have HB3 := Lib.hid (show Below wz.heap.size wz (wz.alloc (.cells #[] 3)).drew from ((Below.refl _ _).alloc (Nat.le_refl _) _).drew)
    have HLe := Lib.hid (show ([] : List Int).length + i ≤ 4000000 ∧ ([] ++ l.take i).length + (n - (i + 1)) ≤ 4000000 from by have h5 := Hn.out; rw [List.nil_append, List.length_take, List.length_nil]; constructor <;> omega)
    have Hend := Lib.hid (show ∀ v6 w6, OwnQ w6 wz.heap.size v6 ([] ++ l.take i ++ l.drop (i + 1)) → Below wz.heap.size wz w6 → ∃ q k, v6 = .slice q (remQ l x).length k ∧ RowQ (fun b => Y b ∨ w.heap.size ≤ b) w6 q (remQ l x).length k (remQ l x) ∧ Below w.heap.size w w6 from fun v6 w6 hown hb => by
      rw [← Hfin.out] at hown
      obtain ⟨q, k, rfl, hrow⟩ := rowQ_own hown rfl
      exact ⟨q, k, rfl, hrow.mono (fun b e => .inr (Nat.le_trans Hb1.out.size e)), Hb1.out.trans (hb.mono Hb1.out.size)⟩)
    by_cases hce : c = i + 1
    · have HDr := Lib.hid (fun W (_ : Below wz.heap.size wz W) => (show Qs W (some ⟨g, o, none⟩) 0 0 (l.drop (i + 1)) from by rw [List.drop_eq_nil_of_le (by omega)]; exact qs_zero W _ 0 (by decide)))
      have hni2 : n = i + 1 := by omega
      subst hce
      subst hni2
      have hic : (i : Int) ≤ (i : Int) + 1 := by omega
      have hz1 : (0 : Int) ≤ (i : Int) + 1 := by omega
      have HLe2 := Lib.hid (show ([] ++ l.take i).length + 0 ≤ 4000000 from by have h5 := HLe.out.2; omega)
      have hwr : IntKind.i64.wrap ((i : Int) + 1) = (i : Int) + 1 := wrap_succQ i (by have h5 := Hn.out; omega)
      go_region_law (first
        | (refine step_appq rfl (.tmp 13) (.tmp 16) rfl (base := wz.heap.size) (v := .slice (some ⟨wz.heap.size, 0, none⟩) 0 0) (l := []) (by first | rfl | (simp [Act.eval, Act.put]; done)) HO3.out (p := (some ⟨g, o, none⟩)) (m := i) (c := (i + 1)) (ms := l.take i) (by first | rfl | (simp [Act.eval, Act.put]; done)) (HT.out _ HB3.out) HB3.out.size HLe.out.1 ?_; intro v5 w5 hown5 hb5 hg5; have hw5 := HB3.out.trans hb5)
        | (refine step_appq rfl (.tmp 17) (.tmp 21) rfl (base := wz.heap.size) (v := v5) (l := [] ++ l.take i) (by first | rfl | (simp [Act.eval, Act.put]; done)) hown5 (p := (some ⟨g, o, none⟩)) (m := 0) (c := 0) (ms := l.drop (i + 1)) (by first | rfl | (simp [Act.eval, Act.put]; done)) (HDr.out _ hw5) hw5.size HLe2.out ?_; intro v6 w6 hown6 hb6 hg6; obtain ⟨q6, k6, rfl, hrow6, hbel6⟩ := Hend.out _ _ hown6 (hw5.trans hb6); have HE6 := Lib.hid (And.intro hrow6 hbel6); clear hrow6 hbel6))
      all_goals
        go_wp2
        refine bodyPost_ret (results_tmp2 rfl _ _ _) rfl ?_
        exact ⟨_, _, by rw [decide_eq_true Hm.out]; rfl, HE6.out.1, HE6.out.2⟩
    · have hic : i ≤ c := by omega
      have hz1 : (0 : Int) ≤ (i : Int) + 1 := by omega
      have hz2 : (i : Int) + 1 ≤ (n : Int) := by omega
      have hwr : IntKind.i64.wrap ((i : Int) + 1) = ((i + 1 : Nat) : Int) := wrap_succQ i (by have h5 := Hn.out; omega)
      have HDr := Lib.hid (fun W (hW : Below wz.heap.size wz W) => (qs_drop (HR.out W (Hb1.out.trans (hW.mono Hb1.out.size))).items (show i + 1 ≤ n by omega) : Qs W (some ⟨g, o + (i + 1), none⟩) (n - (i + 1)) (c - (i + 1)) (l.drop (i + 1))))
      go_region_law (first
        | (refine step_appq rfl (.tmp 13) (.tmp 16) rfl (base := wz.heap.size) (v := .slice (some ⟨wz.heap.size, 0, none⟩) 0 0) (l := []) (by first | rfl | (simp [Act.eval, Act.put]; done)) HO3.out (p := (some ⟨g, o, none⟩)) (m := i) (c := c) (ms := l.take i) (by first | rfl | (simp [Act.eval, Act.put]; done)) (HT.out _ HB3.out) HB3.out.size HLe.out.1 ?_; intro v5 w5 hown5 hb5 hg5; have hw5 := HB3.out.trans hb5)
        | (refine step_appq rfl (.tmp 17) (.tmp 21) rfl (base := wz.heap.size) (v := v5) (l := [] ++ l.take i) (by first | rfl | (simp [Act.eval, Act.put]; done)) hown5 (p := (some ⟨g, o + (i + 1), none⟩)) (m := (n - (i + 1))) (c := (c - (i + 1))) (ms := l.drop (i + 1)) (by first | rfl | (simp [Act.eval, Act.put]; done)) (HDr.out _ hw5) hw5.size HLe.out.2 ?_; intro v6 w6 hown6 hb6 hg6; obtain ⟨q6, k6, rfl, hrow6, hbel6⟩ := Hend.out _ _ hown6 (hw5.trans hb6); have HE6 := Lib.hid (And.intro hrow6 hbel6); clear hrow6 hbel6))
      all_goals
        go_wp2
        refine bodyPost_ret (results_tmp2 rfl _ _ _) rfl ?_
        exact ⟨_, _, by rw [decide_eq_true Hm.out]; rfl, HE6.out.1, HE6.out.2⟩
  · have hpos : posQ l x = -1 := if_neg hm
    rw [hpos]
    have Hm := Lib.hid hm
    have Hr := Lib.hid (show remQ l x = l from if_neg hm)
    clear h hm hpos
    go_wp2
    refine bodyPost_ret (results_tmp2 rfl _ _ _) rfl ?_
    refine ⟨p, c, ?_, ?_, Hb1.out⟩
    · rw [Hr.out, hlen, decide_eq_false Hm.out]; rfl
    · rw [Hr.out, hlen]
      exact (HR.out _ Hb1.out).mono (fun b hb => .inl hb)
end Go.Proofs.Ytmmiommfbkcebaa
