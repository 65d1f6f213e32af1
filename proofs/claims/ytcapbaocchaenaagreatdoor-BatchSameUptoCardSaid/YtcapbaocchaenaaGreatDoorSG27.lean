import Derived.Test.YtcapbaocchaenaaGreatDoorSG8
import Derived.Test.YtcapbaocchaenaaGreatDoorSG12
/- The walk of the reference's weight and Few. -/
namespace Go.Proofs.YtcapbaocchaenaaGreatDoor
open Go.RowKit Fl

theorem bulkL_append : ∀ a b : List V, bulkL (a ++ b) = bulkL a + bulkL b
  | [], b => by simp [bulkL]
  | v :: r, b => by rw [List.cons_append, bulkL, bulkL, bulkL_append r b]; omega

theorem bulkL_take {l : List V} {j : Nat} (h : j < l.length) : bulkL (l.take (j + 1)) = bulkL (l.take j) + bulkV l[j] := by
  rw [List.take_succ_eq_append_getElem h, bulkL_append]
  simp [bulkL]

theorem bulkL_le (l : List V) (j : Nat) : bulkL (l.take j) ≤ bulkL l := by
  conv => rhs; rw [← List.take_append_drop j l, bulkL_append]
  omega

/-- What weight answers where the most is m and the bulk is b. -/
def Weighs (m : Int) (b : Nat) (r : Int) : Prop := 1 ≤ r ∧ r ≤ m + 1001 ∧ (r ≤ m → r = (b : Int)) ∧ ((b : Int) ≤ m → r = (b : Int))

set_option maxRecDepth 100000 in
set_option maxHeartbeats 3200000 in
theorem weight_any : ∀ (v : V) (m : Int) (x : Array Value) (w : World), 0 ≤ m → m ≤ 1000 → VIn w v x →
    Calls Tryz.prog 123 #[.agg x, .int .i64 m] w fun e w' => ∃ r : Int, e = .returned (.int .i64 r) ∧ Weighs m (bulkV v) r ∧ Below w.heap.size w w' := by
  refine V.ind ?_
  intro v ih m x w hm0 hm1 h
  obtain ⟨k, n, f, s, l⟩ := v
  obtain ⟨_, _, _, _, hss, a, cap, rfl, hcap, hmax, _⟩ := h.parts
  change VIn w (V.mk k n f s l) (cells5 k n f s a l.length cap) at h
  change l.length ≤ cap at hcap
  change s.length ≤ 9223372036854775807 at hss
  change ∀ u ∈ l, _ at ih
  have IH := Lib.hid ih
  have hb := (Below.refl w.heap.size w).alloc (Nat.le_refl _) (.cells (cells5 k n f s a l.length cap) 43)
  have Hb := Lib.hid hb
  have HV := Lib.hid (h.below hb)
  have hc4 : (w.alloc (.cells #[.int .i64 k, .int .i64 n, .float .f64 f, .string (str s), .slice a l.length cap] 43)).cell? ⟨w.heap.size, 4, none⟩ = some (.slice a l.length cap) := box_cell w (cells5 k n f s a l.length cap) 43 4
  have hsz : (str s).size = s.length := str_size s
  have hbv : bulkV (V.mk k n f s l) = 1 + min s.length 1000 + bulkL l := by rw [bulkV]
  have Hbv := Lib.hid hbv
  have hss2 : s.length ≤ 9223372036854775807 := hss
  change Calls _ _ #[.agg #[.int .i64 k, .int .i64 n, .float .f64 f, .string (str s), .slice a l.length cap], _] _ _
  by_cases hlong : 1000 < s.length
  · have hl1 : (1000 : Int) < ((str s).size : Int) := by omega
    have hl0 : 1000 < (str s).size := by omega
    have hl3 : ¬ ((str s).size < 1000) := by omega
    have hl4 : ¬ ((str s).size ≤ 1000) := by omega
    have hl5 : ¬ (((str s).size : Int) < 1000) := by omega
    have Hst := Lib.hid (show Weighs m (1 + min s.length 1000 + bulkL (l.take 0)) 1001 from by
      unfold Weighs
      simp only [List.take_zero, bulkL]
      omega)
    clear h hb ih hss hss2 hbv hsz hlong
    go_enter Tryz.func123, Tryz.ntmps123
    go_wp2
    have hwz : (w.alloc (.cells #[.int .i64 k, .int .i64 n, .float .f64 f, .string (str s), .slice a l.length cap] 43)).heap.size = w.heap.size + 1 := by simp
    generalize w.alloc (.cells #[.int .i64 k, .int .i64 n, .float .f64 f, .string (str s), .slice a l.length cap] 43) = w1 at *
    go_loopw [5, 6] (fun y i wr => ∃ (j : Nat) (r : Int), j ≤ l.length ∧ i = .int .i64 (j : Int) ∧ y = .int .i64 r ∧ Weighs m (1 + min s.length 1000 + bulkL (l.take j)) r ∧ Below w1.heap.size w1 wr) (fun _ i _ => l.length - (intOf i).toNat)
    case atStart => exact ⟨0, _, Nat.zero_le _, rfl, rfl, by first | exact Hst.out | (rw [show (1 + min ((str s).size : Int) 1000 : Int) = 1001 by omega]; exact Hst.out), Below.refl _ _⟩
    case round =>
      obtain ⟨j, r, hj, rfl, rfl, hr, hbr⟩ := hrel
      have hcr : wr.cell? ⟨w.heap.size, 4, none⟩ = some (.slice a l.length cap) := by
        rw [hbr.cell (show w.heap.size < w1.heap.size by omega)]
        exact hc4
      have Hbr := Lib.hid hbr
      have Hr := Lib.hid hr
      by_cases hlt : j < l.length
      · by_cases hrm : r ≤ m
        · obtain ⟨b, o, rfl, hvs⟩ := (HV.out.below hbr).list (by show l ≠ []; intro e; rw [e] at hlt; simp at hlt)
          change VsIn wr l b o at hvs
          obtain ⟨a', cap', hvy, c0, c1, c2, c3, c4⟩ := hvs.elem hlt
          have Htk := Lib.hid (bulkL_take hlt)
          have HI := Lib.hid (IH.out _ (get_mem hlt).2 (m - r) _ wr (by omega) (by have := hr.1; omega) hvy)
          generalize l[j] = u at *
          have Hlt := Lib.hid hlt
          have hji : (j : Int) < (l.length : Int) := by omega
          have hr1 := hr.1
          clear hbr hvs hvy hr hlt
          go_wp2_with fail
          refine HI.out.mono ?_
          rintro e w2 ⟨r', rfl, hr', hb2⟩
          have hnext : Weighs m (1 + min s.length 1000 + bulkL (l.take (j + 1))) (r + r') := by
            have g := Hr.out
            rw [Htk.out]
            unfold Weighs at *
            obtain ⟨g1, g2, g3, g4⟩ := g
            obtain ⟨g5, g6, g7, g8⟩ := hr'
            refine ⟨by omega, by omega, fun h => ?_, fun h => ?_⟩
            · have := g3 hrm
              have := g7 (by omega)
              omega
            · have := g4 (by omega)
              have := g8 (by omega)
              omega
          have Hnext := Lib.hid hnext
          have hr1' := hr'.1
          have hr2' := hr'.2.1
          have hbw : Below w1.heap.size w1 w2 := Hbr.out.trans (hb2.mono Hbr.out.size)
          clear hb2 c0 c1 c2 c3 c4 hcr hc4 hnext hr'
          go_wp2
          go_roundw
          case rel => exact ⟨j + 1, r + r', Hlt.out, by go_num, rfl, Hnext.out, hbw⟩
          case measure => simp [intOf]; have := Hlt.out; omega
        · have hbw : Below w.heap.size w wr := Hb.out.trans (hbr.mono (by omega))
          have Hend := Lib.hid (show Weighs m (bulkV (V.mk k n f s l)) r from by
            have hle := bulkL_le l j
            rw [Hbv.out]
            unfold Weighs at *
            obtain ⟨g1, g2, g3, g4⟩ := hr
            refine ⟨g1, g2, fun h => absurd h hrm, fun h => ?_⟩
            have := g4 (by omega)
            omega)
          have hji : (j : Int) < (l.length : Int) := by omega
          have hri : m < r := by omega
          clear hbr hr hlt hrm
          go_wp2
          go_ret
          exact ⟨r, rfl, Hend.out, hbw⟩
      · have hbw : Below w.heap.size w wr := Hb.out.trans (hbr.mono (by omega))
        have Hend := Lib.hid (show Weighs m (bulkV (V.mk k n f s l)) r from by
          rw [List.take_of_length_le (by omega)] at hr
          rw [Hbv.out]
          exact hr)
        have hji : ¬ ((j : Int) < (l.length : Int)) := by omega
        clear hbr hr hlt
        go_wp2
        go_ret
        exact ⟨r, rfl, Hend.out, hbw⟩
  · have hl1 : ¬ ((1000 : Int) < ((str s).size : Int)) := by omega
    have hl0 : ¬ (1000 < (str s).size) := by omega
    have hl3 : (str s).size ≤ 1000 := by omega
    have hl2 : ((str s).size : Int) ≤ 1000 := by omega
    have Hst := Lib.hid (show Weighs m (1 + min s.length 1000 + bulkL (l.take 0)) (1 + ((str s).size : Int)) from by
      unfold Weighs
      simp only [List.take_zero, bulkL]
      omega)
    clear h hb ih hss hss2 hbv hsz hlong
    go_enter Tryz.func123, Tryz.ntmps123
    go_wp2
    have hwz : (w.alloc (.cells #[.int .i64 k, .int .i64 n, .float .f64 f, .string (str s), .slice a l.length cap] 43)).heap.size = w.heap.size + 1 := by simp
    generalize w.alloc (.cells #[.int .i64 k, .int .i64 n, .float .f64 f, .string (str s), .slice a l.length cap] 43) = w1 at *
    go_loopw [5, 6] (fun y i wr => ∃ (j : Nat) (r : Int), j ≤ l.length ∧ i = .int .i64 (j : Int) ∧ y = .int .i64 r ∧ Weighs m (1 + min s.length 1000 + bulkL (l.take j)) r ∧ Below w1.heap.size w1 wr) (fun _ i _ => l.length - (intOf i).toNat)
    case atStart => exact ⟨0, _, Nat.zero_le _, rfl, rfl, by first | exact Hst.out | (rw [show (1 + min ((str s).size : Int) 1000 : Int) = 1 + ((str s).size : Int) by omega]; exact Hst.out), Below.refl _ _⟩
    case round =>
      obtain ⟨j, r, hj, rfl, rfl, hr, hbr⟩ := hrel
      have hcr : wr.cell? ⟨w.heap.size, 4, none⟩ = some (.slice a l.length cap) := by
        rw [hbr.cell (show w.heap.size < w1.heap.size by omega)]
        exact hc4
      have Hbr := Lib.hid hbr
      have Hr := Lib.hid hr
      by_cases hlt : j < l.length
      · by_cases hrm : r ≤ m
        · obtain ⟨b, o, rfl, hvs⟩ := (HV.out.below hbr).list (by show l ≠ []; intro e; rw [e] at hlt; simp at hlt)
          change VsIn wr l b o at hvs
          obtain ⟨a', cap', hvy, c0, c1, c2, c3, c4⟩ := hvs.elem hlt
          have Htk := Lib.hid (bulkL_take hlt)
          have HI := Lib.hid (IH.out _ (get_mem hlt).2 (m - r) _ wr (by omega) (by have := hr.1; omega) hvy)
          generalize l[j] = u at *
          have Hlt := Lib.hid hlt
          have hji : (j : Int) < (l.length : Int) := by omega
          have hr1 := hr.1
          clear hbr hvs hvy hr hlt
          go_wp2_with fail
          refine HI.out.mono ?_
          rintro e w2 ⟨r', rfl, hr', hb2⟩
          have hnext : Weighs m (1 + min s.length 1000 + bulkL (l.take (j + 1))) (r + r') := by
            have g := Hr.out
            rw [Htk.out]
            unfold Weighs at *
            obtain ⟨g1, g2, g3, g4⟩ := g
            obtain ⟨g5, g6, g7, g8⟩ := hr'
            refine ⟨by omega, by omega, fun h => ?_, fun h => ?_⟩
            · have := g3 hrm
              have := g7 (by omega)
              omega
            · have := g4 (by omega)
              have := g8 (by omega)
              omega
          have Hnext := Lib.hid hnext
          have hr1' := hr'.1
          have hr2' := hr'.2.1
          have hbw : Below w1.heap.size w1 w2 := Hbr.out.trans (hb2.mono Hbr.out.size)
          clear hb2 c0 c1 c2 c3 c4 hcr hc4 hnext hr'
          go_wp2
          go_roundw
          case rel => exact ⟨j + 1, r + r', Hlt.out, by go_num, rfl, Hnext.out, hbw⟩
          case measure => simp [intOf]; have := Hlt.out; omega
        · have hbw : Below w.heap.size w wr := Hb.out.trans (hbr.mono (by omega))
          have Hend := Lib.hid (show Weighs m (bulkV (V.mk k n f s l)) r from by
            have hle := bulkL_le l j
            rw [Hbv.out]
            unfold Weighs at *
            obtain ⟨g1, g2, g3, g4⟩ := hr
            refine ⟨g1, g2, fun h => absurd h hrm, fun h => ?_⟩
            have := g4 (by omega)
            omega)
          have hji : (j : Int) < (l.length : Int) := by omega
          have hri : m < r := by omega
          clear hbr hr hlt hrm
          go_wp2
          go_ret
          exact ⟨r, rfl, Hend.out, hbw⟩
      · have hbw : Below w.heap.size w wr := Hb.out.trans (hbr.mono (by omega))
        have Hend := Lib.hid (show Weighs m (bulkV (V.mk k n f s l)) r from by
          rw [List.take_of_length_le (by omega)] at hr
          rw [Hbv.out]
          exact hr)
        have hji : ¬ ((j : Int) < (l.length : Int)) := by omega
        clear hbr hr hlt
        go_wp2
        go_ret
        exact ⟨r, rfl, Hend.out, hbw⟩
end Go.Proofs.YtcapbaocchaenaaGreatDoor

