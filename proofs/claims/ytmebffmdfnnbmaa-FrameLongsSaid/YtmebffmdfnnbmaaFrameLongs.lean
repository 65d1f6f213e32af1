/- The walk of the statement FrameLongs: it returns true whatever the number and the record are. -/
import Derived.Test.YtmebffmdfnnbmaaFrAlive
import Derived.Test.YtmebffmdfnnbmaaFrJoin
import Derived.Test.YtmebffmdfnnbmaaApp
import Derived.RangeFuncBox
namespace Go.Proofs.Ytmebffmdfnnbmaa
open Go.RowKit Crc

/-- Make of N bytes that are 0. -/
theorem make_zeros (r : Nat) (hr : r ≤ 3) (p : Option Addr) (w : World) (h : Bytes w p (1048574 + r) (1048574 + r) (List.replicate (1048574 + r) 0)) :
    Calls Try.prog 21 #[.slice p (1048574 + r) (1048574 + r)] w fun e w' => ∃ q m c, e = .returned (.tuple #[.slice q m c, .bool (decide (r < 3))]) ∧ (¬ r < 3 → m = 0) ∧ Below w.heap.size w w' := by
  by_cases h3 : r < 3
  · refine (make_yes _ _ _ _ w h (by omega)).mono ?_
    rintro e w' ⟨v, rfl, hown, hb⟩
    obtain ⟨q, c, rfl, _⟩ := own_slice hown (frameL_byte (fun x hx => by rw [(List.mem_replicate.1 hx).2]; decide) (by rw [List.length_replicate]; omega))
    exact ⟨q, _, c, by rw [decide_eq_true h3], fun h => absurd h3 h, hb⟩
  · refine (make_no _ _ _ w (by omega)).mono ?_
    rintro e w' ⟨rfl, rfl⟩
    exact ⟨none, 0, 0, by rw [decide_eq_false h3], fun _ => rfl, Below.refl _ _⟩

theorem zeros_bytes (w : World) (N : Nat) (hN : N ≤ 1000000000) : Bytes (w.alloc (.cells (madeCells #[.int .u8 0] N) 5)) (some ⟨w.heap.size, 0, none⟩) N N (List.replicate N 0) := by
  refine ⟨List.length_replicate, Nat.le_refl _, by omega, fun x hx => by rw [(List.mem_replicate.1 hx).2]; decide, (fun h => by cases h), fun _ => ⟨w.heap.size, 0, rfl, fun i hi => ?_⟩⟩
  rw [Nat.zero_add, (World.rowIs_made w (.int .u8 0) N 5).cell hi]
  simp [List.getD, hi]

theorem grownBy_set (W : World) (b i : Nat) (v : Value) : W.grownBy (W.setCell ⟨b, i, none⟩ v) (some b) :=
  ⟨rfl, rfl, rfl, (KeepsWalks.setCell W _ v).size, fun k _ hk => Below.heap_setCell _ _ _ k (fun e => hk (by rw [e]))⟩

/-- The bytes of the call's own are counted up; another row lies as it lay. -/
def UpRel (w2 : World) (g n : Nat) (base : Nat) (v : Value) (fl : List Nat) (i : Value) (wr : World) : Prop :=
  ∃ k : Nat, k ≤ n ∧ i = .int .i64 k ∧ (0 < n → U8Row wr g n) ∧ Below w2.heap.size w2 wr ∧ wr.ownsRow base 5 1 v fl.length (u8s fl) ∧ base ≤ wr.heap.size

def UpRel2 (w2 : World) (g n : Nat) (i : Value) (wr : World) : Prop :=
  ∃ k : Nat, k ≤ n ∧ i = .int .i64 k ∧ (0 < n → U8Row wr g (n + 4)) ∧ Below w2.heap.size w2 wr

set_option maxRecDepth 100000 in
set_option maxHeartbeats 1600000 in
theorem frameLongs_any (x : Nat) (a : Option Addr) (n cap : Nat) (l : List Nat) (w : World) (hx : x < 256) (hl : Bytes w a n cap l) :
    Calls Try.prog 7 #[.int .u8 (x : Int), .slice a n cap] w fun e w' => e = .returned (.bool true) ∧ Below w.heap.size w w' := by
  have HB := Lib.hid hl
  have hnb := hl.max
  clear hl
  by_cases hn : n ≤ 500
  · have hn1 : (n : Int) ≤ 500 := by omega
    obtain ⟨r, hr⟩ : ∃ r, r = x % 4 := ⟨_, rfl⟩
    have hr3 : r ≤ 3 := by omega
    have hmod : ((x : Int)).tmod 4 = (r : Int) := by rw [hr]; rfl
    have hmk := run_make_row' (P := Try.prog) 25 5 (.int .u8 0) 1 Try.underlying25 info_u8 rfl .i64 .i64 (1048574 + r) (by omega) (by omega)
    rw [show ((1048574 + r : Nat) : Int) = 1048574 + (r : Int) by simp] at hmk
    have HZ := Lib.hid (make_zeros r hr3 _ _ (zeros_bytes w (1048574 + r) (by omega)))
    have ha1 : Below w.heap.size w (w.alloc (.cells (madeCells #[.int .u8 0] (1048574 + r)) 5)) := (Below.refl _ _).alloc (Nat.le_refl _) _
    have Ha1 := Lib.hid ha1
    clear hr ha1
    go_enter Try.func7, Try.ntmps7
    go_wp2_with fail
    refine HZ.out.mono ?_
    rintro e w2 ⟨q1, m1, c1, rfl, hm1, hb2⟩
    have Hw2 := Lib.hid (Ha1.out.trans (hb2.mono Ha1.out.size))
    have Hm1 := Lib.hid hm1
    have HC := Lib.hid (clone_any a n cap l w2 (HB.out.grow Hw2.out) (by omega))
    clear hm1 hb2 HZ hmk
    go_wp2_with fail
    refine HC.out.mono ?_
    rintro e w3 ⟨v, rfl, hown, hb3⟩
    rw [HB.out.len] at hown
    have Hw23 := Lib.hid hb3
    have h3 : ∃ go p cp, v = .slice p n cp ∧ Bytes w3 p n cp l ∧ (0 < n → p = some ⟨go, 0, none⟩ ∧ U8Row w3 go n) ∧ (0 < n → w2.heap.size ≤ go ∧ go < w3.heap.size) := by
      rcases Nat.eq_zero_or_pos n with h0 | h0
      · obtain ⟨p, cp, rfl, hC⟩ := own_slice hown HB.out.byte
        exact ⟨0, p, cp, rfl, hC, fun h => by omega, fun h => by omega⟩
      · obtain ⟨g, cp, rfl, hbg, _, hrow⟩ := own_row hown h0
        obtain ⟨cur, hg, _⟩ := id hrow
        exact ⟨g, _, cp, rfl, bytes_of_own hown HB.out.byte, fun _ => ⟨rfl, hrow⟩, fun _ => ⟨hbg, (Array.getElem?_eq_some_iff.1 hg).1⟩⟩
    obtain ⟨go, p3, c3, rfl, hC3, hrow3, hgo⟩ := h3
    have Hrow3 := Lib.hid hrow3
    have Hgo := Lib.hid hgo
    have HM := Lib.hid (make_yes p3 n c3 l w3 hC3 (by omega))
    clear hown hb3 hC3 hrow3 hgo HC
    go_wp2_with fail
    refine HM.out.mono ?_
    rintro e w4 ⟨v, rfl, hown, hb4⟩
    have hfl : (frameL l).length = n + 8 := by rw [frameL_len, HB.out.len]
    have Hfl := Lib.hid hfl
    have hfb := frameL_byte HB.out.byte (by rw [HB.out.len]; omega)
    have Hfb := Lib.hid hfb
    obtain ⟨p4, c4, rfl, hC4⟩ := own_slice hown hfb
    have Hown4 := Lib.hid hown
    rw [hfl]
    have Hs4 := Lib.hid (show UpRel w2 go n w3.heap.size (.slice p4 (frameL l).length c4) (frameL l) (.int .i64 0) w4 from
      ⟨0, Nat.zero_le _, rfl, fun h => (Hrow3.out h).2.below hb4, Hw23.out.trans (hb4.mono Hw23.out.size), hown, hb4.size⟩)
    rw [hfl] at Hs4
    clear hfl hfb hown hb4 hC4 HM
    go_wp2_with fail
    go_loopw [39] (fun i wr => UpRel w2 go n w3.heap.size (.slice p4 (n + 8) c4) (frameL l) i wr) (fun i _ => n - (intOf i).toNat)
    case atStart => exact Hs4.out
    case round =>
      obtain ⟨j, hj, rfl, hr0, hbr, hown, hsz⟩ := hrel
      by_cases hlt : j < n
      · obtain ⟨rfl, _⟩ := Hrow3.out (by omega)
        have Hr := Lib.hid (hr0 (by omega))
        obtain ⟨z, hz⟩ := Hr.out.cell hlt
        have hf := Hr.out.frozen j
        have Hown := Lib.hid hown
        have hji : (j : Int) < (n : Int) := by omega
        clear hr0 hown
        go_wp2
        go_roundw
        case rel =>
          have hg := Hgo.out (by omega)
          refine ⟨j + 1, by omega, by go_num, fun _ => Hr.out.set j _, hbr.setCell hg.1 _, own_keep Hown.out (grownBy_set _ _ _ _) hg.2, ?_⟩
          exact Nat.le_trans hsz (grownBy_set _ _ _ _).size
        case measure => simp [intOf]; omega
      · obtain rfl : j = n := by omega
        have hwr := Hw2.out.trans (hbr.mono Hw2.out.size)
        have Hwr := Lib.hid hwr
        have Hown := Lib.hid hown
        have hC4 : Bytes wr p4 (j + 8) c4 (frameL l) := by
          have h := bytes_of_own hown Hfb.out
          exact h
        have HC4 := Lib.hid hC4
        have HN := Lib.hid (next_any p4 (j + 8) c4 (frameL l) wr hC4 (by omega))
        clear hr0 hown hwr hC4 hbr hsz
        go_wp2_with fail
        refine HN.out.mono ?_
        rintro e w5 ⟨hb5, ⟨r5, t, p5, c5, hd, hrm, rfl, hB5, hfr, hrow5⟩ | ⟨hno, rfl⟩⟩
        · have e5 : l = r5 := (frame_uniq (r := l) (t := []) (r' := r5) (t' := t) (by rw [List.append_nil]; exact hd)).1
          subst e5
          rw [HB.out.len] at hB5 hrow5 ⊢
          have h6 : ∃ g, 0 < j → p5 = some ⟨g, 4, none⟩ ∧ wr.heap.size ≤ g ∧ U8Row w5 g (j + 4) := by
            by_cases h0 : 0 < j
            · obtain ⟨g, h1, h2, h3⟩ := hrow5 h0
              exact ⟨g, fun _ => ⟨h1, h2, h3⟩⟩
            · exact ⟨0, fun h => absurd h h0⟩
          obtain ⟨g5, hg5⟩ := h6
          have Hg5 := Lib.hid hg5
          have HE := Lib.hid (equal_yes p5 a j c5 j cap l w5 hB5 (HB.out.grow (Hwr.out.trans (hb5.mono Hwr.out.size))))
          have Hb5 := Lib.hid hb5
          clear hd hrm hB5 hfr hrow5 hg5 hb5 HN
          go_wp2_with fail
          refine HE.out.mono ?_
          rintro e w6 ⟨rfl, hb6⟩
          have Hs6 := Lib.hid (show UpRel2 wr g5 j (.int .i64 0) w6 from ⟨0, Nat.zero_le _, rfl, fun h => (Hg5.out h).2.2.below hb6, Hb5.out.trans (hb6.mono Hb5.out.size)⟩)
          clear hb6 HE
          go_wp2_with fail
          go_loopw [59] (fun i w' => UpRel2 wr g5 j i w') (fun i _ => j - (intOf i).toNat)
          case atStart => exact Hs6.out
          case round =>
            obtain ⟨k, hk, rfl, hr0, hbr⟩ := hrel
            by_cases hlt2 : k < j
            · obtain ⟨rfl, hgw, _⟩ := Hg5.out (by omega)
              have Hr := Lib.hid (hr0 (by omega))
              obtain ⟨z, hz⟩ := Hr.out.cell (i := 4 + k) (by omega)
              have hf := Hr.out.frozen (4 + k)
              have hji : (k : Int) < (j : Int) := by omega
              clear hr0
              go_wp2
              go_roundw
              case rel => exact ⟨k + 1, by omega, by go_num, fun _ => Hr.out.set (4 + k) _, hbr.setCell hgw _⟩
              case measure => simp [intOf]; omega
            · obtain rfl : k = j := by omega
              have hw7 := Hwr.out.trans (hbr.mono Hwr.out.size)
              have Hw7 := Lib.hid hw7
              have HN2 := Lib.hid (next_any p4 (k + 8) c4 (frameL l) _ (HC4.out.grow hbr) (by omega))
              clear hr0 hbr hw7
              go_wp2_with fail
              refine HN2.out.mono ?_
              rintro e w8 ⟨hb8, ⟨r8, t, p8, c8, hd, hrm, rfl, hB8, _⟩ | ⟨hno, rfl⟩⟩
              · have e8 : l = r8 := (frame_uniq (r := l) (t := []) (r' := r8) (t' := t) (by rw [List.append_nil]; exact hd)).1
                subst e8
                rw [HB.out.len] at hB8 ⊢
                have HB8 := Lib.hid hB8
                have Hw8 := Lib.hid (Hw7.out.trans (hb8.mono Hw7.out.size))
                clear hd hrm hB8 hb8 HN2
                by_cases h3 : r < 3
                · have h31 : (r : Int) < 3 := by omega
                  have hd3 : decide (r < 3) = true := decide_eq_true h3
                  rw [hd3]
                  clear hd3
                  go_wp2_with fail
                  refine (falive_any _).mono ?_
                  rintro e w9 ⟨rfl, hb9⟩
                  have Hw9 := Lib.hid (Hw8.out.trans (hb9.mono Hw8.out.size))
                  have HE2 := Lib.hid (equal_yes p8 a k c8 k cap l w9 (HB8.out.grow hb9) (HB.out.grow Hw9.out))
                  clear hb9
                  go_wp2_with fail
                  refine HE2.out.mono ?_
                  rintro e w10 ⟨rfl, hb10⟩
                  go_wp2
                  go_ret
                  exact ⟨rfl, Hw9.out.trans (hb10.mono Hw9.out.size)⟩
                · have h31 : ¬ (r : Int) < 3 := by omega
                  have hd3 : decide (r < 3) = false := decide_eq_false h3
                  rw [hd3]
                  obtain rfl : m1 = 0 := Hm1.out h3
                  clear hd3
                  go_wp2_with fail
                  refine (falive_any _).mono ?_
                  rintro e w9 ⟨rfl, hb9⟩
                  have Hw9 := Lib.hid (Hw8.out.trans (hb9.mono Hw8.out.size))
                  have HE2 := Lib.hid (equal_yes p8 a k c8 k cap l w9 (HB8.out.grow hb9) (HB.out.grow Hw9.out))
                  clear hb9
                  go_wp2_with fail
                  refine HE2.out.mono ?_
                  rintro e w10 ⟨rfl, hb10⟩
                  go_wp2
                  go_ret
                  exact ⟨by show Ending.returned (Value.bool (!decide ((r : Int) < 3))) = _; rw [decide_eq_false (show ¬ ((r : Int) < 3) by omega)]; rfl, Hw9.out.trans (hb10.mono Hw9.out.size)⟩
              · exact absurd (List.append_nil _).symm (hno l [] (by rw [HB.out.len]; omega))
        · exact absurd (List.append_nil _).symm (hno l [] (by rw [HB.out.len]; omega))
  · have hn1 : (500 : Int) < n := by omega
    go_enter Try.func7, Try.ntmps7
    go_wp2_with fail
    refine (falive_any _).mono ?_
    rintro e w1 ⟨rfl, hb1⟩
    go_wp2
    go_ret
    exact ⟨rfl, hb1⟩
end Go.Proofs.Ytmebffmdfnnbmaa
