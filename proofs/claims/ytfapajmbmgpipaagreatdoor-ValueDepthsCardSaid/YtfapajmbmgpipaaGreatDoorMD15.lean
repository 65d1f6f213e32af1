import Derived.Test.YtfapajmbmgpipaaGreatDoorMD8
import Derived.Test.YtfapajmbmgpipaaGreatDoorMD9
/- The walk of the reference's text. -/
namespace Go.Proofs.YtfapajmbmgpipaaGreatDoor
open Go.RowKit Fl

set_option maxRecDepth 100000 in
set_option maxHeartbeats 6400000 in
theorem vtext_any : ∀ (v : V) (x : Array Value) (w : World), (textV v).length ≤ 1000000 → VIn w v x →
    Calls Tryz.prog 33 #[.agg x] w fun e w' => e = .returned (.string (str (textV v))) ∧ Below w.heap.size w w' := by
  refine V.ind ?_
  intro v ih x w hlen h
  obtain ⟨k, n, f, s, l⟩ := v
  obtain ⟨hk, hn, hf, hs, _, a, cap, rfl, hcap, hmax, _⟩ := h.parts
  change VIn w (V.mk k n f s l) (cells5 k n f s a l.length cap) at h
  change l.length ≤ cap at hcap
  change f < 18446744073709551616 at hf
  change ∀ c ∈ s, c < 256 at hs
  change -9223372036854775808 ≤ n ∧ n ≤ 9223372036854775807 at hn
  change ∀ u ∈ l, _ at ih
  have hb := (Below.refl w.heap.size w).alloc (Nat.le_refl _) (.cells (cells5 k n f s a l.length cap) 25)
  have Hb := Lib.hid hb
  have hdef : textV (V.mk k n f s l) = (if k = 1 then decL n else if k = 2 then 35 :: textL (bitsB f) else if k = 3 then 34 :: (hex2 s ++ [34]) else if k = 4 then 91 :: (joinS (textVs l) ++ [93]) else [110, 105, 108]) := by rw [textV]
  rw [hdef] at hlen
  change Calls _ _ #[.agg #[.int .i64 k, .int .i64 n, .float .f64 f, .string (str s), .slice a l.length cap]] _ _
  by_cases q1 : k = 1
  · have Hd := Lib.hid (show textV (V.mk k n f s l) = decL n from by rw [hdef, if_pos q1])
    have HD := Lib.hid (fun w => rdecimal_any n w hn.1 hn.2)
    have d1 : (k == 1) = true := beq_iff_eq.2 q1
    clear hdef hlen hb h ih hk hn hf hs q1
    generalize decL n = t at *
    go_enter Tryz.func33, Tryz.ntmps33
    go_wp2_with fail
    refine (HD.out _).mono ?_
    rintro e w' ⟨rfl, rfl⟩
    go_wp2
    go_ret
    exact ⟨by rw [Hd.out]; rfl, Hb.out⟩
  have d1 : (k == 1) = false := beq_eq_false_iff_ne.2 q1
  by_cases q2 : k = 2
  · have Hd := Lib.hid (show textV (V.mk k n f s l) = 35 :: textL (bitsB f) from by rw [hdef, if_neg q1, if_pos q2])
    have HD := Lib.hid (fun w => rtext_any f w hf)
    have d2 : (k == 2) = true := beq_iff_eq.2 q2
    have hsz : (str (textL (bitsB f))).size ≤ 1000000 := by
      rw [if_neg q1, if_pos q2, List.length_cons] at hlen
      rw [str_size]; omega
    have hcat := str_append [35] (textL (bitsB f))
    have HS := Lib.hid (show str (textV (V.mk k n f s l)) = str [35] ++ str (textL (bitsB f)) from by rw [hcat, Hd.out]; rfl)
    clear hdef hlen hb h ih hk hn hf hs q1 q2 hcat Hd
    generalize str (textL (bitsB f)) = t at *
    go_enter Tryz.func33, Tryz.ntmps33
    go_wp2_with fail
    refine (HD.out _).mono ?_
    rintro e w' ⟨rfl, rfl⟩
    go_wp2
    go_ret
    exact ⟨by rw [HS.out]; rfl, Hb.out⟩
  have d2 : (k == 2) = false := beq_eq_false_iff_ne.2 q2
  by_cases q3 : k = 3
  · have Hd := Lib.hid (show textV (V.mk k n f s l) = 34 :: (hex2 s ++ [34]) from by rw [hdef, if_neg q1, if_neg q2, if_pos q3])
    have hl2 : (hex2 s).length ≤ 1000000 := by
      rw [if_neg q1, if_neg q2, if_pos q3, List.length_cons, List.length_append] at hlen
      omega
    have HD := Lib.hid (fun w => rhex_any s w hs (by rw [hex2_len] at hl2; omega))
    have d3 : (k == 3) = true := beq_iff_eq.2 q3
    have hsz : (str (hex2 s)).size ≤ 1000000 := by rw [str_size]; exact hl2
    have HS := Lib.hid (show str (textV (V.mk k n f s l)) = str [34] ++ str (hex2 s) ++ str [34] from by rw [str_append, str_append, Hd.out]; rfl)
    clear hdef hlen hb h ih hk hn hf hs q1 q2 q3 Hd hl2
    generalize str (hex2 s) = t at *
    have hsz2 : (ByteArray.mk #[34] ++ t).size ≤ 1000001 := by rw [ByteArray.size_append]; show 1 + t.size ≤ _; omega
    go_enter Tryz.func33, Tryz.ntmps33
    go_wp2_with fail
    refine (HD.out _).mono ?_
    rintro e w' ⟨rfl, hb2⟩
    go_wp2
    go_ret
    exact ⟨by rw [HS.out]; rfl, Hb.out.trans (hb2.mono Hb.out.size)⟩
  have d3 : (k == 3) = false := beq_eq_false_iff_ne.2 q3
  by_cases q4 : k = 4
  · have Hd := Lib.hid (show textV (V.mk k n f s l) = 91 :: (joinS (textVs l) ++ [93]) from by rw [hdef, if_neg q1, if_neg q2, if_neg q3, if_pos q4])
    have d4 : (k == 4) = true := beq_iff_eq.2 q4
    have hlj : (joinS (textVs l)).length ≤ 999998 := by
      rw [if_neg q1, if_neg q2, if_neg q3, if_pos q4, List.length_cons, List.length_append] at hlen
      simp only [List.length_cons, List.length_nil] at hlen
      omega
    have IH := Lib.hid (fun (u : V) (hu : u ∈ l) (x : Array Value) (w : World) (hv : VIn w u x) => ih u hu x w (Nat.le_trans (textVs_mem hu) (by omega)) hv)
    have HV := Lib.hid (h.below hb)
    have hc4 : (w.alloc (.cells #[.int .i64 k, .int .i64 n, .float .f64 f, .string (str s), .slice a l.length cap] 25)).cell? ⟨w.heap.size, 4, none⟩ = some (.slice a l.length cap) := box_cell w (cells5 k n f s a l.length cap) 25 4
    have Hlj := Lib.hid hlj
    clear hdef hlen hb h ih hk hn hf hs q1 q2 q3 q4 hlj
    go_enter Tryz.func33, Tryz.ntmps33
    go_wp2
    have hwz : (w.alloc (.cells #[.int .i64 k, .int .i64 n, .float .f64 f, .string (str s), .slice a l.length cap] 25)).heap.size = w.heap.size + 1 := by simp
    generalize w.alloc (.cells #[.int .i64 k, .int .i64 n, .float .f64 f, .string (str s), .slice a l.length cap] 25) = w1 at *
    go_loopw [3, 4] (fun t i wr => ∃ j : Nat, j ≤ l.length ∧ i = .int .i64 (j : Int) ∧ t = .string (str (91 :: joinS (textVs (l.take j)))) ∧ Below w1.heap.size w1 wr) (fun _ i _ => l.length - (intOf i).toNat)
    case atStart => exact ⟨0, Nat.zero_le _, rfl, rfl, Below.refl _ _⟩
    case round =>
      obtain ⟨j, hj, rfl, rfl, hbr⟩ := hrel
      have hcr := cell_below hbr hc4
      have Hbr := Lib.hid hbr
      have hjle := textVs_take_le l j
      have hlj := Hlj.out
      by_cases hlt : j < l.length
      · obtain ⟨b, o, rfl, hvs⟩ := (HV.out.below hbr).list (by show l ≠ []; intro e; rw [e] at hlt; simp at hlt)
        change VsIn wr l b o at hvs
        obtain ⟨p, pc, hvy, c0, c1, c2, c3, c4⟩ := hvs.elem hlt
        have HI := Lib.hid (IH.out _ (get_mem hlt).2 _ wr hvy)
        have htk := textVs_take hlt
        have hju := textVs_mem (get_mem hlt).2
        have hjn := textVs_take_le l (j + 1)
        have hji : (j : Int) < (l.length : Int) := by omega
        have Hlt := Lib.hid hlt
        generalize l[j] = u at *
        by_cases hj0 : j = 0
        · rw [if_pos hj0] at htk
          have hpos : ¬ ((0 : Int) < (j : Int)) := by omega
          have hposn : ¬ 0 < j := by omega
          have hcat := str_append [91] (textV u)
          have hsz : (str (textV u)).size ≤ 1000000 := by rw [str_size]; omega
          have HS := Lib.hid (show str [91] ++ str (textV u) = str (91 :: joinS (textVs (l.take (j + 1)))) from by rw [hcat, htk]; rfl)
          have e0 : str (91 :: joinS (textVs (l.take j))) = str [91] := by rw [hj0]; rfl
          rw [e0]
          have hs1 : (str [91]).size = 1 := by rw [str_size]; rfl
          clear hbr hvs hvy hlt hjle hlj htk hju hjn hcat e0 hj0
          generalize str (textV u) = t at *
          generalize str [91] = t1 at *
          go_wp2_with fail
          refine HI.out.mono ?_
          rintro e w2 ⟨rfl, hb2⟩
          have hbw : Below w1.heap.size w1 w2 := Hbr.out.trans (hb2.mono Hbr.out.size)
          clear hb2 c0 c1 c2 c3 c4 hcr hc4
          go_wp2
          go_roundw
          case rel => exact ⟨j + 1, Hlt.out, by go_num, by rw [HS.out], hbw⟩
          case measure => simp [intOf]; have := Hlt.out; omega
        · rw [if_neg hj0] at htk
          have hcat1 := str_append (91 :: joinS (textVs (l.take j))) [32]
          have hcat2 := str_append (91 :: joinS (textVs (l.take j)) ++ [32]) (textV u)
          have hsz0 : (str (91 :: joinS (textVs (l.take j)))).size ≤ 1000000 := by rw [str_size, List.length_cons]; omega
          have hsz : (str (textV u)).size ≤ 1000000 := by rw [str_size]; omega
          have hs1 : (str [32]).size = 1 := by rw [str_size]; rfl
          have HS := Lib.hid (show str (91 :: joinS (textVs (l.take j))) ++ str [32] ++ str (textV u) = str (91 :: joinS (textVs (l.take (j + 1)))) from by rw [hcat1, hcat2, htk]; simp)
          have hpos : (0 : Int) < (j : Int) := by omega
          have hposn : 0 < j := by omega
          have hsz2 : (str (91 :: joinS (textVs (l.take j))) ++ str [32]).size ≤ 1000001 := by rw [ByteArray.size_append]; omega
          clear hbr hvs hvy hlt hjle hlj htk hju hjn hcat1 hcat2 hj0
          generalize str (textV u) = t at *
          generalize str (91 :: joinS (textVs (l.take j))) = t1 at *
          generalize hsp : str [32] = sp at *
          have hsp2 : ByteArray.mk #[32] = sp := hsp
          clear hsp
          go_wp2_with fail
          refine HI.out.mono ?_
          rintro e w2 ⟨rfl, hb2⟩
          have hbw : Below w1.heap.size w1 w2 := Hbr.out.trans (hb2.mono Hbr.out.size)
          clear hb2 c0 c1 c2 c3 c4 hcr hc4
          go_wp2
          go_roundw
          case rel => exact ⟨j + 1, Hlt.out, by go_num, by rw [HS.out], hbw⟩
          case measure => simp [intOf]; have := Hlt.out; omega
      · have hbw : Below w.heap.size w wr := Hb.out.trans (hbr.mono (by omega))
        have hji : ¬ ((j : Int) < (l.length : Int)) := by omega
        rw [List.take_of_length_le (by omega)]
        have hsz0 : (str (91 :: joinS (textVs l))).size ≤ 1000000 := by rw [str_size, List.length_cons]; omega
        have HS := Lib.hid (show str (textV (V.mk k n f s l)) = str (91 :: joinS (textVs l)) ++ str [93] from by rw [str_append, Hd.out]; rfl)
        clear hbr hlt hjle hlj
        generalize str (91 :: joinS (textVs l)) = t at *
        go_wp2
        go_ret
        exact ⟨by rw [HS.out]; rfl, hbw⟩
  · have d4 : (k == 4) = false := beq_eq_false_iff_ne.2 q4
    have Hd := Lib.hid (show textV (V.mk k n f s l) = [110, 105, 108] from by rw [hdef, if_neg q1, if_neg q2, if_neg q3, if_neg q4])
    clear hdef hlen hb h ih hk hn hf hs q1 q2 q3 q4
    go_enter Tryz.func33, Tryz.ntmps33
    go_wp2
    go_ret
    exact ⟨by rw [Hd.out]; rfl, Hb.out⟩
end Go.Proofs.YtfapajmbmgpipaaGreatDoor

