import Derived.Test.YtcapbaocchaenaaGreatSR40
import Derived.Test.YtcapbaocchaenaaGreatSR26
import Derived.Test.YtcapbaocchaenaaGreatSR39
/- The walk of the reference's Read of an event, whatever the bytes. -/
namespace Go.Proofs.YtcapbaocchaenaaGreat
open Go.RowKit Go.Shelf Fl

theorem rread11_any (K : Nat → Prop) (l : List Nat) (a : Option Addr) (n c : Nat) (w : World) (hl : l.length ≤ 100000000000) (hK : ∀ b, K b → b < w.heap.size) (hB : Bytes w a n c l) (hf : FormedK K a c) :
    Calls Tryz.prog 28 #[.agg #[.slice a n c, .bool false]] w (ErAny K w l) := by
  match l with
  | [] => exact er_short K a n c w hB hf hK
  | x :: l1 =>
    by_cases hx : x = 1
    · subst hx
      have hb1 : ∀ c ∈ l1, c < 256 := fun c hc => hB.byte c (by simp [hc])
      have h1 : form 1 = [1] := form_small (by omega)
      rcases readN_only hb1 with ⟨y, l2, hy, he⟩ | ⟨hn, hno⟩
      · have hr : readN l1 true = (y, l2, true) := by rw [he]; exact readN_form hy l2
        by_cases hk : 1 ≤ y ∧ y ≤ 11
        · exact er_main K a n c w y l1 l2 true hr rfl hk he (by have := congrArg List.length he; rw [List.length_append] at this; rw [List.length_cons] at hl; omega) hB hf hK
        · refine er_nokind K a n c w y l1 l2 true hr (fun _ => by omega) ?_ hB hf hK
          have := noE_kind (l := l2) hy hk
          rw [← he, h1] at this
          exact this
      · refine er_nokind K a n c w 0 l1 l1 false hn (fun h => by cases h) ?_ hB hf hK
        have := noE_nokind hno
        rw [h1] at this
        exact this
    · exact er_ne K a n c w x l1 hx hB hf hK

end Go.Proofs.YtcapbaocchaenaaGreat

/- The walk of the reference's Valid of a batch. -/
namespace Go.Proofs.YtcapbaocchaenaaGreat
open Go.RowKit Go.Shelf Fl

set_option maxRecDepth 100000 in
set_option maxHeartbeats 3200000 in
theorem rvalid13_any (t : Bt) (x : Array Value) (w : World) (h : BtIn w t x) :
    Calls Tryz.prog 30 #[.agg x] w fun r w' => r = .returned (.bool (okB t)) ∧ Below w.heap.size w w' := by
  obtain ⟨fl, at_, es⟩ := t
  obtain ⟨⟨hb1, hb2⟩, hat, a, n, c, rfl, hE⟩ := h
  change ∀ c ∈ fl, c < 256 at hb1
  change fl.length ≤ 9223372036854775807 at hb2
  change at_ < 18446744073709551616 at hat
  change Evs w a n c es at hE
  have hal := (Below.refl w.heap.size w).alloc (Nat.le_refl _) (.cells #[.string (str fl), .int .u64 (at_ : Int), .slice a n c] 27)
  have Hal := Lib.hid hal
  have HB := Lib.hid (heap_alloc_new w (.cells #[.string (str fl), .int .u64 (at_ : Int), .slice a n c] 27))
  have hz := str_size fl
  have hlen := hE.len
  have hcm := hE.max
  have hle := hE.le
  have H := Lib.hid (hE.below hal)
  have hres : okB ⟨fl, at_, es⟩ = (decide (fl ≠ [] ∧ fl.length ≤ 1000) && decide (at_ ≤ 9223372036854775807) && decide (es ≠ []) && es.all okE) := rfl
  obtain ⟨res, hr⟩ : ∃ res, res = okB ⟨fl, at_, es⟩ := ⟨_, rfl⟩
  rw [← hr]
  rw [hres] at hr
  have Hr := Lib.hid hr
  clear hE hal hb1 hres hr
  obtain ⟨y0, y1, y2⟩ := box3 HB.out
  go_enter Tryz.func30, Tryz.ntmps30
  go_wp2
  obtain ⟨w1, hw1⟩ : ∃ w1, w1 = w.alloc (.cells #[.string (str fl), .int .u64 (at_ : Int), .slice a n c] 27) := ⟨_, rfl⟩
  rw [← hw1] at Hal HB H y0 y1 y2 ⊢
  clear hw1
  go_loopw [3] (fun i wr => ∃ j : Nat, j ≤ n ∧ i = .int .i64 (j : Int) ∧ (∀ k, k < j → ∀ e, es[k]? = some e → okE e = true) ∧ Below w1.heap.size w1 wr) (fun i _ => n - (intOf i).toNat)
  case atStart => exact ⟨0, Nat.zero_le _, rfl, fun k hk => absurd hk (by omega), Below.refl _ _⟩
  case round =>
    obtain ⟨j, hj, rfl, hall, hb⟩ := hrel
    have Hall := Lib.hid hall
    have Hb := Lib.hid hb
    have z0 := cell_below hb y0
    have z1 := cell_below hb y1
    have z2 := cell_below hb y2
    clear hall hb y0 y1 y2
    by_cases hlt : j < n
    · have hle' : j < es.length := by omega
      obtain ⟨b, o, rfl, hc⟩ := H.out.cell (by omega)
      obtain ⟨a', cap', hI, ⟨g0, g1, g2, g3, g4, g5⟩, g6, g7, g8, g9, g10⟩ := ((hc j hle').below Hb.out).all
      have HC := Lib.hid (rvalid11_any es[j] _ wr hI)
      have Hje := Lib.hid (List.getElem?_eq_getElem hle')
      have hji : (j : Int) < (n : Int) := by omega
      have Hlt := Lib.hid hlt
      generalize es[j] = e at *
      clear hc hI hlt hle'
      go_wp2_with fail
      refine HC.out.mono ?_
      rintro r w2 ⟨rfl, hb2⟩
      have Hb2 := Lib.hid (Hb.out.trans (hb2.mono Hb.out.size))
      clear hb2 g0 g1 g2 g3 g4 g5 g6 g7 g8 g9 g10 HC
      cases hok : okE e with
      | false =>
        have Hbad := Lib.hid (show res = false from by rw [Hr.out, all_bad Hje.out hok, Bool.and_false])
        clear hok
        go_wp2
        go_ret
        exact ⟨ret_bool Hbad.out.symm, Hal.out.trans (Hb2.out.mono Hal.out.size)⟩
      | true =>
        have Hok := Lib.hid hok
        clear hok
        go_wp2
        go_roundw
        case rel => exact ⟨j + 1, Hlt.out, by go_num, fun k hk e' he => by
          rcases Nat.lt_or_eq_of_le (Nat.le_of_lt_succ hk) with h | h
          · exact Hall.out k h e' he
          · rw [h, Hje.out] at he
            cases he
            exact Hok.out, Hb2.out⟩
        case measure => simp [intOf]; have := Hlt.out; omega
    · have hjn : j = n := by omega
      have Hg := Lib.hid (all_good (fun k hk e he => Hall.out k (by omega) e he))
      have Hlen := Lib.hid hlen
      have hji : ¬ ((j : Int) < (n : Int)) := by omega
      have Hbz := Lib.hid (Hal.out.trans (Hb.out.mono Hal.out.size))
      clear hlt hjn
      by_cases h1 : fl = []
      · have q1 : ¬ (1 : Int) ≤ (fl.length : Int) := by rw [h1]; simp
        have Hf := Lib.hid (show res = false from by rw [Hr.out, h1]; simp)
        clear h1
        go_wp2
        go_ret
        exact ⟨ret_bool Hf.out.symm, Hbz.out⟩
      have hl1 : 1 ≤ fl.length := List.length_pos_iff.2 h1
      have q1 : (1 : Int) ≤ (fl.length : Int) := by omega
      by_cases h2 : fl.length ≤ 1000
      rotate_left
      · have q2 : ¬ (fl.length : Int) ≤ 1000 := by omega
        have Hf := Lib.hid (show res = false from by rw [Hr.out]; simp [h2])
        clear h1 h2 hl1
        go_wp2
        go_ret
        exact ⟨ret_bool Hf.out.symm, Hbz.out⟩
      have q2 : (fl.length : Int) ≤ 1000 := by omega
      by_cases h3 : at_ ≤ 9223372036854775807
      rotate_left
      · have q3 : ¬ (at_ : Int) ≤ 9223372036854775807 := by omega
        have Hf := Lib.hid (show res = false from by rw [Hr.out, decide_eq_false h3]; simp)
        clear h1 h2 h3 hl1
        go_wp2
        go_ret
        exact ⟨ret_bool Hf.out.symm, Hbz.out⟩
      have q3 : (at_ : Int) ≤ 9223372036854775807 := by omega
      have Ht := Lib.hid (show decide (0 < n) = res from by
        by_cases h4 : 0 < n
        · have he : es ≠ [] := (fun h => by have := Hlen.out; rw [h] at this; simp at this; omega)
          rw [Hr.out, Hg.out, decide_eq_true h4]
          simp [h1, h2, h3, he]
        · rw [Hr.out, decide_eq_false h4, show es = [] from List.length_eq_zero_iff.1 (by have := Hlen.out; omega)]
          simp)
      clear h1 h2 h3 hl1
      go_wp2
      go_ret
      exact ⟨ret_bool Ht.out, Hbz.out⟩
end Go.Proofs.YtcapbaocchaenaaGreat

