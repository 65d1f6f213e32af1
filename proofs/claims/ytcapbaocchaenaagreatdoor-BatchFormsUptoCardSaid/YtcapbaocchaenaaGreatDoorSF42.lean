import Derived.Test.YtcapbaocchaenaaGreatDoorSF30
import Derived.Test.YtcapbaocchaenaaGreatDoorSF41
import Derived.Test.YtcapbaocchaenaaGreatDoorSF40
import Derived.Test.YtcapbaocchaenaaGreatDoorSF31
import Derived.Test.YtcapbaocchaenaaGreatDoorSF20
import Derived.Test.YtcapbaocchaenaaGreatDoorSF14
import Derived.Test.YtcapbaocchaenaaGreatDoorSF36
import Derived.Test.YtcapbaocchaenaaGreatDoorSF24
import Derived.Test.YtcapbaocchaenaaGreatDoorSF39
import Derived.Deep.DeepCutAuto
import Derived.Deep.CutBlock
/- The walk of the reference's Valid of a batch. -/
namespace Go.Proofs.YtcapbaocchaenaaGreatDoor
open Go.RowKit Go.Shelf Fl

set_option maxRecDepth 100000 in
set_option maxHeartbeats 3200000 in
theorem rvalid13_any (t : Bt) (x : Array Value) (w : World) (h : BtIn w t x) :
    Calls Tryz.prog 25 #[.agg x] w fun r w' => r = .returned (.bool (okB t)) ∧ Below w.heap.size w w' := by
  obtain ⟨fl, at_, es⟩ := t
  obtain ⟨⟨hb1, hb2⟩, hat, a, n, c, rfl, hE⟩ := h
  change ∀ c ∈ fl, c < 256 at hb1
  change fl.length ≤ 9223372036854775807 at hb2
  change at_ < 18446744073709551616 at hat
  change Evs w a n c es at hE
  have hal := (Below.refl w.heap.size w).alloc (Nat.le_refl _) (.cells #[.string (str fl), .int .u64 (at_ : Int), .slice a n c] 25)
  have Hal := Lib.hid hal
  have HB := Lib.hid (heap_alloc_new w (.cells #[.string (str fl), .int .u64 (at_ : Int), .slice a n c] 25))
  have hz := str_size fl
  have hlen := hE.len
  have hcm := hE.max
  have hle := hE.le
  have H := Lib.hid (hE.below hal)
  have hres : okB ⟨fl, at_, es⟩ = (decide (fl ≠ [] ∧ fl.length ≤ 1000) && decide (at_ ≤ 9223372036854775807) && decide (es ≠ []) && es.all okE) := rfl
  obtain ⟨res, hr⟩ : ∃ res, res = okB ⟨fl, at_, es⟩ := ⟨_, rfl⟩
  rw [← hr]
  rw [hres] at hr
  have Hr := Lib.hid hr
  clear hE hal hb1 hres hr
  obtain ⟨y0, y1, y2⟩ := box3 HB.out
  go_enter Tryz.func25, Tryz.ntmps25
  go_wp2
  obtain ⟨w1, hw1⟩ : ∃ w1, w1 = w.alloc (.cells #[.string (str fl), .int .u64 (at_ : Int), .slice a n c] 25) := ⟨_, rfl⟩
  rw [← hw1] at Hal HB H y0 y1 y2 ⊢
  clear hw1
  go_loopw [3] (fun i wr => ∃ j : Nat, j ≤ n ∧ i = .int .i64 (j : Int) ∧ (∀ k, k < j → ∀ e, es[k]? = some e → okE e = true) ∧ Below w1.heap.size w1 wr) (fun i _ => n - (intOf i).toNat)
  case atStart => exact ⟨0, Nat.zero_le _, rfl, fun k hk => absurd hk (by omega), Below.refl _ _⟩
  case round =>
    obtain ⟨j, hj, rfl, hall, hb⟩ := hrel
    have Hall := Lib.hid hall
    have Hb := Lib.hid hb
    have z0 := cell_below hb y0
    have z1 := cell_below hb y1
    have z2 := cell_below hb y2
    clear hall hb y0 y1 y2
    by_cases hlt : j < n
    · have hle' : j < es.length := by omega
      obtain ⟨b, o, rfl, hc⟩ := H.out.cell (by omega)
      obtain ⟨a', cap', hI, ⟨g0, g1, g2, g3, g4, g5⟩, g6, g7, g8, g9, g10⟩ := ((hc j hle').below Hb.out).all
      have HC := Lib.hid (rvalid11_any es[j] _ wr hI)
      have Hje := Lib.hid (List.getElem?_eq_getElem hle')
      have hji : (j : Int) < (n : Int) := by omega
      have Hlt := Lib.hid hlt
      generalize es[j] = e at *
      clear hc hI hlt hle'
      go_wp2_with fail
      refine HC.out.mono ?_
      rintro r w2 ⟨rfl, hb2⟩
      have Hb2 := Lib.hid (Hb.out.trans (hb2.mono Hb.out.size))
      clear hb2 g0 g1 g2 g3 g4 g5 g6 g7 g8 g9 g10 HC
      cases hok : okE e with
      | false =>
        have Hbad := Lib.hid (show res = false from by rw [Hr.out, all_bad Hje.out hok, Bool.and_false])
        clear hok
        go_wp2
        go_ret
        exact ⟨ret_bool Hbad.out.symm, Hal.out.trans (Hb2.out.mono Hal.out.size)⟩
      | true =>
        have Hok := Lib.hid hok
        clear hok
        go_wp2
        go_roundw
        case rel => exact ⟨j + 1, Hlt.out, by go_num, fun k hk e' he => by
          rcases Nat.lt_or_eq_of_le (Nat.le_of_lt_succ hk) with h | h
          · exact Hall.out k h e' he
          · rw [h, Hje.out] at he
            cases he
            exact Hok.out, Hb2.out⟩
        case measure => simp [intOf]; have := Hlt.out; omega
    · have hjn : j = n := by omega
      have Hg := Lib.hid (all_good (fun k hk e he => Hall.out k (by omega) e he))
      have Hlen := Lib.hid hlen
      have hji : ¬ ((j : Int) < (n : Int)) := by omega
      have Hbz := Lib.hid (Hal.out.trans (Hb.out.mono Hal.out.size))
      clear hlt hjn
      by_cases h1 : fl = []
      · have q1 : ¬ (1 : Int) ≤ (fl.length : Int) := by rw [h1]; simp
        have Hf := Lib.hid (show res = false from by rw [Hr.out, h1]; simp)
        clear h1
        go_wp2
        go_ret
        exact ⟨ret_bool Hf.out.symm, Hbz.out⟩
      have hl1 : 1 ≤ fl.length := List.length_pos_iff.2 h1
      have q1 : (1 : Int) ≤ (fl.length : Int) := by omega
      by_cases h2 : fl.length ≤ 1000
      rotate_left
      · have q2 : ¬ (fl.length : Int) ≤ 1000 := by omega
        have Hf := Lib.hid (show res = false from by rw [Hr.out]; simp [h2])
        clear h1 h2 hl1
        go_wp2
        go_ret
        exact ⟨ret_bool Hf.out.symm, Hbz.out⟩
      have q2 : (fl.length : Int) ≤ 1000 := by omega
      by_cases h3 : at_ ≤ 9223372036854775807
      rotate_left
      · have q3 : ¬ (at_ : Int) ≤ 9223372036854775807 := by omega
        have Hf := Lib.hid (show res = false from by rw [Hr.out, decide_eq_false h3]; simp)
        clear h1 h2 h3 hl1
        go_wp2
        go_ret
        exact ⟨ret_bool Hf.out.symm, Hbz.out⟩
      have q3 : (at_ : Int) ≤ 9223372036854775807 := by omega
      have Ht := Lib.hid (show decide (0 < n) = res from by
        by_cases h4 : 0 < n
        · have he : es ≠ [] := (fun h => by have := Hlen.out; rw [h] at this; simp at this; omega)
          rw [Hr.out, Hg.out, decide_eq_true h4]
          simp [h1, h2, h3, he]
        · rw [Hr.out, decide_eq_false h4, show es = [] from List.length_eq_zero_iff.1 (by have := Hlen.out; omega)]
          simp)
      clear h1 h2 h3 hl1
      go_wp2
      go_ret
      exact ⟨ret_bool Ht.out, Hbz.out⟩
end Go.Proofs.YtcapbaocchaenaaGreatDoor

/- The walk of the reference's form of an event. -/
namespace Go.Proofs.YtcapbaocchaenaaGreatDoor
open Go.RowKit Go.Shelf Fl

/-- The pieces of the fields before j. -/
def upE (e : Ev) (j : Nat) : List Nat := (((List.range j).filter (fun i => decide (i ∈ evFields e.k))).map (pieceE e)).flatten

theorem upE_zero (e : Ev) : upE e 0 = [] := rfl
theorem upE_succ (e : Ev) (j : Nat) : upE e (j + 1) = upE e j ++ (if j ∈ evFields e.k then pieceE e j else []) := by
  unfold upE
  rw [List.range_succ, List.filter_append, List.map_append, List.flatten_append]
  congr 1
  by_cases h : j ∈ evFields e.k
  · simp [h]
  · simp [h]
theorem fields_filter (k : Int) : (List.range 6).filter (fun i => decide (i ∈ evFields k)) = evFields k := by
  by_cases h : 1 ≤ k ∧ k ≤ 11
  · have hk : k = 1 ∨ k = 2 ∨ k = 3 ∨ k = 4 ∨ k = 5 ∨ k = 6 ∨ k = 7 ∨ k = 8 ∨ k = 9 ∨ k = 10 ∨ k = 11 := by omega
    rcases hk with rfl | rfl | rfl | rfl | rfl | rfl | rfl | rfl | rfl | rfl | rfl <;> decide
  · rw [(evName_none h).2]
    decide
theorem upE_six (e : Ev) : upE e 6 = ((evFields e.k).map (pieceE e)).flatten := by
  unfold upE
  rw [fields_filter]

set_option maxRecDepth 100000 in
set_option maxHeartbeats 12800000 in
theorem rform11_any (e : Ev) (x : Array Value) (w : World) (h : EvIn w e x) (hok : okE e = true) (hlen : (formV e.v).length ≤ 10000000) (hsl : ∀ u ∈ preV e.v, u.s.length ≤ 1000000) :
    Calls Tryz.prog 55 #[.agg x] w (NewBytes w (formE e)) := by
  obtain ⟨hk1, _⟩ := okE_parts hok
  have hrt := fun i hi => okE_right hok (i := i) hi
  have hfin := upE_six e
  have hsucc := upE_succ e
  have hfe : formE e = form 1 ++ form e.k.toNat ++ upE e 6 := by rw [hfin]; rfl
  rw [hfe]
  obtain ⟨F, hF⟩ : ∃ F : Nat → List Nat, F = fun j => form 1 ++ form e.k.toNat ++ upE e j := ⟨_, rfl⟩
  have hF0 : F 0 = form 1 ++ form e.k.toNat := by rw [hF]; simp [upE_zero]
  have HFin := Lib.hid (show ∀ j, j ∈ evFields e.k → F (j + 1) = F j ++ pieceE e j from fun j h => by rw [hF]; simp only [upE_succ]; rw [if_pos h, ← List.append_assoc])
  have HFout := Lib.hid (show ∀ j, j ∉ evFields e.k → F (j + 1) = F j from fun j h => by rw [hF]; simp only [upE_succ]; rw [if_neg h, List.append_nil])
  rw [show form 1 ++ form e.k.toNat ++ upE e 6 = F 6 from by rw [hF]]
  clear hF hfe hfin hsucc
  have hbyte : ∀ i, ∀ c ∈ pieceE e i, c < 256 := fun i c hc => by
    obtain ⟨_, _, _, _, h5, h6, a, cap, _, hv⟩ := h
    unfold pieceE at hc
    (repeat' split at hc)
    · exact form_byte _ c hc
    · exact form_byte _ c hc
    · exact form_byte _ c hc
    · exact formB_byte h5.1 c hc
    · exact formB_byte h6.1 c hc
    · exact formV_byte e.v w _ hv c hc
  have Hbyte := Lib.hid hbyte
  have Hrt := Lib.hid hrt
  have Hpl := Lib.hid (show ∀ i, i ∈ evFields e.k → (pieceE e i).length ≤ 10000100 from fun i hi => by
    have hr := hrt i hi
    have h6 := evFields_lt _ _ hi
    obtain ⟨b1, b2, b3, b4, b5, b6, _⟩ := h
    match i, h6 with
    | 0, _ => have := form_len b2; show (form e.id).length ≤ _; omega
    | 1, _ => have h1 : 1 ≤ e.n ∧ e.n ≤ 2147483647 := by simpa [rightE] using hr
              have := form_len (x := e.n.toNat) (by omega); show (form e.n.toNat).length ≤ _; omega
    | 2, _ => have := form_len b4; show (form e.t).length ≤ _; omega
    | 3, _ => have h1 : e.nm ≠ [] ∧ e.nm.length ≤ 1000 := by simpa [rightE] using hr
              have := form_len (x := e.nm.length) (by omega); show (form e.nm.length ++ e.nm).length ≤ _; rw [List.length_append]; omega
    | 4, _ => have h1 : e.tx.length ≤ 1000 := by simpa [rightE] using hr
              have := form_len (x := e.tx.length) (by omega); show (form e.tx.length ++ e.tx).length ≤ _; rw [List.length_append]; omega
    | 5, _ => show (formV e.v).length ≤ _; omega)
  have Hlv := Lib.hid (And.intro hlen hsl)
  clear hbyte hrt hlen hsl hok
  obtain ⟨k, id, n, t, nm, tx, v⟩ := e
  obtain ⟨b1, b2, b3, b4, b5, b6, a, cap, rfl, hv⟩ := h
  change -9223372036854775808 ≤ k ∧ k ≤ 9223372036854775807 at b1
  change id < 18446744073709551616 at b2
  change -9223372036854775808 ≤ n ∧ n ≤ 9223372036854775807 at b3
  change t < 18446744073709551616 at b4
  change (∀ c ∈ nm, c < 256) ∧ nm.length ≤ 9223372036854775807 at b5
  change (∀ c ∈ tx, c < 256) ∧ tx.length ≤ 9223372036854775807 at b6
  change VIn w v (cells5 v.kind v.n v.f v.s a v.l.length cap) at hv
  change 1 ≤ k ∧ k ≤ 11 at hk1
  have hal := (Below.refl w.heap.size w).alloc (Nat.le_refl _) (.cells (evC k id n t nm tx v.kind v.n v.f v.s a v.l.length cap) 45)
  have HE0 := Lib.hid (heap_alloc_new w (.cells (evC k id n t nm tx v.kind v.n v.f v.s a v.l.length cap) 45))
  obtain ⟨kk, rfl⟩ : ∃ kk : Nat, k = (kk : Int) := ⟨k.toNat, by omega⟩
  have hk11 : kk ≤ 11 := by omega
  have HU := Lib.hid (fun W => ruint_any kk W (by omega))
  have hwk : IntKind.u64.wrap (kk : Int) = (kk : Int) := by rw [IntKind.wrap_u64]; omega
  have hf0 : F 0 = [1] ++ form kk := by rw [hF0]; show form 1 ++ form ((kk : Int)).toNat = _; rw [Int.toNat_natCast, form_small (by omega)]
  have Hl2 := Lib.hid (form_len (x := kk) (by omega))
  have HV := Lib.hid hv
  have HB2 := Lib.hid b2
  have HB3 := Lib.hid b3
  have HB4 := Lib.hid b4
  have HB5 := Lib.hid b5
  have HB6 := Lib.hid b6
  have Hk1 := Lib.hid hk1
  have Hf0 := Lib.hid hf0
  have Hal := Lib.hid hal
  clear hF0 hf0 hal hv b2 b3 b4 b5 b6 b1 hk1
  obtain ⟨ee, hee⟩ : ∃ ee : Ev, ee = ⟨(kk : Int), id, n, t, nm, tx, v⟩ := ⟨_, rfl⟩
  have hp0 : pieceE ee 0 = form id := by rw [hee]; rfl
  have hp1 : pieceE ee 1 = form n.toNat := by rw [hee]; rfl
  have hp2 : pieceE ee 2 = form t := by rw [hee]; rfl
  have hp3 : pieceE ee 3 = formB nm := by rw [hee]; rfl
  have hp4 : pieceE ee 4 = formB tx := by rw [hee]; rfl
  have hp5 : pieceE ee 5 = formV v := by rw [hee]; rfl
  have hr1 : rightE ee 1 = true → 1 ≤ n ∧ n ≤ 2147483647 := fun h => by rw [hee] at h; simpa [rightE] using h
  have hr3 : rightE ee 3 = true → nm.length ≤ 1000 := fun h => by
    rw [hee] at h
    have h : nm ≠ [] ∧ nm.length ≤ 1000 := by simpa [rightE] using h
    exact h.2
  have hr4 : rightE ee 4 = true → tx.length ≤ 1000 := fun h => by rw [hee] at h; simpa [rightE] using h
  have hr5 : rightE ee 5 = true → rightN 8 v = true := fun h => by rw [hee] at h; simpa [rightE] using h
  have hke : ee.k = (kk : Int) := by rw [hee]
  have hlv : (formV v).length ≤ 10000000 ∧ ∀ u ∈ preV v, u.s.length ≤ 1000000 := Hlv.out
  rw [← hee] at HFin HFout Hbyte Hrt Hpl
  rw [hke] at HFin HFout Hrt Hpl
  have Hp := Lib.hid (And.intro hp0 (And.intro hp1 (And.intro hp2 (And.intro hp3 (And.intro hp4 hp5)))))
  have Hr := Lib.hid (And.intro hr1 (And.intro hr3 (And.intro hr4 hr5)))
  clear hee hp0 hp1 hp2 hp3 hp4 hp5 hr1 hr3 hr4 hr5 hke Hlv
  have Hlv := Lib.hid hlv
  clear hlv
  go_enter Tryz.func55, Tryz.ntmps55
  go_wp2_with fail
  have hal1 := (Below.refl w.heap.size (w.alloc (.cells (evC (kk : Int) id n t nm tx v.kind v.n v.f v.s a v.l.length cap) 45))).alloc (by simp) (.cells #[.int .u8 1] 5)
  have hown := new_row (w.alloc (.cells (evC (kk : Int) id n t nm tx v.kind v.n v.f v.s a v.l.length cap) 45)) [1] (by simp)
  rw [World.size_alloc] at hown
  have Hown := Lib.hid (own_base hown (Nat.le_succ w.heap.size))
  have Hb1 := Lib.hid (Hal.out.trans (hal1.mono (Nat.le_refl _)))
  have HE1 := Lib.hid (blk HE0.out ((Below.refl _ _).alloc (Nat.le_refl _) (.cells #[.int .u8 1] 5)))
  clear hal1 hown
  refine (HU.out _).mono ?_
  rintro r w2 ⟨u2, rfl, hu2, hb2⟩
  obtain ⟨p2, cp2, rfl, hB2⟩ := own_slice hu2 (form_byte kk)
  have Hown2 := Lib.hid (own_below Hown.out hb2)
  have HBy := Lib.hid hB2
  have Hb2 := Lib.hid (Hb1.out.trans (hb2.mono Hb1.out.size))
  have HE2 := Lib.hid (blk HE1.out hb2)
  clear hu2 hb2 hB2
  go_wp2_with (at_builtin; refine wpList_append_bytes _ rfl _ _ 28 rfl w.heap.size 5 Tryz.underlying28 info_u8 _ _ _ rfl Hown2.out p2 _ cp2 (form kk) rfl HBy.out (by have := Hl2.out; simp; omega) Hb2.out.size ?_; intro v' w3 g1 g2)
  have Hs0 := Lib.hid (show w3.ownsRow w.heap.size 5 1 v' (F 0).length (u8s (F 0)) from by rw [Hf0.out, List.length_append]; exact g1)
  have Hb3 := Lib.hid (Hb2.out.grown g2 Hb2.out.size (fun k hk => (Hown2.out.lt k hk).1))
  have HE3 := Lib.hid (grown_keep g2 HE2.out (row_ne Hown2.out HE2.out (by decide)))
  have Hn0 := Lib.hid (show (F 0).length ≤ 20 + 0 * 10000100 from by rw [Hf0.out, List.length_append]; have := Hl2.out; simp; omega)
  clear g1 g2 HBy Hown2 Hb2 HE2 Hown Hb1 HE1 HE0 Hal HU
  go_loopw [3, 4, 5, 6] (fun t3 t4 t5 t6 wr => ∃ j : Nat, j ≤ 6 ∧ t4 = .int .i64 (j : Int) ∧ wr.ownsRow w.heap.size 5 1 t3 (F j).length (u8s (F j)) ∧ (F j).length ≤ 20 + j * 10000100 ∧ wr.heap[w.heap.size]? = some (.cells (evC (kk : Int) id n t nm tx v.kind v.n v.f v.s a v.l.length cap) 45 (0, 0)) ∧ Below w.heap.size w wr) (fun _ i _ _ _ => 6 - (intOf i).toNat)
  case atStart => exact ⟨0, by omega, rfl, Hs0.out, Hn0.out, HE3.out, Hb3.out⟩
  case round =>
    obtain ⟨j, hj, rfl, hr, hn, hE, hb⟩ := hrel
    have Hr0 := Lib.hid hr
    have Hn := Lib.hid hn
    have HE := Lib.hid hE
    have Hb := Lib.hid hb
    clear hr hn hb Hs0 Hn0 HE3 Hb3
    have hjj : j = 0 ∨ j = 1 ∨ j = 2 ∨ j = 3 ∨ j = 4 ∨ j = 5 ∨ j = 6 := by omega
    rcases hjj with rfl | rfl | rfl | rfl | rfl | rfl | rfl
    · have HH := Lib.hid (has_any (kk : Int) 105 (by omega) wr)
      rw [show decide (105 ∈ evL (kk : Int)) = decide (0 ∈ evFields (kk : Int)) from decide_eq_decide.2 (lett_mem (i := 0) (by omega))] at HH
      obtain ⟨g0, g1, g2, g3, g4, g5, g6, g7, g8, g9, g10⟩ := box11 hE
      clear hE g1 g2 g3 g4 g5 g6 g7 g8 g9 g10
      by_cases hm : 0 ∈ evFields (kk : Int)
      · rw [decide_eq_true hm] at HH
        have Hm := Lib.hid hm
        clear hm hj
        go_wp2_with fail
        refine HH.out.mono ?_
        rintro r w4 ⟨rfl, hb4⟩
        have HE4 := Lib.hid (blk HE.out hb4)
        have Hr4 := Lib.hid (own_below Hr0.out hb4)
        have Hb4 := Lib.hid (Hb.out.trans (hb4.mono Hb.out.size))
        obtain ⟨g0, g1, g2, g3, g4, g5, g6, g7, g8, g9, g10⟩ := box11 HE4.out
        clear hb4
        have HC := Lib.hid (ruint_any id w4 (HB2.out))
        go_wp2_with fail
        refine HC.out.mono ?_
        rintro r w5 ⟨u5, rfl, hu5, hb5⟩
        obtain ⟨p5, cp5, rfl, hB5⟩ := own_slice hu5 (form_byte _)
        have Hpe := Lib.hid (show pieceE ee 0 = form id from Hp.out.1)
        have HB5' := Lib.hid hB5
        have Hr5 := Lib.hid (own_below Hr4.out hb5)
        have Hb5 := Lib.hid (Hb4.out.trans (hb5.mono Hb4.out.size))
        have HE5 := Lib.hid (blk HE4.out hb5)
        have Hl5 := Lib.hid (show (form id).length ≤ 10000100 from by rw [← Hpe.out]; exact Hpl.out 0 Hm.out)
        have HF1 := Lib.hid (show F (0 + 1) = F 0 ++ form id from by rw [← Hpe.out]; exact HFin.out 0 Hm.out)
        clear hu5 hb5 hB5 g0 g1 g2 g3 g4 g5 g6 g7 g8 g9 g10
        generalize form id = P at *
        go_wp2_with (at_builtin; refine wpList_append_bytes _ rfl _ _ 28 rfl w.heap.size 5 Tryz.underlying28 info_u8 _ _ _ rfl Hr5.out p5 _ cp5 P rfl HB5'.out (by have := Hn.out; have := Hl5.out; omega) Hb5.out.size ?_; intro v9 w9 g1 g2)
        have Hs9 := Lib.hid (show w9.ownsRow w.heap.size 5 1 v9 (F (0 + 1)).length (u8s (F (0 + 1))) from by rw [HF1.out, List.length_append]; exact g1)
        have Hb9 := Lib.hid (Hb5.out.grown g2 Hb5.out.size (fun k hk => (Hr5.out.lt k hk).1))
        have HE9 := Lib.hid (grown_keep g2 HE5.out (row_ne Hr5.out HE5.out (by decide)))
        have Hn9 := Lib.hid (show (F (0 + 1)).length ≤ 20 + (0 + 1) * 10000100 from by rw [HF1.out, List.length_append]; have := Hn.out; have := Hl5.out; omega)
        clear g1 g2
        go_roundw
        case rel => exact ⟨0 + 1, by omega, rfl, Hs9.out, Hn9.out, HE9.out, Hb9.out⟩
        case measure => simp [intOf]
      · rw [decide_eq_false hm] at HH
        have HF1 := Lib.hid (HFout.out 0 hm)
        clear hm hj
        go_wp2_with fail
        refine HH.out.mono ?_
        rintro r w4 ⟨rfl, hb4⟩
        have HE4 := Lib.hid (blk HE.out hb4)
        have Hr4 := Lib.hid (own_below Hr0.out hb4)
        have Hb4 := Lib.hid (Hb.out.trans (hb4.mono Hb.out.size))
        clear hb4 g0
        go_wp2
        go_roundw
        case rel => exact ⟨0 + 1, by omega, rfl, by rw [HF1.out]; exact Hr4.out, by rw [HF1.out]; have := Hn.out; omega, HE4.out, Hb4.out⟩
        case measure => simp [intOf]
    · have HH := Lib.hid (has_any (kk : Int) 110 (by omega) wr)
      rw [show decide (110 ∈ evL (kk : Int)) = decide (1 ∈ evFields (kk : Int)) from decide_eq_decide.2 (lett_mem (i := 1) (by omega))] at HH
      obtain ⟨g0, g1, g2, g3, g4, g5, g6, g7, g8, g9, g10⟩ := box11 hE
      clear hE g1 g2 g3 g4 g5 g6 g7 g8 g9 g10
      by_cases hm : 1 ∈ evFields (kk : Int)
      · rw [decide_eq_true hm] at HH
        have Hm := Lib.hid hm
        clear hm hj
        go_wp2_with fail
        refine HH.out.mono ?_
        rintro r w4 ⟨rfl, hb4⟩
        have HE4 := Lib.hid (blk HE.out hb4)
        have Hr4 := Lib.hid (own_below Hr0.out hb4)
        have Hb4 := Lib.hid (Hb.out.trans (hb4.mono Hb.out.size))
        obtain ⟨g0, g1, g2, g3, g4, g5, g6, g7, g8, g9, g10⟩ := box11 HE4.out
        clear hb4
        have h1 := Hr.out.1 (Hrt.out 1 Hm.out)
        obtain ⟨m, rfl⟩ : ∃ m : Nat, n = (m : Int) := ⟨n.toNat, by omega⟩
        have HC := Lib.hid (ruint_any m w4 (by omega))
        have hwm : IntKind.u64.wrap (m : Int) = (m : Int) := by rw [IntKind.wrap_u64]; omega
        clear h1
        go_wp2_with fail
        refine HC.out.mono ?_
        rintro r w5 ⟨u5, rfl, hu5, hb5⟩
        obtain ⟨p5, cp5, rfl, hB5⟩ := own_slice hu5 (form_byte _)
        have Hpe := Lib.hid (show pieceE ee 1 = form m from by rw [Hp.out.2.1, Int.toNat_natCast])
        have HB5' := Lib.hid hB5
        have Hr5 := Lib.hid (own_below Hr4.out hb5)
        have Hb5 := Lib.hid (Hb4.out.trans (hb5.mono Hb4.out.size))
        have HE5 := Lib.hid (blk HE4.out hb5)
        have Hl5 := Lib.hid (show (form m).length ≤ 10000100 from by rw [← Hpe.out]; exact Hpl.out 1 Hm.out)
        have HF1 := Lib.hid (show F (1 + 1) = F 1 ++ form m from by rw [← Hpe.out]; exact HFin.out 1 Hm.out)
        clear hu5 hb5 hB5 g0 g1 g2 g3 g4 g5 g6 g7 g8 g9 g10
        generalize form m = P at *
        go_wp2_with (at_builtin; refine wpList_append_bytes _ rfl _ _ 28 rfl w.heap.size 5 Tryz.underlying28 info_u8 _ _ _ rfl Hr5.out p5 _ cp5 P rfl HB5'.out (by have := Hn.out; have := Hl5.out; omega) Hb5.out.size ?_; intro v9 w9 g1 g2)
        have Hs9 := Lib.hid (show w9.ownsRow w.heap.size 5 1 v9 (F (1 + 1)).length (u8s (F (1 + 1))) from by rw [HF1.out, List.length_append]; exact g1)
        have Hb9 := Lib.hid (Hb5.out.grown g2 Hb5.out.size (fun k hk => (Hr5.out.lt k hk).1))
        have HE9 := Lib.hid (grown_keep g2 HE5.out (row_ne Hr5.out HE5.out (by decide)))
        have Hn9 := Lib.hid (show (F (1 + 1)).length ≤ 20 + (1 + 1) * 10000100 from by rw [HF1.out, List.length_append]; have := Hn.out; have := Hl5.out; omega)
        clear g1 g2
        go_roundw
        case rel => exact ⟨1 + 1, by omega, rfl, Hs9.out, Hn9.out, HE9.out, Hb9.out⟩
        case measure => simp [intOf]
      · rw [decide_eq_false hm] at HH
        have HF1 := Lib.hid (HFout.out 1 hm)
        clear hm hj
        go_wp2_with fail
        refine HH.out.mono ?_
        rintro r w4 ⟨rfl, hb4⟩
        have HE4 := Lib.hid (blk HE.out hb4)
        have Hr4 := Lib.hid (own_below Hr0.out hb4)
        have Hb4 := Lib.hid (Hb.out.trans (hb4.mono Hb.out.size))
        clear hb4 g0
        go_wp2
        go_roundw
        case rel => exact ⟨1 + 1, by omega, rfl, by rw [HF1.out]; exact Hr4.out, by rw [HF1.out]; have := Hn.out; omega, HE4.out, Hb4.out⟩
        case measure => simp [intOf]
    · have HH := Lib.hid (has_any (kk : Int) 97 (by omega) wr)
      rw [show decide (97 ∈ evL (kk : Int)) = decide (2 ∈ evFields (kk : Int)) from decide_eq_decide.2 (lett_mem (i := 2) (by omega))] at HH
      obtain ⟨g0, g1, g2, g3, g4, g5, g6, g7, g8, g9, g10⟩ := box11 hE
      clear hE g1 g2 g3 g4 g5 g6 g7 g8 g9 g10
      by_cases hm : 2 ∈ evFields (kk : Int)
      · rw [decide_eq_true hm] at HH
        have Hm := Lib.hid hm
        clear hm hj
        go_wp2_with fail
        refine HH.out.mono ?_
        rintro r w4 ⟨rfl, hb4⟩
        have HE4 := Lib.hid (blk HE.out hb4)
        have Hr4 := Lib.hid (own_below Hr0.out hb4)
        have Hb4 := Lib.hid (Hb.out.trans (hb4.mono Hb.out.size))
        obtain ⟨g0, g1, g2, g3, g4, g5, g6, g7, g8, g9, g10⟩ := box11 HE4.out
        clear hb4
        have HC := Lib.hid (ruint_any t w4 (HB4.out))
        go_wp2_with fail
        refine HC.out.mono ?_
        rintro r w5 ⟨u5, rfl, hu5, hb5⟩
        obtain ⟨p5, cp5, rfl, hB5⟩ := own_slice hu5 (form_byte _)
        have Hpe := Lib.hid (show pieceE ee 2 = form t from Hp.out.2.2.1)
        have HB5' := Lib.hid hB5
        have Hr5 := Lib.hid (own_below Hr4.out hb5)
        have Hb5 := Lib.hid (Hb4.out.trans (hb5.mono Hb4.out.size))
        have HE5 := Lib.hid (blk HE4.out hb5)
        have Hl5 := Lib.hid (show (form t).length ≤ 10000100 from by rw [← Hpe.out]; exact Hpl.out 2 Hm.out)
        have HF1 := Lib.hid (show F (2 + 1) = F 2 ++ form t from by rw [← Hpe.out]; exact HFin.out 2 Hm.out)
        clear hu5 hb5 hB5 g0 g1 g2 g3 g4 g5 g6 g7 g8 g9 g10
        generalize form t = P at *
        go_wp2_with (at_builtin; refine wpList_append_bytes _ rfl _ _ 28 rfl w.heap.size 5 Tryz.underlying28 info_u8 _ _ _ rfl Hr5.out p5 _ cp5 P rfl HB5'.out (by have := Hn.out; have := Hl5.out; omega) Hb5.out.size ?_; intro v9 w9 g1 g2)
        have Hs9 := Lib.hid (show w9.ownsRow w.heap.size 5 1 v9 (F (2 + 1)).length (u8s (F (2 + 1))) from by rw [HF1.out, List.length_append]; exact g1)
        have Hb9 := Lib.hid (Hb5.out.grown g2 Hb5.out.size (fun k hk => (Hr5.out.lt k hk).1))
        have HE9 := Lib.hid (grown_keep g2 HE5.out (row_ne Hr5.out HE5.out (by decide)))
        have Hn9 := Lib.hid (show (F (2 + 1)).length ≤ 20 + (2 + 1) * 10000100 from by rw [HF1.out, List.length_append]; have := Hn.out; have := Hl5.out; omega)
        clear g1 g2
        go_roundw
        case rel => exact ⟨2 + 1, by omega, rfl, Hs9.out, Hn9.out, HE9.out, Hb9.out⟩
        case measure => simp [intOf]
      · rw [decide_eq_false hm] at HH
        have HF1 := Lib.hid (HFout.out 2 hm)
        clear hm hj
        go_wp2_with fail
        refine HH.out.mono ?_
        rintro r w4 ⟨rfl, hb4⟩
        have HE4 := Lib.hid (blk HE.out hb4)
        have Hr4 := Lib.hid (own_below Hr0.out hb4)
        have Hb4 := Lib.hid (Hb.out.trans (hb4.mono Hb.out.size))
        clear hb4 g0
        go_wp2
        go_roundw
        case rel => exact ⟨2 + 1, by omega, rfl, by rw [HF1.out]; exact Hr4.out, by rw [HF1.out]; have := Hn.out; omega, HE4.out, Hb4.out⟩
        case measure => simp [intOf]
    · have HH := Lib.hid (has_any (kk : Int) 115 (by omega) wr)
      rw [show decide (115 ∈ evL (kk : Int)) = decide (3 ∈ evFields (kk : Int)) from decide_eq_decide.2 (lett_mem (i := 3) (by omega))] at HH
      obtain ⟨g0, g1, g2, g3, g4, g5, g6, g7, g8, g9, g10⟩ := box11 hE
      clear hE g1 g2 g3 g4 g5 g6 g7 g8 g9 g10
      by_cases hm : 3 ∈ evFields (kk : Int)
      · rw [decide_eq_true hm] at HH
        have Hm := Lib.hid hm
        clear hm hj
        go_wp2_with fail
        refine HH.out.mono ?_
        rintro r w4 ⟨rfl, hb4⟩
        have HE4 := Lib.hid (blk HE.out hb4)
        have Hr4 := Lib.hid (own_below Hr0.out hb4)
        have Hb4 := Lib.hid (Hb.out.trans (hb4.mono Hb.out.size))
        obtain ⟨g0, g1, g2, g3, g4, g5, g6, g7, g8, g9, g10⟩ := box11 HE4.out
        clear hb4
        have h1 := Hr.out.2.1 (Hrt.out 3 Hm.out)
        obtain ⟨cq, wq, hcv, hBq, hbq⟩ := bytes_of_str nm w4 HB5.out.1 (by omega)
        have HC := Lib.hid (rbytesF_any _ _ cq nm wq hBq (by omega))
        clear h1 hBq
        go_wp2_with fail
        refine HC.out.mono ?_
        rintro r w5 ⟨u5, rfl, hu5, hb50⟩
        have hb5 := hbq.trans (hb50.mono hbq.size)
        obtain ⟨p5, cp5, rfl, hB5⟩ := own_slice hu5 (formB_byte HB5.out.1)
        clear hb50 hbq
        have Hpe := Lib.hid (show pieceE ee 3 = formB nm from Hp.out.2.2.2.1)
        have HB5' := Lib.hid hB5
        have Hr5 := Lib.hid (own_below Hr4.out hb5)
        have Hb5 := Lib.hid (Hb4.out.trans (hb5.mono Hb4.out.size))
        have HE5 := Lib.hid (blk HE4.out hb5)
        have Hl5 := Lib.hid (show (formB nm).length ≤ 10000100 from by rw [← Hpe.out]; exact Hpl.out 3 Hm.out)
        have HF1 := Lib.hid (show F (3 + 1) = F 3 ++ formB nm from by rw [← Hpe.out]; exact HFin.out 3 Hm.out)
        clear hu5 hb5 hB5 g0 g1 g2 g3 g4 g5 g6 g7 g8 g9 g10
        generalize formB nm = P at *
        go_wp2_with (at_builtin; refine wpList_append_bytes _ rfl _ _ 28 rfl w.heap.size 5 Tryz.underlying28 info_u8 _ _ _ rfl Hr5.out p5 _ cp5 P rfl HB5'.out (by have := Hn.out; have := Hl5.out; omega) Hb5.out.size ?_; intro v9 w9 g1 g2)
        have Hs9 := Lib.hid (show w9.ownsRow w.heap.size 5 1 v9 (F (3 + 1)).length (u8s (F (3 + 1))) from by rw [HF1.out, List.length_append]; exact g1)
        have Hb9 := Lib.hid (Hb5.out.grown g2 Hb5.out.size (fun k hk => (Hr5.out.lt k hk).1))
        have HE9 := Lib.hid (grown_keep g2 HE5.out (row_ne Hr5.out HE5.out (by decide)))
        have Hn9 := Lib.hid (show (F (3 + 1)).length ≤ 20 + (3 + 1) * 10000100 from by rw [HF1.out, List.length_append]; have := Hn.out; have := Hl5.out; omega)
        clear g1 g2
        go_roundw
        case rel => exact ⟨3 + 1, by omega, rfl, Hs9.out, Hn9.out, HE9.out, Hb9.out⟩
        case measure => simp [intOf]
      · rw [decide_eq_false hm] at HH
        have HF1 := Lib.hid (HFout.out 3 hm)
        clear hm hj
        go_wp2_with fail
        refine HH.out.mono ?_
        rintro r w4 ⟨rfl, hb4⟩
        have HE4 := Lib.hid (blk HE.out hb4)
        have Hr4 := Lib.hid (own_below Hr0.out hb4)
        have Hb4 := Lib.hid (Hb.out.trans (hb4.mono Hb.out.size))
        clear hb4 g0
        go_wp2
        go_roundw
        case rel => exact ⟨3 + 1, by omega, rfl, by rw [HF1.out]; exact Hr4.out, by rw [HF1.out]; have := Hn.out; omega, HE4.out, Hb4.out⟩
        case measure => simp [intOf]
    · have HH := Lib.hid (has_any (kk : Int) 116 (by omega) wr)
      rw [show decide (116 ∈ evL (kk : Int)) = decide (4 ∈ evFields (kk : Int)) from decide_eq_decide.2 (lett_mem (i := 4) (by omega))] at HH
      obtain ⟨g0, g1, g2, g3, g4, g5, g6, g7, g8, g9, g10⟩ := box11 hE
      clear hE g1 g2 g3 g4 g5 g6 g7 g8 g9 g10
      by_cases hm : 4 ∈ evFields (kk : Int)
      · rw [decide_eq_true hm] at HH
        have Hm := Lib.hid hm
        clear hm hj
        go_wp2_with fail
        refine HH.out.mono ?_
        rintro r w4 ⟨rfl, hb4⟩
        have HE4 := Lib.hid (blk HE.out hb4)
        have Hr4 := Lib.hid (own_below Hr0.out hb4)
        have Hb4 := Lib.hid (Hb.out.trans (hb4.mono Hb.out.size))
        obtain ⟨g0, g1, g2, g3, g4, g5, g6, g7, g8, g9, g10⟩ := box11 HE4.out
        clear hb4
        have h1 := Hr.out.2.2.1 (Hrt.out 4 Hm.out)
        obtain ⟨cq, wq, hcv, hBq, hbq⟩ := bytes_of_str tx w4 HB6.out.1 (by omega)
        have HC := Lib.hid (rbytesF_any _ _ cq tx wq hBq (by omega))
        clear h1 hBq
        go_wp2_with fail
        refine HC.out.mono ?_
        rintro r w5 ⟨u5, rfl, hu5, hb50⟩
        have hb5 := hbq.trans (hb50.mono hbq.size)
        obtain ⟨p5, cp5, rfl, hB5⟩ := own_slice hu5 (formB_byte HB6.out.1)
        clear hb50 hbq
        have Hpe := Lib.hid (show pieceE ee 4 = formB tx from Hp.out.2.2.2.2.1)
        have HB5' := Lib.hid hB5
        have Hr5 := Lib.hid (own_below Hr4.out hb5)
        have Hb5 := Lib.hid (Hb4.out.trans (hb5.mono Hb4.out.size))
        have HE5 := Lib.hid (blk HE4.out hb5)
        have Hl5 := Lib.hid (show (formB tx).length ≤ 10000100 from by rw [← Hpe.out]; exact Hpl.out 4 Hm.out)
        have HF1 := Lib.hid (show F (4 + 1) = F 4 ++ formB tx from by rw [← Hpe.out]; exact HFin.out 4 Hm.out)
        clear hu5 hb5 hB5 g0 g1 g2 g3 g4 g5 g6 g7 g8 g9 g10
        generalize formB tx = P at *
        go_wp2_with (at_builtin; refine wpList_append_bytes _ rfl _ _ 28 rfl w.heap.size 5 Tryz.underlying28 info_u8 _ _ _ rfl Hr5.out p5 _ cp5 P rfl HB5'.out (by have := Hn.out; have := Hl5.out; omega) Hb5.out.size ?_; intro v9 w9 g1 g2)
        have Hs9 := Lib.hid (show w9.ownsRow w.heap.size 5 1 v9 (F (4 + 1)).length (u8s (F (4 + 1))) from by rw [HF1.out, List.length_append]; exact g1)
        have Hb9 := Lib.hid (Hb5.out.grown g2 Hb5.out.size (fun k hk => (Hr5.out.lt k hk).1))
        have HE9 := Lib.hid (grown_keep g2 HE5.out (row_ne Hr5.out HE5.out (by decide)))
        have Hn9 := Lib.hid (show (F (4 + 1)).length ≤ 20 + (4 + 1) * 10000100 from by rw [HF1.out, List.length_append]; have := Hn.out; have := Hl5.out; omega)
        clear g1 g2
        go_roundw
        case rel => exact ⟨4 + 1, by omega, rfl, Hs9.out, Hn9.out, HE9.out, Hb9.out⟩
        case measure => simp [intOf]
      · rw [decide_eq_false hm] at HH
        have HF1 := Lib.hid (HFout.out 4 hm)
        clear hm hj
        go_wp2_with fail
        refine HH.out.mono ?_
        rintro r w4 ⟨rfl, hb4⟩
        have HE4 := Lib.hid (blk HE.out hb4)
        have Hr4 := Lib.hid (own_below Hr0.out hb4)
        have Hb4 := Lib.hid (Hb.out.trans (hb4.mono Hb.out.size))
        clear hb4 g0
        go_wp2
        go_roundw
        case rel => exact ⟨4 + 1, by omega, rfl, by rw [HF1.out]; exact Hr4.out, by rw [HF1.out]; have := Hn.out; omega, HE4.out, Hb4.out⟩
        case measure => simp [intOf]
    · have HH := Lib.hid (has_any (kk : Int) 118 (by omega) wr)
      rw [show decide (118 ∈ evL (kk : Int)) = decide (5 ∈ evFields (kk : Int)) from decide_eq_decide.2 (lett_mem (i := 5) (by omega))] at HH
      obtain ⟨g0, g1, g2, g3, g4, g5, g6, g7, g8, g9, g10⟩ := box11 hE
      clear hE g1 g2 g3 g4 g5 g6 g7 g8 g9 g10
      by_cases hm : 5 ∈ evFields (kk : Int)
      · rw [decide_eq_true hm] at HH
        have Hm := Lib.hid hm
        clear hm hj
        go_wp2_with fail
        refine HH.out.mono ?_
        rintro r w4 ⟨rfl, hb4⟩
        have HE4 := Lib.hid (blk HE.out hb4)
        have Hr4 := Lib.hid (own_below Hr0.out hb4)
        have Hb4 := Lib.hid (Hb.out.trans (hb4.mono Hb.out.size))
        obtain ⟨g0, g1, g2, g3, g4, g5, g6, g7, g8, g9, g10⟩ := box11 HE4.out
        clear hb4
        have h1 := Hr.out.2.2.2 (Hrt.out 5 Hm.out)
        have H1 := Lib.hid h1
        have HC := Lib.hid (rbytesV_any v _ w4 (HV.out.below Hb4.out) Hlv.out.1 Hlv.out.2)
        unfold cells5 at HC
        clear h1
        go_wp2_with fail
        refine HC.out.mono ?_
        rintro r w5 (⟨h0, _⟩ | ⟨_, u5, rfl, hu5, hb5⟩)
        · rw [H1.out] at h0; cases h0
        obtain ⟨p5, cp5, rfl, hB5⟩ := own_slice hu5 (fun c hc => Hbyte.out 5 c (by rw [Hp.out.2.2.2.2.2]; exact hc))
        have Hpe := Lib.hid (show pieceE ee 5 = formV v from Hp.out.2.2.2.2.2)
        have HB5' := Lib.hid hB5
        have Hr5 := Lib.hid (own_below Hr4.out hb5)
        have Hb5 := Lib.hid (Hb4.out.trans (hb5.mono Hb4.out.size))
        have HE5 := Lib.hid (blk HE4.out hb5)
        have Hl5 := Lib.hid (show (formV v).length ≤ 10000100 from by rw [← Hpe.out]; exact Hpl.out 5 Hm.out)
        have HF1 := Lib.hid (show F (5 + 1) = F 5 ++ formV v from by rw [← Hpe.out]; exact HFin.out 5 Hm.out)
        clear hu5 hb5 hB5 g0 g1 g2 g3 g4 g5 g6 g7 g8 g9 g10
        generalize formV v = P at *
        go_wp2_with (at_builtin; refine wpList_append_bytes _ rfl _ _ 28 rfl w.heap.size 5 Tryz.underlying28 info_u8 _ _ _ rfl Hr5.out p5 _ cp5 P rfl HB5'.out (by have := Hn.out; have := Hl5.out; omega) Hb5.out.size ?_; intro v9 w9 g1 g2)
        have Hs9 := Lib.hid (show w9.ownsRow w.heap.size 5 1 v9 (F (5 + 1)).length (u8s (F (5 + 1))) from by rw [HF1.out, List.length_append]; exact g1)
        have Hb9 := Lib.hid (Hb5.out.grown g2 Hb5.out.size (fun k hk => (Hr5.out.lt k hk).1))
        have HE9 := Lib.hid (grown_keep g2 HE5.out (row_ne Hr5.out HE5.out (by decide)))
        have Hn9 := Lib.hid (show (F (5 + 1)).length ≤ 20 + (5 + 1) * 10000100 from by rw [HF1.out, List.length_append]; have := Hn.out; have := Hl5.out; omega)
        clear g1 g2
        go_roundw
        case rel => exact ⟨5 + 1, by omega, rfl, Hs9.out, Hn9.out, HE9.out, Hb9.out⟩
        case measure => simp [intOf]
      · rw [decide_eq_false hm] at HH
        have HF1 := Lib.hid (HFout.out 5 hm)
        clear hm hj
        go_wp2_with fail
        refine HH.out.mono ?_
        rintro r w4 ⟨rfl, hb4⟩
        have HE4 := Lib.hid (blk HE.out hb4)
        have Hr4 := Lib.hid (own_below Hr0.out hb4)
        have Hb4 := Lib.hid (Hb.out.trans (hb4.mono Hb.out.size))
        clear hb4 g0
        go_wp2
        go_roundw
        case rel => exact ⟨5 + 1, by omega, rfl, by rw [HF1.out]; exact Hr4.out, by rw [HF1.out]; have := Hn.out; omega, HE4.out, Hb4.out⟩
        case measure => simp [intOf]
    · clear hE
      go_wp2
      go_ret
      exact ⟨_, rfl, Hr0.out, Hb.out⟩
end Go.Proofs.YtcapbaocchaenaaGreatDoor

/- The walks of the reference's Bytes and Text of an event. -/
namespace Go.Proofs.YtcapbaocchaenaaGreatDoor
open Go.RowKit Go.Shelf Fl

set_option maxRecDepth 100000 in
theorem rbytes11_any (e : Ev) (x : Array Value) (w : World) (h : EvIn w e x) (hlen : okE e = true → (formV e.v).length ≤ 10000000) (hsl : okE e = true → ∀ u ∈ preV e.v, u.s.length ≤ 1000000) :
    Calls Tryz.prog 28 #[.agg x] w (EBytesEnd w e) := by
  obtain ⟨_, _, _, _, _, _, a, cap, hx, _⟩ := id h
  have hal := (Below.refl w.heap.size w).alloc (Nat.le_refl _) (.cells (evC e.k e.id e.n e.t e.nm e.tx e.v.kind e.v.n e.v.f e.v.s a e.v.l.length cap) 45)
  have HE0 := Lib.hid (heap_alloc_new w (.cells (evC e.k e.id e.n e.t e.nm e.tx e.v.kind e.v.n e.v.f e.v.s a e.v.l.length cap) 45))
  have HV := Lib.hid (fun W (hW : Below w.heap.size w W) => rvalid11_any e x W (h.below hW))
  have HF := Lib.hid (fun W (hW : Below w.heap.size w W) (ho : okE e = true) => rform11_any e x W (h.below hW) ho (hlen ho) (hsl ho))
  have Hal := Lib.hid hal
  subst hx
  clear h hlen hsl hal
  go_enter Tryz.func28, Tryz.ntmps28
  go_wp2_with fail
  refine (HV.out _ Hal.out).mono ?_
  rintro r w1 ⟨rfl, hb1⟩
  have HE1 := Lib.hid (blk HE0.out hb1)
  have Hb1 := Lib.hid (Hal.out.trans (hb1.mono Hal.out.size))
  obtain ⟨g0, g1, g2, g3, g4, g5, g6, g7, g8, g9, g10⟩ := box11 HE1.out
  clear hb1
  cases hok : okE e with
  | false =>
    have Hok := Lib.hid hok
    clear hok
    go_wp2
    refine bodyPost_ret (v := .tuple #[.slice none 0 0, .bool false]) (by simp [results, Tryz.results28, go_sem, *]) rfl (.inl ⟨Hok.out, rfl, Hb1.out⟩)
  | true =>
    have Hok := Lib.hid hok
    clear hok
    go_wp2_with fail
    refine (HF.out _ Hb1.out Hok.out).mono ?_
    rintro r w2 ⟨u, rfl, hu, hb2⟩
    have Hu := Lib.hid (own_base hu Hb1.out.size)
    have Hb2 := Lib.hid (Hb1.out.trans (hb2.mono Hb1.out.size))
    clear hu hb2
    go_wp2
    refine bodyPost_ret (v := .tuple #[u, .bool true]) (by simp [results, Tryz.results28, go_sem, *]) rfl (.inr ⟨Hok.out, u, rfl, Hu.out, Hb2.out⟩)

set_option maxRecDepth 100000 in
theorem runsigned11_any (N : Nat) (w : World) (hN : N < 18446744073709551616) :
    Calls Tryz.prog 37 #[.int .u64 (N : Int)] w fun e w' => e = .returned (.string (str (decD N))) ∧ w = w' := by
  have HD := Lib.hid (rdigits_any N w hN)
  generalize decD N = D at *
  clear hN
  go_enter Tryz.func37, Tryz.ntmps37
  go_wp2_with fail
  refine HD.out.mono ?_
  rintro r w1 ⟨rfl, rfl⟩
  go_wp2
  go_ret
  exact ⟨rfl, rfl⟩

set_option maxRecDepth 100000 in
theorem rquoted_any (s : List Nat) (w : World) (hb : ∀ c ∈ s, c < 256) (hl : s.length ≤ 9223372036854775807) (hlen : (quoteL s).length ≤ 1000000) :
    Calls Tryz.prog 71 #[.string (str s)] w fun e w' => e = .returned (.string (str (quoteL s))) ∧ Below w.heap.size w w' := by
  have HT := Lib.hid (rvtext_any (.mk 3 0 0 s []) _ w hlen (quote_in s w hb hl))
  unfold cells5 at HT
  unfold quoteL
  generalize textB (.mk 3 0 0 s []) = res at *
  clear hb hl hlen
  go_enter Tryz.func71, Tryz.ntmps71
  go_wp2_with fail
  refine HT.out.mono ?_
  rintro e w1 ⟨rfl, hb⟩
  have Hb := Lib.hid hb
  clear hb
  go_wp2
  go_ret
  exact ⟨rfl, Hb.out⟩

/-- The words of the fields before j. -/
def upT (e : Ev) (j : Nat) : List Nat := wordsT (wordE e) ((List.range j).filter (fun i => decide (i ∈ evFields e.k)))
theorem upT_succ (e : Ev) (j : Nat) : upT e (j + 1) = upT e j ++ (if j ∈ evFields e.k then 32 :: wordE e j else []) := by
  unfold upT wordsT
  rw [List.range_succ, List.filter_append, List.map_append, List.flatten_append]
  congr 1
  by_cases h : j ∈ evFields e.k
  · simp [h]
  · simp [h]
theorem upT_six (e : Ev) : upT e 6 = wordsT (wordE e) (evFields e.k) := by
  unfold upT
  rw [fields_filter]

set_option maxRecDepth 100000 in
set_option maxHeartbeats 12800000 in
theorem rtext11_any (e : Ev) (x : Array Value) (w : World) (h : EvIn w e x) (hlen : ∀ i, (wordE e i).length ≤ 1000000) :
    Calls Tryz.prog 38 #[.agg x] w fun r w' => r = .returned (.string (str (textE e))) ∧ Below w.heap.size w w' := by
  have HV := Lib.hid (fun W (hW : Below w.heap.size w W) => rvalid11_any e x W (h.below hW))
  cases hok : okE e with
  | false =>
    have ht : textE e = [] := by unfold textE; rw [hok]; rfl
    rw [ht]
    rw [hok] at HV
    obtain ⟨_, _, _, _, _, _, a, cap, hx, _⟩ := h
    have Hal := Lib.hid ((Below.refl w.heap.size w).alloc (Nat.le_refl _) (.cells (evC e.k e.id e.n e.t e.nm e.tx e.v.kind e.v.n e.v.f e.v.s a e.v.l.length cap) 45))
    subst hx
    clear hok ht hlen
    go_enter Tryz.func38, Tryz.ntmps38
    go_wp2_with fail
    refine (HV.out _ Hal.out).mono ?_
    rintro r w1 ⟨rfl, hb1⟩
    have Hb1 := Lib.hid (Hal.out.trans (hb1.mono Hal.out.size))
    clear hb1
    go_wp2
    go_ret
    exact ⟨rfl, Hb1.out⟩
  | true =>
    obtain ⟨G, hG⟩ : ∃ G : Nat → List Nat, G = fun j => evName e.k ++ upT e j := ⟨_, rfl⟩
    have ht : textE e = G 6 := by unfold textE; rw [hok, hG]; simp only [upT_six]; rfl
    have hG0 : G 0 = evName e.k := by rw [hG]; simp [upT, wordsT]
    have HGin := Lib.hid (show ∀ j, j ∈ evFields e.k → G (j + 1) = G j ++ 32 :: wordE e j from fun j h => by rw [hG]; simp only [upT_succ]; rw [if_pos h, ← List.append_assoc])
    have HGout := Lib.hid (show ∀ j, j ∉ evFields e.k → G (j + 1) = G j from fun j h => by rw [hG]; simp only [upT_succ]; rw [if_neg h, List.append_nil])
    have hGl : ∀ j, j ≤ 6 → (G j).length ≤ 20 + j * 1000001 := by
      intro j
      induction j with
      | zero => intro _; rw [hG0]; unfold evName; (repeat' split) <;> simp
      | succ j ih =>
        intro hj
        have h1 := ih (by omega)
        by_cases hm : j ∈ evFields e.k
        · rw [HGin.out j hm, List.length_append, List.length_cons]
          have := hlen j
          omega
        · rw [HGout.out j hm]
          exact Nat.le_trans h1 (Nat.add_le_add_left (Nat.mul_le_mul_right _ (Nat.le_succ j)) _)
    have HGl := Lib.hid hGl
    have Hrt := Lib.hid (fun i hi => okE_right hok (i := i) hi)
    rw [ht]
    rw [hok] at HV
    clear hok ht hG hGl
    obtain ⟨k, id, n, t, nm, tx, v⟩ := e
    obtain ⟨b1, b2, b3, b4, b5, b6, a, cap, rfl, hv⟩ := h
    change -9223372036854775808 ≤ k ∧ k ≤ 9223372036854775807 at b1
    change id < 18446744073709551616 at b2
    change -9223372036854775808 ≤ n ∧ n ≤ 9223372036854775807 at b3
    change t < 18446744073709551616 at b4
    change (∀ c ∈ nm, c < 256) ∧ nm.length ≤ 9223372036854775807 at b5
    change (∀ c ∈ tx, c < 256) ∧ tx.length ≤ 9223372036854775807 at b6
    change VIn w v (cells5 v.kind v.n v.f v.s a v.l.length cap) at hv
    have HV2 := Lib.hid (show ∀ W, Below w.heap.size w W → Calls Tryz.prog 54 #[.agg (evC k id n t nm tx v.kind v.n v.f v.s a v.l.length cap)] W fun r w' => r = .returned (.bool true) ∧ Below W.heap.size W w' from HV.out)
    have hal := (Below.refl w.heap.size w).alloc (Nat.le_refl _) (.cells (evC k id n t nm tx v.kind v.n v.f v.s a v.l.length cap) 45)
    have HE0 := Lib.hid (heap_alloc_new w (.cells (evC k id n t nm tx v.kind v.n v.f v.s a v.l.length cap) 45))
    have Hal := Lib.hid hal
    have HVv := Lib.hid hv
    have HB2 := Lib.hid b2
    have HB4 := Lib.hid b4
    have HB5 := Lib.hid b5
    have HB6 := Lib.hid b6
    obtain ⟨ee, hee⟩ : ∃ ee : Ev, ee = ⟨k, id, n, t, nm, tx, v⟩ := ⟨_, rfl⟩
    have hp0 : wordE ee 0 = decD id := by rw [hee]; rfl
    have hp1 : wordE ee 1 = decL n := by rw [hee]; rfl
    have hp2 : wordE ee 2 = decD t := by rw [hee]; rfl
    have hp3 : wordE ee 3 = quoteL nm := by rw [hee]; rfl
    have hp4 : wordE ee 4 = quoteL tx := by rw [hee]; rfl
    have hp5 : wordE ee 5 = textB v := by rw [hee]; rfl
    have hr1 : rightE ee 1 = true → 1 ≤ n ∧ n ≤ 2147483647 := fun h => by rw [hee] at h; simpa [rightE] using h
    have hke : ee.k = k := by rw [hee]
    rw [← hee] at HGin HGout Hrt hlen
    rw [hke] at HGin HGout Hrt
    have hG0' : G 0 = evName k := hG0
    have Hp := Lib.hid (And.intro hp0 (And.intro hp1 (And.intro hp2 (And.intro hp3 (And.intro hp4 hp5)))))
    have Hr1 := Lib.hid hr1
    have Hlen := Lib.hid hlen
    have HN := Lib.hid (fun W => rname11_any k W)
    rw [← hG0'] at HN
    have Hb3 := Lib.hid b3
    clear hee hp0 hp1 hp2 hp3 hp4 hp5 hr1 hke hal hv b1 b2 b3 b4 b5 b6 hG0 hG0' HV hlen
    have hs0 := fun j => str_size (G j)
    go_enter Tryz.func38, Tryz.ntmps38
    go_wp2_with fail
    refine (HV2.out _ Hal.out).mono ?_
    rintro r w1 ⟨rfl, hb1⟩
    have HE1 := Lib.hid (blk HE0.out hb1)
    have Hb1 := Lib.hid (Hal.out.trans (hb1.mono Hal.out.size))
    obtain ⟨g0, g1, g2, g3, g4, g5, g6, g7, g8, g9, g10⟩ := box11 HE1.out
    clear hb1
    go_wp2_with fail
    refine (HN.out _).mono ?_
    rintro r w2 ⟨rfl, hb2⟩
    have HE2 := Lib.hid (blk HE1.out hb2)
    have Hb2 := Lib.hid (Hb1.out.trans (hb2.mono Hb1.out.size))
    clear hb2 g0 g1 g2 g3 g4 g5 g6 g7 g8 g9 g10 HE0 HE1 Hb1 Hal HN HV2
    have HH0 := Lib.hid (has_any k 105 (by omega) w2)
    rw [show decide (105 ∈ evL k) = decide (0 ∈ evFields k) from decide_eq_decide.2 (lett_mem (i := 0) (by omega))] at HH0
    have HF0 := Lib.hid (show (decide (0 ∈ evFields k) = true → 0 ∈ evFields k) ∧ (decide (0 ∈ evFields k) = false → 0 ∉ evFields k) from ⟨of_decide_eq_true, of_decide_eq_false⟩)
    generalize decide (0 ∈ evFields k) = q0 at *
    have hg00 := (box11 HE2.out).1
    go_wp2_with fail
    refine HH0.out.mono ?_
    rintro r w10 ⟨rfl, hb3⟩
    have HE10 := Lib.hid (blk HE2.out hb3)
    have Hb10 := Lib.hid (Hb2.out.trans (hb3.mono Hb2.out.size))
    clear hb3 hg00 HH0
    go_upto_if 12 with fail
    go_cut [3] (fun t3 wx => t3 = .string (str (G (0 + 1))) ∧ wx.heap[w.heap.size]? = some (.cells (evC k id n t nm tx v.kind v.n v.f v.s a v.l.length cap) 45 (0, 0)) ∧ Below w.heap.size w wx)
    case first =>
      cases q0
      · have he := HGout.out 0 (HF0.out.2 rfl)
        have He := Lib.hid he
        clear he
        go_wp2
        go_meet
        exact ⟨by rw [He.out], HE10.out, Hb10.out⟩
      · have hm := HF0.out.1 rfl
        have he := HGin.out 0 hm
        have hwl := Hlen.out 0
        obtain ⟨g0, g1, g2, g3, g4, g5, g6, g7, g8, g9, g10⟩ := box11 HE10.out
        have HC := Lib.hid ((runsigned11_any id w10 HB2.out).mono (R' := fun r w' => r = .returned (.string (str (decD id))) ∧ Below w10.heap.size w10 w') (fun r w' h => ⟨h.1, by rw [← h.2]; exact Below.refl _ _⟩))
        rw [Hp.out.1] at he hwl
        have hgl := HGl.out 0 (by omega)
        have hz1 := hs0 0
        have hs1 : str (G 0) ++ (⟨#[32]⟩ : ByteArray) = str (G 0 ++ [32]) := str_append (G 0) [32]
        have hz2 := str_size (G 0 ++ [32])
        have hs2 : str (G 0 ++ [32]) ++ str (decD id) = str (G (0 + 1)) := by rw [he, str_append, List.append_assoc]; rfl
        have hz3 := str_size (decD id)
        have hl32 : (G 0 ++ [32]).length = (G 0).length + 1 := by rw [List.length_append]; rfl
        clear he hm
        generalize decD id = P at *
        go_wp2_with fail
        refine HC.out.mono ?_
        rintro r w9 ⟨rfl, hb9⟩
        have HE9 := Lib.hid (blk HE10.out hb9)
        have Hb9 := Lib.hid (Hb10.out.trans (hb9.mono Hb10.out.size))
        clear hb9 g0 g1 g2 g3 g4 g5 g6 g7 g8 g9 g10
        go_wp2
        go_meet
        exact ⟨rfl, HE9.out, Hb9.out⟩
    case rest =>
    obtain ⟨rfl, hE, hb⟩ := hcut
    have HE11 := Lib.hid hE
    have Hb11 := Lib.hid hb
    clear hE hb
    obtain ⟨w11, hwc⟩ : ∃ x, x = wc := ⟨_, rfl⟩
    rw [← hwc] at HE11 Hb11 ⊢
    clear hwc
    have HH1 := Lib.hid (has_any k 110 (by omega) w11)
    rw [show decide (110 ∈ evL k) = decide (1 ∈ evFields k) from decide_eq_decide.2 (lett_mem (i := 1) (by omega))] at HH1
    have HF1 := Lib.hid (show (decide (1 ∈ evFields k) = true → 1 ∈ evFields k) ∧ (decide (1 ∈ evFields k) = false → 1 ∉ evFields k) from ⟨of_decide_eq_true, of_decide_eq_false⟩)
    generalize decide (1 ∈ evFields k) = q1 at *
    have hg01 := (box11 HE11.out).1
    go_wp2_with fail
    refine HH1.out.mono ?_
    rintro r w13 ⟨rfl, hb3⟩
    have HE13 := Lib.hid (blk HE11.out hb3)
    have Hb13 := Lib.hid (Hb11.out.trans (hb3.mono Hb11.out.size))
    clear hb3 hg01 HH1
    go_upto_if 21 with fail
    go_cut [3] (fun t3 wx => t3 = .string (str (G (1 + 1))) ∧ wx.heap[w.heap.size]? = some (.cells (evC k id n t nm tx v.kind v.n v.f v.s a v.l.length cap) 45 (0, 0)) ∧ Below w.heap.size w wx)
    case first =>
      cases q1
      · have he := HGout.out 1 (HF1.out.2 rfl)
        have He := Lib.hid he
        clear he
        go_wp2
        go_meet
        exact ⟨by rw [He.out], HE13.out, Hb13.out⟩
      · have hm := HF1.out.1 rfl
        have he := HGin.out 1 hm
        have hwl := Hlen.out 1
        obtain ⟨g0, g1, g2, g3, g4, g5, g6, g7, g8, g9, g10⟩ := box11 HE13.out
        have h1 := Hr1.out (Hrt.out 1 hm)
        obtain ⟨m, hnm⟩ : ∃ m : Nat, n = (m : Int) := ⟨n.toNat, by omega⟩
        have hwm : IntKind.u64.wrap n = (m : Int) := by rw [hnm, IntKind.wrap_u64]; omega
        have hdm : decL n = decD m := by unfold decL; rw [hnm, if_neg (by omega), Int.natAbs_natCast]
        have HC := Lib.hid ((runsigned11_any m w13 (by omega)).mono (R' := fun r w' => r = .returned (.string (str (decL n))) ∧ Below w13.heap.size w13 w') (fun r w' h => ⟨by rw [hdm]; exact h.1, by rw [← h.2]; exact Below.refl _ _⟩))
        clear h1 hdm hnm
        rw [Hp.out.2.1] at he hwl
        have hgl := HGl.out 1 (by omega)
        have hz1 := hs0 1
        have hs1 : str (G 1) ++ (⟨#[32]⟩ : ByteArray) = str (G 1 ++ [32]) := str_append (G 1) [32]
        have hz2 := str_size (G 1 ++ [32])
        have hs2 : str (G 1 ++ [32]) ++ str (decL n) = str (G (1 + 1)) := by rw [he, str_append, List.append_assoc]; rfl
        have hz3 := str_size (decL n)
        have hl32 : (G 1 ++ [32]).length = (G 1).length + 1 := by rw [List.length_append]; rfl
        clear he hm
        generalize decL n = P at *
        go_wp2_with fail
        refine HC.out.mono ?_
        rintro r w9 ⟨rfl, hb9⟩
        have HE9 := Lib.hid (blk HE13.out hb9)
        have Hb9 := Lib.hid (Hb13.out.trans (hb9.mono Hb13.out.size))
        clear hb9 g0 g1 g2 g3 g4 g5 g6 g7 g8 g9 g10
        go_wp2
        go_meet
        exact ⟨rfl, HE9.out, Hb9.out⟩
    case rest =>
    obtain ⟨rfl, hE, hb⟩ := hcut
    have HE14 := Lib.hid hE
    have Hb14 := Lib.hid hb
    clear hE hb
    obtain ⟨w14, hwc⟩ : ∃ x, x = wc := ⟨_, rfl⟩
    rw [← hwc] at HE14 Hb14 ⊢
    clear hwc
    have HH2 := Lib.hid (has_any k 97 (by omega) w14)
    rw [show decide (97 ∈ evL k) = decide (2 ∈ evFields k) from decide_eq_decide.2 (lett_mem (i := 2) (by omega))] at HH2
    have HF2 := Lib.hid (show (decide (2 ∈ evFields k) = true → 2 ∈ evFields k) ∧ (decide (2 ∈ evFields k) = false → 2 ∉ evFields k) from ⟨of_decide_eq_true, of_decide_eq_false⟩)
    generalize decide (2 ∈ evFields k) = q2 at *
    have hg02 := (box11 HE14.out).1
    go_wp2_with fail
    refine HH2.out.mono ?_
    rintro r w16 ⟨rfl, hb3⟩
    have HE16 := Lib.hid (blk HE14.out hb3)
    have Hb16 := Lib.hid (Hb14.out.trans (hb3.mono Hb14.out.size))
    clear hb3 hg02 HH2
    go_upto_if 31 with fail
    go_cut [3] (fun t3 wx => t3 = .string (str (G (2 + 1))) ∧ wx.heap[w.heap.size]? = some (.cells (evC k id n t nm tx v.kind v.n v.f v.s a v.l.length cap) 45 (0, 0)) ∧ Below w.heap.size w wx)
    case first =>
      cases q2
      · have he := HGout.out 2 (HF2.out.2 rfl)
        have He := Lib.hid he
        clear he
        go_wp2
        go_meet
        exact ⟨by rw [He.out], HE16.out, Hb16.out⟩
      · have hm := HF2.out.1 rfl
        have he := HGin.out 2 hm
        have hwl := Hlen.out 2
        obtain ⟨g0, g1, g2, g3, g4, g5, g6, g7, g8, g9, g10⟩ := box11 HE16.out
        have HC := Lib.hid ((runsigned11_any t w16 HB4.out).mono (R' := fun r w' => r = .returned (.string (str (decD t))) ∧ Below w16.heap.size w16 w') (fun r w' h => ⟨h.1, by rw [← h.2]; exact Below.refl _ _⟩))
        rw [Hp.out.2.2.1] at he hwl
        have hgl := HGl.out 2 (by omega)
        have hz1 := hs0 2
        have hs1 : str (G 2) ++ (⟨#[32]⟩ : ByteArray) = str (G 2 ++ [32]) := str_append (G 2) [32]
        have hz2 := str_size (G 2 ++ [32])
        have hs2 : str (G 2 ++ [32]) ++ str (decD t) = str (G (2 + 1)) := by rw [he, str_append, List.append_assoc]; rfl
        have hz3 := str_size (decD t)
        have hl32 : (G 2 ++ [32]).length = (G 2).length + 1 := by rw [List.length_append]; rfl
        clear he hm
        generalize decD t = P at *
        go_wp2_with fail
        refine HC.out.mono ?_
        rintro r w9 ⟨rfl, hb9⟩
        have HE9 := Lib.hid (blk HE16.out hb9)
        have Hb9 := Lib.hid (Hb16.out.trans (hb9.mono Hb16.out.size))
        clear hb9 g0 g1 g2 g3 g4 g5 g6 g7 g8 g9 g10
        go_wp2
        go_meet
        exact ⟨rfl, HE9.out, Hb9.out⟩
    case rest =>
    obtain ⟨rfl, hE, hb⟩ := hcut
    have HE17 := Lib.hid hE
    have Hb17 := Lib.hid hb
    clear hE hb
    obtain ⟨w17, hwc⟩ : ∃ x, x = wc := ⟨_, rfl⟩
    rw [← hwc] at HE17 Hb17 ⊢
    clear hwc
    have HH3 := Lib.hid (has_any k 115 (by omega) w17)
    rw [show decide (115 ∈ evL k) = decide (3 ∈ evFields k) from decide_eq_decide.2 (lett_mem (i := 3) (by omega))] at HH3
    have HF3 := Lib.hid (show (decide (3 ∈ evFields k) = true → 3 ∈ evFields k) ∧ (decide (3 ∈ evFields k) = false → 3 ∉ evFields k) from ⟨of_decide_eq_true, of_decide_eq_false⟩)
    generalize decide (3 ∈ evFields k) = q3 at *
    have hg03 := (box11 HE17.out).1
    go_wp2_with fail
    refine HH3.out.mono ?_
    rintro r w19 ⟨rfl, hb3⟩
    have HE19 := Lib.hid (blk HE17.out hb3)
    have Hb19 := Lib.hid (Hb17.out.trans (hb3.mono Hb17.out.size))
    clear hb3 hg03 HH3
    go_upto_if 40 with fail
    go_cut [3] (fun t3 wx => t3 = .string (str (G (3 + 1))) ∧ wx.heap[w.heap.size]? = some (.cells (evC k id n t nm tx v.kind v.n v.f v.s a v.l.length cap) 45 (0, 0)) ∧ Below w.heap.size w wx)
    case first =>
      cases q3
      · have he := HGout.out 3 (HF3.out.2 rfl)
        have He := Lib.hid he
        clear he
        go_wp2
        go_meet
        exact ⟨by rw [He.out], HE19.out, Hb19.out⟩
      · have hm := HF3.out.1 rfl
        have he := HGin.out 3 hm
        have hwl := Hlen.out 3
        obtain ⟨g0, g1, g2, g3, g4, g5, g6, g7, g8, g9, g10⟩ := box11 HE19.out
        have HC := Lib.hid (rquoted_any nm w19 HB5.out.1 HB5.out.2 (by rw [← Hp.out.2.2.2.1]; exact hwl))
        rw [Hp.out.2.2.2.1] at he hwl
        have hgl := HGl.out 3 (by omega)
        have hz1 := hs0 3
        have hs1 : str (G 3) ++ (⟨#[32]⟩ : ByteArray) = str (G 3 ++ [32]) := str_append (G 3) [32]
        have hz2 := str_size (G 3 ++ [32])
        have hs2 : str (G 3 ++ [32]) ++ str (quoteL nm) = str (G (3 + 1)) := by rw [he, str_append, List.append_assoc]; rfl
        have hz3 := str_size (quoteL nm)
        have hl32 : (G 3 ++ [32]).length = (G 3).length + 1 := by rw [List.length_append]; rfl
        clear he hm
        generalize quoteL nm = P at *
        go_wp2_with fail
        refine HC.out.mono ?_
        rintro r w9 ⟨rfl, hb9⟩
        have HE9 := Lib.hid (blk HE19.out hb9)
        have Hb9 := Lib.hid (Hb19.out.trans (hb9.mono Hb19.out.size))
        clear hb9 g0 g1 g2 g3 g4 g5 g6 g7 g8 g9 g10
        go_wp2
        go_meet
        exact ⟨rfl, HE9.out, Hb9.out⟩
    case rest =>
    obtain ⟨rfl, hE, hb⟩ := hcut
    have HE20 := Lib.hid hE
    have Hb20 := Lib.hid hb
    clear hE hb
    obtain ⟨w20, hwc⟩ : ∃ x, x = wc := ⟨_, rfl⟩
    rw [← hwc] at HE20 Hb20 ⊢
    clear hwc
    have HH4 := Lib.hid (has_any k 116 (by omega) w20)
    rw [show decide (116 ∈ evL k) = decide (4 ∈ evFields k) from decide_eq_decide.2 (lett_mem (i := 4) (by omega))] at HH4
    have HF4 := Lib.hid (show (decide (4 ∈ evFields k) = true → 4 ∈ evFields k) ∧ (decide (4 ∈ evFields k) = false → 4 ∉ evFields k) from ⟨of_decide_eq_true, of_decide_eq_false⟩)
    generalize decide (4 ∈ evFields k) = q4 at *
    have hg04 := (box11 HE20.out).1
    go_wp2_with fail
    refine HH4.out.mono ?_
    rintro r w22 ⟨rfl, hb3⟩
    have HE22 := Lib.hid (blk HE20.out hb3)
    have Hb22 := Lib.hid (Hb20.out.trans (hb3.mono Hb20.out.size))
    clear hb3 hg04 HH4
    go_upto_if 49 with fail
    go_cut [3] (fun t3 wx => t3 = .string (str (G (4 + 1))) ∧ wx.heap[w.heap.size]? = some (.cells (evC k id n t nm tx v.kind v.n v.f v.s a v.l.length cap) 45 (0, 0)) ∧ Below w.heap.size w wx)
    case first =>
      cases q4
      · have he := HGout.out 4 (HF4.out.2 rfl)
        have He := Lib.hid he
        clear he
        go_wp2
        go_meet
        exact ⟨by rw [He.out], HE22.out, Hb22.out⟩
      · have hm := HF4.out.1 rfl
        have he := HGin.out 4 hm
        have hwl := Hlen.out 4
        obtain ⟨g0, g1, g2, g3, g4, g5, g6, g7, g8, g9, g10⟩ := box11 HE22.out
        have HC := Lib.hid (rquoted_any tx w22 HB6.out.1 HB6.out.2 (by rw [← Hp.out.2.2.2.2.1]; exact hwl))
        rw [Hp.out.2.2.2.2.1] at he hwl
        have hgl := HGl.out 4 (by omega)
        have hz1 := hs0 4
        have hs1 : str (G 4) ++ (⟨#[32]⟩ : ByteArray) = str (G 4 ++ [32]) := str_append (G 4) [32]
        have hz2 := str_size (G 4 ++ [32])
        have hs2 : str (G 4 ++ [32]) ++ str (quoteL tx) = str (G (4 + 1)) := by rw [he, str_append, List.append_assoc]; rfl
        have hz3 := str_size (quoteL tx)
        have hl32 : (G 4 ++ [32]).length = (G 4).length + 1 := by rw [List.length_append]; rfl
        clear he hm
        generalize quoteL tx = P at *
        go_wp2_with fail
        refine HC.out.mono ?_
        rintro r w9 ⟨rfl, hb9⟩
        have HE9 := Lib.hid (blk HE22.out hb9)
        have Hb9 := Lib.hid (Hb22.out.trans (hb9.mono Hb22.out.size))
        clear hb9 g0 g1 g2 g3 g4 g5 g6 g7 g8 g9 g10
        go_wp2
        go_meet
        exact ⟨rfl, HE9.out, Hb9.out⟩
    case rest =>
    obtain ⟨rfl, hE, hb⟩ := hcut
    have HE23 := Lib.hid hE
    have Hb23 := Lib.hid hb
    clear hE hb
    obtain ⟨w23, hwc⟩ : ∃ x, x = wc := ⟨_, rfl⟩
    rw [← hwc] at HE23 Hb23 ⊢
    clear hwc
    have HH5 := Lib.hid (has_any k 118 (by omega) w23)
    rw [show decide (118 ∈ evL k) = decide (5 ∈ evFields k) from decide_eq_decide.2 (lett_mem (i := 5) (by omega))] at HH5
    have HF5 := Lib.hid (show (decide (5 ∈ evFields k) = true → 5 ∈ evFields k) ∧ (decide (5 ∈ evFields k) = false → 5 ∉ evFields k) from ⟨of_decide_eq_true, of_decide_eq_false⟩)
    generalize decide (5 ∈ evFields k) = q5 at *
    have hg05 := (box11 HE23.out).1
    go_wp2_with fail
    refine HH5.out.mono ?_
    rintro r w25 ⟨rfl, hb3⟩
    have HE25 := Lib.hid (blk HE23.out hb3)
    have Hb25 := Lib.hid (Hb23.out.trans (hb3.mono Hb23.out.size))
    clear hb3 hg05 HH5
    go_upto_if 58 with fail
    go_cut [3] (fun t3 wx => t3 = .string (str (G (5 + 1))) ∧ wx.heap[w.heap.size]? = some (.cells (evC k id n t nm tx v.kind v.n v.f v.s a v.l.length cap) 45 (0, 0)) ∧ Below w.heap.size w wx)
    case first =>
      cases q5
      · have he := HGout.out 5 (HF5.out.2 rfl)
        have He := Lib.hid he
        clear he
        go_wp2
        go_meet
        exact ⟨by rw [He.out], HE25.out, Hb25.out⟩
      · have hm := HF5.out.1 rfl
        have he := HGin.out 5 hm
        have hwl := Hlen.out 5
        obtain ⟨g0, g1, g2, g3, g4, g5, g6, g7, g8, g9, g10⟩ := box11 HE25.out
        have HC := Lib.hid (rvtext_any v _ w25 (by rw [← Hp.out.2.2.2.2.2]; exact hwl) (HVv.out.below Hb25.out))
        unfold cells5 at HC
        rw [Hp.out.2.2.2.2.2] at he hwl
        have hgl := HGl.out 5 (by omega)
        have hz1 := hs0 5
        have hs1 : str (G 5) ++ (⟨#[32]⟩ : ByteArray) = str (G 5 ++ [32]) := str_append (G 5) [32]
        have hz2 := str_size (G 5 ++ [32])
        have hs2 : str (G 5 ++ [32]) ++ str (textB v) = str (G (5 + 1)) := by rw [he, str_append, List.append_assoc]; rfl
        have hz3 := str_size (textB v)
        have hl32 : (G 5 ++ [32]).length = (G 5).length + 1 := by rw [List.length_append]; rfl
        clear he hm
        generalize textB v = P at *
        go_wp2_with fail
        refine HC.out.mono ?_
        rintro r w9 ⟨rfl, hb9⟩
        have HE9 := Lib.hid (blk HE25.out hb9)
        have Hb9 := Lib.hid (Hb25.out.trans (hb9.mono Hb25.out.size))
        clear hb9 g0 g1 g2 g3 g4 g5 g6 g7 g8 g9 g10
        go_wp2
        go_meet
        exact ⟨rfl, HE9.out, Hb9.out⟩
    case rest =>
    obtain ⟨rfl, hE, hb⟩ := hcut
    have HE26 := Lib.hid hE
    have Hb26 := Lib.hid hb
    clear hE hb
    obtain ⟨w26, hwc⟩ : ∃ x, x = wc := ⟨_, rfl⟩
    rw [← hwc] at HE26 Hb26 ⊢
    clear hwc
    go_wp2
    go_ret
    exact ⟨rfl, Hb26.out⟩
end Go.Proofs.YtcapbaocchaenaaGreatDoor

