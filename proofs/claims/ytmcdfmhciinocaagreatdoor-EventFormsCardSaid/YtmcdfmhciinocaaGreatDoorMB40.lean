import Derived.Test.YtmcdfmhciinocaaGreatDoorMB32
import Derived.Test.YtmcdfmhciinocaaGreatDoorMB34
import Derived.Test.YtmcdfmhciinocaaGreatDoorMB22
import Derived.Test.YtmcdfmhciinocaaGreatDoorMB15
import Derived.Test.YtmcdfmhciinocaaGreatDoorMB39
/- The walk of the reference's form of an event. -/
namespace Go.Proofs.YtmcdfmhciinocaaGreatDoor
open Go.RowKit Go.Shelf Fl

/-- The pieces of the fields before j. -/
def upE (e : Ev) (j : Nat) : List Nat := (((List.range j).filter (fun i => decide (i ∈ evFields e.k))).map (pieceE e)).flatten

theorem upE_zero (e : Ev) : upE e 0 = [] := rfl
theorem upE_succ (e : Ev) (j : Nat) : upE e (j + 1) = upE e j ++ (if j ∈ evFields e.k then pieceE e j else []) := by
  unfold upE
  rw [List.range_succ, List.filter_append, List.map_append, List.flatten_append]
  congr 1
  by_cases h : j ∈ evFields e.k
  · simp [h]
  · simp [h]
theorem fields_filter (k : Int) : (List.range 6).filter (fun i => decide (i ∈ evFields k)) = evFields k := by
  by_cases h : 1 ≤ k ∧ k ≤ 11
  · have hk : k = 1 ∨ k = 2 ∨ k = 3 ∨ k = 4 ∨ k = 5 ∨ k = 6 ∨ k = 7 ∨ k = 8 ∨ k = 9 ∨ k = 10 ∨ k = 11 := by omega
    rcases hk with rfl | rfl | rfl | rfl | rfl | rfl | rfl | rfl | rfl | rfl | rfl <;> decide
  · rw [(evName_none h).2]
    decide
theorem upE_six (e : Ev) : upE e 6 = ((evFields e.k).map (pieceE e)).flatten := by
  unfold upE
  rw [fields_filter]

set_option maxRecDepth 100000 in
set_option maxHeartbeats 12800000 in
theorem rform11_any (e : Ev) (x : Array Value) (w : World) (h : EvIn w e x) (hok : okE e = true) (hlen : (formV e.v).length ≤ 10000000) (hsl : ∀ u ∈ preV e.v, u.s.length ≤ 1000000) :
    Calls Tryz.prog 39 #[.agg x] w (NewBytes w (formE e)) := by
  obtain ⟨hk1, _⟩ := okE_parts hok
  have hrt := fun i hi => okE_right hok (i := i) hi
  have hfin := upE_six e
  have hsucc := upE_succ e
  have hfe : formE e = form 1 ++ form e.k.toNat ++ upE e 6 := by rw [hfin]; rfl
  rw [hfe]
  obtain ⟨F, hF⟩ : ∃ F : Nat → List Nat, F = fun j => form 1 ++ form e.k.toNat ++ upE e j := ⟨_, rfl⟩
  have hF0 : F 0 = form 1 ++ form e.k.toNat := by rw [hF]; simp [upE_zero]
  have HFin := Lib.hid (show ∀ j, j ∈ evFields e.k → F (j + 1) = F j ++ pieceE e j from fun j h => by rw [hF]; simp only [upE_succ]; rw [if_pos h, ← List.append_assoc])
  have HFout := Lib.hid (show ∀ j, j ∉ evFields e.k → F (j + 1) = F j from fun j h => by rw [hF]; simp only [upE_succ]; rw [if_neg h, List.append_nil])
  rw [show form 1 ++ form e.k.toNat ++ upE e 6 = F 6 from by rw [hF]]
  clear hF hfe hfin hsucc
  have hbyte : ∀ i, ∀ c ∈ pieceE e i, c < 256 := fun i c hc => by
    obtain ⟨_, _, _, _, h5, h6, a, cap, _, hv⟩ := h
    unfold pieceE at hc
    (repeat' split at hc)
    · exact form_byte _ c hc
    · exact form_byte _ c hc
    · exact form_byte _ c hc
    · exact formB_byte h5.1 c hc
    · exact formB_byte h6.1 c hc
    · exact formV_byte e.v w _ hv c hc
  have Hbyte := Lib.hid hbyte
  have Hrt := Lib.hid hrt
  have Hpl := Lib.hid (show ∀ i, i ∈ evFields e.k → (pieceE e i).length ≤ 10000100 from fun i hi => by
    have hr := hrt i hi
    have h6 := evFields_lt _ _ hi
    obtain ⟨b1, b2, b3, b4, b5, b6, _⟩ := h
    match i, h6 with
    | 0, _ => have := form_len b2; show (form e.id).length ≤ _; omega
    | 1, _ => have h1 : 1 ≤ e.n ∧ e.n ≤ 2147483647 := by simpa [rightE] using hr
              have := form_len (x := e.n.toNat) (by omega); show (form e.n.toNat).length ≤ _; omega
    | 2, _ => have := form_len b4; show (form e.t).length ≤ _; omega
    | 3, _ => have h1 : e.nm ≠ [] ∧ e.nm.length ≤ 1000 := by simpa [rightE] using hr
              have := form_len (x := e.nm.length) (by omega); show (form e.nm.length ++ e.nm).length ≤ _; rw [List.length_append]; omega
    | 4, _ => have h1 : e.tx.length ≤ 1000 := by simpa [rightE] using hr
              have := form_len (x := e.tx.length) (by omega); show (form e.tx.length ++ e.tx).length ≤ _; rw [List.length_append]; omega
    | 5, _ => show (formV e.v).length ≤ _; omega)
  have Hlv := Lib.hid (And.intro hlen hsl)
  clear hbyte hrt hlen hsl hok
  obtain ⟨k, id, n, t, nm, tx, v⟩ := e
  obtain ⟨b1, b2, b3, b4, b5, b6, a, cap, rfl, hv⟩ := h
  change -9223372036854775808 ≤ k ∧ k ≤ 9223372036854775807 at b1
  change id < 18446744073709551616 at b2
  change -9223372036854775808 ≤ n ∧ n ≤ 9223372036854775807 at b3
  change t < 18446744073709551616 at b4
  change (∀ c ∈ nm, c < 256) ∧ nm.length ≤ 9223372036854775807 at b5
  change (∀ c ∈ tx, c < 256) ∧ tx.length ≤ 9223372036854775807 at b6
  change VIn w v (cells5 v.kind v.n v.f v.s a v.l.length cap) at hv
  change 1 ≤ k ∧ k ≤ 11 at hk1
  have hal := (Below.refl w.heap.size w).alloc (Nat.le_refl _) (.cells (evC k id n t nm tx v.kind v.n v.f v.s a v.l.length cap) 28)
  have HE0 := Lib.hid (heap_alloc_new w (.cells (evC k id n t nm tx v.kind v.n v.f v.s a v.l.length cap) 28))
  obtain ⟨kk, rfl⟩ : ∃ kk : Nat, k = (kk : Int) := ⟨k.toNat, by omega⟩
  have hk11 : kk ≤ 11 := by omega
  have HU := Lib.hid (fun W => ruint_any kk W (by omega))
  have hwk : IntKind.u64.wrap (kk : Int) = (kk : Int) := by rw [IntKind.wrap_u64]; omega
  have hf0 : F 0 = [1] ++ form kk := by rw [hF0]; show form 1 ++ form ((kk : Int)).toNat = _; rw [Int.toNat_natCast, form_small (by omega)]
  have Hl2 := Lib.hid (form_len (x := kk) (by omega))
  have HV := Lib.hid hv
  have HB2 := Lib.hid b2
  have HB3 := Lib.hid b3
  have HB4 := Lib.hid b4
  have HB5 := Lib.hid b5
  have HB6 := Lib.hid b6
  have Hk1 := Lib.hid hk1
  have Hf0 := Lib.hid hf0
  have Hal := Lib.hid hal
  clear hF0 hf0 hal hv b2 b3 b4 b5 b6 b1 hk1
  obtain ⟨ee, hee⟩ : ∃ ee : Ev, ee = ⟨(kk : Int), id, n, t, nm, tx, v⟩ := ⟨_, rfl⟩
  have hp0 : pieceE ee 0 = form id := by rw [hee]; rfl
  have hp1 : pieceE ee 1 = form n.toNat := by rw [hee]; rfl
  have hp2 : pieceE ee 2 = form t := by rw [hee]; rfl
  have hp3 : pieceE ee 3 = formB nm := by rw [hee]; rfl
  have hp4 : pieceE ee 4 = formB tx := by rw [hee]; rfl
  have hp5 : pieceE ee 5 = formV v := by rw [hee]; rfl
  have hr1 : rightE ee 1 = true → 1 ≤ n ∧ n ≤ 2147483647 := fun h => by rw [hee] at h; simpa [rightE] using h
  have hr3 : rightE ee 3 = true → nm.length ≤ 1000 := fun h => by
    rw [hee] at h
    have h : nm ≠ [] ∧ nm.length ≤ 1000 := by simpa [rightE] using h
    exact h.2
  have hr4 : rightE ee 4 = true → tx.length ≤ 1000 := fun h => by rw [hee] at h; simpa [rightE] using h
  have hr5 : rightE ee 5 = true → rightN 8 v = true := fun h => by rw [hee] at h; simpa [rightE] using h
  have hke : ee.k = (kk : Int) := by rw [hee]
  have hlv : (formV v).length ≤ 10000000 ∧ ∀ u ∈ preV v, u.s.length ≤ 1000000 := Hlv.out
  rw [← hee] at HFin HFout Hbyte Hrt Hpl
  rw [hke] at HFin HFout Hrt Hpl
  have Hp := Lib.hid (And.intro hp0 (And.intro hp1 (And.intro hp2 (And.intro hp3 (And.intro hp4 hp5)))))
  have Hr := Lib.hid (And.intro hr1 (And.intro hr3 (And.intro hr4 hr5)))
  clear hee hp0 hp1 hp2 hp3 hp4 hp5 hr1 hr3 hr4 hr5 hke Hlv
  have Hlv := Lib.hid hlv
  clear hlv
  go_enter Tryz.func39, Tryz.ntmps39
  go_wp2_with fail
  have hal1 := (Below.refl w.heap.size (w.alloc (.cells (evC (kk : Int) id n t nm tx v.kind v.n v.f v.s a v.l.length cap) 28))).alloc (by simp) (.cells #[.int .u8 1] 5)
  have hown := new_row (w.alloc (.cells (evC (kk : Int) id n t nm tx v.kind v.n v.f v.s a v.l.length cap) 28)) [1] (by simp)
  rw [World.size_alloc] at hown
  have Hown := Lib.hid (own_base hown (Nat.le_succ w.heap.size))
  have Hb1 := Lib.hid (Hal.out.trans (hal1.mono (Nat.le_refl _)))
  have HE1 := Lib.hid (blk HE0.out ((Below.refl _ _).alloc (Nat.le_refl _) (.cells #[.int .u8 1] 5)))
  clear hal1 hown
  refine (HU.out _).mono ?_
  rintro r w2 ⟨u2, rfl, hu2, hb2⟩
  obtain ⟨p2, cp2, rfl, hB2⟩ := own_slice hu2 (form_byte kk)
  have Hown2 := Lib.hid (own_below Hown.out hb2)
  have HBy := Lib.hid hB2
  have Hb2 := Lib.hid (Hb1.out.trans (hb2.mono Hb1.out.size))
  have HE2 := Lib.hid (blk HE1.out hb2)
  clear hu2 hb2 hB2
  go_wp2_with (at_builtin; refine wpList_append_bytes _ rfl _ _ 31 rfl w.heap.size 5 Tryz.underlying31 info_u8 _ _ _ rfl Hown2.out p2 _ cp2 (form kk) rfl HBy.out (by have := Hl2.out; simp; omega) Hb2.out.size ?_; intro v' w3 g1 g2)
  have Hs0 := Lib.hid (show w3.ownsRow w.heap.size 5 1 v' (F 0).length (u8s (F 0)) from by rw [Hf0.out, List.length_append]; exact g1)
  have Hb3 := Lib.hid (Hb2.out.grown g2 Hb2.out.size (fun k hk => (Hown2.out.lt k hk).1))
  have HE3 := Lib.hid (grown_keep g2 HE2.out (row_ne Hown2.out HE2.out (by decide)))
  have Hn0 := Lib.hid (show (F 0).length ≤ 20 + 0 * 10000100 from by rw [Hf0.out, List.length_append]; have := Hl2.out; simp; omega)
  clear g1 g2 HBy Hown2 Hb2 HE2 Hown Hb1 HE1 HE0 Hal HU
  go_loopw [3, 4, 5, 6] (fun t3 t4 t5 t6 wr => ∃ j : Nat, j ≤ 6 ∧ t4 = .int .i64 (j : Int) ∧ wr.ownsRow w.heap.size 5 1 t3 (F j).length (u8s (F j)) ∧ (F j).length ≤ 20 + j * 10000100 ∧ wr.heap[w.heap.size]? = some (.cells (evC (kk : Int) id n t nm tx v.kind v.n v.f v.s a v.l.length cap) 28 (0, 0)) ∧ Below w.heap.size w wr) (fun _ i _ _ _ => 6 - (intOf i).toNat)
  case atStart => exact ⟨0, by omega, rfl, Hs0.out, Hn0.out, HE3.out, Hb3.out⟩
  case round =>
    obtain ⟨j, hj, rfl, hr, hn, hE, hb⟩ := hrel
    have Hr0 := Lib.hid hr
    have Hn := Lib.hid hn
    have HE := Lib.hid hE
    have Hb := Lib.hid hb
    clear hr hn hb Hs0 Hn0 HE3 Hb3
    have hjj : j = 0 ∨ j = 1 ∨ j = 2 ∨ j = 3 ∨ j = 4 ∨ j = 5 ∨ j = 6 := by omega
    rcases hjj with rfl | rfl | rfl | rfl | rfl | rfl | rfl
    · have HH := Lib.hid (has_any (kk : Int) 105 (by omega) wr)
      rw [show decide (105 ∈ evL (kk : Int)) = decide (0 ∈ evFields (kk : Int)) from decide_eq_decide.2 (lett_mem (i := 0) (by omega))] at HH
      obtain ⟨g0, g1, g2, g3, g4, g5, g6, g7, g8, g9, g10⟩ := box11 hE
      clear hE g1 g2 g3 g4 g5 g6 g7 g8 g9 g10
      by_cases hm : 0 ∈ evFields (kk : Int)
      · rw [decide_eq_true hm] at HH
        have Hm := Lib.hid hm
        clear hm hj
        go_wp2_with fail
        refine HH.out.mono ?_
        rintro r w4 ⟨rfl, hb4⟩
        have HE4 := Lib.hid (blk HE.out hb4)
        have Hr4 := Lib.hid (own_below Hr0.out hb4)
        have Hb4 := Lib.hid (Hb.out.trans (hb4.mono Hb.out.size))
        obtain ⟨g0, g1, g2, g3, g4, g5, g6, g7, g8, g9, g10⟩ := box11 HE4.out
        clear hb4
        have HC := Lib.hid (ruint_any id w4 (HB2.out))
        go_wp2_with fail
        refine HC.out.mono ?_
        rintro r w5 ⟨u5, rfl, hu5, hb5⟩
        obtain ⟨p5, cp5, rfl, hB5⟩ := own_slice hu5 (form_byte _)
        have Hpe := Lib.hid (show pieceE ee 0 = form id from Hp.out.1)
        have HB5' := Lib.hid hB5
        have Hr5 := Lib.hid (own_below Hr4.out hb5)
        have Hb5 := Lib.hid (Hb4.out.trans (hb5.mono Hb4.out.size))
        have HE5 := Lib.hid (blk HE4.out hb5)
        have Hl5 := Lib.hid (show (form id).length ≤ 10000100 from by rw [← Hpe.out]; exact Hpl.out 0 Hm.out)
        have HF1 := Lib.hid (show F (0 + 1) = F 0 ++ form id from by rw [← Hpe.out]; exact HFin.out 0 Hm.out)
        clear hu5 hb5 hB5 g0 g1 g2 g3 g4 g5 g6 g7 g8 g9 g10
        generalize form id = P at *
        go_wp2_with (at_builtin; refine wpList_append_bytes _ rfl _ _ 31 rfl w.heap.size 5 Tryz.underlying31 info_u8 _ _ _ rfl Hr5.out p5 _ cp5 P rfl HB5'.out (by have := Hn.out; have := Hl5.out; omega) Hb5.out.size ?_; intro v9 w9 g1 g2)
        have Hs9 := Lib.hid (show w9.ownsRow w.heap.size 5 1 v9 (F (0 + 1)).length (u8s (F (0 + 1))) from by rw [HF1.out, List.length_append]; exact g1)
        have Hb9 := Lib.hid (Hb5.out.grown g2 Hb5.out.size (fun k hk => (Hr5.out.lt k hk).1))
        have HE9 := Lib.hid (grown_keep g2 HE5.out (row_ne Hr5.out HE5.out (by decide)))
        have Hn9 := Lib.hid (show (F (0 + 1)).length ≤ 20 + (0 + 1) * 10000100 from by rw [HF1.out, List.length_append]; have := Hn.out; have := Hl5.out; omega)
        clear g1 g2
        go_roundw
        case rel => exact ⟨0 + 1, by omega, rfl, Hs9.out, Hn9.out, HE9.out, Hb9.out⟩
        case measure => simp [intOf]
      · rw [decide_eq_false hm] at HH
        have HF1 := Lib.hid (HFout.out 0 hm)
        clear hm hj
        go_wp2_with fail
        refine HH.out.mono ?_
        rintro r w4 ⟨rfl, hb4⟩
        have HE4 := Lib.hid (blk HE.out hb4)
        have Hr4 := Lib.hid (own_below Hr0.out hb4)
        have Hb4 := Lib.hid (Hb.out.trans (hb4.mono Hb.out.size))
        clear hb4 g0
        go_wp2
        go_roundw
        case rel => exact ⟨0 + 1, by omega, rfl, by rw [HF1.out]; exact Hr4.out, by rw [HF1.out]; have := Hn.out; omega, HE4.out, Hb4.out⟩
        case measure => simp [intOf]
    · have HH := Lib.hid (has_any (kk : Int) 110 (by omega) wr)
      rw [show decide (110 ∈ evL (kk : Int)) = decide (1 ∈ evFields (kk : Int)) from decide_eq_decide.2 (lett_mem (i := 1) (by omega))] at HH
      obtain ⟨g0, g1, g2, g3, g4, g5, g6, g7, g8, g9, g10⟩ := box11 hE
      clear hE g1 g2 g3 g4 g5 g6 g7 g8 g9 g10
      by_cases hm : 1 ∈ evFields (kk : Int)
      · rw [decide_eq_true hm] at HH
        have Hm := Lib.hid hm
        clear hm hj
        go_wp2_with fail
        refine HH.out.mono ?_
        rintro r w4 ⟨rfl, hb4⟩
        have HE4 := Lib.hid (blk HE.out hb4)
        have Hr4 := Lib.hid (own_below Hr0.out hb4)
        have Hb4 := Lib.hid (Hb.out.trans (hb4.mono Hb.out.size))
        obtain ⟨g0, g1, g2, g3, g4, g5, g6, g7, g8, g9, g10⟩ := box11 HE4.out
        clear hb4
        have h1 := Hr.out.1 (Hrt.out 1 Hm.out)
        obtain ⟨m, rfl⟩ : ∃ m : Nat, n = (m : Int) := ⟨n.toNat, by omega⟩
        have HC := Lib.hid (ruint_any m w4 (by omega))
        have hwm : IntKind.u64.wrap (m : Int) = (m : Int) := by rw [IntKind.wrap_u64]; omega
        clear h1
        go_wp2_with fail
        refine HC.out.mono ?_
        rintro r w5 ⟨u5, rfl, hu5, hb5⟩
        obtain ⟨p5, cp5, rfl, hB5⟩ := own_slice hu5 (form_byte _)
        have Hpe := Lib.hid (show pieceE ee 1 = form m from by rw [Hp.out.2.1, Int.toNat_natCast])
        have HB5' := Lib.hid hB5
        have Hr5 := Lib.hid (own_below Hr4.out hb5)
        have Hb5 := Lib.hid (Hb4.out.trans (hb5.mono Hb4.out.size))
        have HE5 := Lib.hid (blk HE4.out hb5)
        have Hl5 := Lib.hid (show (form m).length ≤ 10000100 from by rw [← Hpe.out]; exact Hpl.out 1 Hm.out)
        have HF1 := Lib.hid (show F (1 + 1) = F 1 ++ form m from by rw [← Hpe.out]; exact HFin.out 1 Hm.out)
        clear hu5 hb5 hB5 g0 g1 g2 g3 g4 g5 g6 g7 g8 g9 g10
        generalize form m = P at *
        go_wp2_with (at_builtin; refine wpList_append_bytes _ rfl _ _ 31 rfl w.heap.size 5 Tryz.underlying31 info_u8 _ _ _ rfl Hr5.out p5 _ cp5 P rfl HB5'.out (by have := Hn.out; have := Hl5.out; omega) Hb5.out.size ?_; intro v9 w9 g1 g2)
        have Hs9 := Lib.hid (show w9.ownsRow w.heap.size 5 1 v9 (F (1 + 1)).length (u8s (F (1 + 1))) from by rw [HF1.out, List.length_append]; exact g1)
        have Hb9 := Lib.hid (Hb5.out.grown g2 Hb5.out.size (fun k hk => (Hr5.out.lt k hk).1))
        have HE9 := Lib.hid (grown_keep g2 HE5.out (row_ne Hr5.out HE5.out (by decide)))
        have Hn9 := Lib.hid (show (F (1 + 1)).length ≤ 20 + (1 + 1) * 10000100 from by rw [HF1.out, List.length_append]; have := Hn.out; have := Hl5.out; omega)
        clear g1 g2
        go_roundw
        case rel => exact ⟨1 + 1, by omega, rfl, Hs9.out, Hn9.out, HE9.out, Hb9.out⟩
        case measure => simp [intOf]
      · rw [decide_eq_false hm] at HH
        have HF1 := Lib.hid (HFout.out 1 hm)
        clear hm hj
        go_wp2_with fail
        refine HH.out.mono ?_
        rintro r w4 ⟨rfl, hb4⟩
        have HE4 := Lib.hid (blk HE.out hb4)
        have Hr4 := Lib.hid (own_below Hr0.out hb4)
        have Hb4 := Lib.hid (Hb.out.trans (hb4.mono Hb.out.size))
        clear hb4 g0
        go_wp2
        go_roundw
        case rel => exact ⟨1 + 1, by omega, rfl, by rw [HF1.out]; exact Hr4.out, by rw [HF1.out]; have := Hn.out; omega, HE4.out, Hb4.out⟩
        case measure => simp [intOf]
    · have HH := Lib.hid (has_any (kk : Int) 97 (by omega) wr)
      rw [show decide (97 ∈ evL (kk : Int)) = decide (2 ∈ evFields (kk : Int)) from decide_eq_decide.2 (lett_mem (i := 2) (by omega))] at HH
      obtain ⟨g0, g1, g2, g3, g4, g5, g6, g7, g8, g9, g10⟩ := box11 hE
      clear hE g1 g2 g3 g4 g5 g6 g7 g8 g9 g10
      by_cases hm : 2 ∈ evFields (kk : Int)
      · rw [decide_eq_true hm] at HH
        have Hm := Lib.hid hm
        clear hm hj
        go_wp2_with fail
        refine HH.out.mono ?_
        rintro r w4 ⟨rfl, hb4⟩
        have HE4 := Lib.hid (blk HE.out hb4)
        have Hr4 := Lib.hid (own_below Hr0.out hb4)
        have Hb4 := Lib.hid (Hb.out.trans (hb4.mono Hb.out.size))
        obtain ⟨g0, g1, g2, g3, g4, g5, g6, g7, g8, g9, g10⟩ := box11 HE4.out
        clear hb4
        have HC := Lib.hid (ruint_any t w4 (HB4.out))
        go_wp2_with fail
        refine HC.out.mono ?_
        rintro r w5 ⟨u5, rfl, hu5, hb5⟩
        obtain ⟨p5, cp5, rfl, hB5⟩ := own_slice hu5 (form_byte _)
        have Hpe := Lib.hid (show pieceE ee 2 = form t from Hp.out.2.2.1)
        have HB5' := Lib.hid hB5
        have Hr5 := Lib.hid (own_below Hr4.out hb5)
        have Hb5 := Lib.hid (Hb4.out.trans (hb5.mono Hb4.out.size))
        have HE5 := Lib.hid (blk HE4.out hb5)
        have Hl5 := Lib.hid (show (form t).length ≤ 10000100 from by rw [← Hpe.out]; exact Hpl.out 2 Hm.out)
        have HF1 := Lib.hid (show F (2 + 1) = F 2 ++ form t from by rw [← Hpe.out]; exact HFin.out 2 Hm.out)
        clear hu5 hb5 hB5 g0 g1 g2 g3 g4 g5 g6 g7 g8 g9 g10
        generalize form t = P at *
        go_wp2_with (at_builtin; refine wpList_append_bytes _ rfl _ _ 31 rfl w.heap.size 5 Tryz.underlying31 info_u8 _ _ _ rfl Hr5.out p5 _ cp5 P rfl HB5'.out (by have := Hn.out; have := Hl5.out; omega) Hb5.out.size ?_; intro v9 w9 g1 g2)
        have Hs9 := Lib.hid (show w9.ownsRow w.heap.size 5 1 v9 (F (2 + 1)).length (u8s (F (2 + 1))) from by rw [HF1.out, List.length_append]; exact g1)
        have Hb9 := Lib.hid (Hb5.out.grown g2 Hb5.out.size (fun k hk => (Hr5.out.lt k hk).1))
        have HE9 := Lib.hid (grown_keep g2 HE5.out (row_ne Hr5.out HE5.out (by decide)))
        have Hn9 := Lib.hid (show (F (2 + 1)).length ≤ 20 + (2 + 1) * 10000100 from by rw [HF1.out, List.length_append]; have := Hn.out; have := Hl5.out; omega)
        clear g1 g2
        go_roundw
        case rel => exact ⟨2 + 1, by omega, rfl, Hs9.out, Hn9.out, HE9.out, Hb9.out⟩
        case measure => simp [intOf]
      · rw [decide_eq_false hm] at HH
        have HF1 := Lib.hid (HFout.out 2 hm)
        clear hm hj
        go_wp2_with fail
        refine HH.out.mono ?_
        rintro r w4 ⟨rfl, hb4⟩
        have HE4 := Lib.hid (blk HE.out hb4)
        have Hr4 := Lib.hid (own_below Hr0.out hb4)
        have Hb4 := Lib.hid (Hb.out.trans (hb4.mono Hb.out.size))
        clear hb4 g0
        go_wp2
        go_roundw
        case rel => exact ⟨2 + 1, by omega, rfl, by rw [HF1.out]; exact Hr4.out, by rw [HF1.out]; have := Hn.out; omega, HE4.out, Hb4.out⟩
        case measure => simp [intOf]
    · have HH := Lib.hid (has_any (kk : Int) 115 (by omega) wr)
      rw [show decide (115 ∈ evL (kk : Int)) = decide (3 ∈ evFields (kk : Int)) from decide_eq_decide.2 (lett_mem (i := 3) (by omega))] at HH
      obtain ⟨g0, g1, g2, g3, g4, g5, g6, g7, g8, g9, g10⟩ := box11 hE
      clear hE g1 g2 g3 g4 g5 g6 g7 g8 g9 g10
      by_cases hm : 3 ∈ evFields (kk : Int)
      · rw [decide_eq_true hm] at HH
        have Hm := Lib.hid hm
        clear hm hj
        go_wp2_with fail
        refine HH.out.mono ?_
        rintro r w4 ⟨rfl, hb4⟩
        have HE4 := Lib.hid (blk HE.out hb4)
        have Hr4 := Lib.hid (own_below Hr0.out hb4)
        have Hb4 := Lib.hid (Hb.out.trans (hb4.mono Hb.out.size))
        obtain ⟨g0, g1, g2, g3, g4, g5, g6, g7, g8, g9, g10⟩ := box11 HE4.out
        clear hb4
        have h1 := Hr.out.2.1 (Hrt.out 3 Hm.out)
        obtain ⟨cq, wq, hcv, hBq, hbq⟩ := bytes_of_str nm w4 HB5.out.1 (by omega)
        have HC := Lib.hid (rbytesF_any _ _ cq nm wq hBq (by omega))
        clear h1 hBq
        go_wp2_with fail
        refine HC.out.mono ?_
        rintro r w5 ⟨u5, rfl, hu5, hb50⟩
        have hb5 := hbq.trans (hb50.mono hbq.size)
        obtain ⟨p5, cp5, rfl, hB5⟩ := own_slice hu5 (formB_byte HB5.out.1)
        clear hb50 hbq
        have Hpe := Lib.hid (show pieceE ee 3 = formB nm from Hp.out.2.2.2.1)
        have HB5' := Lib.hid hB5
        have Hr5 := Lib.hid (own_below Hr4.out hb5)
        have Hb5 := Lib.hid (Hb4.out.trans (hb5.mono Hb4.out.size))
        have HE5 := Lib.hid (blk HE4.out hb5)
        have Hl5 := Lib.hid (show (formB nm).length ≤ 10000100 from by rw [← Hpe.out]; exact Hpl.out 3 Hm.out)
        have HF1 := Lib.hid (show F (3 + 1) = F 3 ++ formB nm from by rw [← Hpe.out]; exact HFin.out 3 Hm.out)
        clear hu5 hb5 hB5 g0 g1 g2 g3 g4 g5 g6 g7 g8 g9 g10
        generalize formB nm = P at *
        go_wp2_with (at_builtin; refine wpList_append_bytes _ rfl _ _ 31 rfl w.heap.size 5 Tryz.underlying31 info_u8 _ _ _ rfl Hr5.out p5 _ cp5 P rfl HB5'.out (by have := Hn.out; have := Hl5.out; omega) Hb5.out.size ?_; intro v9 w9 g1 g2)
        have Hs9 := Lib.hid (show w9.ownsRow w.heap.size 5 1 v9 (F (3 + 1)).length (u8s (F (3 + 1))) from by rw [HF1.out, List.length_append]; exact g1)
        have Hb9 := Lib.hid (Hb5.out.grown g2 Hb5.out.size (fun k hk => (Hr5.out.lt k hk).1))
        have HE9 := Lib.hid (grown_keep g2 HE5.out (row_ne Hr5.out HE5.out (by decide)))
        have Hn9 := Lib.hid (show (F (3 + 1)).length ≤ 20 + (3 + 1) * 10000100 from by rw [HF1.out, List.length_append]; have := Hn.out; have := Hl5.out; omega)
        clear g1 g2
        go_roundw
        case rel => exact ⟨3 + 1, by omega, rfl, Hs9.out, Hn9.out, HE9.out, Hb9.out⟩
        case measure => simp [intOf]
      · rw [decide_eq_false hm] at HH
        have HF1 := Lib.hid (HFout.out 3 hm)
        clear hm hj
        go_wp2_with fail
        refine HH.out.mono ?_
        rintro r w4 ⟨rfl, hb4⟩
        have HE4 := Lib.hid (blk HE.out hb4)
        have Hr4 := Lib.hid (own_below Hr0.out hb4)
        have Hb4 := Lib.hid (Hb.out.trans (hb4.mono Hb.out.size))
        clear hb4 g0
        go_wp2
        go_roundw
        case rel => exact ⟨3 + 1, by omega, rfl, by rw [HF1.out]; exact Hr4.out, by rw [HF1.out]; have := Hn.out; omega, HE4.out, Hb4.out⟩
        case measure => simp [intOf]
    · have HH := Lib.hid (has_any (kk : Int) 116 (by omega) wr)
      rw [show decide (116 ∈ evL (kk : Int)) = decide (4 ∈ evFields (kk : Int)) from decide_eq_decide.2 (lett_mem (i := 4) (by omega))] at HH
      obtain ⟨g0, g1, g2, g3, g4, g5, g6, g7, g8, g9, g10⟩ := box11 hE
      clear hE g1 g2 g3 g4 g5 g6 g7 g8 g9 g10
      by_cases hm : 4 ∈ evFields (kk : Int)
      · rw [decide_eq_true hm] at HH
        have Hm := Lib.hid hm
        clear hm hj
        go_wp2_with fail
        refine HH.out.mono ?_
        rintro r w4 ⟨rfl, hb4⟩
        have HE4 := Lib.hid (blk HE.out hb4)
        have Hr4 := Lib.hid (own_below Hr0.out hb4)
        have Hb4 := Lib.hid (Hb.out.trans (hb4.mono Hb.out.size))
        obtain ⟨g0, g1, g2, g3, g4, g5, g6, g7, g8, g9, g10⟩ := box11 HE4.out
        clear hb4
        have h1 := Hr.out.2.2.1 (Hrt.out 4 Hm.out)
        obtain ⟨cq, wq, hcv, hBq, hbq⟩ := bytes_of_str tx w4 HB6.out.1 (by omega)
        have HC := Lib.hid (rbytesF_any _ _ cq tx wq hBq (by omega))
        clear h1 hBq
        go_wp2_with fail
        refine HC.out.mono ?_
        rintro r w5 ⟨u5, rfl, hu5, hb50⟩
        have hb5 := hbq.trans (hb50.mono hbq.size)
        obtain ⟨p5, cp5, rfl, hB5⟩ := own_slice hu5 (formB_byte HB6.out.1)
        clear hb50 hbq
        have Hpe := Lib.hid (show pieceE ee 4 = formB tx from Hp.out.2.2.2.2.1)
        have HB5' := Lib.hid hB5
        have Hr5 := Lib.hid (own_below Hr4.out hb5)
        have Hb5 := Lib.hid (Hb4.out.trans (hb5.mono Hb4.out.size))
        have HE5 := Lib.hid (blk HE4.out hb5)
        have Hl5 := Lib.hid (show (formB tx).length ≤ 10000100 from by rw [← Hpe.out]; exact Hpl.out 4 Hm.out)
        have HF1 := Lib.hid (show F (4 + 1) = F 4 ++ formB tx from by rw [← Hpe.out]; exact HFin.out 4 Hm.out)
        clear hu5 hb5 hB5 g0 g1 g2 g3 g4 g5 g6 g7 g8 g9 g10
        generalize formB tx = P at *
        go_wp2_with (at_builtin; refine wpList_append_bytes _ rfl _ _ 31 rfl w.heap.size 5 Tryz.underlying31 info_u8 _ _ _ rfl Hr5.out p5 _ cp5 P rfl HB5'.out (by have := Hn.out; have := Hl5.out; omega) Hb5.out.size ?_; intro v9 w9 g1 g2)
        have Hs9 := Lib.hid (show w9.ownsRow w.heap.size 5 1 v9 (F (4 + 1)).length (u8s (F (4 + 1))) from by rw [HF1.out, List.length_append]; exact g1)
        have Hb9 := Lib.hid (Hb5.out.grown g2 Hb5.out.size (fun k hk => (Hr5.out.lt k hk).1))
        have HE9 := Lib.hid (grown_keep g2 HE5.out (row_ne Hr5.out HE5.out (by decide)))
        have Hn9 := Lib.hid (show (F (4 + 1)).length ≤ 20 + (4 + 1) * 10000100 from by rw [HF1.out, List.length_append]; have := Hn.out; have := Hl5.out; omega)
        clear g1 g2
        go_roundw
        case rel => exact ⟨4 + 1, by omega, rfl, Hs9.out, Hn9.out, HE9.out, Hb9.out⟩
        case measure => simp [intOf]
      · rw [decide_eq_false hm] at HH
        have HF1 := Lib.hid (HFout.out 4 hm)
        clear hm hj
        go_wp2_with fail
        refine HH.out.mono ?_
        rintro r w4 ⟨rfl, hb4⟩
        have HE4 := Lib.hid (blk HE.out hb4)
        have Hr4 := Lib.hid (own_below Hr0.out hb4)
        have Hb4 := Lib.hid (Hb.out.trans (hb4.mono Hb.out.size))
        clear hb4 g0
        go_wp2
        go_roundw
        case rel => exact ⟨4 + 1, by omega, rfl, by rw [HF1.out]; exact Hr4.out, by rw [HF1.out]; have := Hn.out; omega, HE4.out, Hb4.out⟩
        case measure => simp [intOf]
    · have HH := Lib.hid (has_any (kk : Int) 118 (by omega) wr)
      rw [show decide (118 ∈ evL (kk : Int)) = decide (5 ∈ evFields (kk : Int)) from decide_eq_decide.2 (lett_mem (i := 5) (by omega))] at HH
      obtain ⟨g0, g1, g2, g3, g4, g5, g6, g7, g8, g9, g10⟩ := box11 hE
      clear hE g1 g2 g3 g4 g5 g6 g7 g8 g9 g10
      by_cases hm : 5 ∈ evFields (kk : Int)
      · rw [decide_eq_true hm] at HH
        have Hm := Lib.hid hm
        clear hm hj
        go_wp2_with fail
        refine HH.out.mono ?_
        rintro r w4 ⟨rfl, hb4⟩
        have HE4 := Lib.hid (blk HE.out hb4)
        have Hr4 := Lib.hid (own_below Hr0.out hb4)
        have Hb4 := Lib.hid (Hb.out.trans (hb4.mono Hb.out.size))
        obtain ⟨g0, g1, g2, g3, g4, g5, g6, g7, g8, g9, g10⟩ := box11 HE4.out
        clear hb4
        have h1 := Hr.out.2.2.2 (Hrt.out 5 Hm.out)
        have H1 := Lib.hid h1
        have HC := Lib.hid (rbytesV_any v _ w4 (HV.out.below Hb4.out) Hlv.out.1 Hlv.out.2)
        unfold cells5 at HC
        clear h1
        go_wp2_with fail
        refine HC.out.mono ?_
        rintro r w5 (⟨h0, _⟩ | ⟨_, u5, rfl, hu5, hb5⟩)
        · rw [H1.out] at h0; cases h0
        obtain ⟨p5, cp5, rfl, hB5⟩ := own_slice hu5 (fun c hc => Hbyte.out 5 c (by rw [Hp.out.2.2.2.2.2]; exact hc))
        have Hpe := Lib.hid (show pieceE ee 5 = formV v from Hp.out.2.2.2.2.2)
        have HB5' := Lib.hid hB5
        have Hr5 := Lib.hid (own_below Hr4.out hb5)
        have Hb5 := Lib.hid (Hb4.out.trans (hb5.mono Hb4.out.size))
        have HE5 := Lib.hid (blk HE4.out hb5)
        have Hl5 := Lib.hid (show (formV v).length ≤ 10000100 from by rw [← Hpe.out]; exact Hpl.out 5 Hm.out)
        have HF1 := Lib.hid (show F (5 + 1) = F 5 ++ formV v from by rw [← Hpe.out]; exact HFin.out 5 Hm.out)
        clear hu5 hb5 hB5 g0 g1 g2 g3 g4 g5 g6 g7 g8 g9 g10
        generalize formV v = P at *
        go_wp2_with (at_builtin; refine wpList_append_bytes _ rfl _ _ 31 rfl w.heap.size 5 Tryz.underlying31 info_u8 _ _ _ rfl Hr5.out p5 _ cp5 P rfl HB5'.out (by have := Hn.out; have := Hl5.out; omega) Hb5.out.size ?_; intro v9 w9 g1 g2)
        have Hs9 := Lib.hid (show w9.ownsRow w.heap.size 5 1 v9 (F (5 + 1)).length (u8s (F (5 + 1))) from by rw [HF1.out, List.length_append]; exact g1)
        have Hb9 := Lib.hid (Hb5.out.grown g2 Hb5.out.size (fun k hk => (Hr5.out.lt k hk).1))
        have HE9 := Lib.hid (grown_keep g2 HE5.out (row_ne Hr5.out HE5.out (by decide)))
        have Hn9 := Lib.hid (show (F (5 + 1)).length ≤ 20 + (5 + 1) * 10000100 from by rw [HF1.out, List.length_append]; have := Hn.out; have := Hl5.out; omega)
        clear g1 g2
        go_roundw
        case rel => exact ⟨5 + 1, by omega, rfl, Hs9.out, Hn9.out, HE9.out, Hb9.out⟩
        case measure => simp [intOf]
      · rw [decide_eq_false hm] at HH
        have HF1 := Lib.hid (HFout.out 5 hm)
        clear hm hj
        go_wp2_with fail
        refine HH.out.mono ?_
        rintro r w4 ⟨rfl, hb4⟩
        have HE4 := Lib.hid (blk HE.out hb4)
        have Hr4 := Lib.hid (own_below Hr0.out hb4)
        have Hb4 := Lib.hid (Hb.out.trans (hb4.mono Hb.out.size))
        clear hb4 g0
        go_wp2
        go_roundw
        case rel => exact ⟨5 + 1, by omega, rfl, by rw [HF1.out]; exact Hr4.out, by rw [HF1.out]; have := Hn.out; omega, HE4.out, Hb4.out⟩
        case measure => simp [intOf]
    · clear hE
      go_wp2
      go_ret
      exact ⟨_, rfl, Hr0.out, Hb.out⟩
end Go.Proofs.YtmcdfmhciinocaaGreatDoor

