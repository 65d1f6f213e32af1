import Derived.Test.YtcapbaocchaenaaGreatSR26
import Derived.Test.YtcapbaocchaenaaGreatSR31
import Derived.Test.YtcapbaocchaenaaGreatSR27
import Derived.Test.YtcapbaocchaenaaGreatSR28
import Derived.Test.YtcapbaocchaenaaGreatSR42
import Derived.Test.YtcapbaocchaenaaGreatSR43
/- The walk of the reference's SameBatch. -/
namespace Go.Proofs.YtcapbaocchaenaaGreat
open Go.RowKit Go.Shelf Fl

set_option maxRecDepth 100000 in
set_option maxHeartbeats 3200000 in
theorem rsame12_any (t t' : Bt) (x x' : Array Value) (w : World) (h : BtIn w t x) (h' : BtIn w t' x') :
    Calls Tryz.prog 10 #[.agg x, .agg x'] w fun r w' => r = .returned (.bool (sameB t t')) ∧ Below w.heap.size w w' := by
  obtain ⟨fl, at_, es⟩ := t
  obtain ⟨fl', at', es'⟩ := t'
  obtain ⟨⟨hb1, _⟩, _, a, n, c, rfl, hE⟩ := h
  obtain ⟨⟨hb1', _⟩, _, a', n', c', rfl, hE'⟩ := h'
  change ∀ c ∈ fl, c < 256 at hb1
  change ∀ c ∈ fl', c < 256 at hb1'
  change Evs w a n c es at hE
  change Evs w a' n' c' es' at hE'
  have hal := ((Below.refl w.heap.size w).alloc (Nat.le_refl _) (.cells #[.string (str fl), .int .u64 (at_ : Int), .slice a n c] 27)).alloc (by simp) (.cells #[.string (str fl'), .int .u64 (at' : Int), .slice a' n' c'] 27)
  have Hal := Lib.hid hal
  have H := Lib.hid (hE.below hal)
  have H' := Lib.hid (hE'.below hal)
  have hlen := hE.len
  have hlen' := hE'.len
  have hcm := hE.max
  have hcm' := hE'.max
  have hle := hE.le
  have hle' := hE'.le
  have hq1 := heap_alloc_new (w.alloc (.cells #[.string (str fl), .int .u64 (at_ : Int), .slice a n c] 27)) (.cells #[.string (str fl'), .int .u64 (at' : Int), .slice a' n' c'] 27)
  obtain ⟨_, _, y2'⟩ := box3 hq1
  obtain ⟨_, _, y2⟩ := box3 (heap_alloc_new w (.cells #[.string (str fl), .int .u64 (at_ : Int), .slice a n c] 27))
  have y2 := cell_below (((Below.refl _ (w.alloc (.cells #[.string (str fl), .int .u64 (at_ : Int), .slice a n c] 27))).alloc (Nat.le_refl _) (.cells #[.string (str fl'), .int .u64 (at' : Int), .slice a' n' c'] 27))) y2
  rw [show (w.alloc (.cells #[.string (str fl), .int .u64 (at_ : Int), .slice a n c] 27)).heap.size = w.heap.size + 1 from by simp] at y2'
  obtain ⟨res, hr⟩ : ∃ res, res = sameB ⟨fl, at_, es⟩ ⟨fl', at', es'⟩ := ⟨_, rfl⟩
  rw [← hr]
  have Hres := Lib.hid (show res = (decide (fl = fl' ∧ at_ = at') && sameEs es es') from hr)
  have HNm := Lib.hid (str_ne hb1 hb1')
  clear hal hE hE' hb1 hb1' hr hq1
  by_cases q0 : fl = fl'
  case neg =>
    have d0 : ((str fl).toList == (str fl').toList) = false := HNm.out q0
    have Hf := Lib.hid (show res = false from by rw [Hres.out, decide_eq_false (fun h => q0 h.1)]; rfl)
    clear q0
    go_enter Tryz.func10, Tryz.ntmps10
    go_wp2
    go_ret
    exact ⟨ret_bool Hf.out.symm, Hal.out⟩
  have d0 : ((str fl).toList == (str fl').toList) = true := by rw [q0]; exact str_eq _
  by_cases q1 : at_ = at'
  case neg =>
    have d1 : ((at_ : Int) != (at' : Int)) = true := by rw [bne_iff_ne]; omega
    have Hf := Lib.hid (show res = false from by rw [Hres.out, decide_eq_false (fun h => q1 h.2)]; rfl)
    clear q0 q1
    go_enter Tryz.func10, Tryz.ntmps10
    go_wp2
    go_ret
    exact ⟨ret_bool Hf.out.symm, Hal.out⟩
  have d1 : ((at_ : Int) != (at' : Int)) = false := by rw [q1]; exact bne_self_eq_false _
  have Hr := Lib.hid (show res = sameEs es es' from by rw [Hres.out, decide_eq_true ⟨q0, q1⟩, Bool.true_and])
  clear q0 q1 Hres
  by_cases hn : n = n'
  rotate_left
  · have hq : ((n : Int) != (n' : Int)) = true := by rw [bne_iff_ne]; omega
    have Hf := Lib.hid (show res = false from by rw [Hr.out, sameEs_len (by omega)])
    clear hn
    go_enter Tryz.func10, Tryz.ntmps10
    go_wp2
    go_ret
    exact ⟨ret_bool Hf.out.symm, Hal.out⟩
  subst hn
  have hq : ((n : Int) != (n : Int)) = false := by simp
  go_enter Tryz.func10, Tryz.ntmps10
  go_wp2
  obtain ⟨w1, hw1⟩ : ∃ w1, w1 = (w.alloc (.cells #[.string (str fl), .int .u64 (at_ : Int), .slice a n c] 27)).alloc (.cells #[.string (str fl'), .int .u64 (at' : Int), .slice a' n c'] 27) := ⟨_, rfl⟩
  rw [← hw1] at Hal H H' y2 y2' ⊢
  clear hw1
  go_loopw [5] (fun i wr => ∃ j : Nat, j ≤ n ∧ i = .int .i64 (j : Int) ∧ (∀ k u u', k < j → es[k]? = some u → es'[k]? = some u' → sameE u u' = true) ∧ Below w1.heap.size w1 wr) (fun i _ => n - (intOf i).toNat)
  case atStart => exact ⟨0, Nat.zero_le _, rfl, fun k _ _ hk => absurd hk (by omega), Below.refl _ _⟩
  case round =>
    obtain ⟨j, hj, rfl, hall, hb⟩ := hrel
    have Hall := Lib.hid hall
    have Hb := Lib.hid hb
    have m2 := cell_below hb y2
    have m2' := cell_below hb y2'
    clear hall hb y2 y2'
    by_cases hlt : j < n
    · have hl1 : j < es.length := by omega
      have hl2 : j < es'.length := by omega
      obtain ⟨b, o, rfl, hc⟩ := H.out.cell (by omega)
      obtain ⟨b', o', rfl, hc'⟩ := H'.out.cell (by omega)
      obtain ⟨p, cap, hI, ⟨g0, g1, g2, g3, g4, g5⟩, g6, g7, g8, g9, g10⟩ := ((hc j hl1).below Hb.out).all
      obtain ⟨p', cap', hI', ⟨k0, k1, k2, k3, k4, k5⟩, k6, k7, k8, k9, k10⟩ := ((hc' j hl2).below Hb.out).all
      have hdr : Below wr.heap.size wr wr.drew := (Below.refl _ _).drew
      have HC := Lib.hid (rsame11_any es[j] es'[j] _ _ wr.drew (hI.below hdr) (hI'.below hdr))
      have Hje := Lib.hid (List.getElem?_eq_getElem hl1)
      have Hje' := Lib.hid (List.getElem?_eq_getElem hl2)
      have hji : (j : Int) < (n : Int) := by omega
      have Hlt := Lib.hid hlt
      generalize es[j] = e at *
      generalize es'[j] = e' at *
      clear hc hc' hI hI' hlt hl1 hl2 hdr
      go_wp2
      go_region_held (fun w' =>
          (w'.cell? ⟨w.heap.size, 2, none⟩ = some (.slice (some ⟨b, o, none⟩) n c) ∧ w'.cell? ⟨w.heap.size + 1, 2, none⟩ = some (.slice (some ⟨b', o', none⟩) n c')) ∧
          (w'.cell? ⟨b, o + j * 11, none⟩ = some (.int .i64 e.k) ∧ w'.cell? ⟨b, o + j * 11 + 1, none⟩ = some (.int .u64 (e.id : Int)) ∧ w'.cell? ⟨b, o + j * 11 + 2, none⟩ = some (.int .i64 e.n) ∧ w'.cell? ⟨b, o + j * 11 + 3, none⟩ = some (.int .u64 (e.t : Int)) ∧ w'.cell? ⟨b, o + j * 11 + 4, none⟩ = some (.string (str e.nm)) ∧ w'.cell? ⟨b, o + j * 11 + 5, none⟩ = some (.string (str e.tx)) ∧
          w'.cell? ⟨b, o + j * 11 + 6, none⟩ = some (.int .i64 e.v.kind) ∧ w'.cell? ⟨b, o + j * 11 + 7, none⟩ = some (.int .i64 e.v.n) ∧ w'.cell? ⟨b, o + j * 11 + 8, none⟩ = some (.float .f64 e.v.f) ∧ w'.cell? ⟨b, o + j * 11 + 9, none⟩ = some (.string (str e.v.s)) ∧ w'.cell? ⟨b, o + j * 11 + 10, none⟩ = some (.slice p e.v.l.length cap)) ∧
          w'.cell? ⟨b', o' + j * 11, none⟩ = some (.int .i64 e'.k) ∧ w'.cell? ⟨b', o' + j * 11 + 1, none⟩ = some (.int .u64 (e'.id : Int)) ∧ w'.cell? ⟨b', o' + j * 11 + 2, none⟩ = some (.int .i64 e'.n) ∧ w'.cell? ⟨b', o' + j * 11 + 3, none⟩ = some (.int .u64 (e'.t : Int)) ∧ w'.cell? ⟨b', o' + j * 11 + 4, none⟩ = some (.string (str e'.nm)) ∧ w'.cell? ⟨b', o' + j * 11 + 5, none⟩ = some (.string (str e'.tx)) ∧
          w'.cell? ⟨b', o' + j * 11 + 6, none⟩ = some (.int .i64 e'.v.kind) ∧ w'.cell? ⟨b', o' + j * 11 + 7, none⟩ = some (.int .i64 e'.v.n) ∧ w'.cell? ⟨b', o' + j * 11 + 8, none⟩ = some (.float .f64 e'.v.f) ∧ w'.cell? ⟨b', o' + j * 11 + 9, none⟩ = some (.string (str e'.v.s)) ∧ w'.cell? ⟨b', o' + j * 11 + 10, none⟩ = some (.slice p' e'.v.l.length cap'))
        (first
          | exact ⟨⟨m2, m2'⟩, ⟨g0, g1, g2, g3, g4, g5, g6, g7, g8, g9, g10⟩, k0, k1, k2, k3, k4, k5, k6, k7, k8, k9, k10⟩
          | exact ⟨⟨cell_below hb2 m2, cell_below hb2 m2'⟩, ⟨cell_below hb2 g0, cell_below hb2 g1, cell_below hb2 g2, cell_below hb2 g3, cell_below hb2 g4, cell_below hb2 g5, cell_below hb2 g6, cell_below hb2 g7, cell_below hb2 g8, cell_below hb2 g9, cell_below hb2 g10⟩, cell_below hb2 k0, cell_below hb2 k1, cell_below hb2 k2, cell_below hb2 k3, cell_below hb2 k4, cell_below hb2 k5, cell_below hb2 k6, cell_below hb2 k7, cell_below hb2 k8, cell_below hb2 k9, cell_below hb2 k10⟩)
        (first | (go_at_call 36; (with_reducible refine HC.out.mono ?_); rintro r w2 ⟨rfl, hb2⟩))
      have Hb2 := Lib.hid (Hb.out.trans (((Below.refl _ _).drew.trans (hb2.mono (Nat.le_refl _))).mono Hb.out.size))
      clear hb2 m2 m2' g0 g1 g2 g3 g4 g5 g6 g7 g8 g9 g10 k0 k1 k2 k3 k4 k5 k6 k7 k8 k9 k10 HC
      cases hok : sameE e e' with
      | false =>
        have Hbad := Lib.hid (show res = false from by rw [Hr.out]; exact sameEs_bad Hje.out Hje'.out hok)
        clear hok
        go_wp2
        go_ret
        exact ⟨ret_bool Hbad.out.symm, Hal.out.trans (Hb2.out.mono Hal.out.size)⟩
      | true =>
        have Hok := Lib.hid hok
        clear hok
        go_wp2
        go_roundw
        case rel => exact ⟨j + 1, Hlt.out, by go_num, fun k u u' hk hu hu' => by
          rcases Nat.lt_or_eq_of_le (Nat.le_of_lt_succ hk) with h1 | h1
          · exact Hall.out k u u' h1 hu hu'
          · rw [h1, Hje.out] at hu
            rw [h1, Hje'.out] at hu'
            cases hu
            cases hu'
            exact Hok.out, Hb2.out⟩
        case measure => simp [intOf]; have := Hlt.out; omega
    · have hjn : j = n := by omega
      have Hg := Lib.hid (show res = true from by rw [Hr.out]; exact sameEs_good (by omega) (fun k u u' hk hu hu' => Hall.out k u u' (by omega) hu hu'))
      have hji : ¬ ((j : Int) < (n : Int)) := by omega
      clear hlt hjn
      go_wp2
      go_ret
      exact ⟨ret_bool Hg.out.symm, Hal.out.trans (Hb.out.mono Hal.out.size)⟩
end Go.Proofs.YtcapbaocchaenaaGreat

/- Valid events with short forms are small: plain. -/
namespace Go.Proofs.YtcapbaocchaenaaGreat
open Go.RowKit Fl

theorem piece_min {k n : Int} {f : Nat} {s : List Nat} {l : List V} (hs : k = 3 ∨ s = []) : 1 + s.length ≤ (pieceV (.mk k n f s l)).length := by
  unfold pieceV
  change _ ≤ (form k.toNat ++ contF k n f s l.length).length
  have h1 := form_pos k.toNat
  rw [List.length_append]
  rcases hs with rfl | rfl
  · unfold contF
    rw [if_neg (by decide), if_neg (by decide), if_pos rfl]
    unfold formB
    rw [List.length_append]
    omega
  · simp only [List.length_nil]; omega

mutual
theorem bulk_form : ∀ (v : V) (t : Nat), rightN t v = true → bulkV v ≤ (formV v).length
  | .mk k n f s l, t, h => by
    obtain ⟨⟨_, _, h3, _⟩, _, hl⟩ := rightN_field h
    have hls := bulks_form l hl
    have hp := piece_min (k := k) (n := n) (f := f) (s := s) (l := l) h3
    unfold formV
    rw [preV, List.flatMap_cons, List.length_append, bulkV]
    omega
theorem bulks_form : ∀ (l : List V), (∀ u ∈ l, ∃ t, rightN t u = true) → bulkL l ≤ ((preV.preL l).flatMap pieceV).length
  | [], _ => by rw [preV.preL, bulkL]; exact Nat.zero_le _
  | v :: r, h => by
    obtain ⟨t, ht⟩ := h v (by simp)
    have h1 := bulk_form v t ht
    have h2 := bulks_form r (fun u hu => h u (by simp [hu]))
    unfold formV at h1
    rw [preV.preL, List.flatMap_append, List.length_append, bulkL]
    omega
end

theorem small_upB : ∀ (t : Nat) (v : V), smallN t v = true → smallN (t + 1) v = true
  | 0, v, h => by simp [smallN] at h
  | t + 1, v, h => by
    unfold smallN at h ⊢
    rw [List.all_eq_true] at h ⊢
    exact fun u hu => small_upB t u (h u hu)

theorem right_small20 {v : V} (h : rightN 8 v = true) : smallN 20 v = true := by
  have := right_small 8 v h
  iterate 11 (replace this := small_upB _ _ this)
  exact this

theorem few_of_form {e : Ev} (ho : okE e = true) (hl : (formE e).length ≤ 900) : fewE e = true := by
  have h8 := ok_right ho
  obtain ⟨_, hp⟩ := okE_parts ho
  have hnm : e.nm.length ≤ 1100 := by
    have := hp 3 (by omega)
    split at this
    · have : e.nm ≠ [] ∧ e.nm.length ≤ 1000 := by simpa [rightE] using this
      omega
    · have : e.nm = [] := by simpa [emptyE] using this
      rw [this]; simp
  have htx : e.tx.length ≤ 1100 := by
    have := hp 4 (by omega)
    split at this
    · have : e.tx.length ≤ 1000 := by simpa [rightE] using this
      omega
    · have : e.tx = [] := by simpa [emptyE] using this
      rw [this]; simp
  have hb : bulkV e.v ≤ 900 := by
    have h5 := hp 5 (by omega)
    split at h5
    · next hm =>
      have h1 := bulk_form e.v 8 h8
      obtain ⟨a, b, hab⟩ := List.append_of_mem hm
      have h2 : (formV e.v).length ≤ (formE e).length := by
        unfold formE
        rw [hab, List.map_append, List.map_cons, List.flatten_append, List.flatten_cons]
        simp only [List.length_append]
        have : pieceE e 5 = formV e.v := rfl
        rw [this]
        omega
      omega
    · have h5 : sameV e.v zeroV = true := by simpa [emptyE] using h5
      obtain ⟨⟨_, _, h3, h4⟩, _, _⟩ := rightN_field h8
      generalize e.v = v at *
      obtain ⟨k, n, f, s, l⟩ := v
      have hk : k = 0 := by
        unfold zeroV at h5
        rw [sameV] at h5
        simp only [Bool.and_eq_true, decide_eq_true_eq] at h5
        omega
      have hs : s = [] := h3.resolve_left (by show k ≠ 3; omega)
      have hll : l = [] := h4.resolve_left (by show k ≠ 4; omega)
      subst hs hll
      rw [bulkV, bulkL]
      simp
  unfold fewE fewB
  simp only [Bool.and_eq_true, decide_eq_true_eq]
  exact ⟨⟨⟨hb, right_small20 h8⟩, hnm⟩, htx⟩
end Go.Proofs.YtcapbaocchaenaaGreat

/- The walk of the statement BatchParses. -/
namespace Go.Proofs.YtcapbaocchaenaaGreat
open Go.RowKit Go.Shelf Fl

theorem mem_len {ls : List (List Nat)} {x : List Nat} (h : x ∈ ls) : x.length ≤ ls.flatten.length := by
  obtain ⟨a, b, rfl⟩ := List.append_of_mem h
  rw [List.flatten_append, List.flatten_cons, List.length_append, List.length_append]
  omega

theorem isB_few {l : List Nat} {t : Bt} (h : IsB l t) (hl : l.length ≤ 600) : t.es.all fewE = true ∧ t.es.length ≤ 600 := by
  have h1 : (t.es.map formE).flatten.length ≤ 600 := by
    rw [h.2.2, formBt_is] at hl
    simp only [List.length_append] at hl
    omega
  refine ⟨List.all_eq_true.2 fun e he => few_of_form (h.2.1.es e he).1 ?_, Nat.le_trans (forms_many _) h1⟩
  have := mem_len (x := formE e) (ls := t.es.map formE) (List.mem_map.2 ⟨e, he, rfl⟩)
  omega

/-- The batch that is zero. -/
def zeroB : Bt := ⟨[], 0, []⟩
theorem zeroB_in (w : World) : BtIn w zeroB btZ := ⟨⟨fun c h => (by cases h), Nat.zero_le _⟩, (by decide : 0 < 18446744073709551616), none, 0, 0, rfl, evs_nil w⟩
theorem zeroB_ok : okB zeroB = false := rfl
theorem zeroB_same : sameB zeroB zeroB = true := rfl
theorem zeroB_few : zeroB.es.all fewE = true := rfl

set_option maxRecDepth 100000 in
set_option maxHeartbeats 12800000 in
theorem batchParses_any (a : Option Addr) (n cap : Nat) (l : List Nat) (w : World) (hl : Bytes w a n cap l) (hf : Formed a cap) :
    Calls Tryz.prog 3 #[.slice a n cap] w fun r w' => r = .returned (.bool true) ∧ Below w.heap.size w w' := by
  have hlen := hl.len
  have HB := Lib.hid hl
  have HF := Lib.hid hf
  have HA := Lib.hid (fun W => alive13_any W)
  clear hl hf
  by_cases h6 : n ≤ 600
  rotate_left
  · have h6' : (600 : Int) < (n : Int) := by omega
    clear h6 hlen
    go_enter Tryz.func3, Tryz.ntmps3
    go_wp2_with fail
    refine (HA.out _).mono ?_
    rintro r w3 ⟨rfl, hb3⟩
    have Hb3 := Lib.hid hb3
    clear hb3
    go_wp2
    go_ret
    exact ⟨rfl, Hb3.out⟩
  have h6' : ¬ (600 : Int) < (n : Int) := by omega
  have Hlen := Lib.hid (show l.length ≤ 600 by omega)
  have HP := Lib.hid (bparse_any a n cap l w HB.out (by omega))
  have Hn := Lib.hid h6
  clear h6 hlen
  go_enter Tryz.func3, Tryz.ntmps3
  go_wp2_with fail
  refine HP.out.mono ?_
  rintro r w1 ⟨hb1, ⟨t, x, rfl, hi, hx⟩ | ⟨hno, rfl⟩⟩
  · have Hi := Lib.hid hi
    have HX1 := Lib.hid hx
    have Hb1 := Lib.hid hb1
    obtain ⟨_, _, ta, tn, tc, rfl, _⟩ := hx
    have hal := (Below.refl w1.heap.size w1).alloc (Nat.le_refl _) (.cells #[.string (str t.flow), .int .u64 (t.at_ : Int), .slice ta tn tc] 27)
    have HX2 := Lib.hid (heap_alloc_new w1 (.cells #[.string (str t.flow), .int .u64 (t.at_ : Int), .slice ta tn tc] 27))
    have Hb2 := Lib.hid (Hb1.out.trans (hal.mono Hb1.out.size))
    have HI2 := Lib.hid (HX1.out.below hal)
    have HR := Lib.hid (rparse13_any a n cap l _ (HB.out.grow Hb2.out) HF.out (by have := Hn.out; omega))
    clear hi hb1 HP hal
    go_wp2_with fail
    refine HR.out.mono ?_
    rintro r w3 ⟨hb3, ⟨t', x', rfl, hi', hx'⟩ | ⟨hno, _⟩⟩
    rotate_left
    · exact absurd Hi.out (hno t)
    have Hsame := Lib.hid (Hi.out.uniq hi')
    have HI3 := Lib.hid (HI2.out.below hb3)
    have HX3 := Lib.hid (blk HX2.out hb3)
    have Hb3 := Lib.hid (Hb2.out.trans (hb3.mono Hb2.out.size))
    have HI3' := Lib.hid hx'
    obtain ⟨_, _, ta', tn', tc', rfl, _⟩ := hx'
    have hal := (Below.refl w3.heap.size w3).alloc (Nat.le_refl _) (.cells #[.string (str t'.flow), .int .u64 (t'.at_ : Int), .slice ta' tn' tc'] 27)
    have HY4 := Lib.hid (heap_alloc_new w3 (.cells #[.string (str t'.flow), .int .u64 (t'.at_ : Int), .slice ta' tn' tc'] 27))
    have HX4 := Lib.hid (blk HX3.out hal)
    have HI4 := Lib.hid (HI3.out.below hal)
    have HI4' := Lib.hid (HI3'.out.below hal)
    have Hb4 := Lib.hid (Hb3.out.trans (hal.mono Hb3.out.size))
    obtain ⟨hfew, hmany⟩ := isB_few Hi.out Hlen.out
    have HBy := Lib.hid (bbytes_any t _ _ (by omega) hfew HI4.out)
    obtain ⟨y0, y1, y2⟩ := box3 HX4.out
    clear hi' hb3 hal HR HX2 HI2 HX3 HI3 HI3' hfew hmany
    go_wp2_with fail
    generalize w3.alloc (.cells #[.string (str t'.flow), .int .u64 (t'.at_ : Int), .slice ta' tn' tc'] 27) = w4 at *
    refine HBy.out.mono ?_
    rintro r w5 (⟨h0, _⟩ | ⟨_, u, rfl, hown, hb5⟩)
    · rw [Hi.out.1] at h0; cases h0
    rw [← Hi.out.2.2] at hown
    obtain ⟨p, cp, rfl, hB5⟩ := own_slice hown HB.out.byte
    have HB5 := Lib.hid hB5
    have HX5 := Lib.hid (blk HX4.out hb5)
    have HY5 := Lib.hid (blk HY4.out hb5)
    have HI5 := Lib.hid (HI4.out.below hb5)
    have HI5' := Lib.hid (HI4'.out.below hb5)
    have Hb5 := Lib.hid (Hb4.out.trans (hb5.mono Hb4.out.size))
    clear hown hb5 hB5 HBy HX4 HY4 HI4 HI4' y0 y1 y2
    have HK5 := Lib.hid (fun W (hW : Below w5.heap.size w5 W) => And.intro (box3 (blk HX5.out hW)) (box3 (blk HY5.out hW)))
    have HJ := Lib.hid (fun W (hW : Below w5.heap.size w5 W) => Hb5.out.trans (hW.mono Hb5.out.size))
    have HSm := Lib.hid (fun W (hW : Below w5.heap.size w5 W) => rsame12_any t t' _ _ W (HI5.out.below hW) (HI5'.out.below hW))
    rw [Hsame.out] at HSm
    have HEq := Lib.hid (fun W (hW : Below w5.heap.size w5 W) => equal_any p a l.length cp n cap l l W (HB5.out.grow hW) (HB.out.grow (HJ.out W hW)))
    rw [show decide (l = l) = true from decide_eq_true rfl] at HEq
    go_wp2_with fail
    refine (HA.out _).mono ?_
    rintro r w6 ⟨rfl, hb6⟩
    have Hb6 := Lib.hid hb6
    obtain ⟨⟨y0, y1, y2⟩, q0, q1, q2⟩ := HK5.out _ hb6
    clear hb6
    go_wp2_with fail
    refine (HSm.out _ Hb6.out).mono ?_
    rintro r w7 ⟨rfl, hb7⟩
    have Hb7 := Lib.hid (Hb6.out.trans (hb7.mono Hb6.out.size))
    clear hb7 y0 y1 y2 q0 q1 q2
    go_wp2_with fail
    refine (HEq.out _ Hb7.out).mono ?_
    rintro r w8 ⟨rfl, hb8⟩
    have hb8 := Hb7.out.trans (hb8.mono Hb7.out.size)
    have Hz := Lib.hid (HJ.out _ hb8)
    go_wp2
    go_ret
    exact ⟨rfl, Hz.out⟩
  · have Hno := Lib.hid hno
    have Hb1 := Lib.hid hb1
    have hal := (Below.refl w1.heap.size w1).alloc (Nat.le_refl _) (.cells btZ 27)
    have HX2 := Lib.hid (heap_alloc_new w1 (.cells btZ 27))
    have Hb2 := Lib.hid (Hb1.out.trans (hal.mono Hb1.out.size))
    have HR := Lib.hid (rparse13_any a n cap l _ (HB.out.grow Hb2.out) HF.out (by have := Hn.out; omega))
    clear hno hb1 HP hal
    go_wp2_with fail
    refine HR.out.mono ?_
    rintro r w3 ⟨hb3, ⟨t', x', rfl, hi', hx'⟩ | ⟨_, rfl⟩⟩
    · exact absurd hi' (Hno.out t')
    have HX3 := Lib.hid (blk HX2.out hb3)
    have Hb3 := Lib.hid (Hb2.out.trans (hb3.mono Hb2.out.size))
    have hal := (Below.refl w3.heap.size w3).alloc (Nat.le_refl _) (.cells btZ 27)
    have HY4 := Lib.hid (heap_alloc_new w3 (.cells btZ 27))
    have HX4 := Lib.hid (blk HX3.out hal)
    have Hb4 := Lib.hid (Hb3.out.trans (hal.mono Hb3.out.size))
    have HBy := Lib.hid (bbytes_any zeroB _ _ (by decide) zeroB_few (zeroB_in (w3.alloc (.cells btZ 27))))
    obtain ⟨y0, y1, y2⟩ := box3 HX4.out
    clear hb3 hal HR HX2 HX3
    go_wp2_with fail
    generalize w3.alloc (.cells btZ 27) = w4 at *
    refine HBy.out.mono ?_
    rintro r w5 (⟨_, rfl, hb5⟩ | ⟨h0, _⟩)
    rotate_left
    · rw [zeroB_ok] at h0; cases h0
    have HX5 := Lib.hid (blk HX4.out hb5)
    have HY5 := Lib.hid (blk HY4.out hb5)
    have Hb5 := Lib.hid (Hb4.out.trans (hb5.mono Hb4.out.size))
    clear hb5 HBy HX4 HY4 y0 y1 y2
    have HK5 := Lib.hid (fun W (hW : Below w5.heap.size w5 W) => And.intro (box3 (blk HX5.out hW)) (box3 (blk HY5.out hW)))
    have HJ := Lib.hid (fun W (hW : Below w5.heap.size w5 W) => Hb5.out.trans (hW.mono Hb5.out.size))
    have HSm := Lib.hid (fun W (hW : Below w5.heap.size w5 W) => rsame12_any zeroB zeroB _ _ W (zeroB_in W) (zeroB_in W))
    rw [zeroB_same] at HSm
    go_wp2_with fail
    refine (HA.out _).mono ?_
    rintro r w6 ⟨rfl, hb6⟩
    have Hb6 := Lib.hid hb6
    obtain ⟨⟨y0, y1, y2⟩, q0, q1, q2⟩ := HK5.out _ hb6
    clear hb6
    go_wp2_with fail
    refine (HSm.out _ Hb6.out).mono ?_
    rintro r w7 ⟨rfl, hb7⟩
    have Hb7 := Lib.hid (Hb6.out.trans (hb7.mono Hb6.out.size))
    clear hb7 y0 y1 y2 q0 q1 q2
    have Hz := Lib.hid (HJ.out _ Hb7.out)
    go_wp2
    go_ret
    exact ⟨rfl, Hz.out⟩
end Go.Proofs.YtcapbaocchaenaaGreat

/- Byte slices that came in, with the address of those that have room. -/
namespace Go.Proofs.YtcapbaocchaenaaGreat
open Go.ChangeShapes Go.WideShapes Go.ChangeAt Go.RowKit Go.Deep

section
variable {H : Type} {enc : TypeId × Value → H} {P : Program}

theorem open_bytesF {W : World} {t e : TypeId} {v : Value} {d : DataW H} {p : List MemPlace} (ht : P.underlying t = some (.slice e)) (he : P.underlying e = some (.int .u8)) (ce : P.cellsOf e = 1)
    {base : Nat} (hv : Value.okWide P W .any base t v) (h : DataW.Trod enc P W 0 (fun _ => true) true t v d p) : ∃ a n cap l, v = .slice a n cap ∧ Bytes W a n cap l ∧ Formed a cap := by
  obtain ⟨a0, len, cap, rfl⟩ := okWide_slice ht hv
  obtain ⟨fuel, hf⟩ := h
  rcases open_ints ht he ce hf with ⟨hcs, _⟩ | ⟨a, len', cap', zs, hcs, _, hl, hm, hz, _, hcell, hw⟩
  · simp [Value.cells] at hcs
    obtain ⟨rfl, rfl, rfl⟩ := hcs
    exact ⟨none, 0, 0, [], rfl, ⟨rfl, Nat.le_refl _, by omega, by simp, fun _ => rfl, fun h => absurd h (Nat.lt_irrefl _)⟩, formed_none 0 rfl⟩
  · simp [Value.cells] at hcs
    obtain ⟨rfl, rfl, rfl⟩ := hcs
    simp only [if_true] at hz
    refine ⟨some a, len, cap, _, rfl, bytes_of_ints (zs := zs) hl hm hz (fun h => by cases h) (fun a' ha' c hc => ?_) hw, fun h0 => ?_⟩
    · cases ha'
      exact hcell c (by omega)
    · obtain ⟨b, o, spot⟩ := a
      have hspot : spot = none := by simpa [Addr.add] using World.cell?_spot (hcell 0 (by omega))
      subst hspot
      exact ⟨b, o, rfl⟩
end
end Go.Proofs.YtcapbaocchaenaaGreat

/- For all arguments, in whatever memory, the statement BatchParses answers true, and leaves its arguments as they were: proved for every input that can be read. No condition. -/
namespace Go.Proofs.YtcapbaocchaenaaGreat.BatchParsesP
open Go.ChangeShapes Go.WideShapes Go.ChangeAt Go.RowKit Go.Deep

theorem own : ownKnob Tryz.prog.godebug = none := by kernel_rfl
theorem laidOut : laidOutB Tryz.prog = true := by kernel_rfl
theorem cells_b : Tryz.prog.cellsOf 5 = 1 := by kernel_rfl

set_option maxRecDepth 100000 in
theorem lifted (os : Os) (started : os.Started) (H : Type) (enc : TypeId × Value → H) :
    ReturnsInHanded {} Tryz.checked os 3 .any (Rows.batchParsesSpec.pre6 enc Tryz.prog Tryz.f3 Rows.batchParsesRow.domain false) (Rows.batchParsesSpec.post enc Tryz.prog Tryz.f3 false true false false) := by
  refine returnsInHanded_of_change (C := Tryz.checked) own started (by kernel_rfl) Tryz.func3
    (ChangeSpec.witness6 (enc := enc) (C := Tryz.checked) false ⟨#[], #[.slice none 0 0], []⟩ 8 (by kernel_rfl) (by kernel_rfl) (by kernel_rfl) (by kernel_rfl)) ?_
  intro W base args ds gs before hval0 hW _ _
  have hval : ∀ (j : Nat) t v, Tryz.f3.params[j]? = some t → args[j]? = some v → Value.okWide Tryz.prog W .any base t v := hval0
  have hW' := hW
  obtain ⟨p, q, hA0, hV, rfl, _, _⟩ := hW
  have hA : DataW.TrodAll enc Tryz.prog W 0 (fun _ => true) true Tryz.f3.params.toList args.toList ds p := hA0
  rw [Tryz.params3] at hA hval
  obtain ⟨v0, d0, rfl, rfl, h0⟩ := trodAll_one hA
  obtain ⟨rfl, rfl⟩ := trodVars_none hV
  obtain ⟨a0, n0, cap0, l0, rfl, hP0, hF0⟩ := open_bytesF Tryz.underlying22 Tryz.underlying5 cells_b (hval 0 22 v0 rfl rfl) h0
  refine (batchParses_any a0 n0 cap0 l0 W hP0 hF0).mono fun e W' ⟨he, hb⟩ => ?_
  subst he
  exact ⟨_, rfl, law_post laidOut (by kernel_rfl) rfl (by kernel_rfl) Tryz.underlying4 hW' rfl hb⟩

theorem proved : Rows.BatchParsesSaid :=
  OpenClaim.holds_of_wide 3 Tryz.f3 rfl rfl rfl rfl rfl rfl rfl ⟨rfl, rfl, rfl, rfl, rfl⟩ rfl rfl rfl rfl rfl (by kernel_rfl) Tryz.func3 (by kernel_rfl)
    (of_decide_eq_true (by kernel_rfl)) (by unfold Func.isWrapper; first | (rw [if_pos (by decide +kernel)]; kernel_rfl) | (rw [if_neg (by decide +kernel)]; exact ⟨rfl, rfl⟩))
    (fun os started H enc _ => lifted os started H enc)
#print axioms proved
end Go.Proofs.YtcapbaocchaenaaGreat.BatchParsesP

