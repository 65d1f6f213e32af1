import Derived.Test.YtcapbaocchaenaaGreatDoorSF32
import Derived.Test.YtcapbaocchaenaaGreatDoorSF42
import Derived.Test.YtcapbaocchaenaaGreatDoorSF35
import Derived.Test.YtcapbaocchaenaaGreatDoorSF31
import Derived.Test.YtcapbaocchaenaaGreatDoorShelf
import Derived.Maps.AppendAt
import Derived.Test.YtcapbaocchaenaaGreatDoorSF30
import Derived.Test.YtcapbaocchaenaaGreatDoorSF1
/- The walk of the reference's Bytes of a batch. -/
namespace Go.Proofs.YtcapbaocchaenaaGreatDoor
open Go.RowKit Go.Shelf Fl

set_option maxRecDepth 100000 in
set_option maxHeartbeats 3200000 in
theorem rbytes13_any (t : Bt) (x : Array Value) (w : World) (hn : t.es.length ≤ 1048576) (hf : t.es.all fewE = true) (h : BtIn w t x) :
    Calls Tryz.prog 8 #[.agg x] w (BBytesEnd w t) := by
  have HV := Lib.hid (fun W (hW : Below w.heap.size w W) => rvalid13_any t x W (h.below hW))
  obtain ⟨fl, at_, es⟩ := t
  obtain ⟨⟨hb1, hb2⟩, hat, a, n, c, rfl, hE⟩ := h
  change ∀ c ∈ fl, c < 256 at hb1
  change at_ < 18446744073709551616 at hat
  change Evs w a n c es at hE
  change es.all fewE = true at hf
  have hlen := hE.len
  have hcm := hE.max
  have hle := hE.le
  change es.length ≤ 1048576 at hn
  have hal := (Below.refl w.heap.size w).alloc (Nat.le_refl _) (.cells #[.string (str fl), .int .u64 (at_ : Int), .slice a n c] 25)
  have Hal := Lib.hid hal
  have HB := Lib.hid (heap_alloc_new w (.cells #[.string (str fl), .int .u64 (at_ : Int), .slice a n c] 25))
  obtain ⟨y0, y1, y2⟩ := box3 HB.out
  have HE := Lib.hid hE
  have HF := Lib.hid hf
  have Hby := Lib.hid hb1
  clear hal hE hf hb1
  cases hok : okB ⟨fl, at_, es⟩ with
  | false =>
    rw [hok] at HV
    have Hok := Lib.hid hok
    clear hok
    go_enter Tryz.func8, Tryz.ntmps8
    go_wp2_with fail
    refine (HV.out _ Hal.out).mono ?_
    rintro r w1 ⟨rfl, hb⟩
    have Hb := Lib.hid (Hal.out.trans (hb.mono Hal.out.size))
    clear hb
    go_wp2
    refine bodyPost_ret (v := .tuple #[.slice none 0 0, .bool false]) (by simp [results, Tryz.results8, go_sem, *]) rfl ?_
    exact .inl ⟨Hok.out, rfl, Hb.out⟩
  | true =>
    rw [hok] at HV
    obtain ⟨k1, k2, k3⟩ := okB_parts hok
    change fl.length ≤ 1000 at k1
    have Hok := Lib.hid hok
    have HO := Lib.hid k3
    have Hk1 := Lib.hid k1
    have HFB := Lib.hid (show formBt ⟨fl, at_, es⟩ = (formB fl ++ form at_) ++ form n ++ (es.map formE).flatten from by
      show formB fl ++ (form at_ ++ form es.length) ++ (es.map formE).flatten = _
      rw [hlen, ← List.append_assoc (formB fl)])
    have Hn := Lib.hid hn
    clear hok k3 k2
    go_enter Tryz.func8, Tryz.ntmps8
    go_wp2_with fail
    refine (HV.out _ Hal.out).mono ?_
    rintro r w1 ⟨rfl, hb⟩
    have HB1 := Lib.hid ((hb.block _ (Array.getElem?_eq_some_iff.1 HB.out).1).trans HB.out)
    have Hb1 := Lib.hid (Hal.out.trans (hb.mono Hal.out.size))
    clear hb y0 y1 y2 HB Hal
    obtain ⟨y0, y1, y2⟩ := box3 HB1.out
    obtain ⟨cq, wq, hcv, hBq, hbq⟩ := bytes_of_str fl w1 Hby.out (by omega)
    have HC := Lib.hid (rbytesF_any _ _ cq fl wq hBq (by omega))
    clear hBq
    go_wp2_with fail
    refine HC.out.mono ?_
    rintro r w2 ⟨v2, rfl, hu2, hb20⟩
    have hb2 := hbq.trans (hb20.mono hbq.size)
    have Hr2 := Lib.hid (own_base hu2 (Nat.le_trans Hb1.out.size hbq.size))
    have Hb2 := Lib.hid (Hb1.out.trans (hb2.mono Hb1.out.size))
    have HB2 := Lib.hid ((hb2.block _ (Array.getElem?_eq_some_iff.1 HB1.out).1).trans HB1.out)
    have Hl2 := Lib.hid (show (formB fl).length ≤ 1010 from by
      have h1 := form_len (x := fl.length) (by have := Hk1.out; omega)
      have := Hk1.out
      unfold formB
      rw [List.length_append]
      omega)
    clear hu2 hb2 hb20 hbq hcv y0 y1 y2 HC
    generalize formB fl = P1 at *
    obtain ⟨y0, y1, y2⟩ := box3 HB2.out
    have HU := Lib.hid (ruint_any at_ w2 hat)
    go_wp2_with fail
    refine HU.out.mono ?_
    rintro r w3 ⟨v3, rfl, hu3, hb3⟩
    obtain ⟨p3, c3, rfl, hB3⟩ := own_slice hu3 (form_byte at_)
    have HB3' := Lib.hid hB3
    have Hr3 := Lib.hid (own_below Hr2.out hb3)
    have Hb3 := Lib.hid (Hb2.out.trans (hb3.mono Hb2.out.size))
    have HB3 := Lib.hid ((hb3.block _ (Array.getElem?_eq_some_iff.1 HB2.out).1).trans HB2.out)
    have Hl3 := Lib.hid (form_len (x := at_) hat)
    have hwn : IntKind.u64.wrap (n : Int) = (n : Int) := by rw [IntKind.wrap_u64]; omega
    clear hu3 hb3 hB3 y0 y1 y2 HU
    generalize form at_ = P2 at *
    go_wp2_with (at_builtin; refine wpList_append_bytes _ rfl _ _ 28 rfl w.heap.size 5 Tryz.underlying28 info_u8 _ _ _ rfl Hr3.out p3 _ c3 P2 rfl HB3'.out (by have := Hl2.out; have := Hl3.out; omega) Hb3.out.size ?_; intro v4 w4 g1 g2; have y2 := (box3 (grown_keep g2 HB3.out (row_ne Hr3.out HB3.out (by decide)))).2.2)
    have Hr4 := Lib.hid (show w4.ownsRow w.heap.size 5 1 v4 (P1 ++ P2).length (u8s (P1 ++ P2)) from by rw [List.length_append]; exact g1)
    have Hb4 := Lib.hid (Hb3.out.grown g2 Hb3.out.size (fun k hk => (Hr3.out.lt k hk).1))
    have HB4 := Lib.hid (grown_keep g2 HB3.out (row_ne Hr3.out HB3.out (by decide)))
    have Hl4 := Lib.hid (show (P1 ++ P2).length ≤ 1020 from by rw [List.length_append]; have := Hl2.out; have := Hl3.out; omega)
    clear g1 g2
    generalize P1 ++ P2 = P3 at *
    have HU := Lib.hid (ruint_any n w4 (by omega))
    first | rw [hwn] | skip
    refine HU.out.mono ?_
    rintro r w5 ⟨v5, rfl, hu5, hb5⟩
    obtain ⟨p5, c5, rfl, hB5⟩ := own_slice hu5 (form_byte n)
    have HB5' := Lib.hid hB5
    have Hr5 := Lib.hid (own_below Hr4.out hb5)
    have Hb5 := Lib.hid (Hb4.out.trans (hb5.mono Hb4.out.size))
    have HB5 := Lib.hid ((hb5.block _ (Array.getElem?_eq_some_iff.1 HB4.out).1).trans HB4.out)
    have Hl5 := Lib.hid (form_len (x := n) (by omega))
    clear hu5 hb5 hB5 y2 HU
    generalize form n = P4 at *
    go_wp2_with (at_builtin; refine wpList_append_bytes _ rfl _ _ 28 rfl w.heap.size 5 Tryz.underlying28 info_u8 _ _ _ rfl Hr5.out p5 _ c5 P4 rfl HB5'.out (by have := Hl4.out; have := Hl5.out; omega) Hb5.out.size ?_; intro v6 w6 g1 g2)
    have Hr6 := Lib.hid (show w6.ownsRow w.heap.size 5 1 v6 (P3 ++ P4).length (u8s (P3 ++ P4)) from by rw [List.length_append]; exact g1)
    have Hb6 := Lib.hid (Hb5.out.grown g2 Hb5.out.size (fun k hk => (Hr5.out.lt k hk).1))
    have HB6 := Lib.hid (grown_keep g2 HB5.out (row_ne Hr5.out HB5.out (by decide)))
    have Hl6 := Lib.hid (show (P3 ++ P4).length ≤ 1030 from by rw [List.length_append]; have := Hl4.out; have := Hl5.out; omega)
    clear g1 g2
    generalize P3 ++ P4 = hd at *
    go_wp2
    go_loopw [4, 5] (fun v i wr => ∃ j : Nat, j ≤ n ∧ i = .int .i64 (j : Int) ∧ wr.ownsRow w.heap.size 5 1 v (hd ++ ((es.take j).map formE).flatten).length (u8s (hd ++ ((es.take j).map formE).flatten)) ∧ (hd ++ ((es.take j).map formE).flatten).length ≤ 1030 + j * 60000020 ∧
      wr.heap[w.heap.size]? = some (.cells #[.string (str fl), .int .u64 (at_ : Int), .slice a n c] 25 (0, 0)) ∧ Below w.heap.size w wr) (fun _ i _ => n - (intOf i).toNat)
    case atStart =>
      have h0 : hd ++ ((es.take 0).map formE).flatten = hd := by simp
      exact ⟨0, Nat.zero_le _, rfl, by rw [h0]; exact Hr6.out, by rw [h0]; have := Hl6.out; omega, HB6.out, Hb6.out⟩
    case round =>
      obtain ⟨j, hj, rfl, hr, hl, hB, hb⟩ := hrel
      have Hr := Lib.hid hr
      have Hl := Lib.hid hl
      have HBr := Lib.hid hB
      have Hb := Lib.hid hb
      obtain ⟨y0, y1, y2⟩ := box3 HBr.out
      clear hr hl hB hb
      by_cases hlt : j < n
      · have hl1 : j < es.length := by omega
        obtain ⟨b, o, rfl, hc⟩ := HE.out.cell (by omega)
        obtain ⟨p, cap, hI, ⟨g0, g1, g2, g3, g4, g5⟩, g6, g7, g8, g9, g10⟩ := ((hc j hl1).below Hb.out).all
        have hfe := List.all_eq_true.1 HF.out _ (List.getElem_mem hl1)
        have hoe := List.all_eq_true.1 HO.out _ (List.getElem_mem hl1)
        have hff := form_few hI hfe (ok_right hoe)
        have HC := Lib.hid (rbytes11_any es[j] _ wr hI (fun _ => hff.1) (fun _ => hff.2))
        have Hle := Lib.hid (formE_len hI hfe (ok_right hoe))
        have Hbe := Lib.hid (formE_byte hI)
        have Htk := Lib.hid (show hd ++ ((es.take (j + 1)).map formE).flatten = hd ++ ((es.take j).map formE).flatten ++ formE es[j] from by
          rw [List.take_succ_eq_append_getElem hl1, List.map_append, List.flatten_append, List.append_assoc]; simp)
        have Hoe := Lib.hid hoe
        have hji : (j : Int) < (n : Int) := by omega
        have Hlt := Lib.hid hlt
        generalize es[j] = e at *
        generalize hd ++ ((es.take j).map formE).flatten = S0 at Hr Hl Htk
        clear hc hI hlt hl1 hfe hoe hff
        go_wp2_with fail
        refine HC.out.mono ?_
        intro r w7 hr7
        obtain ⟨p7, n7, c7, L, rfl, hB7, hb7, hL⟩ := ebytes_slice hr7 Hbe.out
        obtain rfl := hL Hoe.out
        have hn7 := hB7.len
        have HB7 := Lib.hid hB7
        have Hr7 := Lib.hid (own_below Hr.out hb7)
        have Hb7 := Lib.hid (Hb.out.trans (hb7.mono Hb.out.size))
        have HX7 := Lib.hid ((hb7.block _ (Array.getElem?_eq_some_iff.1 HBr.out).1).trans HBr.out)
        have Hn7 := Lib.hid hn7
        have Hnb := Lib.hid Hn.out
        generalize formE e = Fe at *
        clear hr7 hB7 hb7 hL hn7 y0 y1 y2 HC g0 g1 g2 g3 g4 g5 g6 g7 g8 g9 g10
        go_wp2_with (at_builtin; refine wpList_append_bytes _ rfl _ _ 28 rfl w.heap.size 5 Tryz.underlying28 info_u8 _ _ _ rfl Hr7.out p7 _ c7 Fe rfl HB7.out (by have := Hl.out; have := Hle.out; have := Hn7.out; have := Hlt.out; have := hn; omega) Hb7.out.size ?_; intro v9 w9 g1 g2)
        have Hs9 := Lib.hid (show w9.ownsRow w.heap.size 5 1 v9 (hd ++ ((es.take (j + 1)).map formE).flatten).length (u8s (hd ++ ((es.take (j + 1)).map formE).flatten)) from by rw [Htk.out, List.length_append, Hn7.out]; exact g1)
        have Hb9 := Lib.hid (Hb7.out.grown g2 Hb7.out.size (fun k hk => (Hr7.out.lt k hk).1))
        have HX9 := Lib.hid (grown_keep g2 HX7.out (row_ne Hr7.out HX7.out (by decide)))
        have Hn9 := Lib.hid (show (hd ++ ((es.take (j + 1)).map formE).flatten).length ≤ 1030 + (j + 1) * 60000020 from by rw [Htk.out, List.length_append]; have := Hl.out; have := Hle.out; omega)
        clear g1 g2
        go_wp2
        go_roundw
        case rel => exact ⟨j + 1, Hlt.out, by go_num, Hs9.out, Hn9.out, HX9.out, Hb9.out⟩
        case measure => simp [intOf]; have := Hlt.out; omega
      · obtain rfl : j = n := by omega
        have hji : ¬ ((j : Int) < (j : Int)) := by omega
        have Htk := Lib.hid (show formBt ⟨fl, at_, es⟩ = hd ++ ((es.take j).map formE).flatten from by rw [HFB.out, ← hlen, List.take_length])
        clear hlt
        go_wp2
        refine bodyPost_ret (v := .tuple #[u4, .bool true]) (by simp [results, Tryz.results8, go_sem, *]) rfl ?_
        exact .inr ⟨Hok.out, _, rfl, by rw [Htk.out]; exact Hr.out, Hb.out⟩
end Go.Proofs.YtcapbaocchaenaaGreatDoor

/- How long the form of a small valid batch is. -/
namespace Go.Proofs.YtcapbaocchaenaaGreatDoor
open Go.RowKit Fl

theorem evFields_four (k : Int) : (evFields k).length ≤ 4 := by
  unfold evFields
  repeat' split
  all_goals decide

theorem formE_tight {e : Ev} {w : World} {x : Array Value} (h : EvIn w e x) (hf : fewE e = true) (hr : rightN 8 e.v = true) : (formE e).length ≤ 90100 := by
  obtain ⟨f1, _, f3, f4⟩ := few_parts hf
  have hb := fun u hu => bulk_strings e.v f1 u hu
  obtain ⟨_, i2, i3, i4, _, _, a, cap, _, hv⟩ := h
  have g1 := form_bulk e.v (VIn.sound _ _ hv) (fun u hu => ⟨(hb u hu).1, (pre_kinds e.v 8 hr u hu).2, by have := (hb u hu).2; omega⟩)
  have hp : ∀ l ∈ (evFields e.k).map (pieceE e), l.length ≤ 22520 := by
    intro l hl
    obtain ⟨i, _, rfl⟩ := List.mem_map.1 hl
    unfold pieceE
    have n1 := form_len (x := e.nm.length) (by omega)
    have n2 := form_len (x := e.tx.length) (by omega)
    repeat' split
    · have := form_len (x := e.id) (by omega); omega
    · have := form_len (x := e.n.toNat) (by omega); omega
    · have := form_len (x := e.t) (by omega); omega
    · unfold formB; rw [List.length_append]; omega
    · unfold formB; rw [List.length_append]; omega
    · omega
  have h2 := flat_max _ hp
  rw [List.length_map] at h2
  have h3 := evFields_four e.k
  have h4 := form_len (x := 1) (by decide)
  have h5 := form_len (x := e.k.toNat) (by omega)
  unfold formE
  rw [List.length_append, List.length_append]
  have h6 : (evFields e.k).length * 22520 ≤ 4 * 22520 := Nat.mul_le_mul_right _ h3
  omega

theorem formBt_tight {w : World} {t : Bt} {x : Array Value} (h : BtIn w t x) (hn : t.es.length ≤ 1048576) (hf : t.es.all fewE = true) (hok : okB t = true) : (formBt t).length ≤ 99000000000 := by
  obtain ⟨k1, k2, k3⟩ := okB_parts hok
  obtain ⟨_, hat, a, n, c, _, hE⟩ := h
  have h1 := flat_max (B := 90100) (t.es.map formE) (fun l hl => by
    obtain ⟨e, he, rfl⟩ := List.mem_map.1 hl
    obtain ⟨i, hi, rfl⟩ := List.getElem_of_mem he
    obtain ⟨b, o, _, hc⟩ := hE.cell (by have := hE.len; omega)
    obtain ⟨a', cap', hI, _⟩ := hc i hi
    exact formE_tight hI (List.all_eq_true.1 hf _ he) (ok_right (List.all_eq_true.1 k3 _ he)))
  rw [List.length_map] at h1
  have h2 : t.es.length * 90100 ≤ 1048576 * 90100 := Nat.mul_le_mul_right _ hn
  have n1 := form_len (x := t.flow.length) (by omega)
  have n2 := form_len (x := t.at_) (by omega)
  have n3 := form_len (x := t.es.length) (by omega)
  unfold formBt headB formB
  simp only [List.length_append]
  omega
end Go.Proofs.YtcapbaocchaenaaGreatDoor

/- The forms of valid batches in memory. -/
namespace Go.Proofs.YtcapbaocchaenaaGreatDoor
open Go.RowKit Go.Shelf Fl

theorem formBt_ne (t : Bt) : 0 < (formBt t).length := by
  rw [formBt_is]
  unfold formB
  simp only [List.length_append]
  have := form_pos t.flow.length
  omega

theorem btIn_isB {w : World} {t : Bt} {x : Array Value} (h : BtIn w t x) (hok : okB t = true) (hn : t.es.length ≤ 1048576) : IsB (formBt t) t := by
  obtain ⟨k1, k2, k3⟩ := okB_parts hok
  obtain ⟨_, hat, a, n, c, _, hE⟩ := h
  refine ⟨hok, ⟨by omega, hat, by omega, fun e he => ⟨List.all_eq_true.1 k3 e he, ?_⟩⟩, rfl⟩
  obtain ⟨i, hi, rfl⟩ := List.getElem_of_mem he
  obtain ⟨b, o, _, hc⟩ := hE.cell (by have := hE.len; omega)
  obtain ⟨a', cap', hI, _⟩ := hc i hi
  exact hI.bound

theorem formBt_byte {w : World} {t : Bt} {x : Array Value} (h : BtIn w t x) : ∀ c ∈ formBt t, c < 256 := by
  obtain ⟨hf, _, a, n, c, _, hE⟩ := h
  intro x hx
  rw [formBt_is] at hx
  rcases List.mem_append.1 hx with h | hx
  · exact formB_byte hf.1 x h
  rcases List.mem_append.1 hx with h | hx
  · exact form_byte _ x h
  rcases List.mem_append.1 hx with h | hx
  · exact form_byte _ x h
  · exact forms_byte hE x hx

/-- What Bytes of a batch gives. -/
def formOr (t : Bt) : List Nat := if okB t = true then formBt t else []

theorem bytes_end {w w' : World} {t : Bt} {x : Array Value} {r : Ending} (h : BBytesEnd w t r w') (hI : BtIn w t x) : ∃ p cp, r = .returned (.tuple #[.slice p (formOr t).length cp, .bool (okB t)]) ∧ Bytes w' p (formOr t).length cp (formOr t) ∧ Below w.heap.size w w' := by
  unfold formOr
  rcases h with ⟨h0, rfl, hb⟩ | ⟨h1, u, rfl, hown, hb⟩
  · rw [h0]
    exact ⟨none, 0, rfl, bytes_nil _, hb⟩
  · rw [h1]
    obtain ⟨p, cp, rfl, hB⟩ := own_slice hown (formBt_byte hI)
    exact ⟨p, cp, rfl, hB, hb⟩

theorem noB_nil : NoB [] := fun t h => by
  have := formBt_ne t
  rw [← h.2.2] at this
  exact absurd this (by decide)
end Go.Proofs.YtcapbaocchaenaaGreatDoor

/- The text of a batch; the walk of the reference's Text of a batch. -/
namespace Go.Proofs.YtcapbaocchaenaaGreatDoor
open Go.RowKit Go.Shelf Fl

/-- The head of a batch's text. -/
def headT (fl : List Nat) (at_ : Nat) : List Nat := quoteL fl ++ (32 :: decD at_)
/-- The texts of events, each behind a semicolon and a blank. -/
def tailT (es : List Ev) : List Nat := (es.map fun e => 59 :: 32 :: textE e).flatten
/-- The text of a batch. -/
def textBt (t : Bt) : List Nat := headT t.flow t.at_ ++ tailT t.es

theorem tailT_snoc (es : List Ev) (e : Ev) : tailT (es ++ [e]) = tailT es ++ (59 :: 32 :: textE e) := by
  unfold tailT
  rw [List.map_append, List.flatten_append]
  simp

theorem quote_len {s : List Nat} (h : s.length ≤ 1100) : (quoteL s).length ≤ 1000000 := by
  rw [quoteL_is, List.length_cons, List.length_append, hex2_len]
  simp
  omega

theorem wordsT_len (W : Nat → List Nat) (B : Nat) (hW : ∀ i, (W i).length ≤ B) : ∀ l : List Nat, (wordsT W l).length ≤ l.length * (B + 1) := by
  intro l
  induction l with
  | nil => simp [wordsT]
  | cons i l ih =>
    have h := hW i
    have e : (wordsT W (i :: l)).length ≤ (B + 1) + (wordsT W l).length := by
      simp only [wordsT, List.map_cons, List.flatten_cons, List.length_append, List.length_cons]
      omega
    rw [List.length_cons, Nat.succ_mul]
    omega

theorem textE_len {e : Ev} {w : World} {x : Array Value} (h : EvIn w e x) (hf : fewE e = true) : (textE e).length ≤ 60000020 := by
  have h1 := wordsT_len (wordE e) 1000000 (few_word h hf) (evFields e.k)
  have h2 := evFields_len e.k
  have h3 : (evName e.k).length ≤ 10 := by
    unfold evName
    repeat' split
    all_goals decide
  have h4 : (evFields e.k).length * (1000000 + 1) ≤ 6 * (1000000 + 1) := Nat.mul_le_mul_right _ h2
  unfold textE
  split
  · rw [List.length_append]; omega
  · exact Nat.zero_le _

theorem tail_max {w : World} {a : Option Addr} {n c : Nat} {es : List Ev} (h : Evs w a n c es) (hn : n ≤ 1048576) (hf : es.all fewE = true) : (tailT es).length ≤ 80000000000000 := by
  have h1 := flat_max (B := 60000022) (es.map fun e => 59 :: 32 :: textE e) (fun l hl => by
    obtain ⟨e, he, rfl⟩ := List.mem_map.1 hl
    obtain ⟨i, hi, rfl⟩ := List.getElem_of_mem he
    obtain ⟨b, o, _, hc⟩ := h.cell (by have := h.len; omega)
    obtain ⟨a', cap', hI, _⟩ := hc i hi
    have := textE_len hI (List.all_eq_true.1 hf _ he)
    simp only [List.length_cons]
    omega)
  rw [List.length_map, h.len] at h1
  have h2 : n * 60000022 ≤ 1048576 * 60000022 := Nat.mul_le_mul_right _ hn
  unfold tailT
  omega

theorem tail_take {w : World} {a : Option Addr} {n c : Nat} {es : List Ev} (h : Evs w a n c es) (hn : es.length ≤ 1048576) (hf : es.all fewE = true) (j : Nat) : (tailT (es.take j)).length ≤ 80000000000000 := by
  have h1 := tail_max h (by have := h.len; omega) hf
  have h2 : tailT es = tailT (es.take j) ++ tailT (es.drop j) := by
    unfold tailT
    rw [← List.flatten_append, ← List.map_append, List.take_append_drop]
  rw [h2, List.length_append] at h1
  omega

set_option maxRecDepth 100000 in
set_option maxHeartbeats 3200000 in
theorem rtext13_any (t : Bt) (x : Array Value) (w : World) (hn : t.es.length ≤ 1048576) (hf : t.es.all fewE = true) (h : BtIn w t x) :
    Calls Tryz.prog 12 #[.agg x] w fun r w' => r = .returned (.string (str (if okB t = true then textBt t else []))) ∧ Below w.heap.size w w' := by
  have HV := Lib.hid (fun W (hW : Below w.heap.size w W) => rvalid13_any t x W (h.below hW))
  obtain ⟨fl, at_, es⟩ := t
  obtain ⟨⟨hb1, hb2⟩, hat, a, n, c, rfl, hE⟩ := h
  change ∀ c ∈ fl, c < 256 at hb1
  change at_ < 18446744073709551616 at hat
  change Evs w a n c es at hE
  change es.all fewE = true at hf
  have hlen := hE.len
  have hcm := hE.max
  have hle := hE.le
  change es.length ≤ 1048576 at hn
  have hal := (Below.refl w.heap.size w).alloc (Nat.le_refl _) (.cells #[.string (str fl), .int .u64 (at_ : Int), .slice a n c] 25)
  have Hal := Lib.hid hal
  have HB := Lib.hid (heap_alloc_new w (.cells #[.string (str fl), .int .u64 (at_ : Int), .slice a n c] 25))
  obtain ⟨y0, y1, y2⟩ := box3 HB.out
  have HE := Lib.hid hE
  have HF := Lib.hid hf
  have Hby := Lib.hid (And.intro hb1 hb2)
  clear hal hE hf hb1 hb2
  cases hok : okB ⟨fl, at_, es⟩ with
  | false =>
    rw [hok] at HV
    rw [if_neg (by decide)]
    clear hok
    go_enter Tryz.func12, Tryz.ntmps12
    go_wp2_with fail
    refine (HV.out _ Hal.out).mono ?_
    rintro r w1 ⟨rfl, hb⟩
    have Hb := Lib.hid (Hal.out.trans (hb.mono Hal.out.size))
    clear hb
    go_wp2
    go_ret
    exact ⟨rfl, Hb.out⟩
  | true =>
    rw [hok] at HV
    rw [if_pos rfl]
    obtain ⟨k1, k2, k3⟩ := okB_parts hok
    change fl.length ≤ 1000 at k1
    have HQ := Lib.hid (fun W => rvtext_any (.mk 3 0 0 fl []) _ W (quote_len (show fl.length ≤ 1100 by omega)) (quote_in fl W Hby.out.1 Hby.out.2))
    have HU := Lib.hid (fun W => runsigned11_any at_ W hat)
    have HT := Lib.hid (show textBt ⟨fl, at_, es⟩ = headT fl at_ ++ tailT es from rfl)
    have HLq := Lib.hid (quote_len (show fl.length ≤ 1100 by omega))
    have HLd := Lib.hid (decD_len20 hat)
    have HLh := Lib.hid (show (headT fl at_).length ≤ 1000030 from by have h5 := HLq.out; have h6 := HLd.out; unfold headT; rw [List.length_append, List.length_cons]; omega)
    have HLt := Lib.hid (fun j => tail_take HE.out hn HF.out j)
    unfold cells5 at HQ
    rw [show textB (.mk 3 0 0 fl []) = quoteL fl from rfl] at HQ
    clear hok k3 k2 k1
    go_enter Tryz.func12, Tryz.ntmps12
    go_wp2_with fail
    refine (HV.out _ Hal.out).mono ?_
    rintro r w1 ⟨rfl, hb⟩
    have HB1 := Lib.hid ((hb.block _ (Array.getElem?_eq_some_iff.1 HB.out).1).trans HB.out)
    have Hb := Lib.hid (Hal.out.trans (hb.mono Hal.out.size))
    clear hb y0 y1 y2 HB Hal
    have hs1 : str (quoteL fl) ++ (⟨#[32]⟩ : ByteArray) = str (quoteL fl ++ [32]) := str_append (quoteL fl) [32]
    have hs2 : str (quoteL fl ++ [32]) ++ str (decD at_) = str (headT fl at_) := by rw [str_append]; unfold headT; simp
    have hz1 := str_size (quoteL fl)
    have hz2 := str_size (quoteL fl ++ [32])
    have hz3 := str_size (decD at_)
    have hl1 : (quoteL fl).length ≤ 1000000 := HLq.out
    have hl2 : (quoteL fl ++ [32]).length = (quoteL fl).length + 1 := by rw [List.length_append]; rfl
    have hl3 : (decD at_).length ≤ 20 := HLd.out
    have hA1 : (quoteL fl).length + 1 ≤ 9223372036854775807 := by omega
    have hA2 : (quoteL fl ++ [32]).length + (decD at_).length ≤ 9223372036854775807 := by omega
    have hA3 : (quoteL fl).length + 1 + (decD at_).length ≤ 9223372036854775807 := by omega
    have hA4 : (quoteL fl).length + (1 + (decD at_).length) ≤ 9223372036854775807 := by omega
    have hq0 := box3 (show w1.drew.heap[w.heap.size]? = some (.cells #[.string (str fl), .int .u64 (at_ : Int), .slice a n c] 25 (0, 0)) from HB1.out)
    go_wp2
    go_region_held (fun w' => w'.cell? ⟨w.heap.size, 0, none⟩ = some (.string (str fl)) ∧ w'.cell? ⟨w.heap.size, 1, none⟩ = some (.int .u64 (at_ : Int)) ∧ w'.cell? ⟨w.heap.size, 2, none⟩ = some (.slice a n c))
      (first | exact hq0 | exact hq1)
      (first
        | (go_at_call 36; (with_reducible refine (HQ.out w1.drew).mono ?_); rintro e w2 ⟨rfl, hb2⟩; have hq1 := And.intro (cell_below hb2 hq0.1) (And.intro (cell_below hb2 hq0.2.1) (cell_below hb2 hq0.2.2)); have Hb2 := Lib.hid hb2)
        | (go_at_call 37; (with_reducible refine (HU.out w2).mono ?_); rintro e w3 ⟨rfl, rfl⟩))
    all_goals
      have Hb3 := Lib.hid (show Below w1.heap.size w1 w2 from (Below.refl _ _).drew.trans (Hb2.out.mono (Nat.le_refl _)))
      clear hq0
      go_wp2_with fail
      go_loopw [3, 4] (fun s i wr => ∃ j : Nat, j ≤ n ∧ s = .string (str (headT fl at_ ++ tailT (es.take j))) ∧ i = .int .i64 (j : Int) ∧ Below w1.heap.size w1 wr) (fun _ i _ => n - (intOf i).toNat)
      case atStart => exact ⟨0, Nat.zero_le _, by simp [tailT], rfl, Hb3.out⟩
      case round =>
        obtain ⟨j, hj, rfl, rfl, hb⟩ := hrel
        have HBj := Lib.hid hb
        have hbox := (hb.block _ (Array.getElem?_eq_some_iff.1 HB1.out).1).trans HB1.out
        obtain ⟨y0, y1, y2⟩ := box3 hbox
        clear hb hbox
        by_cases hlt : j < n
        · have hl1 : j < es.length := by omega
          obtain ⟨bb, o, rfl, hc⟩ := (HE.out.below (Hb.out.trans (HBj.out.mono Hb.out.size))).cell (by omega)
          obtain ⟨p, cap, hI, ⟨g0, g1, g2, g3, g4, g5⟩, g6, g7, g8, g9, g10⟩ := (hc j hl1).all
          have hsn : tailT (es.take (j + 1)) = tailT (es.take j) ++ (59 :: 32 :: textE es[j]) := by
            rw [List.take_add_one, List.getElem?_eq_getElem hl1]
            exact tailT_snoc _ _
          have HC := Lib.hid (rtext11_any es[j] _ wr hI (few_word hI (List.all_eq_true.1 HF.out _ (List.getElem_mem hl1))))
          have Hsn := Lib.hid hsn
          have hji : (j : Int) < (n : Int) := by omega
          have Hmem := Lib.hid (List.getElem_mem hl1)
          generalize es[j] = e at *
          have hsf := fun (W : World) (A : Addr) (f : Nat) (m : Mode) => (run_store Tryz.prog W A (.float .f64 f) m rfl)
          have hte := textE_len hI (List.all_eq_true.1 HF.out _ Hmem.out)
          have hlj : (headT fl at_ ++ tailT (es.take j)).length ≤ 90000000000000 := by have h5 := HLh.out; have h6 := HLt.out j; rw [List.length_append]; omega
          have Hs4 := Lib.hid (show Value.string (str ((headT fl at_ ++ tailT (es.take j)) ++ 59 :: 32 :: textE e)) = Value.string (str (headT fl at_ ++ tailT (es.take (j + 1)))) from by rw [Hsn.out]; simp)
          generalize headT fl at_ ++ tailT (es.take j) = P at *
          have hs1 : str P ++ (⟨#[59, 32]⟩ : ByteArray) = str (P ++ [59, 32]) := str_append P [59, 32]
          have hs2 : str (P ++ [59, 32]) ++ str (textE e) = str (P ++ [59, 32] ++ textE e) := str_append _ _
          have hz1 := str_size P
          have hz2 := str_size (P ++ [59, 32])
          have hz3 := str_size (textE e)
          have hl2 : (P ++ [59, 32]).length = P.length + 2 := by rw [List.length_append]; rfl
          have hA1 : P.length + 2 ≤ 9223372036854775807 := by omega
          have hA2 : (P ++ [59, 32]).length + (textE e).length ≤ 9223372036854775807 := by omega
          have hA3 : P.length + 2 + (textE e).length ≤ 9223372036854775807 := by omega
          clear hc hI hl1 hsn Hsn
          go_wp2_with fail
          refine HC.out.mono ?_
          rintro r w4 ⟨rfl, hb4⟩
          have Hb4 := Lib.hid (HBj.out.trans (hb4.mono HBj.out.size))
          clear hb4
          go_wp2
          go_roundw
          case rel => exact ⟨j + 1, hlt, Hs4.out, by go_num, Hb4.out⟩
          case measure => simp [intOf]; omega
        · obtain rfl : j = n := by omega
          have hji : ¬ ((j : Int) < (j : Int)) := by omega
          have Hend := Lib.hid (show Ending.returned (.string (str (headT fl at_ ++ tailT (es.take j)))) = .returned (.string (str (textBt ⟨fl, at_, es⟩))) from by rw [List.take_of_length_le (by omega), HT.out])
          generalize str (headT fl at_ ++ tailT (es.take j)) = S at *
          go_wp2
          go_ret
          exact ⟨Hend.out, Hb.out.trans (HBj.out.mono Hb.out.size)⟩
end Go.Proofs.YtcapbaocchaenaaGreatDoor

/- The walk of the code's mapped with event.Text: the texts of events. -/
namespace Go.Proofs.YtcapbaocchaenaaGreatDoor
open Go.RowKit Go.Shelf Fl

/-- The first j cells of a row of strings hold the texts of the first j events. -/
def TxRow (w : World) (M : Nat) (es : List Ev) (n j : Nat) : Prop := ∃ x, w.heap[M]? = some (.cells x 9 (0, 0)) ∧ x.size = n ∧
  ∀ (k : Nat) (e : Ev), k < j → es[k]? = some e → x[k]? = some (.string (str (textE e)))

theorem TxRow.below {w w' : World} {M : Nat} {es : List Ev} {n j : Nat} (h : TxRow w M es n j) (hb : Below w.heap.size w w') : TxRow w' M es n j := by
  obtain ⟨x, h1, h2, h3⟩ := h
  exact ⟨x, (hb.block _ (Array.getElem?_eq_some_iff.1 h1).1).trans h1, h2, h3⟩

theorem TxRow.set {w : World} {M : Nat} {es : List Ev} {n j : Nat} (h : TxRow w M es n j) {e : Ev} (he : es[j]? = some e) (hj : j < n) :
    TxRow (w.setCell ⟨M, j, none⟩ (.string (str (textE e)))) M es n (j + 1) := by
  obtain ⟨x, h1, h2, h3⟩ := h
  refine ⟨x.setIfInBounds j (.string (str (textE e))), Joins.block_setCell h1 _, by rw [Array.size_setIfInBounds, h2], fun k e' hk he' => ?_⟩
  by_cases hkj : k = j
  · subst hkj
    rw [he] at he'
    cases he'
    rw [Array.getElem?_setIfInBounds, if_pos rfl, if_pos (by omega)]
  · rw [Array.getElem?_setIfInBounds, if_neg (fun h => hkj h.symm)]
    exact h3 k e' (by omega) he'

/-- What mapped returns: a row of texts. -/
def MapTEnd (w : World) (es : List Ev) (n : Nat) (r : Ending) (w' : World) : Prop := r = .returned (.slice (some ⟨w.heap.size, 0, none⟩) n n) ∧ TxRow w' w.heap.size es n n ∧ Below w.heap.size w w'

set_option maxRecDepth 100000 in
set_option maxHeartbeats 3200000 in
theorem maptext_any (a : Option Addr) (n c : Nat) (es : List Ev) (w : World) (hn : n ≤ 1048576) (hf : es.all fewE = true) (h : Evs w a n c es) (hp : Pow10 w) (ht : Tab16 w) :
    Calls Tryz.prog 34 #[.slice a n c, fnV 35] w (MapTEnd w es n) := by
  have hlen := h.len
  have hcm := h.max
  have hle := h.le
  have H := Lib.hid h
  have HF := Lib.hid hf
  have HP := Lib.hid hp
  have HT := Lib.hid ht
  have hent := fun W args => enters_of Tryz.func35 (by kernel_rfl) rfl args W
  have hsf := fun (W : World) (A : Addr) (f : Nat) (m : Mode) => (run_store Tryz.prog W A (.float .f64 f) m rfl)
  have hmk := run_make_row' (P := Tryz.prog) 59 9 (.string ByteArray.empty) 16 Tryz.underlying59 info_string rfl .i64 .i64 n (by omega) (by omega)
  have H0 := Lib.hid (show TxRow (w.alloc (.cells (madeCells #[Value.string ByteArray.empty] n) 9)) w.heap.size es n 0 from ⟨_, heap_alloc_new w _, size_madeCells _ _, fun k _ hk => absurd hk (by omega)⟩)
  have Hb0 := Lib.hid ((Below.refl w.heap.size w).alloc (Nat.le_refl _) (.cells (madeCells #[Value.string ByteArray.empty] n) 9))
  clear h hf hp ht
  go_enter Tryz.func34, Tryz.ntmps34
  go_wp2_with fail
  generalize w.alloc (.cells (madeCells #[Value.string ByteArray.empty] n) 9) = w1 at *
  go_loopw [13] (fun i wr => ∃ j : Nat, j ≤ n ∧ i = .int .i64 (j : Int) ∧ TxRow wr w.heap.size es n j ∧ Below w.heap.size w wr) (fun i _ => n - (intOf i).toNat)
  case atStart => exact ⟨0, Nat.zero_le _, rfl, H0.out, Hb0.out⟩
  case round =>
    obtain ⟨j, hj, rfl, hrow, hb⟩ := hrel
    have Hrow := Lib.hid hrow
    have Hb := Lib.hid hb
    clear hrow hb
    by_cases hlt : j < n
    · have hl1 : j < es.length := by omega
      obtain ⟨b, o, rfl, hc⟩ := H.out.cell (by omega)
      obtain ⟨p, cap, hI, ⟨g0, g1, g2, g3, g4, g5⟩, g6, g7, g8, g9, g10⟩ := ((hc j hl1).below Hb.out).all
      have HC := Lib.hid (fun W hb1 => evtext_few es[j] _ W (List.all_eq_true.1 HF.out _ (List.getElem_mem hl1)) (hI.below (w' := W) hb1) (Pow10.below HP.out (Hb.out.trans (hb1.mono Hb.out.size))) (cell_below (Hb.out.trans (hb1.mono Hb.out.size)) HT.out))
      have Hje := Lib.hid (List.getElem?_eq_getElem hl1)
      have hji : (j : Int) < (n : Int) := by omega
      have Hlt := Lib.hid hlt
      generalize es[j] = e at *
      have Hal := Lib.hid ((Below.refl wr.heap.size wr).alloc (Nat.le_refl _) (.cells (evC e.k e.id e.n e.t e.nm e.tx e.v.kind e.v.n e.v.f e.v.s p e.v.l.length cap) 45))
      clear hc hI hlt hl1
      go_wp2_with fail
      refine (HC.out _ Hal.out).mono ?_
      rintro r w2 ⟨rfl, hb2⟩
      have hrow2 := Hrow.out.below (Hal.out.trans (hb2.mono Hal.out.size))
      have Hb2 := Lib.hid (Hb.out.trans ((Hal.out.trans (hb2.mono Hal.out.size)).mono Hb.out.size))
      have Hset := Lib.hid (hrow2.set Hje.out Hlt.out)
      obtain ⟨x, hx, hxs, _⟩ := hrow2
      obtain ⟨y, hy⟩ : ∃ y, w2.cell? ⟨w.heap.size, j, none⟩ = some y := by
        rw [cell_of_row _ _ _ _ _ _ hx]
        exact ⟨_, Array.getElem?_eq_getElem (by rw [hxs]; exact Hlt.out)⟩
      have hfr : w2.frozen? ⟨w.heap.size, j, none⟩ = false := by simp [World.frozen?, hx]
      clear hb2 hx hxs g0 g1 g2 g3 g4 g5 g6 g7 g8 g9 g10 HC
      go_wp2
      go_roundw
      case rel => exact ⟨j + 1, Hlt.out, by go_num, Hset.out, Hb2.out.setCell (Nat.le_refl _) _⟩
      case measure => simp [intOf]; have := Hlt.out; omega
    · obtain rfl : j = n := by omega
      have hji : ¬ ((j : Int) < (j : Int)) := by omega
      clear hlt
      go_wp2
      go_ret
      exact ⟨rfl, Hrow.out, Hb.out⟩
end Go.Proofs.YtcapbaocchaenaaGreatDoor

/- The walk of the code's Text of a batch. -/
namespace Go.Proofs.YtcapbaocchaenaaGreatDoor
open Go.RowKit Go.Shelf Fl

theorem join_semi (h : List Nat) (es : List Ev) : Lib.join ((h :: es.map textE).map fun l => l.map UInt8.ofNat) [59, 32] = (h ++ tailT es).map UInt8.ofNat := by
  rw [List.map_cons, Lib.join_cons, List.map_append]
  congr 1
  unfold Lib.joinTail tailT
  induction es with
  | nil => rfl
  | cons e es ih =>
    simp only [List.map_cons, List.flatten_cons, List.map_append] at ih ⊢
    rw [ih]
    rfl

/-- A row of strings of the call's own: a head and the texts of events. -/
theorem info_t : (Tryz.prog.info? 9).map (fun i => (i.zero, i.size, i.bytes)) = some (some (.string ⟨#[]⟩), 1, 16) := by kernel_rfl

theorem wpl_appT {ops : Array Oper} {rest : List Oper} {o : Oper} {a : Act} {Q : Exit → Act → World → Prop} {w : World} (hgd : o.guard = none) (s x : Operand)
    (ho : o.op = .call { callee := .builtin .append, args := #[s, x], argTypes := #[59, 59] })
    {base : Nat} {v : Value} {h0 : List Nat} (hs : a.eval s = v) (hown : w.ownsRow base 9 1 v 1 [.string (str h0)]) {q m : Nat} {es : List Ev} (hx : a.eval x = .slice (some ⟨q, 0, none⟩) m m) (hT : TxRow w q es m m) (hm : es.length = m) (hle : m ≤ 1048576) (hbase : base ≤ w.heap.size)
    (h : ∀ v' w', w'.ownsRow base 9 1 v' (1 + m) ((h0 :: es.map textE).map fun l => .string (str l)) → w.grownBy w' v.ownBlock → wpList Tryz.prog ops Q rest (a.put o.dst v') w') : wpList Tryz.prog ops Q (o :: rest) a w := by
  obtain ⟨i0, hi, hz, hsz, hby⟩ := info_parts info_t
  obtain ⟨y, hy1, hy2, hy3⟩ := hT
  refine wpList_append_own_at w hgd s x 59 ho base 9 i0 (.string ⟨#[]⟩) 1 16 Tryz.underlying59 hi hz hsz hby rfl (by decide) v 1 [.string (str h0)] hs hown ⟨q, 0, none⟩ m m ((es.map textE).map fun l => .string (str l)) hx (by rw [List.length_map, List.length_map]; omega) (fun j u hj => ?_) (fun u hu => ?_) (by rw [maxLen_nat]; omega) (by omega) hbase (fun v' w' h1 h2 _ _ => h v' w' h1 h2)
  · rw [List.map_map, List.getElem?_map] at hj
    obtain ⟨e, he, rfl⟩ := Option.map_eq_some_iff.1 hj
    have hlt := (List.getElem?_eq_some_iff.1 he).1
    rw [Addr.add_lit, Nat.zero_add, cell_of_row _ _ _ _ _ _ hy1]
    exact hy3 j e (by omega) he
  · obtain ⟨l, _, rfl⟩ := List.mem_map.1 hu
    rfl

theorem join_texts (h0 : List Nat) (es : List Ev) {w : World} {base n : Nat} {v : Value} (h : w.ownsRow base 9 1 v n ((h0 :: es.map textE).map fun l => .string (str l))) (hn : n = 1 + es.length) (hle : es.length ≤ 1048576) (hlen : (h0 ++ tailT es).length ≤ 140737488355328) :
    Calls Tryz.prog 33 #[v, .string ⟨#[59, 32]⟩] w fun e w' => e = .returned (.string (str (h0 ++ tailT es))) ∧ Below w.heap.size w w' := by
  obtain ⟨g, cap, rfl, _, hg⟩ := h.form (by omega)
  have hcap : n ≤ cap := by
    rcases h.2 with ⟨h', _⟩ | ⟨g', cap', cur, h', _, _, hc, _⟩
    · simp at h'
    · simp only [Value.slice.injEq] at h'
      omega
  have hxl : ((h0 :: es.map textE).map str).length = n := by rw [List.length_map, List.length_cons, List.length_map]; omega
  have hmm : ((h0 :: es.map textE).map str).map (·.data.toList) = (h0 :: es.map textE).map (fun x => x.map UInt8.ofNat) := by
    rw [List.map_map]
    exact List.map_congr_left (fun u _ => by simp [str])
  have hjn := Tryz.strings_Join g 0 cap ((h0 :: es.map textE).map str) ⟨#[59, 32]⟩ w (fun i x hx => by
      rw [List.getElem?_map] at hx
      obtain ⟨u, hu, rfl⟩ := Option.map_eq_some_iff.1 hx
      have hi := (List.getElem?_eq_some_iff.1 hu).1
      rw [List.length_cons, List.length_map] at hi
      rw [Nat.zero_add, h.cellAt i (by omega), List.getElem?_map, hu]
      rfl) hg (by rw [hxl]; omega) (by rw [hxl]; exact hcap) (by
      rw [hmm, show ((⟨#[59, 32]⟩ : ByteArray).data.toList) = [59, 32] from rfl, join_semi, List.length_map]
      exact hlen)
  rw [hxl, hmm, show ((⟨#[59, 32]⟩ : ByteArray).data.toList) = [59, 32] from rfl, join_semi] at hjn
  exact hjn

set_option maxRecDepth 100000 in
set_option maxHeartbeats 3200000 in
theorem btext_any (t : Bt) (x : Array Value) (w : World) (hn : t.es.length ≤ 1048576) (hf : t.es.all fewE = true) (h : BtIn w t x) (hp : Pow10 w) (ht : Tab16 w) :
    Calls Tryz.prog 11 #[.agg x] w fun r w' => r = .returned (.string (str (if okB t = true then textBt t else []))) ∧ Below w.heap.size w w' := by
  have HV := Lib.hid (fun W (hW : Below w.heap.size w W) => bvalid_any 20 (by omega) t x W (fun e he => (few_parts (List.all_eq_true.1 hf e he)).2.1) (h.below hW))
  obtain ⟨fl, at_, es⟩ := t
  obtain ⟨⟨hb1, hb2⟩, hat, a, n, c, rfl, hE⟩ := h
  change ∀ c ∈ fl, c < 256 at hb1
  change at_ < 18446744073709551616 at hat
  change Evs w a n c es at hE
  change es.all fewE = true at hf
  have hlen := hE.len
  change es.length ≤ 1048576 at hn
  have hal := (Below.refl w.heap.size w).alloc (Nat.le_refl _) (.cells #[.string (str fl), .int .u64 (at_ : Int), .slice a n c] 25)
  have Hal := Lib.hid hal
  have HB := Lib.hid (heap_alloc_new w (.cells #[.string (str fl), .int .u64 (at_ : Int), .slice a n c] 25))
  obtain ⟨y0, y1, y2⟩ := box3 HB.out
  have HE := Lib.hid hE
  have HF := Lib.hid hf
  have Hby := Lib.hid (And.intro hb1 hb2)
  have HPT := Lib.hid (And.intro hp ht)
  clear hal hE hf hb1 hb2 hp ht
  cases hok : okB ⟨fl, at_, es⟩ with
  | false =>
    rw [hok] at HV
    rw [if_neg (by decide)]
    clear hok
    go_enter Tryz.func11, Tryz.ntmps11
    go_wp2_with fail
    refine (HV.out _ Hal.out).mono ?_
    rintro r w1 ⟨rfl, hb⟩
    have Hb := Lib.hid (Hal.out.trans (hb.mono Hal.out.size))
    clear hb
    go_wp2
    go_ret
    exact ⟨rfl, Hb.out⟩
  | true =>
    rw [hok] at HV
    rw [if_pos rfl]
    obtain ⟨k1, k2, k3⟩ := okB_parts hok
    change fl.length ≤ 1000 at k1
    have HQ := Lib.hid (fun W (hW : Below w.heap.size w W) => vText_any 20 (by omega) (.mk 3 0 0 fl []) _ W (by simp [smallN, V.l]) (quote_in fl W Hby.out.1 Hby.out.2) (quote_len (show fl.length ≤ 1100 by omega)) (Pow10.below HPT.out.1 hW) (cell_below hW HPT.out.2))
    have HU := Lib.hid (fun W (hW : Below w.heap.size w W) => uint_dec at_ hat W (Pow10.below HPT.out.1 hW))
    have HT := Lib.hid (show textBt ⟨fl, at_, es⟩ = headT fl at_ ++ tailT es from rfl)
    have HLq := Lib.hid (quote_len (show fl.length ≤ 1100 by omega))
    have HLd := Lib.hid (decD_len20 hat)
    have HLh := Lib.hid (show (headT fl at_).length ≤ 1000030 from by have h5 := HLq.out; have h6 := HLd.out; unfold headT; rw [List.length_append, List.length_cons]; omega)
    have HLt := Lib.hid (tail_max HE.out (by omega) HF.out)
    unfold cells5 at HQ
    rw [show textB (.mk 3 0 0 fl []) = quoteL fl from rfl] at HQ
    clear hok k3 k2 k1
    go_enter Tryz.func11, Tryz.ntmps11
    go_wp2_with fail
    refine (HV.out _ Hal.out).mono ?_
    rintro r w1 ⟨rfl, hb⟩
    have HB1 := Lib.hid ((hb.block _ (Array.getElem?_eq_some_iff.1 HB.out).1).trans HB.out)
    have Hb := Lib.hid (Hal.out.trans (hb.mono Hal.out.size))
    clear hb y0 y1 y2 HB Hal
    have hs1 : str (quoteL fl) ++ (⟨#[32]⟩ : ByteArray) = str (quoteL fl ++ [32]) := str_append (quoteL fl) [32]
    have hs2 : str (quoteL fl ++ [32]) ++ str (decD at_) = str (headT fl at_) := by rw [str_append]; unfold headT; simp
    have hz1 := str_size (quoteL fl)
    have hz2 := str_size (quoteL fl ++ [32])
    have hz3 := str_size (decD at_)
    have hl1 : (quoteL fl).length ≤ 1000000 := HLq.out
    have hl2 : (quoteL fl ++ [32]).length = (quoteL fl).length + 1 := by rw [List.length_append]; rfl
    have hl3 : (decD at_).length ≤ 20 := HLd.out
    have hA1 : (quoteL fl).length + 1 ≤ 9223372036854775807 := by omega
    have hA2 : (quoteL fl ++ [32]).length + (decD at_).length ≤ 9223372036854775807 := by omega
    have hA3 : (quoteL fl).length + 1 + (decD at_).length ≤ 9223372036854775807 := by omega
    have hq0 := box3 (show w1.drew.heap[w.heap.size]? = some (.cells #[.string (str fl), .int .u64 (at_ : Int), .slice a n c] 25 (0, 0)) from HB1.out)
    go_wp2
    go_region_held (fun w' => w'.cell? ⟨w.heap.size, 0, none⟩ = some (.string (str fl)) ∧ w'.cell? ⟨w.heap.size, 1, none⟩ = some (.int .u64 (at_ : Int)) ∧ w'.cell? ⟨w.heap.size, 2, none⟩ = some (.slice a n c))
      (first | exact hq0 | exact hq1 | exact hq2)
      (first
        | (go_at_call 31; (with_reducible refine (HQ.out w1.drew Hb.out.drew).mono ?_); rintro e w2 ⟨rfl, hb2⟩; have hq1 := And.intro (cell_below hb2 hq0.1) (And.intro (cell_below hb2 hq0.2.1) (cell_below hb2 hq0.2.2)); have Hb2 := Lib.hid (Hb.out.drew.trans (hb2.mono Hb.out.drew.size)))
        | (go_at_call 32; (with_reducible refine (HU.out w2 Hb2.out).mono ?_); rintro e w3 ⟨rfl, hb3⟩; have hq2 := And.intro (cell_below hb3 hq1.1) (And.intro (cell_below hb3 hq1.2.1) (cell_below hb3 hq1.2.2)); have Hb3 := Lib.hid (Hb2.out.trans (hb3.mono Hb2.out.size))))
    all_goals
      have y2 := cell_below ((Below.refl w3.heap.size w3).alloc (Nat.le_refl _) (.cells #[.string (str (headT fl at_))] 9)) hq2.2.2
      obtain ⟨w4, hw4⟩ : ∃ w4, w4 = w3.alloc (.cells #[.string (str (headT fl at_))] 9) := ⟨_, rfl⟩
      have hb34 : Below w3.heap.size w3 w4 := by rw [hw4]; exact (Below.refl _ _).alloc (Nat.le_refl _) _
      have HO4 := Lib.hid (show w4.ownsRow w.heap.size 9 1 (.slice (some ⟨w3.heap.size, 0, none⟩) 1 1) 1 [.string (str (headT fl at_))] from by rw [hw4]; exact World.ownsRow_lit w3 #[.string (str (headT fl at_))] 1 Hb3.out.size (by rw [maxLen_nat]; omega) rfl)
      have hb04 := Hb3.out.trans (hb34.mono Hb3.out.size)
      have HM := Lib.hid (maptext_any a n c es w4 (by omega) HF.out (HE.out.below hb04) (Pow10.below HPT.out.1 hb04) (cell_below hb04 HPT.out.2))
      have Hb4 := Lib.hid hb04
      rw [← hw4] at y2
      have hw4s := hw4.symm
      clear hw4 hb34 hb04 hq0 hq1 hq2
      go_wp2_with fail
      refine HM.out.mono ?_
      rintro r w5 ⟨rfl, hrow, hb5⟩
      have HO5 := Lib.hid (show w5.ownsRow w.heap.size 9 1 (.slice (some ⟨w3.heap.size, 0, none⟩) 1 1) 1 [.string (str (headT fl at_))] from World.ownsRow.kept (row := none) HO4.out ⟨hb5.os, hb5.tape, hb5.output, hb5.size, fun k hk _ => hb5.block k hk⟩ (Or.inr (by intro e; cases e)))
      have HR := Lib.hid hrow
      have Hb5 := Lib.hid (Hb4.out.trans (hb5.mono Hb4.out.size))
      clear hb5 hrow
      go_wp2_with (at_builtin; refine wpl_appT rfl _ _ rfl (base := w.heap.size) (h0 := headT fl at_) rfl HO5.out (q := w4.heap.size) (m := n) (es := es) rfl HR.out hlen (by omega) Hb5.out.size ?_; intro v6 w6 hown hgrow; have HO6 := Lib.hid hown; have HG6 := Lib.hid hgrow; clear hown hgrow)
      have Hb6 := Lib.hid (Hb5.out.grown HG6.out Hb5.out.size (fun k hk => (World.ownsRow.lt HO5.out k hk).1))
      refine (join_texts (headT fl at_) es HO6.out (by omega) hn (by have h5 := HLh.out; have h6 := HLt.out; rw [List.length_append]; omega)).mono ?_
      rintro r w7 ⟨rfl, hb7⟩
      have Hend := Lib.hid (show Ending.returned (.string (str (headT fl at_ ++ tailT es))) = .returned (.string (str (textBt ⟨fl, at_, es⟩))) from by rw [HT.out])
      have Hb7 := Lib.hid (Hb6.out.trans (hb7.mono Hb6.out.size))
      clear hb7
      generalize str (headT fl at_ ++ tailT es) = S at *
      go_wp2
      go_ret
      exact ⟨Hend.out, Hb7.out⟩
end Go.Proofs.YtcapbaocchaenaaGreatDoor

/- The walk of the reference's SameBatch. -/
namespace Go.Proofs.YtcapbaocchaenaaGreatDoor
open Go.RowKit Go.Shelf Fl

set_option maxRecDepth 100000 in
set_option maxHeartbeats 3200000 in
theorem rsame12_any (t t' : Bt) (x x' : Array Value) (w : World) (h : BtIn w t x) (h' : BtIn w t' x') :
    Calls Tryz.prog 14 #[.agg x, .agg x'] w fun r w' => r = .returned (.bool (sameB t t')) ∧ Below w.heap.size w w' := by
  obtain ⟨fl, at_, es⟩ := t
  obtain ⟨fl', at', es'⟩ := t'
  obtain ⟨⟨hb1, _⟩, _, a, n, c, rfl, hE⟩ := h
  obtain ⟨⟨hb1', _⟩, _, a', n', c', rfl, hE'⟩ := h'
  change ∀ c ∈ fl, c < 256 at hb1
  change ∀ c ∈ fl', c < 256 at hb1'
  change Evs w a n c es at hE
  change Evs w a' n' c' es' at hE'
  have hal := ((Below.refl w.heap.size w).alloc (Nat.le_refl _) (.cells #[.string (str fl), .int .u64 (at_ : Int), .slice a n c] 25)).alloc (by simp) (.cells #[.string (str fl'), .int .u64 (at' : Int), .slice a' n' c'] 25)
  have Hal := Lib.hid hal
  have H := Lib.hid (hE.below hal)
  have H' := Lib.hid (hE'.below hal)
  have hlen := hE.len
  have hlen' := hE'.len
  have hcm := hE.max
  have hcm' := hE'.max
  have hle := hE.le
  have hle' := hE'.le
  have hq1 := heap_alloc_new (w.alloc (.cells #[.string (str fl), .int .u64 (at_ : Int), .slice a n c] 25)) (.cells #[.string (str fl'), .int .u64 (at' : Int), .slice a' n' c'] 25)
  obtain ⟨_, _, y2'⟩ := box3 hq1
  obtain ⟨_, _, y2⟩ := box3 (heap_alloc_new w (.cells #[.string (str fl), .int .u64 (at_ : Int), .slice a n c] 25))
  have y2 := cell_below (((Below.refl _ (w.alloc (.cells #[.string (str fl), .int .u64 (at_ : Int), .slice a n c] 25))).alloc (Nat.le_refl _) (.cells #[.string (str fl'), .int .u64 (at' : Int), .slice a' n' c'] 25))) y2
  rw [show (w.alloc (.cells #[.string (str fl), .int .u64 (at_ : Int), .slice a n c] 25)).heap.size = w.heap.size + 1 from by simp] at y2'
  obtain ⟨res, hr⟩ : ∃ res, res = sameB ⟨fl, at_, es⟩ ⟨fl', at', es'⟩ := ⟨_, rfl⟩
  rw [← hr]
  have Hres := Lib.hid (show res = (decide (fl = fl' ∧ at_ = at') && sameEs es es') from hr)
  have HNm := Lib.hid (str_ne hb1 hb1')
  clear hal hE hE' hb1 hb1' hr hq1
  by_cases q0 : fl = fl'
  case neg =>
    have d0 : ((str fl).toList == (str fl').toList) = false := HNm.out q0
    have Hf := Lib.hid (show res = false from by rw [Hres.out, decide_eq_false (fun h => q0 h.1)]; rfl)
    clear q0
    go_enter Tryz.func14, Tryz.ntmps14
    go_wp2
    go_ret
    exact ⟨ret_bool Hf.out.symm, Hal.out⟩
  have d0 : ((str fl).toList == (str fl').toList) = true := by rw [q0]; exact str_eq _
  by_cases q1 : at_ = at'
  case neg =>
    have d1 : ((at_ : Int) != (at' : Int)) = true := by rw [bne_iff_ne]; omega
    have Hf := Lib.hid (show res = false from by rw [Hres.out, decide_eq_false (fun h => q1 h.2)]; rfl)
    clear q0 q1
    go_enter Tryz.func14, Tryz.ntmps14
    go_wp2
    go_ret
    exact ⟨ret_bool Hf.out.symm, Hal.out⟩
  have d1 : ((at_ : Int) != (at' : Int)) = false := by rw [q1]; exact bne_self_eq_false _
  have Hr := Lib.hid (show res = sameEs es es' from by rw [Hres.out, decide_eq_true ⟨q0, q1⟩, Bool.true_and])
  clear q0 q1 Hres
  by_cases hn : n = n'
  rotate_left
  · have hq : ((n : Int) != (n' : Int)) = true := by rw [bne_iff_ne]; omega
    have Hf := Lib.hid (show res = false from by rw [Hr.out, sameEs_len (by omega)])
    clear hn
    go_enter Tryz.func14, Tryz.ntmps14
    go_wp2
    go_ret
    exact ⟨ret_bool Hf.out.symm, Hal.out⟩
  subst hn
  have hq : ((n : Int) != (n : Int)) = false := by simp
  go_enter Tryz.func14, Tryz.ntmps14
  go_wp2
  obtain ⟨w1, hw1⟩ : ∃ w1, w1 = (w.alloc (.cells #[.string (str fl), .int .u64 (at_ : Int), .slice a n c] 25)).alloc (.cells #[.string (str fl'), .int .u64 (at' : Int), .slice a' n c'] 25) := ⟨_, rfl⟩
  rw [← hw1] at Hal H H' y2 y2' ⊢
  clear hw1
  go_loopw [5] (fun i wr => ∃ j : Nat, j ≤ n ∧ i = .int .i64 (j : Int) ∧ (∀ k u u', k < j → es[k]? = some u → es'[k]? = some u' → sameE u u' = true) ∧ Below w1.heap.size w1 wr) (fun i _ => n - (intOf i).toNat)
  case atStart => exact ⟨0, Nat.zero_le _, rfl, fun k _ _ hk => absurd hk (by omega), Below.refl _ _⟩
  case round =>
    obtain ⟨j, hj, rfl, hall, hb⟩ := hrel
    have Hall := Lib.hid hall
    have Hb := Lib.hid hb
    have m2 := cell_below hb y2
    have m2' := cell_below hb y2'
    clear hall hb y2 y2'
    by_cases hlt : j < n
    · have hl1 : j < es.length := by omega
      have hl2 : j < es'.length := by omega
      obtain ⟨b, o, rfl, hc⟩ := H.out.cell (by omega)
      obtain ⟨b', o', rfl, hc'⟩ := H'.out.cell (by omega)
      obtain ⟨p, cap, hI, ⟨g0, g1, g2, g3, g4, g5⟩, g6, g7, g8, g9, g10⟩ := ((hc j hl1).below Hb.out).all
      obtain ⟨p', cap', hI', ⟨k0, k1, k2, k3, k4, k5⟩, k6, k7, k8, k9, k10⟩ := ((hc' j hl2).below Hb.out).all
      have hdr : Below wr.heap.size wr wr.drew := (Below.refl _ _).drew
      have HC := Lib.hid (rsame11_any es[j] es'[j] _ _ wr.drew (hI.below hdr) (hI'.below hdr))
      have Hje := Lib.hid (List.getElem?_eq_getElem hl1)
      have Hje' := Lib.hid (List.getElem?_eq_getElem hl2)
      have hji : (j : Int) < (n : Int) := by omega
      have Hlt := Lib.hid hlt
      generalize es[j] = e at *
      generalize es'[j] = e' at *
      clear hc hc' hI hI' hlt hl1 hl2 hdr
      go_wp2
      go_region_held (fun w' =>
          (w'.cell? ⟨w.heap.size, 2, none⟩ = some (.slice (some ⟨b, o, none⟩) n c) ∧ w'.cell? ⟨w.heap.size + 1, 2, none⟩ = some (.slice (some ⟨b', o', none⟩) n c')) ∧
          (w'.cell? ⟨b, o + j * 11, none⟩ = some (.int .i64 e.k) ∧ w'.cell? ⟨b, o + j * 11 + 1, none⟩ = some (.int .u64 (e.id : Int)) ∧ w'.cell? ⟨b, o + j * 11 + 2, none⟩ = some (.int .i64 e.n) ∧ w'.cell? ⟨b, o + j * 11 + 3, none⟩ = some (.int .u64 (e.t : Int)) ∧ w'.cell? ⟨b, o + j * 11 + 4, none⟩ = some (.string (str e.nm)) ∧ w'.cell? ⟨b, o + j * 11 + 5, none⟩ = some (.string (str e.tx)) ∧
          w'.cell? ⟨b, o + j * 11 + 6, none⟩ = some (.int .i64 e.v.kind) ∧ w'.cell? ⟨b, o + j * 11 + 7, none⟩ = some (.int .i64 e.v.n) ∧ w'.cell? ⟨b, o + j * 11 + 8, none⟩ = some (.float .f64 e.v.f) ∧ w'.cell? ⟨b, o + j * 11 + 9, none⟩ = some (.string (str e.v.s)) ∧ w'.cell? ⟨b, o + j * 11 + 10, none⟩ = some (.slice p e.v.l.length cap)) ∧
          w'.cell? ⟨b', o' + j * 11, none⟩ = some (.int .i64 e'.k) ∧ w'.cell? ⟨b', o' + j * 11 + 1, none⟩ = some (.int .u64 (e'.id : Int)) ∧ w'.cell? ⟨b', o' + j * 11 + 2, none⟩ = some (.int .i64 e'.n) ∧ w'.cell? ⟨b', o' + j * 11 + 3, none⟩ = some (.int .u64 (e'.t : Int)) ∧ w'.cell? ⟨b', o' + j * 11 + 4, none⟩ = some (.string (str e'.nm)) ∧ w'.cell? ⟨b', o' + j * 11 + 5, none⟩ = some (.string (str e'.tx)) ∧
          w'.cell? ⟨b', o' + j * 11 + 6, none⟩ = some (.int .i64 e'.v.kind) ∧ w'.cell? ⟨b', o' + j * 11 + 7, none⟩ = some (.int .i64 e'.v.n) ∧ w'.cell? ⟨b', o' + j * 11 + 8, none⟩ = some (.float .f64 e'.v.f) ∧ w'.cell? ⟨b', o' + j * 11 + 9, none⟩ = some (.string (str e'.v.s)) ∧ w'.cell? ⟨b', o' + j * 11 + 10, none⟩ = some (.slice p' e'.v.l.length cap'))
        (first
          | exact ⟨⟨m2, m2'⟩, ⟨g0, g1, g2, g3, g4, g5, g6, g7, g8, g9, g10⟩, k0, k1, k2, k3, k4, k5, k6, k7, k8, k9, k10⟩
          | exact ⟨⟨cell_below hb2 m2, cell_below hb2 m2'⟩, ⟨cell_below hb2 g0, cell_below hb2 g1, cell_below hb2 g2, cell_below hb2 g3, cell_below hb2 g4, cell_below hb2 g5, cell_below hb2 g6, cell_below hb2 g7, cell_below hb2 g8, cell_below hb2 g9, cell_below hb2 g10⟩, cell_below hb2 k0, cell_below hb2 k1, cell_below hb2 k2, cell_below hb2 k3, cell_below hb2 k4, cell_below hb2 k5, cell_below hb2 k6, cell_below hb2 k7, cell_below hb2 k8, cell_below hb2 k9, cell_below hb2 k10⟩)
        (first | (go_at_call 44; (with_reducible refine HC.out.mono ?_); rintro r w2 ⟨rfl, hb2⟩))
      have Hb2 := Lib.hid (Hb.out.trans (((Below.refl _ _).drew.trans (hb2.mono (Nat.le_refl _))).mono Hb.out.size))
      clear hb2 m2 m2' g0 g1 g2 g3 g4 g5 g6 g7 g8 g9 g10 k0 k1 k2 k3 k4 k5 k6 k7 k8 k9 k10 HC
      cases hok : sameE e e' with
      | false =>
        have Hbad := Lib.hid (show res = false from by rw [Hr.out]; exact sameEs_bad Hje.out Hje'.out hok)
        clear hok
        go_wp2
        go_ret
        exact ⟨ret_bool Hbad.out.symm, Hal.out.trans (Hb2.out.mono Hal.out.size)⟩
      | true =>
        have Hok := Lib.hid hok
        clear hok
        go_wp2
        go_roundw
        case rel => exact ⟨j + 1, Hlt.out, by go_num, fun k u u' hk hu hu' => by
          rcases Nat.lt_or_eq_of_le (Nat.le_of_lt_succ hk) with h1 | h1
          · exact Hall.out k u u' h1 hu hu'
          · rw [h1, Hje.out] at hu
            rw [h1, Hje'.out] at hu'
            cases hu
            cases hu'
            exact Hok.out, Hb2.out⟩
        case measure => simp [intOf]; have := Hlt.out; omega
    · have hjn : j = n := by omega
      have Hg := Lib.hid (show res = true from by rw [Hr.out]; exact sameEs_good (by omega) (fun k u u' hk hu hu' => Hall.out k u u' (by omega) hu hu'))
      have hji : ¬ ((j : Int) < (n : Int)) := by omega
      clear hlt hjn
      go_wp2
      go_ret
      exact ⟨ret_bool Hg.out.symm, Hal.out.trans (Hb.out.mono Hal.out.size)⟩
end Go.Proofs.YtcapbaocchaenaaGreatDoor

/- Every string is a list of bytes. -/
namespace Go.Proofs.YtcapbaocchaenaaGreatDoor
open Go.RowKit

/-- Every string is a list of bytes. -/
theorem str_of (s : ByteArray) : ∃ l, (∀ x ∈ l, x < 256) ∧ s = str l := by
  refine ⟨s.data.toList.map UInt8.toNat, fun x hx => ?_, ?_⟩
  · obtain ⟨u, _, rfl⟩ := List.mem_map.1 hx
    exact u.toNat_lt
  · apply ByteArray.ext
    unfold str
    rw [List.map_map]
    have e : (UInt8.ofNat ∘ UInt8.toNat) = id := by funext u; simp
    rw [e, List.map_id]
end Go.Proofs.YtcapbaocchaenaaGreatDoor

