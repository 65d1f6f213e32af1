import Derived.Test.YtcapbaocchaenaaGreatSR37
import Derived.Test.YtcapbaocchaenaaGreatSR39
import Derived.Test.YtcapbaocchaenaaGreatSR8
import Derived.Test.YtcapbaocchaenaaGreatSR3
import Derived.Test.YtcapbaocchaenaaGreatSR1
import Derived.Test.YtcapbaocchaenaaGreatSR14
import Derived.Deep.QuietTactic
import Derived.BigQuiet
import Derived.Test.YtcapbaocchaenaaGreatSR19
import Derived.Test.YtcapbaocchaenaaGreatSR2
import Derived.Lib.Hide
import Derived.Deep.DeepCutAuto
import Derived.Deep.CutBlock
import Derived.Test.YtcapbaocchaenaaGreatSR28
import Derived.Test.YtcapbaocchaenaaGreatSR41
import Derived.Test.YtcapbaocchaenaaGreatSR42
import Derived.Test.YtcapbaocchaenaaGreatSR27
import Derived.Test.YtcapbaocchaenaaGreatSR43
/- The walks of the reference's Bytes and Text of an event. -/
namespace Go.Proofs.YtcapbaocchaenaaGreat
open Go.RowKit Go.Shelf Fl

set_option maxRecDepth 100000 in
theorem rbytes11_any (e : Ev) (x : Array Value) (w : World) (h : EvIn w e x) (hlen : okE e = true → (formV e.v).length ≤ 10000000) (hsl : okE e = true → ∀ u ∈ preV e.v, u.s.length ≤ 1000000) :
    Calls Tryz.prog 44 #[.agg x] w (EBytesEnd w e) := by
  obtain ⟨_, _, _, _, _, _, a, cap, hx, _⟩ := id h
  have hal := (Below.refl w.heap.size w).alloc (Nat.le_refl _) (.cells (evC e.k e.id e.n e.t e.nm e.tx e.v.kind e.v.n e.v.f e.v.s a e.v.l.length cap) 43)
  have HE0 := Lib.hid (heap_alloc_new w (.cells (evC e.k e.id e.n e.t e.nm e.tx e.v.kind e.v.n e.v.f e.v.s a e.v.l.length cap) 43))
  have HV := Lib.hid (fun W (hW : Below w.heap.size w W) => rvalid11_any e x W (h.below hW))
  have HF := Lib.hid (fun W (hW : Below w.heap.size w W) (ho : okE e = true) => rform11_any e x W (h.below hW) ho (hlen ho) (hsl ho))
  have Hal := Lib.hid hal
  subst hx
  clear h hlen hsl hal
  go_enter Tryz.func44, Tryz.ntmps44
  go_wp2_with fail
  refine (HV.out _ Hal.out).mono ?_
  rintro r w1 ⟨rfl, hb1⟩
  have HE1 := Lib.hid (blk HE0.out hb1)
  have Hb1 := Lib.hid (Hal.out.trans (hb1.mono Hal.out.size))
  obtain ⟨g0, g1, g2, g3, g4, g5, g6, g7, g8, g9, g10⟩ := box11 HE1.out
  clear hb1
  cases hok : okE e with
  | false =>
    have Hok := Lib.hid hok
    clear hok
    go_wp2
    refine bodyPost_ret (v := .tuple #[.slice none 0 0, .bool false]) (by simp [results, Tryz.results44, go_sem, *]) rfl (.inl ⟨Hok.out, rfl, Hb1.out⟩)
  | true =>
    have Hok := Lib.hid hok
    clear hok
    go_wp2_with fail
    refine (HF.out _ Hb1.out Hok.out).mono ?_
    rintro r w2 ⟨u, rfl, hu, hb2⟩
    have Hu := Lib.hid (own_base hu Hb1.out.size)
    have Hb2 := Lib.hid (Hb1.out.trans (hb2.mono Hb1.out.size))
    clear hu hb2
    go_wp2
    refine bodyPost_ret (v := .tuple #[u, .bool true]) (by simp [results, Tryz.results44, go_sem, *]) rfl (.inr ⟨Hok.out, u, rfl, Hu.out, Hb2.out⟩)

end Go.Proofs.YtcapbaocchaenaaGreat

/- The walk of the reference's Bytes of a batch. -/
namespace Go.Proofs.YtcapbaocchaenaaGreat
open Go.RowKit Go.Shelf Fl

set_option maxRecDepth 100000 in
set_option maxHeartbeats 3200000 in
theorem rbytes13_any (t : Bt) (x : Array Value) (w : World) (hn : t.es.length ≤ 1048576) (hf : t.es.all fewE = true) (h : BtIn w t x) :
    Calls Tryz.prog 18 #[.agg x] w (BBytesEnd w t) := by
  have HV := Lib.hid (fun W (hW : Below w.heap.size w W) => rvalid13_any t x W (h.below hW))
  obtain ⟨fl, at_, es⟩ := t
  obtain ⟨⟨hb1, hb2⟩, hat, a, n, c, rfl, hE⟩ := h
  change ∀ c ∈ fl, c < 256 at hb1
  change at_ < 18446744073709551616 at hat
  change Evs w a n c es at hE
  change es.all fewE = true at hf
  have hlen := hE.len
  have hcm := hE.max
  have hle := hE.le
  change es.length ≤ 1048576 at hn
  have hal := (Below.refl w.heap.size w).alloc (Nat.le_refl _) (.cells #[.string (str fl), .int .u64 (at_ : Int), .slice a n c] 27)
  have Hal := Lib.hid hal
  have HB := Lib.hid (heap_alloc_new w (.cells #[.string (str fl), .int .u64 (at_ : Int), .slice a n c] 27))
  obtain ⟨y0, y1, y2⟩ := box3 HB.out
  have HE := Lib.hid hE
  have HF := Lib.hid hf
  have Hby := Lib.hid hb1
  clear hal hE hf hb1
  cases hok : okB ⟨fl, at_, es⟩ with
  | false =>
    rw [hok] at HV
    have Hok := Lib.hid hok
    clear hok
    go_enter Tryz.func18, Tryz.ntmps18
    go_wp2_with fail
    refine (HV.out _ Hal.out).mono ?_
    rintro r w1 ⟨rfl, hb⟩
    have Hb := Lib.hid (Hal.out.trans (hb.mono Hal.out.size))
    clear hb
    go_wp2
    refine bodyPost_ret (v := .tuple #[.slice none 0 0, .bool false]) (by simp [results, Tryz.results18, go_sem, *]) rfl ?_
    exact .inl ⟨Hok.out, rfl, Hb.out⟩
  | true =>
    rw [hok] at HV
    obtain ⟨k1, k2, k3⟩ := okB_parts hok
    change fl.length ≤ 1000 at k1
    have Hok := Lib.hid hok
    have HO := Lib.hid k3
    have Hk1 := Lib.hid k1
    have HFB := Lib.hid (show formBt ⟨fl, at_, es⟩ = (formB fl ++ form at_) ++ form n ++ (es.map formE).flatten from by
      show formB fl ++ (form at_ ++ form es.length) ++ (es.map formE).flatten = _
      rw [hlen, ← List.append_assoc (formB fl)])
    have Hn := Lib.hid hn
    clear hok k3 k2
    go_enter Tryz.func18, Tryz.ntmps18
    go_wp2_with fail
    refine (HV.out _ Hal.out).mono ?_
    rintro r w1 ⟨rfl, hb⟩
    have HB1 := Lib.hid ((hb.block _ (Array.getElem?_eq_some_iff.1 HB.out).1).trans HB.out)
    have Hb1 := Lib.hid (Hal.out.trans (hb.mono Hal.out.size))
    clear hb y0 y1 y2 HB Hal
    obtain ⟨y0, y1, y2⟩ := box3 HB1.out
    obtain ⟨cq, wq, hcv, hBq, hbq⟩ := bytes_of_str fl w1 Hby.out (by omega)
    have HC := Lib.hid (rbytesF_any _ _ cq fl wq hBq (by omega))
    clear hBq
    go_wp2_with fail
    refine HC.out.mono ?_
    rintro r w2 ⟨v2, rfl, hu2, hb20⟩
    have hb2 := hbq.trans (hb20.mono hbq.size)
    have Hr2 := Lib.hid (own_base hu2 (Nat.le_trans Hb1.out.size hbq.size))
    have Hb2 := Lib.hid (Hb1.out.trans (hb2.mono Hb1.out.size))
    have HB2 := Lib.hid ((hb2.block _ (Array.getElem?_eq_some_iff.1 HB1.out).1).trans HB1.out)
    have Hl2 := Lib.hid (show (formB fl).length ≤ 1010 from by
      have h1 := form_len (x := fl.length) (by have := Hk1.out; omega)
      have := Hk1.out
      unfold formB
      rw [List.length_append]
      omega)
    clear hu2 hb2 hb20 hbq hcv y0 y1 y2 HC
    generalize formB fl = P1 at *
    obtain ⟨y0, y1, y2⟩ := box3 HB2.out
    have HU := Lib.hid (ruint_any at_ w2 hat)
    go_wp2_with fail
    refine HU.out.mono ?_
    rintro r w3 ⟨v3, rfl, hu3, hb3⟩
    obtain ⟨p3, c3, rfl, hB3⟩ := own_slice hu3 (form_byte at_)
    have HB3' := Lib.hid hB3
    have Hr3 := Lib.hid (own_below Hr2.out hb3)
    have Hb3 := Lib.hid (Hb2.out.trans (hb3.mono Hb2.out.size))
    have HB3 := Lib.hid ((hb3.block _ (Array.getElem?_eq_some_iff.1 HB2.out).1).trans HB2.out)
    have Hl3 := Lib.hid (form_len (x := at_) hat)
    have hwn : IntKind.u64.wrap (n : Int) = (n : Int) := by rw [IntKind.wrap_u64]; omega
    clear hu3 hb3 hB3 y0 y1 y2 HU
    generalize form at_ = P2 at *
    go_wp2_with (at_builtin; refine wpList_append_bytes _ rfl _ _ 22 rfl w.heap.size 5 Tryz.underlying22 info_u8 _ _ _ rfl Hr3.out p3 _ c3 P2 rfl HB3'.out (by have := Hl2.out; have := Hl3.out; omega) Hb3.out.size ?_; intro v4 w4 g1 g2; have y2 := (box3 (grown_keep g2 HB3.out (row_ne Hr3.out HB3.out (by decide)))).2.2)
    have Hr4 := Lib.hid (show w4.ownsRow w.heap.size 5 1 v4 (P1 ++ P2).length (u8s (P1 ++ P2)) from by rw [List.length_append]; exact g1)
    have Hb4 := Lib.hid (Hb3.out.grown g2 Hb3.out.size (fun k hk => (Hr3.out.lt k hk).1))
    have HB4 := Lib.hid (grown_keep g2 HB3.out (row_ne Hr3.out HB3.out (by decide)))
    have Hl4 := Lib.hid (show (P1 ++ P2).length ≤ 1020 from by rw [List.length_append]; have := Hl2.out; have := Hl3.out; omega)
    clear g1 g2
    generalize P1 ++ P2 = P3 at *
    have HU := Lib.hid (ruint_any n w4 (by omega))
    first | rw [hwn] | skip
    refine HU.out.mono ?_
    rintro r w5 ⟨v5, rfl, hu5, hb5⟩
    obtain ⟨p5, c5, rfl, hB5⟩ := own_slice hu5 (form_byte n)
    have HB5' := Lib.hid hB5
    have Hr5 := Lib.hid (own_below Hr4.out hb5)
    have Hb5 := Lib.hid (Hb4.out.trans (hb5.mono Hb4.out.size))
    have HB5 := Lib.hid ((hb5.block _ (Array.getElem?_eq_some_iff.1 HB4.out).1).trans HB4.out)
    have Hl5 := Lib.hid (form_len (x := n) (by omega))
    clear hu5 hb5 hB5 y2 HU
    generalize form n = P4 at *
    go_wp2_with (at_builtin; refine wpList_append_bytes _ rfl _ _ 22 rfl w.heap.size 5 Tryz.underlying22 info_u8 _ _ _ rfl Hr5.out p5 _ c5 P4 rfl HB5'.out (by have := Hl4.out; have := Hl5.out; omega) Hb5.out.size ?_; intro v6 w6 g1 g2)
    have Hr6 := Lib.hid (show w6.ownsRow w.heap.size 5 1 v6 (P3 ++ P4).length (u8s (P3 ++ P4)) from by rw [List.length_append]; exact g1)
    have Hb6 := Lib.hid (Hb5.out.grown g2 Hb5.out.size (fun k hk => (Hr5.out.lt k hk).1))
    have HB6 := Lib.hid (grown_keep g2 HB5.out (row_ne Hr5.out HB5.out (by decide)))
    have Hl6 := Lib.hid (show (P3 ++ P4).length ≤ 1030 from by rw [List.length_append]; have := Hl4.out; have := Hl5.out; omega)
    clear g1 g2
    generalize P3 ++ P4 = hd at *
    go_wp2
    go_loopw [4, 5] (fun v i wr => ∃ j : Nat, j ≤ n ∧ i = .int .i64 (j : Int) ∧ wr.ownsRow w.heap.size 5 1 v (hd ++ ((es.take j).map formE).flatten).length (u8s (hd ++ ((es.take j).map formE).flatten)) ∧ (hd ++ ((es.take j).map formE).flatten).length ≤ 1030 + j * 60000020 ∧
      wr.heap[w.heap.size]? = some (.cells #[.string (str fl), .int .u64 (at_ : Int), .slice a n c] 27 (0, 0)) ∧ Below w.heap.size w wr) (fun _ i _ => n - (intOf i).toNat)
    case atStart =>
      have h0 : hd ++ ((es.take 0).map formE).flatten = hd := by simp
      exact ⟨0, Nat.zero_le _, rfl, by rw [h0]; exact Hr6.out, by rw [h0]; have := Hl6.out; omega, HB6.out, Hb6.out⟩
    case round =>
      obtain ⟨j, hj, rfl, hr, hl, hB, hb⟩ := hrel
      have Hr := Lib.hid hr
      have Hl := Lib.hid hl
      have HBr := Lib.hid hB
      have Hb := Lib.hid hb
      obtain ⟨y0, y1, y2⟩ := box3 HBr.out
      clear hr hl hB hb
      by_cases hlt : j < n
      · have hl1 : j < es.length := by omega
        obtain ⟨b, o, rfl, hc⟩ := HE.out.cell (by omega)
        obtain ⟨p, cap, hI, ⟨g0, g1, g2, g3, g4, g5⟩, g6, g7, g8, g9, g10⟩ := ((hc j hl1).below Hb.out).all
        have hfe := List.all_eq_true.1 HF.out _ (List.getElem_mem hl1)
        have hoe := List.all_eq_true.1 HO.out _ (List.getElem_mem hl1)
        have hff := form_few hI hfe (ok_right hoe)
        have HC := Lib.hid (rbytes11_any es[j] _ wr hI (fun _ => hff.1) (fun _ => hff.2))
        have Hle := Lib.hid (formE_len hI hfe (ok_right hoe))
        have Hbe := Lib.hid (formE_byte hI)
        have Htk := Lib.hid (show hd ++ ((es.take (j + 1)).map formE).flatten = hd ++ ((es.take j).map formE).flatten ++ formE es[j] from by
          rw [List.take_succ_eq_append_getElem hl1, List.map_append, List.flatten_append, List.append_assoc]; simp)
        have Hoe := Lib.hid hoe
        have hji : (j : Int) < (n : Int) := by omega
        have Hlt := Lib.hid hlt
        generalize es[j] = e at *
        generalize hd ++ ((es.take j).map formE).flatten = S0 at Hr Hl Htk
        clear hc hI hlt hl1 hfe hoe hff
        go_wp2_with fail
        refine HC.out.mono ?_
        intro r w7 hr7
        obtain ⟨p7, n7, c7, L, rfl, hB7, hb7, hL⟩ := ebytes_slice hr7 Hbe.out
        obtain rfl := hL Hoe.out
        have hn7 := hB7.len
        have HB7 := Lib.hid hB7
        have Hr7 := Lib.hid (own_below Hr.out hb7)
        have Hb7 := Lib.hid (Hb.out.trans (hb7.mono Hb.out.size))
        have HX7 := Lib.hid ((hb7.block _ (Array.getElem?_eq_some_iff.1 HBr.out).1).trans HBr.out)
        have Hn7 := Lib.hid hn7
        have Hnb := Lib.hid Hn.out
        generalize formE e = Fe at *
        clear hr7 hB7 hb7 hL hn7 y0 y1 y2 HC g0 g1 g2 g3 g4 g5 g6 g7 g8 g9 g10
        go_wp2_with (at_builtin; refine wpList_append_bytes _ rfl _ _ 22 rfl w.heap.size 5 Tryz.underlying22 info_u8 _ _ _ rfl Hr7.out p7 _ c7 Fe rfl HB7.out (by have := Hl.out; have := Hle.out; have := Hn7.out; have := Hlt.out; have := hn; omega) Hb7.out.size ?_; intro v9 w9 g1 g2)
        have Hs9 := Lib.hid (show w9.ownsRow w.heap.size 5 1 v9 (hd ++ ((es.take (j + 1)).map formE).flatten).length (u8s (hd ++ ((es.take (j + 1)).map formE).flatten)) from by rw [Htk.out, List.length_append, Hn7.out]; exact g1)
        have Hb9 := Lib.hid (Hb7.out.grown g2 Hb7.out.size (fun k hk => (Hr7.out.lt k hk).1))
        have HX9 := Lib.hid (grown_keep g2 HX7.out (row_ne Hr7.out HX7.out (by decide)))
        have Hn9 := Lib.hid (show (hd ++ ((es.take (j + 1)).map formE).flatten).length ≤ 1030 + (j + 1) * 60000020 from by rw [Htk.out, List.length_append]; have := Hl.out; have := Hle.out; omega)
        clear g1 g2
        go_wp2
        go_roundw
        case rel => exact ⟨j + 1, Hlt.out, by go_num, Hs9.out, Hn9.out, HX9.out, Hb9.out⟩
        case measure => simp [intOf]; have := Hlt.out; omega
      · obtain rfl : j = n := by omega
        have hji : ¬ ((j : Int) < (j : Int)) := by omega
        have Htk := Lib.hid (show formBt ⟨fl, at_, es⟩ = hd ++ ((es.take j).map formE).flatten from by rw [HFB.out, ← hlen, List.take_length])
        clear hlt
        go_wp2
        refine bodyPost_ret (v := .tuple #[u4, .bool true]) (by simp [results, Tryz.results18, go_sem, *]) rfl ?_
        exact .inr ⟨Hok.out, _, rfl, by rw [Htk.out]; exact Hr.out, Hb.out⟩
end Go.Proofs.YtcapbaocchaenaaGreat

/- How long the form of a small valid batch is. -/
namespace Go.Proofs.YtcapbaocchaenaaGreat
open Go.RowKit Fl

theorem evFields_four (k : Int) : (evFields k).length ≤ 4 := by
  unfold evFields
  repeat' split
  all_goals decide

theorem formE_tight {e : Ev} {w : World} {x : Array Value} (h : EvIn w e x) (hf : fewE e = true) (hr : rightN 8 e.v = true) : (formE e).length ≤ 90100 := by
  obtain ⟨f1, _, f3, f4⟩ := few_parts hf
  have hb := fun u hu => bulk_strings e.v f1 u hu
  obtain ⟨_, i2, i3, i4, _, _, a, cap, _, hv⟩ := h
  have g1 := form_bulk e.v (VIn.sound _ _ hv) (fun u hu => ⟨(hb u hu).1, (pre_kinds e.v 8 hr u hu).2, by have := (hb u hu).2; omega⟩)
  have hp : ∀ l ∈ (evFields e.k).map (pieceE e), l.length ≤ 22520 := by
    intro l hl
    obtain ⟨i, _, rfl⟩ := List.mem_map.1 hl
    unfold pieceE
    have n1 := form_len (x := e.nm.length) (by omega)
    have n2 := form_len (x := e.tx.length) (by omega)
    repeat' split
    · have := form_len (x := e.id) (by omega); omega
    · have := form_len (x := e.n.toNat) (by omega); omega
    · have := form_len (x := e.t) (by omega); omega
    · unfold formB; rw [List.length_append]; omega
    · unfold formB; rw [List.length_append]; omega
    · omega
  have h2 := flat_max _ hp
  rw [List.length_map] at h2
  have h3 := evFields_four e.k
  have h4 := form_len (x := 1) (by decide)
  have h5 := form_len (x := e.k.toNat) (by omega)
  unfold formE
  rw [List.length_append, List.length_append]
  have h6 : (evFields e.k).length * 22520 ≤ 4 * 22520 := Nat.mul_le_mul_right _ h3
  omega

theorem formBt_tight {w : World} {t : Bt} {x : Array Value} (h : BtIn w t x) (hn : t.es.length ≤ 1048576) (hf : t.es.all fewE = true) (hok : okB t = true) : (formBt t).length ≤ 99000000000 := by
  obtain ⟨k1, k2, k3⟩ := okB_parts hok
  obtain ⟨_, hat, a, n, c, _, hE⟩ := h
  have h1 := flat_max (B := 90100) (t.es.map formE) (fun l hl => by
    obtain ⟨e, he, rfl⟩ := List.mem_map.1 hl
    obtain ⟨i, hi, rfl⟩ := List.getElem_of_mem he
    obtain ⟨b, o, _, hc⟩ := hE.cell (by have := hE.len; omega)
    obtain ⟨a', cap', hI, _⟩ := hc i hi
    exact formE_tight hI (List.all_eq_true.1 hf _ he) (ok_right (List.all_eq_true.1 k3 _ he)))
  rw [List.length_map] at h1
  have h2 : t.es.length * 90100 ≤ 1048576 * 90100 := Nat.mul_le_mul_right _ hn
  have n1 := form_len (x := t.flow.length) (by omega)
  have n2 := form_len (x := t.at_) (by omega)
  have n3 := form_len (x := t.es.length) (by omega)
  unfold formBt headB formB
  simp only [List.length_append]
  omega
end Go.Proofs.YtcapbaocchaenaaGreat

/- The walk of slices.Clone of bytes. -/
namespace Go.Proofs.YtcapbaocchaenaaGreat
open Go.RowKit

theorem clone_nil (w : World) : Calls Tryz.prog 19 #[.slice none 0 0] w (NewBytes w []) := by
  have hq := fun (w : World) (a : Option Addr) (n c : Nat) => Lib.run_eql_slice_nil (P := Tryz.prog) w 22 5 a n c 0 0 Tryz.underlying22
  go_enter Tryz.func19, Tryz.ntmps19
  go_wp2
  go_ret
  exact ⟨_, rfl, World.ownsRow_nil _ _ _ _, Below.refl _ _⟩

theorem clone_some (a : Addr) (n cap : Nat) (l : List Nat) (w : World) (hl : Bytes w (some a) n cap l) (hn : n ≤ 140737488355328) : Calls Tryz.prog 19 #[.slice (some a) n cap] w (NewBytes w l) := by
  have hl := Lib.hid (hl.grow (w' := w.alloc (.cells #[] 5)) ((Below.refl _ _).alloc (Nat.le_refl _) _))
  have hown : (w.alloc (.cells #[] 5)).ownsRow w.heap.size 5 1 (.slice (some ⟨w.heap.size, 0, none⟩) 0 0) 0 (u8s []) := World.ownsRow_made w #[] 0 (Nat.le_refl _) (Nat.zero_le _) rfl
  have hown := Lib.hid hown
  rename_i hl0 hown0; clear hl0 hown0
  have hq := fun (w : World) (a : Option Addr) (n c : Nat) => Lib.run_eql_slice_nil (P := Tryz.prog) w 22 5 a n c 0 0 Tryz.underlying22
  have hbel : Below w.heap.size w (w.alloc (.cells #[] 5)) := (Below.refl _ _).alloc (Nat.le_refl _) _
  go_enter Tryz.func19, Tryz.ntmps19
  go_wp2_with (at_builtin; refine wpList_append_bytes _ rfl _ _ 22 rfl w.heap.size 5 Tryz.underlying22 info_u8 _ _ _ rfl hown.out (some a) n cap l rfl hl.out (by omega) hbel.size ?_; intro v' w1 g1 g2)
  go_ret
  refine ⟨_, rfl, ?_, hbel.grown g2 hbel.size (fun k hk => (hown.out.lt k hk).1)⟩
  rw [hl.out.len]
  simpa using g1

theorem clone_any (a : Option Addr) (n cap : Nat) (l : List Nat) (w : World) (hl : Bytes w a n cap l) (hn : n ≤ 140737488355328) : Calls Tryz.prog 19 #[.slice a n cap] w (NewBytes w l) := by
  cases a with
  | none =>
    obtain rfl : cap = 0 := hl.nil rfl
    obtain rfl : n = 0 := by have := hl.le; omega
    obtain rfl : l = [] := List.length_eq_zero_iff.1 hl.len
    exact clone_nil w
  | some a => exact clone_some a n cap l w hl hn

end Go.Proofs.YtcapbaocchaenaaGreat

/- The walk of the statement BatchCuts. -/
namespace Go.Proofs.YtcapbaocchaenaaGreat
open Go.RowKit Go.Shelf Fl

/-- Nothing that goes on behind the form of a valid batch is the form of one. -/
theorem isB_prefix {l r : List Nat} {t t' : Bt} (h' : IsB l t') (h : IsB (l ++ r) t) : r = [] := by
  have e := h.2.2
  rw [h'.2.2, formBt_is, formBt_is, List.append_assoc, List.append_assoc, List.append_assoc] at e
  obtain ⟨_, e⟩ := formB_split h'.2.1.fl h.2.1.fl e
  obtain ⟨_, e⟩ := form_split h'.2.1.at_ h.2.1.at_ e
  obtain ⟨e3, e⟩ := form_split h'.2.1.n h.2.1.n e
  rw [← List.append_nil ((t.es.map formE).flatten)] at e
  obtain ⟨_, e5⟩ := evs_front t'.es t.es r [] h'.2.1.es h.2.1.es (by omega) e
  rw [List.drop_eq_nil_of_le (by omega)] at e5
  exact e5

theorem formBt_ne (t : Bt) : 0 < (formBt t).length := by
  rw [formBt_is]
  unfold formB
  simp only [List.length_append]
  have := form_pos t.flow.length
  omega

theorem btIn_isB {w : World} {t : Bt} {x : Array Value} (h : BtIn w t x) (hok : okB t = true) (hn : t.es.length ≤ 1048576) : IsB (formBt t) t := by
  obtain ⟨k1, k2, k3⟩ := okB_parts hok
  obtain ⟨_, hat, a, n, c, _, hE⟩ := h
  refine ⟨hok, ⟨by omega, hat, by omega, fun e he => ⟨List.all_eq_true.1 k3 e he, ?_⟩⟩, rfl⟩
  obtain ⟨i, hi, rfl⟩ := List.getElem_of_mem he
  obtain ⟨b, o, _, hc⟩ := hE.cell (by have := hE.len; omega)
  obtain ⟨a', cap', hI, _⟩ := hc i hi
  exact hI.bound

theorem formBt_byte {w : World} {t : Bt} {x : Array Value} (h : BtIn w t x) : ∀ c ∈ formBt t, c < 256 := by
  obtain ⟨hf, _, a, n, c, _, hE⟩ := h
  intro x hx
  rw [formBt_is] at hx
  rcases List.mem_append.1 hx with h | hx
  · exact formB_byte hf.1 x h
  rcases List.mem_append.1 hx with h | hx
  · exact form_byte _ x h
  rcases List.mem_append.1 hx with h | hx
  · exact form_byte _ x h
  · exact forms_byte hE x hx

set_option maxRecDepth 100000 in
set_option maxHeartbeats 12800000 in
theorem batchCuts_any (t : Bt) (x : Array Value) (z y : Nat) (w : World) (hn : t.es.length ≤ 1048576) (hz : z < 65536) (hy : y < 256) (h : BtIn w t x) :
    Calls Tryz.prog 5 #[.agg x, .int .u16 (z : Int), .int .u8 (y : Int)] w fun r w' => r = .returned (.bool true) ∧ Below w.heap.size w w' := by
  have HA := Lib.hid (fun W => alive13_any W)
  have Hn := Lib.hid hn
  have Hz := Lib.hid hz
  have Hy := Lib.hid hy
  have HI0 := Lib.hid h
  obtain ⟨_, _, a, n, c, rfl, _⟩ := h
  have hal := (Below.refl w.heap.size w).alloc (Nat.le_refl _) (.cells #[.string (str t.flow), .int .u64 (t.at_ : Int), .slice a n c] 27)
  have HX1 := Lib.hid (heap_alloc_new w (.cells #[.string (str t.flow), .int .u64 (t.at_ : Int), .slice a n c] 27))
  have HI1 := Lib.hid (HI0.out.below hal)
  have HFw := Lib.hid (few13_any t _ _ HI1.out)
  have Hb1 := Lib.hid hal
  obtain ⟨y0, y1, y2⟩ := box3 HX1.out
  clear hal hn hz hy
  go_enter Tryz.func5, Tryz.ntmps5
  go_wp2_with fail
  generalize w.alloc (.cells #[.string (str t.flow), .int .u64 (t.at_ : Int), .slice a n c] 27) = w1 at *
  refine HFw.out.mono ?_
  rintro r w2 ⟨rfl, hb2⟩
  have Hb2 := Lib.hid (Hb1.out.trans (hb2.mono Hb1.out.size))
  have HX2 := Lib.hid (blk HX1.out hb2)
  have HI2 := Lib.hid (HI1.out.below hb2)
  clear hb2 HX1 HI1 Hb1 HFw y0 y1 y2
  cases hfw : fewB13 t with
  | false =>
    go_wp2_with fail
    refine (HA.out _).mono ?_
    rintro r w3 ⟨rfl, hb3⟩
    have Hb3 := Lib.hid (Hb2.out.trans (hb3.mono Hb2.out.size))
    clear hb3
    go_wp2
    go_ret
    exact ⟨rfl, Hb3.out⟩
  | true =>
    have hfe : t.es.all fewE = true := by
      unfold fewB13 at hfw
      rw [Bool.and_eq_true] at hfw
      exact hfw.2
    have HRB := Lib.hid (rbytes13_any t _ w2 Hn.out hfe HI2.out)
    have Hfe := Lib.hid hfe
    obtain ⟨y0, y1, y2⟩ := box3 HX2.out
    clear hfw hfe
    go_wp2_with fail
    refine HRB.out.mono ?_
    rintro r w3 (⟨_, rfl, hb3⟩ | ⟨hok, u, rfl, hown, hb3⟩)
    · have Hb3 := Lib.hid (Hb2.out.trans (hb3.mono Hb2.out.size))
      clear hb3 HRB y0 y1 y2
      go_wp2_with fail
      refine (HA.out _).mono ?_
      rintro r w4 ⟨rfl, hb4⟩
      have Hb4 := Lib.hid (Hb3.out.trans (hb4.mono Hb3.out.size))
      clear hb4
      go_wp2
      go_ret
      exact ⟨rfl, Hb4.out⟩
    · have Hb3 := Lib.hid (Hb2.out.trans (hb3.mono Hb2.out.size))
      have hby : ∀ c ∈ formBt t, c < 256 := formBt_byte HI2.out
      have hyes := btIn_isB HI2.out hok Hn.out
      obtain ⟨p, cp, rfl, hB3⟩ := own_slice hown hby
      have hfm := own_formed hown
      obtain ⟨L, hL⟩ : ∃ L, L = formBt t := ⟨_, rfl⟩
      have hpos := formBt_ne t
      have hbd := formBt_tight HI2.out Hn.out Hfe.out hok
      rw [← hL] at hB3 hby hpos hbd hyes ⊢
      have Hyes := Lib.hid hyes
      have HB3 := Lib.hid hB3
      have Hby := Lib.hid hby
      obtain ⟨k, hk⟩ : ∃ k, k = z % L.length := ⟨_, rfl⟩
      have hkl : k < L.length := by rw [hk]; exact Nat.mod_lt _ hpos
      have hmod : ((z : Int)).tmod (L.length : Int) = (k : Int) := by
        rw [hk]
        rfl
      have hw64 : wrap64 (z : Int) = (z : Int) := by have := Hz.out; unfold wrap64; omega
      have hLn : ¬ L = [] := fun e => by rw [e] at hpos; exact absurd hpos (by decide)
      have hkL : (k : Int) ≤ (L.length : Int) := by omega
      obtain ⟨a', hsl0, hfa', hBk⟩ := slice_to (P := Tryz.prog) (T := 22) (E := 5) Tryz.underlying22 info_u8 (a := p) (n := L.length) (c := cp) (k := k) (Nat.le_of_lt hkl) hB3.le hfm
      have hsl := fun w => hsl0 w .i64
      have HBk := Lib.hid (fun W (hW : Below w3.heap.size w3 W) => hBk W _ (hB3.grow hW))
      have HP := Lib.hid (bparse_any a' k cp (L.take k) w3 (hBk w3 _ hB3) (by omega))
      have Hnk := Lib.hid (show NoB (L.take k) from fun t' h' => by
        have e := isB_prefix (r := L.drop k) h' (by rw [List.take_append_drop]; exact hyes)
        have := congrArg List.length e
        rw [List.length_drop, List.length_nil] at this
        omega)
      have Hfa := Lib.hid hfa'
      have Hbd := Lib.hid hbd
      have Hkl := Lib.hid hkl
      clear hb3 HRB y0 y1 y2 hown hby hyes hB3 hfm hsl0 hfa' hBk hL hbd hk hkl hpos
      clear HX2 HI2 HI0
      go_wp2_with fail
      refine HP.out.mono ?_
      rintro r w4 ⟨hb4, ⟨t', x', rfl, hi', _⟩ | ⟨_, rfl⟩⟩
      · exact absurd hi' (Hnk.out t')
      have Hb34 := Lib.hid (hb4.trans (((Below.refl w4.heap.size w4).alloc (Nat.le_refl _) (.cells btZ 27)).mono hb4.size))
      have HCl := Lib.hid (clone_any p L.length cp L _ (HB3.out.grow Hb34.out) (by have := Hbd.out; omega))
      clear hb4 HP
      go_wp2_with fail
      generalize w4.alloc (.cells btZ 27) = w5 at *
      refine HCl.out.mono ?_
      rintro r w6 ⟨u, rfl, hown, hb6⟩
      have Hown := Lib.hid hown
      have Hb6 := Lib.hid hb6
      have Hb36 := Lib.hid (Hb34.out.trans (hb6.mono Hb34.out.size))
      have hal := (Below.refl w6.heap.size w6).alloc (Nat.le_refl _) (.cells #[.int .u8 (y : Int)] 5)
      have hY : Bytes (w6.alloc (.cells #[.int .u8 (y : Int)] 5)) (some ⟨w6.heap.size, 0, none⟩) 1 1 [y] :=
        ⟨rfl, Nat.le_refl _, by omega, fun c hc => by rw [List.mem_singleton.1 hc]; exact Hy.out, fun h => by (cases h), fun _ => ⟨w6.heap.size, 0, rfl, fun k hk => by
          have hk0 : k = 0 := by omega
          subst hk0
          rw [cell_of_row _ _ _ _ _ (0, 0) (heap_alloc_new w6 _)]
          rfl⟩⟩
      have HY := Lib.hid hY
      have HOw := Lib.hid (own_below Hown.out hal)
      have Hal := Lib.hid hal
      have Hz5 := Lib.hid (show w5.heap.size ≤ (w6.alloc (.cells #[.int .u8 (y : Int)] 5)).heap.size from Nat.le_trans hb6.size hal.size)
      clear hown hb6 HCl hal hY
      go_wp2_with (at_builtin; refine wpList_append_bytes _ rfl _ _ 22 rfl w5.heap.size 5 Tryz.underlying22 info_u8 _ _ _ rfl HOw.out _ _ _ _ rfl HY.out (by have := Hbd.out; omega) Hz5.out ?_; intro v' w7 g1 g2)
      have hb7 : Below w5.heap.size w5 w7 := (Hb6.out.trans (Hal.out.mono Hb6.out.size)).grown g2 (Nat.le_trans Hb6.out.size Hal.out.size) (fun q hq => (HOw.out.lt q hq).1)
      have Hb7 := Lib.hid (Hb34.out.trans (hb7.mono Hb34.out.size))
      have hby7 : ∀ c ∈ L ++ [y], c < 256 := fun c hc => (List.mem_append.1 hc).elim (Hby.out c) (fun h => by rw [List.mem_singleton.1 h]; exact Hy.out)
      have e1 : L.length + 1 = (L ++ [y]).length := by rw [List.length_append]; rfl
      rw [e1] at g1
      obtain ⟨p7, c7, rfl, hB7⟩ := own_slice g1 hby7
      have HP7 := Lib.hid (bparse_any p7 _ c7 (L ++ [y]) w7 hB7 (by have := Hbd.out; rw [List.length_append]; show L.length + 1 ≤ _; omega))
      have Hno7 := Lib.hid (show NoB (L ++ [y]) from fun t' h' => by
        have e := isB_prefix Hyes.out h'
        cases e)
      clear g1 g2 hb7 hby7 e1 hB7
      refine HP7.out.mono ?_
      rintro r w8 ⟨hb8, ⟨t', x', rfl, hi', _⟩ | ⟨_, rfl⟩⟩
      · exact absurd hi' (Hno7.out t')
      have Hb9 := Lib.hid (Hb7.out.trans ((hb8.trans (((Below.refl w8.heap.size w8).alloc (Nat.le_refl _) (.cells btZ 27)).mono hb8.size)).mono Hb7.out.size))
      have HPr := Lib.hid (rparse13_any a' k cp (L.take k) _ (HBk.out _ Hb9.out) Hfa.out (by have := Hbd.out; have := Hkl.out; omega))
      clear hb8 HP7
      go_wp2_with fail
      generalize w8.alloc (.cells btZ 27) = w9 at *
      refine HPr.out.mono ?_
      rintro r w10 ⟨hb10, ⟨t', x', rfl, hi', _⟩ | ⟨_, rfl⟩⟩
      · exact absurd hi' (Hnk.out t')
      have Hb11 := Lib.hid (Hb9.out.trans ((hb10.trans (((Below.refl w10.heap.size w10).alloc (Nat.le_refl _) (.cells btZ 27)).mono hb10.size)).mono Hb9.out.size))
      clear hb10 HPr
      go_wp2_with fail
      generalize w10.alloc (.cells btZ 27) = w11 at *
      refine (HA.out _).mono ?_
      rintro r w12 ⟨rfl, hb12⟩
      have Hz := Lib.hid (Hb3.out.trans ((Hb11.out.trans (hb12.mono Hb11.out.size)).mono Hb3.out.size))
      clear hb12
      go_wp2
      go_ret
      exact ⟨rfl, Hz.out⟩
end Go.Proofs.YtcapbaocchaenaaGreat

/- Every string is a list of bytes. -/
namespace Go.Proofs.YtcapbaocchaenaaGreat
open Go.RowKit

/-- Every string is a list of bytes. -/
theorem str_of (s : ByteArray) : ∃ l, (∀ x ∈ l, x < 256) ∧ s = str l := by
  refine ⟨s.data.toList.map UInt8.toNat, fun x hx => ?_, ?_⟩
  · obtain ⟨u, _, rfl⟩ := List.mem_map.1 hx
    exact u.toNat_lt
  · apply ByteArray.ext
    unfold str
    rw [List.map_map]
    have e : (UInt8.ofNat ∘ UInt8.toNat) = id := by funext u; simp
    rw [e, List.map_id]
end Go.Proofs.YtcapbaocchaenaaGreat

/- A byte that came in. -/
namespace Go.Proofs.YtcapbaocchaenaaGreat
open Go.ChangeShapes Go.WideShapes Go.ChangeAt Go.RowKit Go.Deep

theorem nat_u8 {n : Int} (h : (Lit.int .u8 n).wf = true) : ∃ x : Nat, x < 256 ∧ n = (x : Int) := by
  have := wf_u8 h
  exact ⟨n.toNat, by omega, by omega⟩
end Go.Proofs.YtcapbaocchaenaaGreat

/- Values that come in, read as trees. -/
namespace Go.Proofs.YtcapbaocchaenaaGreat
open Go.ChangeShapes Go.WideShapes Go.ChangeAt Go.RowKit Go.Deep

section
variable {H : Type} {enc : TypeId × Value → H} {W : World}

theorem trod_f64 {P : Program} {w : World} {base : Nat} {spare : Nat → Bool} {held : Bool} {fuel : Nat} {t : TypeId} {cs : List Value} {x : DataW H × List MemPlace} (ht : P.underlying t = some (.float .f64)) (h : DataW.trod enc P w base spare held fuel t cs = some x) :
    ∃ b : Nat, cs = [.float .f64 b] ∧ (Lit.float .f64 b).wf = true := by
  cases fuel with
  | zero => simp [DataW.trod] at h
  | succ n =>
    unfold DataW.trod at h
    rw [ht] at h
    split at h <;> simp_all

theorem cells_value : Tryz.prog.cellsOf 41 = 5 := by kernel_rfl
theorem cells_int : Tryz.prog.cellsOf 3 = 1 := by kernel_rfl
theorem cells_i64 : Tryz.prog.cellsOf 2 = 1 := by kernel_rfl
theorem cells_f64 : Tryz.prog.cellsOf 38 = 1 := by kernel_rfl
theorem cells_str : Tryz.prog.cellsOf 9 = 1 := by kernel_rfl
theorem cells_vs : Tryz.prog.cellsOf 39 = 1 := by kernel_rfl

theorem vs_of {b : Nat} : ∀ (n o : Nat), (∀ i, i < n → ∃ (cs : List Value) (v : V), cs.length = 5 ∧ (∀ j, j < 5 → W.cell? ⟨b, o + i * 5 + j, none⟩ = cs[j]?) ∧ VIn W v cs.toArray) → ∃ l : List V, l.length = n ∧ VsIn W l b o
  | 0, _, _ => ⟨[], rfl, by rw [VsIn]; trivial⟩
  | n + 1, o, h => by
    obtain ⟨cs, v, hl, hc, hv⟩ := h 0 (by omega)
    obtain ⟨l, hn, hr⟩ := vs_of n (o + 5) (fun i hi => by
      obtain ⟨cs, v, hl, hc, hv⟩ := h (i + 1) (by omega)
      exact ⟨cs, v, hl, fun j hj => by rw [← hc j hj]; congr 2; omega, hv⟩)
    refine ⟨v :: l, by rw [List.length_cons, hn], ?_⟩
    rw [VsIn]
    refine ⟨⟨cs.toArray, by simpa using hl, fun j hj => ?_, hv⟩, hr⟩
    have := hc j hj
    simpa using this

set_option maxRecDepth 100000 in
theorem open_v : ∀ (fuel : Nat) (cs : List Value) (x : DataW H × List MemPlace), DataW.trod enc Tryz.prog W 0 (fun _ => true) true fuel 41 cs = some x → ∃ v : V, VIn W v cs.toArray := by
  intro fuel
  induction fuel using Nat.strongRecOn with
  | ind fuel ih =>
    intro cs x h
    obtain ⟨xs, n, rfl, _, hlen, hxl, hf⟩ := DataW.trod_struct Tryz.underlying41 h
    rw [cells_value] at hlen
    match cs, hlen, xs, hxl with
    | [c0, c1, c2, c3, c4], _, [y0, y1, y2, y3, y4], _ =>
      have f0 := hf 0 _ rfl
      have f1 := hf 1 _ rfl
      have f2 := hf 2 _ rfl
      have f3 := hf 3 _ rfl
      have f4 := hf 4 _ rfl
      simp [cells_int, cells_i64, cells_f64, cells_str, cells_vs] at f0 f1 f2 f3 f4
      obtain ⟨k, e0, _, w0⟩ := DataW.trod_int Tryz.underlying3 f0
      obtain ⟨m, e1, _, w1⟩ := DataW.trod_int Tryz.underlying2 f1
      obtain ⟨f, e2, w2⟩ := trod_f64 Tryz.underlying38 f2
      obtain ⟨s, e3, _, w3⟩ := DataW.trod_string Tryz.underlying9 f3
      obtain rfl := List.cons.inj e0 |>.1
      obtain rfl := List.cons.inj e1 |>.1
      obtain rfl := List.cons.inj e2 |>.1
      obtain rfl := List.cons.inj e3 |>.1
      obtain ⟨q, hq, rfl⟩ := str_of s
      have hk := wf_i64_of w0
      have hm := wf_i64_of w1
      have hff : f < 18446744073709551616 := by
        simp only [Lit.wf, decide_eq_true_eq] at w2
        exact w2
      have hqs : q.length ≤ 9223372036854775807 := by
        rw [str_size, maxLen_nat] at w3
        exact w3
      clear e0 e1 e2 e3 w0 w1 w2 w3 f0 f1 f2 f3 hf
      rcases DataW.trod_slice Tryz.underlying39 f4 with ⟨e, _⟩ | ⟨a, len, cap, elems, rest, r, rfl, e, _, _, hle, hcm, hel, hi, _, _⟩
      · obtain rfl := List.cons.inj e |>.1
        refine ⟨.mk k m f q [], ?_⟩
        rw [VIn]
        exact ⟨hk, hm, hff, hq, hqs, none, 0, rfl, Nat.le_refl _, by omega, .inl rfl⟩
      · obtain rfl := List.cons.inj e |>.1
        rw [maxLen_nat] at hcm
        rw [cells_value] at hi
        have hel2 : ∀ i, i < len → ∃ (cs : List Value) (v : V), cs.length = 5 ∧ (∀ j, j < 5 → W.cell? ((a.add (i * 5)).add j) = cs[j]?) ∧ VIn W v cs.toArray := by
          intro i hlt
          have h1 := hi i hlt
          rw [List.getElem?_eq_getElem (by omega)] at h1
          obtain ⟨cs', h2, h3⟩ := Option.bind_eq_some_iff.1 h1
          obtain ⟨_, h4, h5⟩ := World.cells?_some h2
          obtain ⟨v, hv⟩ := ih r (by omega) cs' _ h3
          exact ⟨cs', v, h4, h5, hv⟩
        by_cases h0 : len = 0
        · subst h0
          refine ⟨.mk k m f q [], ?_⟩
          rw [VIn]
          exact ⟨hk, hm, hff, hq, hqs, some a, cap, rfl, hle, hcm, .inl rfl⟩
        · obtain ⟨b, o, spot⟩ := a
          have hspot : spot = none := by
            obtain ⟨cs', v, g1, g2, _⟩ := hel2 0 (by omega)
            have g3 := g2 0 (by omega)
            rw [List.getElem?_eq_getElem (by omega)] at g3
            simpa [Addr.add] using World.cell?_spot g3
          subst hspot
          obtain ⟨l, hl, hvs⟩ := vs_of (W := W) (b := b) len o (fun i hlt => by
            obtain ⟨cs', v, g1, g2, g3⟩ := hel2 i hlt
            refine ⟨cs', v, g1, fun j hj => ?_, g3⟩
            have g4 := g2 j hj
            rw [add_plain, add_plain] at g4
            exact g4)
          refine ⟨.mk k m f q l, ?_⟩
          rw [VIn]
          refine ⟨hk, hm, hff, hq, hqs, some ⟨b, o, none⟩, cap, ?_, by omega, hcm, .inr ⟨b, o, rfl, hvs⟩⟩
          rw [hl]

end
end Go.Proofs.YtcapbaocchaenaaGreat

