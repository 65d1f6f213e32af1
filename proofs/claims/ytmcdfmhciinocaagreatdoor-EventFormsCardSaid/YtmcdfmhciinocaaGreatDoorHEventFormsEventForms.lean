/- The walk of the statement EventForms. -/
import Derived.Test.YtmcdfmhciinocaaGreatDoorMB34
import Derived.Test.YtmcdfmhciinocaaGreatDoorMB29
import Derived.Test.YtmcdfmhciinocaaGreatDoorMB42
import Derived.Test.YtmcdfmhciinocaaGreatDoorMB43
import Derived.Test.YtmcdfmhciinocaaGreatDoorMB33
import Derived.Test.YtmcdfmhciinocaaGreatDoorMB7
import Derived.Deep.RegionHeld3
namespace Go.Proofs.YtmcdfmhciinocaaGreatDoor
open Go.RowKit Go.Shelf Fl
attribute [local go_sem ↓] Go.wp_at_zero Go.wp_at_succ

theorem ebytes_both {w w' : World} {e : Ev} {r : Ending} (h : EBytesEnd w e r w') (hb : ∀ c ∈ formE e, c < 256) : ∃ p n cap, r = .returned (.tuple #[.slice p n cap, .bool (okE e)]) ∧ Bytes w' p n cap (if okE e = true then formE e else []) ∧ Below w.heap.size w w' := by
  rcases h with ⟨h0, rfl, hb'⟩ | ⟨h1, u, rfl, ho, hb'⟩
  · exact ⟨none, 0, 0, by rw [h0], by rw [h0]; exact ⟨rfl, Nat.le_refl _, by omega, fun c h => (by cases h), fun _ => rfl, fun h => absurd h (by omega)⟩, hb'⟩
  · obtain ⟨p, cp, rfl, hB⟩ := own_slice ho hb
    exact ⟨p, _, cp, by rw [h1], by rw [if_pos h1]; exact hB, hb'⟩

theorem rdK_of {w : World} {g : Nat} {l : List Nat} (h : Rd w g l true) (hl : 0 < l.length) : RdK (fun b => b < w.heap.size) w g l true := by
  obtain ⟨a, n, c, h1, h2, h3⟩ := h
  refine ⟨a, n, c, h1, h2, h3, fun x hx => ?_⟩
  have hn : 0 < n := by rw [← h2.len]; exact hl
  obtain ⟨b, o, e, hc⟩ := h2.cell hn
  rw [e] at hx
  cases hx
  exact World.block_lt_of_cell? _ _ (hc 0 hn)

theorem formE_pos (e : Ev) : 0 < (formE e).length := by
  unfold formE
  rw [List.length_append, List.length_append]
  have := form_pos 1
  omega

theorem flat_len {f : Nat → List Nat} {B : Nat} : ∀ fs : List Nat, (∀ i ∈ fs, (f i).length ≤ B) → ((fs.map f).flatten).length ≤ fs.length * B
  | [], _ => by simp
  | i :: fs, h => by
    have h1 := flat_len fs (fun j hj => h j (by simp [hj]))
    have h2 := h i (by simp)
    rw [List.map_cons, List.flatten_cons, List.length_append, List.length_cons, Nat.add_mul]
    omega

theorem formE_len {e : Ev} {w : World} {x : Array Value} (h : EvIn w e x) (hok : okE e = true) (hf : fewE e = true) : (formE e).length ≤ 160000 := by
  obtain ⟨f1, _, f3, f4⟩ := few_parts hf
  obtain ⟨b1, b2, b3, b4, b5, b6, a, cap, _, hv⟩ := h
  obtain ⟨hk1, _⟩ := okE_parts hok
  have hb := fun u hu => bulk_strings e.v f1 u hu
  have h5 := form_bulk e.v (VIn.sound _ _ hv) (fun u hu => ⟨(hb u hu).1, (pre_kinds e.v 8 (ok_right hok) u hu).2, by have := (hb u hu).2; omega⟩)
  have hp : ∀ i ∈ evFields e.k, (pieceE e i).length ≤ 25000 := fun i hi => by
    have hr := okE_right hok hi
    have h6 := evFields_lt _ _ hi
    match i, h6 with
    | 0, _ => have := form_len b2; show (form e.id).length ≤ _; omega
    | 1, _ =>
      have h1 : 1 ≤ e.n ∧ e.n ≤ 2147483647 := by simpa [rightE] using hr
      have := form_len (x := e.n.toNat) (by omega); show (form e.n.toNat).length ≤ _; omega
    | 2, _ => have := form_len b4; show (form e.t).length ≤ _; omega
    | 3, _ => have := form_len (x := e.nm.length) (by omega); show (form e.nm.length ++ e.nm).length ≤ _; rw [List.length_append]; omega
    | 4, _ => have := form_len (x := e.tx.length) (by omega); show (form e.tx.length ++ e.tx).length ≤ _; rw [List.length_append]; omega
    | 5, _ => show (formV e.v).length ≤ _; omega
  have h7 := flat_len _ hp
  have h8 := fields_len e.k
  have h9 := form_len (x := 1) (by omega)
  have h10 := form_len (x := e.k.toNat) (by omega)
  have h11 : (evFields e.k).length * 25000 ≤ 6 * 25000 := Nat.mul_le_mul_right _ h8
  unfold formE
  rw [List.length_append, List.length_append]
  omega

set_option maxRecDepth 100000 in
set_option maxHeartbeats 12800000 in
theorem eventForms_any (e : Ev) (x : Array Value) (w : World) (h : EvIn w e x) (hp : Pow10 w) (ht : Tab16 w) :
    Calls Tryz.prog 3 #[.agg x] w fun r w' => r = .returned (.bool true) ∧ Below w.heap.size w w' := by
  have HA := Lib.hid (fun W (hW : Below w.heap.size w W) => alive11_any W (hp.below hW) (tab_below ht hW))
  have HF := Lib.hid (fun W (hW : Below w.heap.size w W) => few11_any e x W (h.below hW))
  have HB := Lib.hid (fun W (hW : Below w.heap.size w W) (hf : fewE e = true) => (evbytes_few e x W hf (h.below hW)).mono (fun r w' k => ebytes_both k (formE_byte h)))
  have HRB := Lib.hid (fun W (hW : Below w.heap.size w W) (hf : fewE e = true) => (rbytes11_any e x W (h.below hW) (fun ho => (form_few (h.below hW) hf (ok_right ho)).1) (fun ho => (form_few (h.below hW) hf (ok_right ho)).2)).mono (fun r w' k => ebytes_both k (formE_byte h)))
  have HV := Lib.hid (fun W (hW : Below w.heap.size w W) (hf : fewE e = true) => evalid_any 20 (by omega) e x W (few_parts hf).2.1 (h.below hW))
  have HT := Lib.hid (fun W (hW : Below w.heap.size w W) (hf : fewE e = true) => evtext_few e x W hf (h.below hW) (hp.below hW) (tab_below ht hW))
  have HRT := Lib.hid (fun W (hW : Below w.heap.size w W) (hf : fewE e = true) => rtext11_any e x W (h.below hW) (few_word h hf))
  have HS := Lib.hid (fun W (hW : Below w.heap.size w W) (e' : Ev) (x' : Array Value) (h' : EvIn W e' x') => rsame11_any e' e x' x W h' (h.below hW))
  have HBy := Lib.hid (formE_byte h)
  have HBd := Lib.hid (EvIn.bound h)
  have Hfl := Lib.hid (fun (hok : okE e = true) (hf : fewE e = true) => formE_len h hok hf)
  obtain ⟨_, b2, b3, b4, b5, b6, a, cap, rfl, hv⟩ := h
  clear b2 b3 b4 b5 b6 hv hp ht
  obtain ⟨w1, hw1⟩ : ∃ w1, w1 = w.alloc (.cells (evC e.k e.id e.n e.t e.nm e.tx e.v.kind e.v.n e.v.f e.v.s a e.v.l.length cap) 28) := ⟨_, rfl⟩
  have Hal := Lib.hid (show Below w.heap.size w w1 by rw [hw1]; exact (Below.refl w.heap.size w).alloc (Nat.le_refl _) _)
  have HE := Lib.hid (show w1.heap[w.heap.size]? = some (.cells (evC e.k e.id e.n e.t e.nm e.tx e.v.kind e.v.n e.v.f e.v.s a e.v.l.length cap) 28 (0, 0)) by rw [hw1]; exact heap_alloc_new _ _)
  have HK := Lib.hid (fun W (hW : Below w1.heap.size w1 W) => box11 (blk HE.out hW))
  have Hw1 := Lib.hid hw1
  clear hw1
  have hsf := fun (W : World) (A : Addr) (f : Nat) (m : Mode) => (run_store Tryz.prog W A (.float .f64 f) m rfl)
  go_enter Tryz.func3, Tryz.ntmps3
  go_wp2_with fail
  rw [← Hw1.out]
  refine (HF.out _ Hal.out).mono ?_
  rintro r w2 ⟨rfl, hb2⟩
  have Hb2 := Lib.hid hb2
  clear hb2
  cases hf : fewE e with
  | false =>
    have Hz := Lib.hid (Hal.out.trans (Hb2.out.mono Hal.out.size))
    clear hf
    go_wp2_with fail
    refine (HA.out _ Hz.out).mono ?_
    rintro r w3 ⟨rfl, hb3⟩
    have Hb3 := Lib.hid (Hz.out.trans (hb3.mono Hz.out.size))
    clear hb3
    go_wp2
    go_ret
    exact ⟨rfl, Hb3.out⟩
  | true =>
  have Hf := Lib.hid hf
  clear hf
  obtain ⟨g0, g1, g2, g3, g4, g5, g6, g7, g8, g9, g10⟩ := HK.out _ Hb2.out
  go_wp2_with fail
  refine (HB.out _ (Hal.out.trans (Hb2.out.mono Hal.out.size)) Hf.out).mono ?_
  rintro r w3 ⟨p3, n3, c3, rfl, hB3, hb3⟩
  have Hb3 := Lib.hid (Hb2.out.trans (hb3.mono Hb2.out.size))
  have HB3 := Lib.hid hB3
  clear hb3 hB3 g0 g1 g2 g3 g4 g5 g6 g7 g8 g9 g10
  obtain ⟨g0, g1, g2, g3, g4, g5, g6, g7, g8, g9, g10⟩ := HK.out _ Hb3.out
  go_wp2_with fail
  refine (HRB.out _ (Hal.out.trans (Hb3.out.mono Hal.out.size)) Hf.out).mono ?_
  rintro r w4 ⟨p4, n4, c4, rfl, hB4, hb4⟩
  have Hb4 := Lib.hid (Hb3.out.trans (hb4.mono Hb3.out.size))
  have HB34 := Lib.hid (HB3.out.grow hb4)
  have HB4 := Lib.hid hB4
  clear hb4 hB4 g0 g1 g2 g3 g4 g5 g6 g7 g8 g9 g10
  have HQ := Lib.hid (fun W (hW : Below w4.heap.size w4 W) => equal_any p3 p4 n3 c3 n4 c4 _ _ W (HB34.out.grow hW) (HB4.out.grow hW))
  rw [decide_eq_true rfl] at HQ
  generalize hok : okE e = ok at *
  have hne : (ok != ok) = false := by cases ok <;> rfl
  go_wp2_with fail
  have Hd := Lib.hid (show Below w4.heap.size w4 w4.drew from (Below.refl _ _).drew)
  have Hw4 := Lib.hid (show Below w.heap.size w w4 from Hal.out.trans (Hb4.out.mono Hal.out.size))
  have HK4 := Lib.hid (fun W (hW : Below w4.heap.size w4 W) => HK.out W (Hb4.out.trans (hW.mono Hb4.out.size)))
  have HJ := Lib.hid (fun W (hW : Below w4.heap.size w4 W) => show Below w.heap.size w W from Hw4.out.trans (hW.mono Hw4.out.size))
  go_region_held3 (fun W => W.cell? ⟨w.heap.size, 0, none⟩ = some (.int .i64 e.k) ∧ W.cell? ⟨w.heap.size, 1, none⟩ = some (.int .u64 (e.id : Int)) ∧ W.cell? ⟨w.heap.size, 2, none⟩ = some (.int .i64 e.n) ∧ W.cell? ⟨w.heap.size, 3, none⟩ = some (.int .u64 (e.t : Int)) ∧ W.cell? ⟨w.heap.size, 4, none⟩ = some (.string (str e.nm)) ∧ W.cell? ⟨w.heap.size, 5, none⟩ = some (.string (str e.tx)) ∧ W.cell? ⟨w.heap.size, 6, none⟩ = some (.int .i64 e.v.kind) ∧ W.cell? ⟨w.heap.size, 7, none⟩ = some (.int .i64 e.v.n) ∧ W.cell? ⟨w.heap.size, 8, none⟩ = some (.float .f64 e.v.f) ∧ W.cell? ⟨w.heap.size, 9, none⟩ = some (.string (str e.v.s)) ∧ W.cell? ⟨w.heap.size, 10, none⟩ = some (.slice a e.v.l.length cap))
    (first | with_reducible exact HK4.out _ Hd.out | with_reducible exact HK4.out _ hb5 | with_reducible exact HK4.out _ hb6 | with_reducible exact HK4.out _ hb7 | with_reducible exact HK4.out _ hb8)
    (first | (go_at_call 11; (with_reducible refine (HV.out _ (HJ.out _ Hd.out) Hf.out).mono ?_); rintro r w5 ⟨rfl, hb50⟩
              have hb5 : Below w4.heap.size w4 w5 := Hd.out.trans (hb50.mono Hd.out.size)
              clear hb50)
           | (go_at_call 12; (with_reducible refine (HQ.out _ hb5).mono ?_); rintro r w6 ⟨rfl, hb60⟩
              have hb6 : Below w4.heap.size w4 w6 := hb5.trans (hb60.mono hb5.size)
              clear hb60)
           | (go_at_call 13; (with_reducible refine (HT.out _ (HJ.out _ hb6) Hf.out).mono ?_); rintro r w7 ⟨rfl, hb70⟩
              have hb7 : Below w4.heap.size w4 w7 := hb6.trans (hb70.mono hb6.size)
              clear hb70)
           | (go_at_call 14; (with_reducible refine (HRT.out _ (HJ.out _ hb7) Hf.out).mono ?_); rintro r w8 ⟨rfl, hb80⟩
              have hb8 : Below w4.heap.size w4 w8 := hb7.trans (hb80.mono hb7.size)
              clear hb80))
  have Hb8 := Lib.hid hb8
  have Hw8 := Lib.hid (HJ.out _ hb8)
  have H38 := Lib.hid (HB34.out.grow hb8)
  clear hb5 hb6 hb7 hb8
  cases ok with
  | false =>
    clear hok
    go_wp2_with fail
    refine (HA.out _ Hw8.out).mono ?_
    rintro r w9 ⟨rfl, hb9⟩
    have Hb9 := Lib.hid (Hw8.out.trans (hb9.mono Hw8.out.size))
    clear hb9
    go_wp2
    go_ret
    exact ⟨rfl, Hb9.out⟩
  | true =>
  rw [if_pos rfl] at H38
  have Hok := Lib.hid hok
  have Hfl2 := Lib.hid (Hfl.out rfl Hf.out)
  have hlen3 := H38.out.len
  have HN := Lib.hid (new_any p3 n3 c3 (formE e) w8 H38.out (by have := Hfl2.out; omega))
  clear hok hlen3
  go_wp2_with fail
  refine HN.out.mono ?_
  rintro r w9 ⟨g, rfl, hg, hR, hb9⟩
  have HRK := Lib.hid (rdK_of hR (formE_pos e))
  have Hb9 := Lib.hid hb9
  have Hw9 := Lib.hid (Hw8.out.trans (hb9.mono Hw8.out.size))
  have Hg := Lib.hid hg
  have Hgl := Lib.hid (show g < w9.heap.size from by obtain ⟨a, n, c, h1, _⟩ := hR; exact (Array.getElem?_eq_some_iff.1 h1).1)
  clear hg hR hb9 HN
  have HEv := Lib.hid (evread_any (fun b => b < w9.heap.size) g (formE e) w9 (fun _ h => h) (by have := Hfl2.out; omega) HRK.out)
  go_wp2_with fail
  refine HEv.out.mono ?_
  rintro r w10 (⟨q, rest, xq, rfl, hq, hqi, hqr⟩ | ⟨hno, _⟩)
  rotate_left
  · exact absurd ⟨Hok.out, HBd.out, (List.append_nil _).symm⟩ (hno e [])
  have hu : IsE (formE e) e [] := ⟨Hok.out, HBd.out, (List.append_nil _).symm⟩
  obtain ⟨hsame, rfl⟩ := hq.uniq hu
  have Hsame := Lib.hid hsame
  have HqI := Lib.hid hqi
  obtain ⟨_, _, _, _, _, _, qa, qcap, rfl, _⟩ := hqi
  have Hqr := Lib.hid hqr
  have Hw10 := Lib.hid (show Below w.heap.size w w10 from ⟨hqr.2.os.trans Hw9.out.os, hqr.2.tape.trans Hw9.out.tape, hqr.2.output.trans Hw9.out.output, Nat.le_trans Hw9.out.size hqr.2.size, fun i hi => (hqr.2.block i (Nat.lt_of_lt_of_le hi Hw9.out.size) (fun h => by cases h; have := Hg.out; have := Hw8.out.size; omega)).trans (Hw9.out.block i hi)⟩)
  have hbz := (Below.refl w10.heap.size w10).alloc (Nat.le_refl _) (.cells (evC q.k q.id q.n q.t q.nm q.tx q.v.kind q.v.n q.v.f q.v.s qa q.v.l.length qcap) 28)
  have HZ0 := Lib.hid (heap_alloc_new w10 (.cells (evC q.k q.id q.n q.t q.nm q.tx q.v.kind q.v.n q.v.f q.v.s qa q.v.l.length qcap) 28))
  have Hbz := Lib.hid hbz
  clear hq hu hsame hqr hbz HEv
  go_wp2_with fail
  obtain ⟨w11, hw11⟩ : ∃ w11, w11 = w10.alloc (.cells (evC q.k q.id q.n q.t q.nm q.tx q.v.kind q.v.n q.v.f q.v.s qa q.v.l.length qcap) 28) := ⟨_, rfl⟩
  rw [← hw11] at HZ0 Hbz
  rw [show w10.alloc (.cells #[Value.int IntKind.i64 q.k, Value.int IntKind.u64 (q.id : Int), Value.int IntKind.i64 q.n, Value.int IntKind.u64 (q.t : Int), Value.string (str q.nm), Value.string (str q.tx), Value.int IntKind.i64 q.v.kind, Value.int IntKind.i64 q.v.n, Value.float FloatKind.f64 q.v.f, Value.string (str q.v.s), Value.slice qa q.v.l.length qcap] 28) = w11 from hw11.symm]
  clear hw11
  have Hw11 := Lib.hid (show Below w.heap.size w w11 from Hw10.out.trans (Hbz.out.mono Hw10.out.size))
  refine (HA.out _ Hw11.out).mono ?_
  rintro r w12 ⟨rfl, hb12⟩
  have Hw12 := Lib.hid (show Below w.heap.size w w12 from Hw11.out.trans (hb12.mono Hw11.out.size))
  have Hb12 := Lib.hid (show Below w10.heap.size w10 w12 from Hbz.out.trans (hb12.mono Hbz.out.size))
  have HZ12 := Lib.hid (blk HZ0.out hb12)
  have HD := Lib.hid (mDone g [] true w12 ((Hqr.out.1.below Hb12.out).rd))
  have hd : doneB [] true = true := rfl
  rw [hd] at HD
  clear hb12 hd
  go_wp2_with fail
  refine HD.out.mono ?_
  rintro r w13 ⟨rfl, rfl⟩
  obtain ⟨g0, g1, g2, g3, g4, g5, g6, g7, g8, g9, g10⟩ := box11 HZ12.out
  have Hb112 := Lib.hid (show w12.heap[w.heap.size]? = _ from by
    have h1 := blk HE.out Hb4.out
    have h2 := blk h1 Hb8.out
    have h3 := blk h2 Hb9.out
    have h4 := evAt_turn h3 (by have := Hg.out; have := (Array.getElem?_eq_some_iff.1 h2).1; omega) Hqr.out.2
    exact blk h4 Hb12.out)
  obtain ⟨k0, k1, k2, k3, k4, k5, k6, k7, k8, k9, k10⟩ := box11 Hb112.out
  have HSm := Lib.hid (HS.out _ Hw12.out q _ (HqI.out.below Hb12.out))
  rw [Hsame.out] at HSm
  go_wp2_with fail
  refine HSm.out.mono ?_
  rintro r w14 ⟨rfl, hb14⟩
  have Hw14 := Lib.hid (show Below w.heap.size w w14 from Hw12.out.trans (hb14.mono Hw12.out.size))
  clear hb14 g0 g1 g2 g3 g4 g5 g6 g7 g8 g9 g10 k0 k1 k2 k3 k4 k5 k6 k7 k8 k9 k10
  go_wp2
  go_ret
  exact ⟨rfl, Hw14.out⟩
end Go.Proofs.YtmcdfmhciinocaaGreatDoor
