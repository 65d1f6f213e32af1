import Derived.Test.YtpnfnmeilhiebaaGreatDoorMP23
import Derived.Test.YtpnfnmeilhiebaaGreatDoorMP24
import Derived.Test.YtpnfnmeilhiebaaGreatDoorMP26
import Derived.Test.YtpnfnmeilhiebaaGreatDoorMP21
import Derived.Deep.RegionHeld
import Derived.Test.YtpnfnmeilhiebaaGreatDoorMP1
import Derived.ProofKit
import Derived.SizedLaws
import Derived.Deep.Matrix
import Derived.Test.YtpnfnmeilhiebaaGreatDoorMP15
import Derived.Lib.LaidTab
import Derived.Stop.LaidErr
import Derived.LaidMore
import Derived.OpenShut
import Derived.Stop.Joined
/- What is needed of a small value; Bytes of invalid values. -/
namespace Go.Proofs.YtpnfnmeilhiebaaGreatDoor
open Go.RowKit Go.Shelf Fl

mutual
theorem count_bulk : ∀ v : V, countV v ≤ bulkV v
  | .mk k n f s l => by
    rw [countV, bulkV]
    have := counts_bulk l
    omega
theorem counts_bulk : ∀ l : List V, countL l ≤ bulkL l
  | [] => Nat.le_refl _
  | v :: r => by
    rw [countL, bulkL]
    have := count_bulk v
    have := counts_bulk r
    omega
end

/-- What is needed of a small valid value. -/
theorem few_facts {v : V} (hs : soundV v) (hf : fewB v = true) (hr : rightN 8 v = true) : (textV v).length ≤ 100000 ∧ (formV v).length ≤ 100000 ∧ ∀ u ∈ preV v, u.s.length ≤ 1000000 := by
  unfold fewB at hf
  rw [Bool.and_eq_true, decide_eq_true_eq] at hf
  have hpk := pre_kinds v 8 hr
  have hps := bulk_strings v hf.1
  have h1 := text_bulk _ hs (fun u hu => (hps u hu).1)
  have h2 := form_bulk _ hs (fun u hu => ⟨(hps u hu).1, (hpk u hu).2, by have := (hps u hu).2; omega⟩)
  exact ⟨by omega, by omega, fun u hu => by have := (hps u hu).1; omega⟩

theorem few_count {v : V} (hf : fewB v = true) : countV v ≤ 900 ∧ smallN 20 v = true := by
  unfold fewB at hf
  rw [Bool.and_eq_true, decide_eq_true_eq] at hf
  have := count_bulk v
  exact ⟨by omega, hf.2⟩

theorem textB_no {v : V} (h : rightN 8 v = false) : textB v = [] := by unfold textB; rw [h]; rfl
theorem textB_yes {v : V} (h : rightN 8 v = true) : textB v = textV v := by unfold textB; rw [h]; rfl

set_option maxRecDepth 100000 in
theorem vbytes_no (t : Nat) (ht : t ≤ 1000) (v : V) (x : Array Value) (w : World) (hs : smallN t v = true) (hv : VIn w v x) (hr : rightN 8 v = false) :
    Calls Tryz.prog 6 #[.agg x] w fun e w' => e = .returned (.tuple #[.slice none 0 0, .bool false]) ∧ Below w.heap.size w w' := by
  obtain ⟨_, _, _, _, _, a, cap, rfl, _⟩ := hv.parts
  have hal := (Below.refl w.heap.size w).alloc (Nat.le_refl _) (.cells (cells5 v.kind v.n v.f v.s a v.l.length cap) 25)
  have HV := Lib.hid (valid_any t ht v _ _ hs (hv.below hal))
  have HA := Lib.hid hal
  have hwz : (w.alloc (.cells (cells5 v.kind v.n v.f v.s a v.l.length cap) 25)).heap.size = w.heap.size + 1 := by simp
  rw [hr] at HV
  clear hv hs ht hal hr
  unfold cells5 at *
  go_enter Tryz.func6, Tryz.ntmps6
  go_wp2_with fail
  refine HV.out.mono ?_
  rintro e w1 ⟨rfl, hb⟩
  have HB := Lib.hid (HA.out.trans (hb.mono HA.out.size))
  clear hb
  go_wp2
  go_ret2
  exact ⟨rfl, HB.out⟩

set_option maxRecDepth 100000 in
theorem rbytesV_no (v : V) (x : Array Value) (w : World) (hv : VIn w v x) (hr : rightN 8 v = false) :
    Calls Tryz.prog 7 #[.agg x] w fun e w' => e = .returned (.tuple #[.slice none 0 0, .bool false]) ∧ Below w.heap.size w w' := by
  obtain ⟨_, _, _, _, _, a, cap, rfl, _⟩ := hv.parts
  have hal := (Below.refl w.heap.size w).alloc (Nat.le_refl _) (.cells (cells5 v.kind v.n v.f v.s a v.l.length cap) 25)
  have HV := Lib.hid (rvalid_any v _ _ (hv.below hal))
  have HA := Lib.hid hal
  have hwz : (w.alloc (.cells (cells5 v.kind v.n v.f v.s a v.l.length cap) 25)).heap.size = w.heap.size + 1 := by simp
  rw [hr] at HV
  clear hv hal hr
  unfold cells5 at *
  go_enter Tryz.func7, Tryz.ntmps7
  go_wp2_with fail
  refine HV.out.mono ?_
  rintro e w1 ⟨rfl, hb⟩
  have HB := Lib.hid (HA.out.trans (hb.mono HA.out.size))
  clear hb
  go_wp2
  go_ret2
  exact ⟨rfl, HB.out⟩
end Go.Proofs.YtpnfnmeilhiebaaGreatDoor

/- The statement ValueForms answers true at great values, and at invalid ones. -/
namespace Go.Proofs.YtpnfnmeilhiebaaGreatDoor
open Go.RowKit Go.Shelf Fl

set_option maxRecDepth 100000 in
set_option maxHeartbeats 3200000 in
theorem forms_few (v : V) (x : Array Value) (w : World) (hv : VIn w v x) (hf : fewB v = false) (hP : Pow10 w) (hT : Tab16 w) :
    Calls Tryz.prog 3 #[.agg x] w fun e w' => e = .returned (.bool true) ∧ Below w.heap.size w w' := by
  obtain ⟨_, _, _, _, _, a, cap, rfl, _⟩ := hv.parts
  have hal := (Below.refl w.heap.size w).alloc (Nat.le_refl _) (.cells (cells5 v.kind v.n v.f v.s a v.l.length cap) 25)
  have HA := Lib.hid hal
  have HF := Lib.hid (few_any v _ _ (hv.below hal))
  have C0 := Lib.hid (new5 w (.int .i64 v.kind) (.int .i64 v.n) (.float .f64 v.f) (.string (str v.s)) (.slice a v.l.length cap) 25)
  have HL := Lib.hid (fun (w1 : World) (h : Below w.heap.size w w1) => valive_any w1 (hP.below h) (tab_below hT h))
  rw [hf] at HF
  clear hv hal hf hP hT
  unfold cells5 at *
  go_enter Tryz.func3, Tryz.ntmps3
  go_wp2_with fail
  refine HF.out.mono ?_
  rintro e w1 ⟨rfl, hb⟩
  have Hb1 := Lib.hid (HA.out.trans (hb.mono HA.out.size))
  have HX := Lib.hid (HL.out w1 Hb1.out)
  clear hb
  go_wp2_with fail
  refine HX.out.mono ?_
  rintro e w2 ⟨rfl, hb⟩
  have Hb2 := Lib.hid (Hb1.out.trans (hb.mono Hb1.out.size))
  clear hb
  go_wp2
  go_ret
  exact ⟨rfl, Hb2.out⟩

set_option maxRecDepth 100000 in
set_option maxHeartbeats 3200000 in
theorem forms_no (v : V) (x : Array Value) (w : World) (hv : VIn w v x) (hf : fewB v = true) (hr : rightN 8 v = false) (hP : Pow10 w) (hT : Tab16 w) :
    Calls Tryz.prog 3 #[.agg x] w fun e w' => e = .returned (.bool true) ∧ Below w.heap.size w w' := by
  obtain ⟨_, _, _, _, _, a, cap, rfl, _⟩ := hv.parts
  obtain ⟨hcn, hsm⟩ := few_count hf
  have hal := (Below.refl w.heap.size w).alloc (Nat.le_refl _) (.cells (cells5 v.kind v.n v.f v.s a v.l.length cap) 25)
  have HA := Lib.hid hal
  have HF := Lib.hid (few_any v _ _ (hv.below hal))
  have C0 := Lib.hid (new5 w (.int .i64 v.kind) (.int .i64 v.n) (.float .f64 v.f) (.string (str v.s)) (.slice a v.l.length cap) 25)
  have HL := Lib.hid (fun (w1 : World) (h : Below w.heap.size w w1) => valive_any w1 (hP.below h) (tab_below hT h))
  have K1 := Lib.hid (fun (w1 : World) (h : Below w.heap.size w w1) => vbytes_no 20 (by omega) v _ w1 hsm (hv.below h) hr)
  have K2 := Lib.hid (fun (w1 : World) (h : Below w.heap.size w w1) => rbytesV_no v _ w1 (hv.below h) hr)
  have K3 := Lib.hid (fun (w1 : World) (h : Below w.heap.size w w1) => vText_any 20 (by omega) v _ w1 hsm (hv.below h) (by rw [textB_no hr]; simp) (hP.below h) (tab_below hT h))
  have K4 := Lib.hid (fun (w1 : World) (h : Below w.heap.size w w1) => valid_any 20 (by omega) v _ w1 hsm (hv.below h))
  have K5 := Lib.hid (fun (w1 : World) (h : Below w.heap.size w w1) => count_any 20 (by omega) v _ w1 hsm (hv.below h) (by omega))
  have K6 := Lib.hid (fun (w1 : World) (h : Below w.heap.size w w1) => rcount_any 20 (by omega) v _ w1 hsm (by omega) (hv.below h))
  have K7 := Lib.hid (fun (w1 : World) => equal_any none none 0 0 0 0 [] [] w1 (bytes_nil _) (bytes_nil _))
  have K8 := Lib.hid (fun (w1 : World) (h : Below w.heap.size w w1) => rvtext_any v _ w1 (by rw [textB_no hr]; simp) (hv.below h))
  rw [hf] at HF
  rw [hr] at K4
  rw [textB_no hr] at K3 K8
  rw [decide_eq_true rfl] at K7
  have hq : ((str []).toList == (str []).toList) = true := beq_self_eq_true _
  have hqn : ((str []).toList != (str []).toList) = false := by simp
  clear hv hal hf hP hT hr hsm hcn
  generalize countV v = cn at *
  generalize str [] = S at *
  unfold cells5 at *
  go_enter Tryz.func3, Tryz.ntmps3
  go_wp2_with fail
  refine HF.out.mono ?_
  rintro e w1 ⟨rfl, hb⟩
  obtain ⟨z0, z1, z2, z3, z4⟩ := keep5 hb C0.out
  have Hb1 := Lib.hid (HA.out.trans (hb.mono HA.out.size))
  clear hb
  go_wp2_with fail
  refine (K1.out _ Hb1.out).mono ?_
  rintro e w2 ⟨rfl, hb⟩
  obtain ⟨y0, y1, y2, y3, y4⟩ := keep5 hb ⟨z0, z1, z2, z3, z4⟩
  have Hb2 := Lib.hid (Hb1.out.trans (hb.mono Hb1.out.size))
  clear hb z0 z1 z2 z3 z4
  go_wp2_with fail
  refine (K2.out _ Hb2.out).mono ?_
  rintro e w3 ⟨rfl, hb⟩
  obtain ⟨z0, z1, z2, z3, z4⟩ := keep5 hb ⟨y0, y1, y2, y3, y4⟩
  have Hb3 := Lib.hid (Hb2.out.trans (hb.mono Hb2.out.size))
  clear hb y0 y1 y2 y3 y4
  go_wp2_with fail
  refine (K3.out _ Hb3.out).mono ?_
  rintro e w4 ⟨rfl, hb⟩
  obtain ⟨y0, y1, y2, y3, y4⟩ := keep5 hb ⟨z0, z1, z2, z3, z4⟩
  have Hb4 := Lib.hid (Hb3.out.trans (hb.mono Hb3.out.size))
  clear hb z0 z1 z2 z3 z4
  have HK := Lib.hid (fun W (h : Below w4.heap.size w4 W) => keep5 h ⟨y0, y1, y2, y3, y4⟩)
  have M4 := Lib.hid (fun W (h : Below w4.heap.size w4 W) => K4.out W (Hb4.out.trans (h.mono Hb4.out.size)))
  have M5 := Lib.hid (fun W (h : Below w4.heap.size w4 W) => K5.out W (Hb4.out.trans (h.mono Hb4.out.size)))
  have M6 := Lib.hid (fun W (h : Below w4.heap.size w4 W) => K6.out W (Hb4.out.trans (h.mono Hb4.out.size)))
  have M7 := Lib.hid (fun W (_ : Below w4.heap.size w4 W) => K7.out W)
  have M8 := Lib.hid (fun W (h : Below w4.heap.size w4 W) => K8.out W (Hb4.out.trans (h.mono Hb4.out.size)))
  go_wp2_with fail
  go_region_held (fun W => W.cell? ⟨w.heap.size, 0, none⟩ = some (.int .i64 v.kind) ∧ W.cell? ⟨w.heap.size, 1, none⟩ = some (.int .i64 v.n) ∧ W.cell? ⟨w.heap.size, 2, none⟩ = some (.float .f64 v.f) ∧ W.cell? ⟨w.heap.size, 3, none⟩ = some (.string (str v.s)) ∧ W.cell? ⟨w.heap.size, 4, none⟩ = some (.slice a v.l.length cap))
    (first | exact HK.out _ hb9 | exact HK.out _ hb8 | exact HK.out _ hb7 | exact HK.out _ hb6 | exact HK.out _ hb5 | exact HK.out _ ((Below.refl _ _).drew))
    (first
      | (go_at_call 9; (with_reducible refine (M4.out _ ((Below.refl _ _).drew)).mono ?_); rintro e w5 ⟨rfl, hb0⟩; have hb5 : Below w4.heap.size w4 w5 := ((Below.refl _ _).drew).trans hb0; clear hb0)
      | (go_at_call 10; (with_reducible refine (M5.out _ hb5).mono ?_); rintro e w6 ⟨rfl, hb0⟩; have hb6 : Below w4.heap.size w4 w6 := hb5.trans (hb0.mono hb5.size); clear hb0)
      | (go_at_call 11; (with_reducible refine (M6.out _ hb6).mono ?_); rintro e w7 ⟨rfl, hb0⟩; have hb7 : Below w4.heap.size w4 w7 := hb6.trans (hb0.mono hb6.size); clear hb0)
      | (go_at_call 12; (with_reducible refine (M7.out _ hb7).mono ?_); rintro e w8 ⟨rfl, hb0⟩; have hb8 : Below w4.heap.size w4 w8 := hb7.trans (hb0.mono hb7.size); clear hb0)
      | (go_at_call 13; (with_reducible refine (M8.out _ hb8).mono ?_); rintro e w9 ⟨rfl, hb0⟩; have hb9 : Below w4.heap.size w4 w9 := hb8.trans (hb0.mono hb8.size); clear hb0))
  have Hb9 := Lib.hid (Hb4.out.trans (hb9.mono Hb4.out.size))
  clear hb5 hb6 hb7 hb8 hb9 y0 y1 y2 y3 y4
  go_wp2_with fail
  refine (HL.out _ Hb9.out).mono ?_
  rintro e w10 ⟨rfl, hb⟩
  have Hb10 := Lib.hid (Hb9.out.trans (hb.mono Hb9.out.size))
  clear hb
  go_wp2
  go_ret
  exact ⟨rfl, Hb10.out⟩
end Go.Proofs.YtpnfnmeilhiebaaGreatDoor

/- How a statement that answers true, and writes into new memory only, is lifted from its contract; how byte slices that come in are read as lists. -/
namespace Go.Proofs.YtpnfnmeilhiebaaGreatDoor
open Go.ChangeShapes Go.WideShapes Go.ChangeAt Go.RowKit Go.Deep

section
variable {H : Type} {enc : TypeId × Value → H} {P : Program}

theorem below_trodAll (hl : laidOutB P = true) {W W' : World} (hb : Below W.heap.size W W') : ∀ {ts : List TypeId} {vs : List Value} {ds : List (DataW H)} {ps : List MemPlace},
    ts.all (fun t => P.readableRec t && decide (t < P.types.size)) = true → DataW.TrodAll enc P W 0 (fun _ => true) true ts vs ds ps →
    DataW.TrodAll enc P W' 0 (fun b => decide (b < W.heap.size)) true ts vs ds ps
  | [], vs, ds, ps, _, h => by
    obtain ⟨rfl, rfl, rfl⟩ := trodAll_nil h
    exact rfl
  | t :: ts, vs, ds, ps, ht, h => by
    obtain ⟨v, vs', d, ds', p, q, rfl, rfl, rfl, h0, h1⟩ := trodAll_cons h
    simp only [List.all_cons, Bool.and_eq_true, decide_eq_true_eq] at ht
    have hlt : ∀ x ∈ p, x.block < W.heap.size := fun x hx => h.lt x (by simp [hx])
    exact ⟨p, q, Below.trod hl ht.1.1 ht.1.2 h0 hb hlt, below_trodAll hl hb ht.2 h1, rfl⟩

theorem law_post {fn : Func} {s : ChangeSpec} {tb : TypeId} (hl : laidOutB P = true) (hrd : fn.params.toList.all (fun t => P.readableRec t && decide (t < P.types.size)) = true)
    (hvars : s.vars = []) (hrt : fn.resultTypes = #[tb]) (htb : P.underlying tb = some .bool)
    {W W' : World} {args : Array Value} {ds gs : List (DataW H)} {before : List MemPlace} (hW : DataW.Whole enc P fn.params.toList s.vars false W args.toList ds gs before)
    (hspec : s.fn H (ds ++ []) = { results := [.lit (.bool true)], args := ds }) (hb : Below W.heap.size W W') :
    s.post enc P fn false true false false W args (.bool true) W' := by
  have hW' := hW
  obtain ⟨p, q, hA, hV, rfl, _, _⟩ := hW
  rw [hvars] at hV
  obtain ⟨rfl, rfl⟩ := trodVars_none hV
  refine ⟨ds, [], p ++ [], [], p, [], hW', ?_, ?_, ?_, hb.frame _, fun h => by cases h⟩
  · rw [hspec, hrt]
    exact trodAll_mk1 (shut_bool htb _)
  · rw [hspec]
    exact below_trodAll hl hb hrd hA
  · rw [hspec, hvars]
    exact rfl

theorem wf_u8 {n : Int} (h : (Lit.int .u8 n).wf = true) : 0 ≤ n ∧ n < 256 := by
  have h1 : IntKind.u8.min = 0 := rfl
  have h2 : IntKind.u8.max = 255 := rfl
  simp only [Lit.wf, Bool.and_eq_true, decide_eq_true_eq] at h
  omega

theorem nat_u32 {n : Int} (h : (Lit.int .u32 n).wf = true) : ∃ x : Nat, x < 4294967296 ∧ n = (x : Int) := by
  have h1 : IntKind.u32.min = 0 := rfl
  have h2 : IntKind.u32.max = 4294967295 := rfl
  simp only [Lit.wf, Bool.and_eq_true, decide_eq_true_eq] at h
  exact ⟨n.toNat, by omega, by omega⟩

theorem nat_u16 {n : Int} (h : (Lit.int .u16 n).wf = true) : ∃ x : Nat, x < 65536 ∧ n = (x : Int) := by
  have h1 : IntKind.u16.min = 0 := rfl
  have h2 : IntKind.u16.max = 65535 := rfl
  simp only [Lit.wf, Bool.and_eq_true, decide_eq_true_eq] at h
  exact ⟨n.toNat, by omega, by omega⟩

theorem nat_u64 {n : Int} (h : (Lit.int .u64 n).wf = true) : ∃ x : Nat, x < 18446744073709551616 ∧ n = (x : Int) := by
  have h1 : IntKind.u64.min = 0 := rfl
  have h2 : IntKind.u64.max = 18446744073709551615 := rfl
  simp only [Lit.wf, Bool.and_eq_true, decide_eq_true_eq] at h
  exact ⟨n.toNat, by omega, by omega⟩

theorem wf_i64_of {n : Int} (h : (Lit.int .i64 n).wf = true) : -9223372036854775808 ≤ n ∧ n ≤ 9223372036854775807 := by
  have h1 : IntKind.i64.min = -9223372036854775808 := rfl
  have h2 : IntKind.i64.max = 9223372036854775807 := rfl
  simp only [Lit.wf, Bool.and_eq_true, decide_eq_true_eq] at h
  omega

theorem bytes_of_ints {W : World} {A : Option Addr} {len cap : Nat} {zs : List Int} (hl : len ≤ cap) (hm : cap ≤ maxLen) (hz : zs.length = cap) (hnil : A = none → cap = 0)
    (hcell : ∀ a, A = some a → ∀ c, c < cap → W.cell? (a.add c) = some (.int .u8 (zs.getD c 0))) (hw : ∀ n ∈ zs, (Lit.int .u8 n).wf = true) :
    Bytes W A len cap ((zs.take len).map Int.toNat) := by
  refine ⟨by simp; omega, hl, hm, ?_, hnil, fun hn => ?_⟩
  · intro x hx
    obtain ⟨n, hn, rfl⟩ := List.mem_map.1 hx
    have := wf_u8 (hw n (List.mem_of_mem_take hn))
    omega
  · cases A with
    | none => have := hnil rfl; omega
    | some a =>
      obtain ⟨b, o, spot⟩ := a
      have hspot : spot = none := by simpa [Addr.add] using World.cell?_spot (hcell _ rfl 0 (by omega))
      subst hspot
      refine ⟨b, o, rfl, fun i hi => ?_⟩
      have hc := hcell _ rfl i (by omega)
      rw [add_plain] at hc
      have hi' : i < zs.length := by omega
      have e1 : zs.getD i 0 = zs[i] := by rw [List.getD_eq_getElem?_getD, List.getElem?_eq_getElem hi']; rfl
      have e2 : ((zs.take len).map Int.toNat).getD i 0 = zs[i].toNat := by
        rw [List.getD_eq_getElem?_getD, List.getElem?_map, List.getElem?_take, if_pos hi, List.getElem?_eq_getElem hi']; rfl
      have hwf := wf_u8 (hw zs[i] (List.getElem_mem _))
      rw [hc, e1, e2]
      congr 2
      omega

/-- A byte slice that came in. -/
theorem open_bytes {W : World} {t e : TypeId} {v : Value} {d : DataW H} {p : List MemPlace} (ht : P.underlying t = some (.slice e)) (he : P.underlying e = some (.int .u8)) (ce : P.cellsOf e = 1)
    {base : Nat} (hv : Value.okWide P W .any base t v) (h : DataW.Trod enc P W 0 (fun _ => true) true t v d p) : ∃ a n cap l, v = .slice a n cap ∧ Bytes W a n cap l := by
  obtain ⟨a0, len, cap, rfl⟩ := okWide_slice ht hv
  obtain ⟨fuel, hf⟩ := h
  rcases open_ints ht he ce hf with ⟨hcs, _⟩ | ⟨a, len', cap', zs, hcs, _, hl, hm, hz, _, hcell, hw⟩
  · simp [Value.cells] at hcs
    obtain ⟨rfl, rfl, rfl⟩ := hcs
    exact ⟨none, 0, 0, [], rfl, rfl, Nat.le_refl _, by omega, by simp, fun _ => rfl, fun h => absurd h (Nat.lt_irrefl _)⟩
  · simp [Value.cells] at hcs
    obtain ⟨rfl, rfl, rfl⟩ := hcs
    simp only [if_true] at hz
    refine ⟨some a, len, cap, _, rfl, bytes_of_ints (zs := zs) hl hm hz (fun h => by cases h) (fun a' ha' c hc => ?_) hw⟩
    cases ha'
    exact hcell c (by omega)

/-- A slice of byte slices that came in. -/
theorem open_parts {W : World} {t e q : TypeId} {v : Value} {d : DataW H} {p : List MemPlace} (ht : P.underlying t = some (.slice e)) (he : P.underlying e = some (.slice q)) (hq : P.underlying q = some (.int .u8)) (ce : P.cellsOf e = 1) (cq : P.cellsOf q = 1)
    {base : Nat} (hv : Value.okWide P W .any base t v) (h : DataW.Trod enc P W 0 (fun _ => true) true t v d p) : ∃ a n cap ls, v = .slice a n cap ∧ Parts W a n cap ls := by
  obtain ⟨a0, len, cap, rfl⟩ := okWide_slice ht hv
  obtain ⟨fuel, hf⟩ := h
  rcases open_int_rows ht he hq ce cq hf with ⟨hcs, _⟩ | ⟨a, len', cap', A, L, C, Z, hcs, _, hl, hm, _, hrows⟩
  · simp [Value.cells] at hcs
    obtain ⟨rfl, rfl, rfl⟩ := hcs
    exact ⟨none, 0, 0, [], rfl, rfl, Nat.le_refl _, by omega, fun h => absurd h (Nat.lt_irrefl _)⟩
  · simp [Value.cells] at hcs
    obtain ⟨rfl, rfl, rfl⟩ := hcs
    refine ⟨some a, len, cap, (List.range len).map fun r => ((Z r).take (L r)).map Int.toNat, rfl, by simp, hl, hm, fun hn => ?_⟩
    obtain ⟨b, o, spot⟩ := a
    have hspot : spot = none := by simpa [Addr.add] using World.cell?_spot (hrows 0 (by omega)).1
    subst hspot
    have hc0 := (hrows 0 (by omega)).1
    rw [add_plain] at hc0
    refine ⟨b, o, rfl, World.block_lt_of_cell? _ _ hc0, fun i hi => ?_⟩
    obtain ⟨h1, h2, h3, h4, h5, h6, h7⟩ := hrows i (by omega)
    rw [add_plain] at h1
    refine ⟨A i, L i, C i, h1, ?_⟩
    have e1 : ((List.range len).map fun r => ((Z r).take (L r)).map Int.toNat).getD i [] = ((Z i).take (L i)).map Int.toNat := by
      rw [List.getD_eq_getElem?_getD, List.getElem?_map, List.getElem?_range hi]; rfl
    rw [e1]
    exact bytes_of_ints h2 h3 h4 h6 (fun a' ha' c hc => (h7 a' ha').2 c hc) h5
end
end Go.Proofs.YtpnfnmeilhiebaaGreatDoor

/- What the listed package-level variables give the walks, and how a statement over them is lifted. -/
namespace Go.Proofs.YtpnfnmeilhiebaaGreatDoor
open Go.RowKit

def deBruijn64 : List Int := [0, 1, 56, 2, 57, 49, 28, 3, 61, 58, 42, 50, 38, 29, 17, 4, 62, 47, 59, 36, 45, 43, 51, 22, 53, 39, 33, 30, 24, 18, 12, 5, 63, 55, 48, 27, 60, 41, 37, 16, 46, 35, 44, 21, 52, 32, 23, 11, 54, 26, 40, 15, 34, 20, 31, 10, 25, 14, 19, 9, 13, 8, 7, 6]

theorem gTab : Tryz.prog.globalNamed "math/bits.deBruijn64tab" = some 6 := by kernel_rfl

theorem tab_of_laid {d : DataW Unit} {rest : List (String × DataW Unit)} {W : World} (h : laidMet Tryz.prog (("math/bits.deBruijn32tab", d) :: ("math/bits.deBruijn64tab", Lib.tabData .u8 deBruijn64) :: rest) W) : Tab16 W :=
  Lib.TabIs.cell (Lib.tabIs_of_head gTab (by kernel_rfl : (Tryz.prog.globals[6]?).map (·.type) = some 163) Tryz.underlying163 Tryz.underlying5 (by kernel_rfl) (by kernel_rfl) (laidMet.tail h)) gTab 15 (by decide)
end Go.Proofs.YtpnfnmeilhiebaaGreatDoor

