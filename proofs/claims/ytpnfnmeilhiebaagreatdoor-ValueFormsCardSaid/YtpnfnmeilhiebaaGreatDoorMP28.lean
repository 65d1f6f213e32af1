import Derived.Test.YtpnfnmeilhiebaaGreatDoorMP27
import Derived.Test.YtpnfnmeilhiebaaGreatDoorMP17
import Derived.Test.YtpnfnmeilhiebaaGreatDoorMP5
/- What the listed variables of the library's errors give the walks. -/
namespace Go.Proofs.YtpnfnmeilhiebaaGreatDoor
open Go.RowKit

theorem star : "*" ++ "errors.errorString" = "*errors.errorString" := by decide
theorem rowE (u : TypeId) (h : Tryz.prog.typeName? 3 u = some "*errors.errorString") : u = 151 :=
  typeName_ptr_named (nm := "errors.errorString") (by rw [star]; kernel_rfl) (by kernel_rfl) (by decide) u (by rw [star]; exact h)
theorem gSyn : Tryz.prog.globalNamed "strconv.ErrSyntax" = some 2 := by kernel_rfl
theorem gRan : Tryz.prog.globalNamed "strconv.ErrRange" = some 3 := by kernel_rfl

theorem errs_of_laid {d1 d2 d3 : String × DataW Unit} {x y : List UInt8} {rest : List (String × DataW Unit)} {W : World}
    (h : laidMet Tryz.prog (d1 :: d2 :: d3 :: ("strconv.ErrRange", .iface "*errors.errorString" (.ptr (.agg [.lit (.string x)]))) :: ("strconv.ErrSyntax", .iface "*errors.errorString" (.ptr (.agg [.lit (.string y)]))) :: rest) W) : Errs W := by
  have h1 := h.tail.tail.tail
  obtain ⟨a, _, v, _, _, _⟩ := laid_sentinel h1 gRan (by kernel_rfl : (Tryz.prog.globals[3]?).map (·.type) = some 101) Tryz.underlying101 rowE Tryz.underlying151 Tryz.underlying153 rfl rfl Tryz.underlying9 (by kernel_rfl) (by kernel_rfl)
  obtain ⟨a', _, v', _, _, _⟩ := laid_sentinel h1.tail gSyn (by kernel_rfl : (Tryz.prog.globals[2]?).map (·.type) = some 101) Tryz.underlying101 rowE Tryz.underlying151 Tryz.underlying153 rfl rfl Tryz.underlying9 (by kernel_rfl) (by kernel_rfl)
  have c := World.var?_cell gRan v 0
  have c' := World.var?_cell gSyn v' 0
  exact ⟨⟨_, _, by simpa using c'⟩, ⟨_, _, by simpa using c⟩⟩
end Go.Proofs.YtpnfnmeilhiebaaGreatDoor

/- The statement ValueForms answers true. -/
namespace Go.Proofs.YtpnfnmeilhiebaaGreatDoor
open Go.RowKit Go.Shelf Fl

/-- What Bytes answers at a valid value. -/
def BytesOk (w : World) (v : V) (e : Ending) (w' : World) : Prop := ∃ p cp, e = .returned (.tuple #[.slice p (formV v).length cp, .bool true]) ∧ Bytes w' p (formV v).length cp (formV v) ∧ Below w.heap.size w w'

theorem bytesOk_of {w w' : World} {v : V} {e : Ending} (h : BytesEnd w v e w') (hr : rightN 8 v = true) (hb : ∀ c ∈ formV v, c < 256) : BytesOk w v e w' := by
  rcases h with ⟨h0, _⟩ | ⟨_, u, rfl, hu, hw⟩
  · rw [hr] at h0; cases h0
  · obtain ⟨p, cp, rfl, hB⟩ := own_slice hu hb
    exact ⟨p, cp, rfl, hB, hw⟩

set_option maxRecDepth 100000 in
set_option maxHeartbeats 6400000 in
theorem forms_yes (v : V) (x : Array Value) (w : World) (hv : VIn w v x) (hf : fewB v = true) (hr : rightN 8 v = true) (hP : Pow10 w) (hE : Errs w) (hT : Tab16 w) :
    Calls Tryz.prog 3 #[.agg x] w fun e w' => e = .returned (.bool true) ∧ Below w.heap.size w w' := by
  have hso := VIn.sound v _ hv
  have hfit : Fit v := ⟨w, x, hv⟩
  have h8 := formV_byte v w x hv
  obtain ⟨_, _, _, _, _, a, cap, rfl, _⟩ := hv.parts
  obtain ⟨hcn, hsm⟩ := few_count hf
  obtain ⟨htl, hfl, hsl⟩ := few_facts hso hf hr
  have hal := (Below.refl w.heap.size w).alloc (Nat.le_refl _) (.cells (cells5 v.kind v.n v.f v.s a v.l.length cap) 25)
  have HA := Lib.hid hal
  have HF := Lib.hid (few_any v _ _ (hv.below hal))
  have C0 := Lib.hid (new5 w (.int .i64 v.kind) (.int .i64 v.n) (.float .f64 v.f) (.string (str v.s)) (.slice a v.l.length cap) 25)
  have HL := Lib.hid (fun (w1 : World) (h : Below w.heap.size w w1) => valive_any w1 (hP.below h) (tab_below hT h))
  have K1 := Lib.hid (fun (w1 : World) (h : Below w.heap.size w w1) => (vbytes_any 20 (by omega) v _ w1 hsm (hv.below h) (by omega) hsl).mono (fun e w' hh => bytesOk_of hh hr h8))
  have K2 := Lib.hid (fun (w1 : World) (h : Below w.heap.size w w1) => (rbytesV_any v _ w1 (hv.below h) (by omega) hsl).mono (fun e w' hh => bytesOk_of hh hr h8))
  have K3 := Lib.hid (fun (w1 : World) (h : Below w.heap.size w w1) => vText_any 20 (by omega) v _ w1 hsm (hv.below h) (by rw [textB_yes hr]; omega) (hP.below h) (tab_below hT h))
  have K4 := Lib.hid (fun (w1 : World) (h : Below w.heap.size w w1) => valid_any 20 (by omega) v _ w1 hsm (hv.below h))
  have K5 := Lib.hid (fun (w1 : World) (h : Below w.heap.size w w1) => count_any 20 (by omega) v _ w1 hsm (hv.below h) (by omega))
  have K6 := Lib.hid (fun (w1 : World) (h : Below w.heap.size w w1) => rcount_any 20 (by omega) v _ w1 hsm (by omega) (hv.below h))
  have K8 := Lib.hid (fun (w1 : World) (h : Below w.heap.size w w1) => rvtext_any v _ w1 (by rw [textB_yes hr]; omega) (hv.below h))
  have KP := Lib.hid (fun (w1 : World) (h : Below w.heap.size w w1) => vparse_any (textV v) w1 (text_byte _ hso) htl (hE.below h) (tab_below hT h) (hP.below h) (fun i => idx_ascii _ (fun c hc => text_ascii _ hso c (List.mem_of_mem_drop hc)) (by rw [List.length_drop]; omega)))
  have KR := Lib.hid (fun (w1 : World) (g : Nat) (h : Rd w1 g (formV v) true) => vread_any v [] g w1 hr hfit (by rw [List.append_nil]; omega) (by rw [List.append_nil]; exact h))
  have HVw := Lib.hid (fun (w1 : World) (h : Below w.heap.size w w1) => hv.below h)
  have Hso := Lib.hid hso
  have Hr := Lib.hid hr
  have Hfl := Lib.hid hfl
  rw [hf] at HF
  rw [hr] at K4
  rw [textB_yes hr] at K3 K8
  have hq : ((str (textV v)).toList == (str (textV v)).toList) = true := beq_self_eq_true _
  have hqn : ((str (textV v)).toList != (str (textV v)).toList) = false := by simp
  clear hv hal hf hP hT hE hr hsm hcn htl hfl hsl hso hfit h8
  generalize countV v = cn at *
  generalize str (textV v) = S at *
  unfold cells5 at *
  go_enter Tryz.func3, Tryz.ntmps3
  go_wp2_with fail
  refine HF.out.mono ?_
  rintro e w1 ⟨rfl, hb⟩
  obtain ⟨z0, z1, z2, z3, z4⟩ := keep5 hb C0.out
  have Hb1 := Lib.hid (HA.out.trans (hb.mono HA.out.size))
  have Hz1 := Lib.hid (show w.heap.size < w1.heap.size from Nat.lt_of_lt_of_le (by simp) hb.size)
  clear hb
  go_wp2_with fail
  refine (K1.out _ Hb1.out).mono ?_
  rintro e w2 ⟨p2, cp2, rfl, hB2, hb⟩
  have HB2 := Lib.hid hB2
  obtain ⟨y0, y1, y2, y3, y4⟩ := keep5 hb ⟨z0, z1, z2, z3, z4⟩
  have Hb2 := Lib.hid (Hb1.out.trans (hb.mono Hb1.out.size))
  clear hb z0 z1 z2 z3 z4 hB2
  go_wp2_with fail
  refine (K2.out _ Hb2.out).mono ?_
  rintro e w3 ⟨p3, cp3, rfl, hB3, hb⟩
  have HB3 := Lib.hid hB3
  have HB23 := Lib.hid (HB2.out.grow hb)
  obtain ⟨z0, z1, z2, z3, z4⟩ := keep5 hb ⟨y0, y1, y2, y3, y4⟩
  have Hb3 := Lib.hid (Hb2.out.trans (hb.mono Hb2.out.size))
  clear hb y0 y1 y2 y3 y4 hB3
  go_wp2_with fail
  refine (K3.out _ Hb3.out).mono ?_
  rintro e w4 ⟨rfl, hb⟩
  obtain ⟨y0, y1, y2, y3, y4⟩ := keep5 hb ⟨z0, z1, z2, z3, z4⟩
  have Hb4 := Lib.hid (Hb3.out.trans (hb.mono Hb3.out.size))
  have HB24 := Lib.hid (HB23.out.grow hb)
  have HB34 := Lib.hid (HB3.out.grow hb)
  clear hb z0 z1 z2 z3 z4
  have HK := Lib.hid (fun W (h : Below w4.heap.size w4 W) => keep5 h ⟨y0, y1, y2, y3, y4⟩)
  have M4 := Lib.hid (fun W (h : Below w4.heap.size w4 W) => K4.out W (Hb4.out.trans (h.mono Hb4.out.size)))
  have M5 := Lib.hid (fun W (h : Below w4.heap.size w4 W) => K5.out W (Hb4.out.trans (h.mono Hb4.out.size)))
  have M6 := Lib.hid (fun W (h : Below w4.heap.size w4 W) => K6.out W (Hb4.out.trans (h.mono Hb4.out.size)))
  have M7 := Lib.hid (fun W (h : Below w4.heap.size w4 W) => equal_any p2 p3 _ cp2 _ cp3 (formV v) (formV v) W (HB24.out.grow h) (HB34.out.grow h))
  rw [decide_eq_true rfl] at M7
  generalize hn : (formV v).length = n at *
  have Hn := Lib.hid hn
  clear hn
  have M8 := Lib.hid (fun W (h : Below w4.heap.size w4 W) => K8.out W (Hb4.out.trans (h.mono Hb4.out.size)))
  go_wp2_with fail
  go_region_held (fun W => W.cell? ⟨w.heap.size, 0, none⟩ = some (.int .i64 v.kind) ∧ W.cell? ⟨w.heap.size, 1, none⟩ = some (.int .i64 v.n) ∧ W.cell? ⟨w.heap.size, 2, none⟩ = some (.float .f64 v.f) ∧ W.cell? ⟨w.heap.size, 3, none⟩ = some (.string (str v.s)) ∧ W.cell? ⟨w.heap.size, 4, none⟩ = some (.slice a v.l.length cap))
    (first | exact HK.out _ hb9 | exact HK.out _ hb8 | exact HK.out _ hb7 | exact HK.out _ hb6 | exact HK.out _ hb5 | exact HK.out _ ((Below.refl _ _).drew))
    (first
      | (go_at_call 9; (with_reducible refine (M4.out _ ((Below.refl _ _).drew)).mono ?_); rintro e w5 ⟨rfl, hb0⟩; have hb5 : Below w4.heap.size w4 w5 := ((Below.refl _ _).drew).trans hb0; clear hb0)
      | (go_at_call 10; (with_reducible refine (M5.out _ hb5).mono ?_); rintro e w6 ⟨rfl, hb0⟩; have hb6 : Below w4.heap.size w4 w6 := hb5.trans (hb0.mono hb5.size); clear hb0)
      | (go_at_call 11; (with_reducible refine (M6.out _ hb6).mono ?_); rintro e w7 ⟨rfl, hb0⟩; have hb7 : Below w4.heap.size w4 w7 := hb6.trans (hb0.mono hb6.size); clear hb0)
      | (go_at_call 12; (with_reducible refine (M7.out _ hb7).mono ?_); rintro e w8 ⟨rfl, hb0⟩; have hb8 : Below w4.heap.size w4 w8 := hb7.trans (hb0.mono hb7.size); clear hb0)
      | (go_at_call 13; (with_reducible refine (M8.out _ hb8).mono ?_); rintro e w9 ⟨rfl, hb0⟩; have hb9 : Below w4.heap.size w4 w9 := hb8.trans (hb0.mono hb8.size); clear hb0))
  obtain ⟨z0, z1, z2, z3, z4⟩ := HK.out _ hb9
  have Hb9 := Lib.hid (Hb4.out.trans (hb9.mono Hb4.out.size))
  have HN := Lib.hid (new_any p2 n cp2 (formV v) w9 (HB24.out.grow hb9) (by have := Hfl.out; omega))
  clear hb5 hb6 hb7 hb8 hb9 y0 y1 y2 y3 y4
  go_wp2_with fail
  refine HN.out.mono ?_
  rintro e w10 ⟨g, rfl, hg, hR, hb⟩
  have HR := Lib.hid (KR.out w10 g hR)
  have Hg := Lib.hid hg
  have Hb10 := Lib.hid hb
  clear hb hR hg
  go_wp2_with fail
  refine HR.out.mono ?_
  rintro e w11 ⟨u, x', rfl, hu, hru, hsu, hrd, hgr⟩
  have hb11 : Below w9.heap.size w9 w11 := Hb10.out.grown hgr Hb10.out.size (fun k hk => by cases hk; exact Hg.out)
  obtain ⟨_, _, _, _, _, a2, cap2, rfl, _⟩ := hu.parts
  have hal2 := (Below.refl w11.heap.size w11).alloc (Nat.le_refl _) (.cells (cells5 u.kind u.n u.f u.s a2 u.l.length cap2) 25)
  have hbw2 : Below w9.heap.size w9 (w11.alloc (.cells (cells5 u.kind u.n u.f u.s a2 u.l.length cap2) 25)) := hb11.trans (hal2.mono hb11.size)
  have D0 := new5 w11 (.int .i64 u.kind) (.int .i64 u.n) (.float .f64 u.f) (.string (str u.s)) (.slice a2 u.l.length cap2) 25
  obtain ⟨y0, y1, y2, y3, y4⟩ := keep5 hbw2 ⟨z0, z1, z2, z3, z4⟩
  have HU := Lib.hid (hu.below hal2)
  have HRD := Lib.hid (hrd.below hal2)
  have Hsu := Lib.hid hsu
  have Hbw2 := Lib.hid (Hb9.out.trans (hbw2.mono Hb9.out.size))
  have HPx := Lib.hid (KP.out _ Hbw2.out)
  clear hu hru hsu hrd hgr hb11 hal2 hbw2 z0 z1 z2 z3 z4
  unfold cells5 at *
  have hfs : ∀ (w : World) (a : Addr) (m : Mode) (b : Nat), (store a (.float .f64 b) m).run Tryz.prog w = stored Tryz.prog w a (.float .f64 b) m := fun w a m b => run_store Tryz.prog w a _ m rfl
  go_wp2_with fail
  refine HPx.out.mono ?_
  generalize w11.alloc (.cells #[.int .i64 u.kind, .int .i64 u.n, .float .f64 u.f, .string (str u.s), .slice a2 u.l.length cap2] 25) = w11b at *
  rintro e w12 ⟨v', x2, ok, rfl, hv', hb12, hyes, hno⟩
  cases ok with
  | false => exact absurd rfl ((hno rfl).2 v Hr.out Hso.out)
  | true =>
    obtain ⟨hr', ht'⟩ := hyes rfl
    have hsv : sameV v' v = true := (text_split v' v 8 8 [] [] hr' Hr.out (soundV.words _ (VIn.sound _ _ hv')) (soundV.words _ Hso.out) ends_nil ends_nil (by rw [ht'])).1
    obtain ⟨_, _, _, _, _, a3, cap3, rfl, _⟩ := hv'.parts
    have hal3 := (Below.refl w12.heap.size w12).alloc (Nat.le_refl _) (.cells (cells5 v'.kind v'.n v'.f v'.s a3 v'.l.length cap3) 25)
    have hbw3 : Below w11b.heap.size w11b (w12.alloc (.cells (cells5 v'.kind v'.n v'.f v'.s a3 v'.l.length cap3) 25)) := hb12.trans (hal3.mono hb12.size)
    have E0 := new5 w12 (.int .i64 v'.kind) (.int .i64 v'.n) (.float .f64 v'.f) (.string (str v'.s)) (.slice a3 v'.l.length cap3) 25
    obtain ⟨z0, z1, z2, z3, z4⟩ := keep5 hbw3 ⟨y0, y1, y2, y3, y4⟩
    obtain ⟨d0, d1, d2, d3, d4⟩ := keep5 hbw3 D0
    have HU3 := Lib.hid (HU.out.below hbw3)
    have HRD3 := Lib.hid (HRD.out.below hbw3)
    have HY3 := Lib.hid (hv'.below hal3)
    have Hsv := Lib.hid hsv
    have Hbw3 := Lib.hid (Hbw2.out.trans (hbw3.mono Hbw2.out.size))
    have HXL := Lib.hid (HL.out _ Hbw3.out)
    clear hv' hb12 hyes hno hr' ht' hsv hal3 hbw3 y0 y1 y2 y3 y4 D0
    unfold cells5 at *
    go_wp2_with fail
    refine HXL.out.mono ?_
    generalize w12.alloc (.cells #[.int .i64 v'.kind, .int .i64 v'.n, .float .f64 v'.f, .string (str v'.s), .slice a3 v'.l.length cap3] 25) = w12b at *
    rintro e w13 ⟨rfl, hb⟩
    obtain ⟨y0, y1, y2, y3, y4⟩ := keep5 hb ⟨z0, z1, z2, z3, z4⟩
    obtain ⟨c0, c1, c2, c3, c4⟩ := keep5 hb ⟨d0, d1, d2, d3, d4⟩
    obtain ⟨e0, e1, e2, e3, e4⟩ := keep5 hb E0
    have HU4 := Lib.hid (HU3.out.below hb)
    have HRD4 := Lib.hid (HRD3.out.below hb)
    have HY4 := Lib.hid (HY3.out.below hb)
    have Hbw4 := Lib.hid (Hbw3.out.trans (hb.mono Hbw3.out.size))
    have HDn := Lib.hid (mDone g [] true w13 HRD4.out)
    rw [show doneB [] true = true from rfl] at HDn
    clear hb z0 z1 z2 z3 z4 d0 d1 d2 d3 d4 E0
    go_wp2_with fail
    refine HDn.out.mono ?_
    rintro e w14 ⟨rfl, rfl⟩
    have HXS := Lib.hid (vsame_any u v _ _ w13 HU4.out (HVw.out _ Hbw4.out))
    rw [Hsu.out] at HXS
    go_wp2_with fail
    refine HXS.out.mono ?_
    rintro e w15 ⟨rfl, hb⟩
    obtain ⟨z0, z1, z2, z3, z4⟩ := keep5 hb ⟨y0, y1, y2, y3, y4⟩
    obtain ⟨d0, d1, d2, d3, d4⟩ := keep5 hb ⟨e0, e1, e2, e3, e4⟩
    have Hbw5 := Lib.hid (Hbw4.out.trans (hb.mono Hbw4.out.size))
    have HYS := Lib.hid (vsame_any v' v _ _ w15 (HY4.out.below hb) (HVw.out _ Hbw5.out))
    rw [Hsv.out] at HYS
    clear hb y0 y1 y2 y3 y4 c0 c1 c2 c3 c4 e0 e1 e2 e3 e4
    go_wp2_with fail
    refine HYS.out.mono ?_
    rintro e w16 ⟨rfl, hb⟩
    have Hbw6 := Lib.hid (Hbw5.out.trans (hb.mono Hbw5.out.size))
    clear hb z0 z1 z2 z3 z4 d0 d1 d2 d3 d4
    go_wp2
    go_ret
    exact ⟨rfl, Hbw6.out⟩

theorem forms_any (v : V) (x : Array Value) (w : World) (hv : VIn w v x) (hP : Pow10 w) (hE : Errs w) (hT : Tab16 w) :
    Calls Tryz.prog 3 #[.agg x] w fun e w' => e = .returned (.bool true) ∧ Below w.heap.size w w' := by
  cases hf : fewB v with
  | false => exact forms_few v x w hv hf hP hT
  | true =>
    cases hr : rightN 8 v with
    | false => exact forms_no v x w hv hf hr hP hT
    | true => exact forms_yes v x w hv hf hr hP hE hT
end Go.Proofs.YtpnfnmeilhiebaaGreatDoor

/- A byte that came in. -/
namespace Go.Proofs.YtpnfnmeilhiebaaGreatDoor
open Go.ChangeShapes Go.WideShapes Go.ChangeAt Go.RowKit Go.Deep

theorem nat_u8 {n : Int} (h : (Lit.int .u8 n).wf = true) : ∃ x : Nat, x < 256 ∧ n = (x : Int) := by
  have := wf_u8 h
  exact ⟨n.toNat, by omega, by omega⟩
end Go.Proofs.YtpnfnmeilhiebaaGreatDoor

/- Values that come in, read as trees. -/
namespace Go.Proofs.YtpnfnmeilhiebaaGreatDoor
open Go.ChangeShapes Go.WideShapes Go.ChangeAt Go.RowKit Go.Deep

section
variable {H : Type} {enc : TypeId × Value → H} {W : World}

theorem trod_f64 {P : Program} {w : World} {base : Nat} {spare : Nat → Bool} {held : Bool} {fuel : Nat} {t : TypeId} {cs : List Value} {x : DataW H × List MemPlace} (ht : P.underlying t = some (.float .f64)) (h : DataW.trod enc P w base spare held fuel t cs = some x) :
    ∃ b : Nat, cs = [.float .f64 b] ∧ (Lit.float .f64 b).wf = true := by
  cases fuel with
  | zero => simp [DataW.trod] at h
  | succ n =>
    unfold DataW.trod at h
    rw [ht] at h
    split at h <;> simp_all

theorem cells_value : Tryz.prog.cellsOf 25 = 5 := by kernel_rfl
theorem cells_int : Tryz.prog.cellsOf 3 = 1 := by kernel_rfl
theorem cells_i64 : Tryz.prog.cellsOf 2 = 1 := by kernel_rfl
theorem cells_f64 : Tryz.prog.cellsOf 22 = 1 := by kernel_rfl
theorem cells_str : Tryz.prog.cellsOf 9 = 1 := by kernel_rfl
theorem cells_vs : Tryz.prog.cellsOf 23 = 1 := by kernel_rfl

theorem vs_of {b : Nat} : ∀ (n o : Nat), (∀ i, i < n → ∃ (cs : List Value) (v : V), cs.length = 5 ∧ (∀ j, j < 5 → W.cell? ⟨b, o + i * 5 + j, none⟩ = cs[j]?) ∧ VIn W v cs.toArray) → ∃ l : List V, l.length = n ∧ VsIn W l b o
  | 0, _, _ => ⟨[], rfl, by rw [VsIn]; trivial⟩
  | n + 1, o, h => by
    obtain ⟨cs, v, hl, hc, hv⟩ := h 0 (by omega)
    obtain ⟨l, hn, hr⟩ := vs_of n (o + 5) (fun i hi => by
      obtain ⟨cs, v, hl, hc, hv⟩ := h (i + 1) (by omega)
      exact ⟨cs, v, hl, fun j hj => by rw [← hc j hj]; congr 2; omega, hv⟩)
    refine ⟨v :: l, by rw [List.length_cons, hn], ?_⟩
    rw [VsIn]
    refine ⟨⟨cs.toArray, by simpa using hl, fun j hj => ?_, hv⟩, hr⟩
    have := hc j hj
    simpa using this

set_option maxRecDepth 100000 in
theorem open_v : ∀ (fuel : Nat) (cs : List Value) (x : DataW H × List MemPlace), DataW.trod enc Tryz.prog W 0 (fun _ => true) true fuel 25 cs = some x → ∃ v : V, VIn W v cs.toArray := by
  intro fuel
  induction fuel using Nat.strongRecOn with
  | ind fuel ih =>
    intro cs x h
    obtain ⟨xs, n, rfl, _, hlen, hxl, hf⟩ := DataW.trod_struct Tryz.underlying25 h
    rw [cells_value] at hlen
    match cs, hlen, xs, hxl with
    | [c0, c1, c2, c3, c4], _, [y0, y1, y2, y3, y4], _ =>
      have f0 := hf 0 _ rfl
      have f1 := hf 1 _ rfl
      have f2 := hf 2 _ rfl
      have f3 := hf 3 _ rfl
      have f4 := hf 4 _ rfl
      simp [cells_int, cells_i64, cells_f64, cells_str, cells_vs] at f0 f1 f2 f3 f4
      obtain ⟨k, e0, _, w0⟩ := DataW.trod_int Tryz.underlying3 f0
      obtain ⟨m, e1, _, w1⟩ := DataW.trod_int Tryz.underlying2 f1
      obtain ⟨f, e2, w2⟩ := trod_f64 Tryz.underlying22 f2
      obtain ⟨s, e3, _, w3⟩ := DataW.trod_string Tryz.underlying9 f3
      obtain rfl := List.cons.inj e0 |>.1
      obtain rfl := List.cons.inj e1 |>.1
      obtain rfl := List.cons.inj e2 |>.1
      obtain rfl := List.cons.inj e3 |>.1
      obtain ⟨q, hq, rfl⟩ := str_of s
      have hk := wf_i64_of w0
      have hm := wf_i64_of w1
      have hff : f < 18446744073709551616 := by
        simp only [Lit.wf, decide_eq_true_eq] at w2
        exact w2
      have hqs : q.length ≤ 9223372036854775807 := by
        rw [str_size, maxLen_nat] at w3
        exact w3
      clear e0 e1 e2 e3 w0 w1 w2 w3 f0 f1 f2 f3 hf
      rcases DataW.trod_slice Tryz.underlying23 f4 with ⟨e, _⟩ | ⟨a, len, cap, elems, rest, r, rfl, e, _, _, hle, hcm, hel, hi, _, _⟩
      · obtain rfl := List.cons.inj e |>.1
        refine ⟨.mk k m f q [], ?_⟩
        rw [VIn]
        exact ⟨hk, hm, hff, hq, hqs, none, 0, rfl, Nat.le_refl _, by omega, .inl rfl⟩
      · obtain rfl := List.cons.inj e |>.1
        rw [maxLen_nat] at hcm
        rw [cells_value] at hi
        have hel2 : ∀ i, i < len → ∃ (cs : List Value) (v : V), cs.length = 5 ∧ (∀ j, j < 5 → W.cell? ((a.add (i * 5)).add j) = cs[j]?) ∧ VIn W v cs.toArray := by
          intro i hlt
          have h1 := hi i hlt
          rw [List.getElem?_eq_getElem (by omega)] at h1
          obtain ⟨cs', h2, h3⟩ := Option.bind_eq_some_iff.1 h1
          obtain ⟨_, h4, h5⟩ := World.cells?_some h2
          obtain ⟨v, hv⟩ := ih r (by omega) cs' _ h3
          exact ⟨cs', v, h4, h5, hv⟩
        by_cases h0 : len = 0
        · subst h0
          refine ⟨.mk k m f q [], ?_⟩
          rw [VIn]
          exact ⟨hk, hm, hff, hq, hqs, some a, cap, rfl, hle, hcm, .inl rfl⟩
        · obtain ⟨b, o, spot⟩ := a
          have hspot : spot = none := by
            obtain ⟨cs', v, g1, g2, _⟩ := hel2 0 (by omega)
            have g3 := g2 0 (by omega)
            rw [List.getElem?_eq_getElem (by omega)] at g3
            simpa [Addr.add] using World.cell?_spot g3
          subst hspot
          obtain ⟨l, hl, hvs⟩ := vs_of (W := W) (b := b) len o (fun i hlt => by
            obtain ⟨cs', v, g1, g2, g3⟩ := hel2 i hlt
            refine ⟨cs', v, g1, fun j hj => ?_, g3⟩
            have g4 := g2 j hj
            rw [add_plain, add_plain] at g4
            exact g4)
          refine ⟨.mk k m f q l, ?_⟩
          rw [VIn]
          refine ⟨hk, hm, hff, hq, hqs, some ⟨b, o, none⟩, cap, ?_, by omega, hcm, .inr ⟨b, o, rfl, hvs⟩⟩
          rw [hl]

set_option maxRecDepth 100000 in
/-- A value that came in. -/
theorem open_value {v : Value} {d : DataW H} {p : List MemPlace} {base : Nat} (hv : Value.okWide Tryz.prog W .any base 25 v) (h : DataW.Trod enc Tryz.prog W 0 (fun _ => true) true 25 v d p) : ∃ (x : Array Value) (u : V), v = .agg x ∧ VIn W u x := by
  obtain ⟨x, rfl, _⟩ := okWide_struct Tryz.underlying25 hv
  obtain ⟨fuel, hf⟩ := h
  obtain ⟨u, hu⟩ := open_v fuel _ _ hf
  have e : (Value.agg x).cells.toList.toArray = x := Array.toArray_toList
  rw [e] at hu
  exact ⟨x, u, rfl, hu⟩

end
end Go.Proofs.YtpnfnmeilhiebaaGreatDoor

