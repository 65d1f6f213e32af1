/- The walks of Same of events, the code's and the reference's, and of the reference's Few. -/
import Derived.Test.YtpmjjefnmgbifaaGreatDoorHEventSameJ2
import Derived.Test.YtpmjjefnmgbifaaGreatDoorMB9
import Derived.Test.YtpmjjefnmgbifaaGreatDoorMB35
import Derived.Deep.RegionHeld3
namespace Go.Proofs.YtpmjjefnmgbifaaGreatDoor
open Go.RowKit Fl

/-- Small events. -/
def fewE (e : Ev) : Bool := fewB e.v && decide (e.nm.length ≤ 1100) && decide (e.tx.length ≤ 1100)

set_option maxRecDepth 100000 in
theorem few11_any (e : Ev) (x : Array Value) (w : World) (h : EvIn w e x) :
    Calls Tryz.prog 9 #[.agg x] w fun r w' => r = .returned (.bool (fewE e)) ∧ Below w.heap.size w w' := by
  obtain ⟨k, id, n, t, nm, tx, v⟩ := e
  obtain ⟨_, _, _, _, h5, h6, a, cap, rfl, hv⟩ := h
  have hal := (Below.refl w.heap.size w).alloc (Nat.le_refl _) (.cells (evC k id n t nm tx v.kind v.n v.f v.s a v.l.length cap) 28)
  have HF := Lib.hid (fun W (hW : Below w.heap.size w W) => few_any v _ W (hv.below hW))
  have Hal := Lib.hid hal
  have HE0 := Lib.hid (heap_alloc_new w (.cells (evC k id n t nm tx v.kind v.n v.f v.s a v.l.length cap) 28))
  have hz1 := str_size nm
  have hz2 := str_size tx
  have Hres := Lib.hid (show fewE ⟨k, id, n, t, nm, tx, v⟩ = (fewB v && decide (nm.length ≤ 1100) && decide (tx.length ≤ 1100)) from rfl)
  generalize fewE ⟨k, id, n, t, nm, tx, v⟩ = res at *
  unfold cells5 at HF
  clear hal hv h5 h6
  go_enter Tryz.func9, Tryz.ntmps9
  go_wp2_with fail
  obtain ⟨w1, hw1⟩ : ∃ w1, w1 = w.alloc (.cells (evC k id n t nm tx v.kind v.n v.f v.s a v.l.length cap) 28) := ⟨_, rfl⟩
  rw [← hw1] at Hal HE0 ⊢
  clear hw1
  refine (HF.out _ Hal.out).mono ?_
  rintro e w2 ⟨rfl, hb2⟩
  have hE2 := (hb2.block _ (Array.getElem?_eq_some_iff.1 HE0.out).1).trans HE0.out
  obtain ⟨g0, g1, g2, g3, g4, g5, g6, g7, g8, g9, g10⟩ := box11 hE2
  have Hb2 := Lib.hid (Hal.out.trans (hb2.mono Hal.out.size))
  clear hb2 hE2 g0 g1 g2 g3 g6 g7 g8 g9 g10
  cases hf : fewB v with
  | false =>
    have Hr := Lib.hid (show res = false from by rw [Hres.out, hf]; rfl)
    clear hf
    go_wp2
    go_ret
    exact ⟨ret_bool Hr.out.symm, Hb2.out⟩
  | true =>
    by_cases h1 : nm.length ≤ 1100
    · have Hr := Lib.hid (show res = decide (tx.length ≤ 1100) from by rw [Hres.out, hf, decide_eq_true h1]; rfl)
      have h1' : (nm.length : Int) ≤ 1100 := by omega
      clear hf
      clear h1
      go_wp2
      go_ret
      exact ⟨ret_bool (by rw [Hr.out]; exact decide_eq_decide.2 (by omega)), Hb2.out⟩
    · have Hr := Lib.hid (show res = false from by rw [Hres.out, hf, decide_eq_false h1]; rfl)
      have h1' : ¬ (nm.length : Int) ≤ 1100 := by omega
      clear hf
      go_wp2
      go_ret
      exact ⟨ret_bool Hr.out.symm, Hb2.out⟩

set_option maxRecDepth 100000 in
set_option maxHeartbeats 3200000 in
theorem rsame11_any (e e' : Ev) (x x' : Array Value) (w : World) (h : EvIn w e x) (h' : EvIn w e' x') :
    Calls Tryz.prog 20 #[.agg x, .agg x'] w fun r w' => r = .returned (.bool (sameE e e')) ∧ Below w.heap.size w w' := by
  obtain ⟨k, id, n, t, nm, tx, v⟩ := e
  obtain ⟨k', id', n', t', nm', tx', v'⟩ := e'
  obtain ⟨_, _, _, _, h5, h6, a, cap, rfl, hv⟩ := h
  obtain ⟨_, _, _, _, h5', h6', a', cap', rfl, hv'⟩ := h'
  have hal := ((Below.refl w.heap.size w).alloc (Nat.le_refl _) (.cells (evC k id n t nm tx v.kind v.n v.f v.s a v.l.length cap) 28)).alloc (by simp) (.cells (evC k' id' n' t' nm' tx' v'.kind v'.n v'.f v'.s a' v'.l.length cap') 28)
  have HS := Lib.hid (vsame_any v v' _ _ _ (hv.below hal) (hv'.below hal))
  have Hal := Lib.hid hal
  have Hres := Lib.hid (show sameE ⟨k, id, n, t, nm, tx, v⟩ ⟨k', id', n', t', nm', tx', v'⟩ = (decide (k = k' ∧ id = id' ∧ n = n' ∧ t = t' ∧ nm = nm' ∧ tx = tx') && sameV v v') from rfl)
  change Calls _ _ _ _ fun r w' => r = .returned (.bool (sameE ⟨k, id, n, t, nm, tx, v⟩ ⟨k', id', n', t', nm', tx', v'⟩)) ∧ _
  generalize sameE ⟨k, id, n, t, nm, tx, v⟩ ⟨k', id', n', t', nm', tx', v'⟩ = res at *
  have hNm := str_ne h5.1 h5'.1
  have hTx := str_ne h6.1 h6'.1
  have HNm := Lib.hid hNm
  have HTx := Lib.hid hTx
  unfold cells5 at HS
  have hsf := fun (W : World) (A : Addr) (f : Nat) (m : Mode) => (run_store Tryz.prog W A (.float .f64 f) m rfl)
  clear hal hv hv' h5 h6 h5' h6' hNm hTx
  by_cases q0 : k = k'
  case neg =>
    have d0 : (k == k') = false := beq_eq_false_iff_ne.2 q0
    have Hr := Lib.hid (show res = false from by rw [Hres.out, decide_eq_false (fun h => q0 h.1)]; rfl)
    clear q0
    go_enter Tryz.func20, Tryz.ntmps20
    go_wp2
    go_ret
    exact ⟨ret_bool Hr.out.symm, Hal.out⟩
  have d0 : (k == k') = true := beq_iff_eq.2 q0
  by_cases q1 : id = id'
  case neg =>
    have d1 : ((id : Int) == (id' : Int)) = false := by rw [beq_eq_false_iff_ne]; omega
    have Hr := Lib.hid (show res = false from by rw [Hres.out, decide_eq_false (fun h => q1 h.2.1)]; rfl)
    clear q0 q1
    go_enter Tryz.func20, Tryz.ntmps20
    go_wp2
    go_ret
    exact ⟨ret_bool Hr.out.symm, Hal.out⟩
  have d1 : ((id : Int) == (id' : Int)) = true := by rw [q1]; exact beq_self_eq_true _
  by_cases q2 : n = n'
  case neg =>
    have d2 : (n == n') = false := beq_eq_false_iff_ne.2 q2
    have Hr := Lib.hid (show res = false from by rw [Hres.out, decide_eq_false (fun h => q2 h.2.2.1)]; rfl)
    clear q0 q1 q2
    go_enter Tryz.func20, Tryz.ntmps20
    go_wp2
    go_ret
    exact ⟨ret_bool Hr.out.symm, Hal.out⟩
  have d2 : (n == n') = true := beq_iff_eq.2 q2
  by_cases q3 : t = t'
  case neg =>
    have d3 : ((t : Int) == (t' : Int)) = false := by rw [beq_eq_false_iff_ne]; omega
    have Hr := Lib.hid (show res = false from by rw [Hres.out, decide_eq_false (fun h => q3 h.2.2.2.1)]; rfl)
    clear q0 q1 q2 q3
    go_enter Tryz.func20, Tryz.ntmps20
    go_wp2
    go_ret
    exact ⟨ret_bool Hr.out.symm, Hal.out⟩
  have d3 : ((t : Int) == (t' : Int)) = true := by rw [q3]; exact beq_self_eq_true _
  by_cases q4 : nm = nm'
  case neg =>
    have d4 : ((str nm).toList == (str nm').toList) = false := HNm.out q4
    have Hr := Lib.hid (show res = false from by rw [Hres.out, decide_eq_false (fun h => q4 h.2.2.2.2.1)]; rfl)
    clear q0 q1 q2 q3 q4
    go_enter Tryz.func20, Tryz.ntmps20
    go_wp2
    go_ret
    exact ⟨ret_bool Hr.out.symm, Hal.out⟩
  have d4 : ((str nm).toList == (str nm').toList) = true := by rw [q4]; exact str_eq _
  by_cases q5 : tx = tx'
  case neg =>
    have d5 : ((str tx).toList == (str tx').toList) = false := HTx.out q5
    have Hr := Lib.hid (show res = false from by rw [Hres.out, decide_eq_false (fun h => q5 h.2.2.2.2.2)]; rfl)
    clear q0 q1 q2 q3 q4 q5
    go_enter Tryz.func20, Tryz.ntmps20
    go_wp2
    go_ret
    exact ⟨ret_bool Hr.out.symm, Hal.out⟩
  have d5 : ((str tx).toList == (str tx').toList) = true := by rw [q5]; exact str_eq _
  have Hr := Lib.hid (show res = sameV v v' from by rw [Hres.out, decide_eq_true ⟨q0, q1, q2, q3, q4, q5⟩, Bool.true_and])
  generalize sameV v v' = sv at *
  clear q0 q1 q2 q3 q4 q5
  go_enter Tryz.func20, Tryz.ntmps20
  go_wp2_with fail
  refine HS.out.mono ?_
  rintro r w2 ⟨rfl, hb2⟩
  have Hb2 := Lib.hid (Hal.out.trans (hb2.mono Hal.out.size))
  clear hb2
  go_wp2
  go_ret
  exact ⟨ret_bool Hr.out.symm, Hb2.out⟩

set_option maxRecDepth 100000 in
set_option maxHeartbeats 3200000 in
theorem csame11_any (e e' : Ev) (x x' : Array Value) (w : World) (h : EvIn w e x) (h' : EvIn w e' x') :
    Calls Tryz.prog 23 #[.agg x, .agg x'] w fun r w' => r = .returned (.bool (sameE e e')) ∧ Below w.heap.size w w' := by
  obtain ⟨k, id, n, t, nm, tx, v⟩ := e
  obtain ⟨k', id', n', t', nm', tx', v'⟩ := e'
  obtain ⟨_, _, _, _, h5, h6, a, cap, rfl, hv⟩ := h
  obtain ⟨_, _, _, _, h5', h6', a', cap', rfl, hv'⟩ := h'
  have hal := ((Below.refl w.heap.size w).alloc (Nat.le_refl _) (.cells (evC k id n t nm tx v.kind v.n v.f v.s a v.l.length cap) 28)).alloc (by simp) (.cells (evC k' id' n' t' nm' tx' v'.kind v'.n v'.f v'.s a' v'.l.length cap') 28)
  have HS := Lib.hid (vsameC_any v v' _ _ _ (hv.below hal) (hv'.below hal))
  have Hal := Lib.hid hal
  have Hres := Lib.hid (show sameE ⟨k, id, n, t, nm, tx, v⟩ ⟨k', id', n', t', nm', tx', v'⟩ = (decide (k = k' ∧ id = id' ∧ n = n' ∧ t = t' ∧ nm = nm' ∧ tx = tx') && sameV v v') from rfl)
  change Calls _ _ _ _ fun r w' => r = .returned (.bool (sameE ⟨k, id, n, t, nm, tx, v⟩ ⟨k', id', n', t', nm', tx', v'⟩)) ∧ _
  generalize sameE ⟨k, id, n, t, nm, tx, v⟩ ⟨k', id', n', t', nm', tx', v'⟩ = res at *
  have hNm := str_ne h5.1 h5'.1
  have hTx := str_ne h6.1 h6'.1
  have HNm := Lib.hid hNm
  have HTx := Lib.hid hTx
  unfold cells5 at HS
  have hsf := fun (W : World) (A : Addr) (f : Nat) (m : Mode) => (run_store Tryz.prog W A (.float .f64 f) m rfl)
  clear hal hv hv' h5 h6 h5' h6' hNm hTx
  by_cases q0 : k = k'
  case neg =>
    have d0 : (k == k') = false := beq_eq_false_iff_ne.2 q0
    have Hr := Lib.hid (show res = false from by rw [Hres.out, decide_eq_false (fun h => q0 h.1)]; rfl)
    clear q0
    go_enter Tryz.func23, Tryz.ntmps23
    go_wp2
    go_ret
    exact ⟨ret_bool Hr.out.symm, Hal.out⟩
  have d0 : (k == k') = true := beq_iff_eq.2 q0
  by_cases q1 : id = id'
  case neg =>
    have d1 : ((id : Int) == (id' : Int)) = false := by rw [beq_eq_false_iff_ne]; omega
    have Hr := Lib.hid (show res = false from by rw [Hres.out, decide_eq_false (fun h => q1 h.2.1)]; rfl)
    clear q0 q1
    go_enter Tryz.func23, Tryz.ntmps23
    go_wp2
    go_ret
    exact ⟨ret_bool Hr.out.symm, Hal.out⟩
  have d1 : ((id : Int) == (id' : Int)) = true := by rw [q1]; exact beq_self_eq_true _
  by_cases q2 : n = n'
  case neg =>
    have d2 : (n == n') = false := beq_eq_false_iff_ne.2 q2
    have Hr := Lib.hid (show res = false from by rw [Hres.out, decide_eq_false (fun h => q2 h.2.2.1)]; rfl)
    clear q0 q1 q2
    go_enter Tryz.func23, Tryz.ntmps23
    go_wp2
    go_ret
    exact ⟨ret_bool Hr.out.symm, Hal.out⟩
  have d2 : (n == n') = true := beq_iff_eq.2 q2
  by_cases q3 : t = t'
  case neg =>
    have d3 : ((t : Int) == (t' : Int)) = false := by rw [beq_eq_false_iff_ne]; omega
    have Hr := Lib.hid (show res = false from by rw [Hres.out, decide_eq_false (fun h => q3 h.2.2.2.1)]; rfl)
    clear q0 q1 q2 q3
    go_enter Tryz.func23, Tryz.ntmps23
    go_wp2
    go_ret
    exact ⟨ret_bool Hr.out.symm, Hal.out⟩
  have d3 : ((t : Int) == (t' : Int)) = true := by rw [q3]; exact beq_self_eq_true _
  by_cases q4 : nm = nm'
  case neg =>
    have d4 : ((str nm).toList == (str nm').toList) = false := HNm.out q4
    have Hr := Lib.hid (show res = false from by rw [Hres.out, decide_eq_false (fun h => q4 h.2.2.2.2.1)]; rfl)
    clear q0 q1 q2 q3 q4
    go_enter Tryz.func23, Tryz.ntmps23
    go_wp2
    go_ret
    exact ⟨ret_bool Hr.out.symm, Hal.out⟩
  have d4 : ((str nm).toList == (str nm').toList) = true := by rw [q4]; exact str_eq _
  by_cases q5 : tx = tx'
  case neg =>
    have d5 : ((str tx).toList == (str tx').toList) = false := HTx.out q5
    have Hr := Lib.hid (show res = false from by rw [Hres.out, decide_eq_false (fun h => q5 h.2.2.2.2.2)]; rfl)
    clear q0 q1 q2 q3 q4 q5
    go_enter Tryz.func23, Tryz.ntmps23
    go_wp2
    go_ret
    exact ⟨ret_bool Hr.out.symm, Hal.out⟩
  have d5 : ((str tx).toList == (str tx').toList) = true := by rw [q5]; exact str_eq _
  have Hr := Lib.hid (show res = sameV v v' from by rw [Hres.out, decide_eq_true ⟨q0, q1, q2, q3, q4, q5⟩, Bool.true_and])
  generalize sameV v v' = sv at *
  clear q0 q1 q2 q3 q4 q5
  go_enter Tryz.func23, Tryz.ntmps23
  go_wp2_with fail
  refine HS.out.mono ?_
  rintro r w2 ⟨rfl, hb2⟩
  have Hb2 := Lib.hid (Hal.out.trans (hb2.mono Hal.out.size))
  clear hb2
  go_wp2
  go_ret
  exact ⟨ret_bool Hr.out.symm, Hb2.out⟩

end Go.Proofs.YtpmjjefnmgbifaaGreatDoor
