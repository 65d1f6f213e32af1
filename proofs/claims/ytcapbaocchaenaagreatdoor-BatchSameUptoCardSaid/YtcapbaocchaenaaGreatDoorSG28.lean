import Derived.Test.YtcapbaocchaenaaGreatDoorSG27
import Derived.Test.YtcapbaocchaenaaGreatDoorSG26
import Derived.Test.YtcapbaocchaenaaGreatDoorSG8
import Derived.Deep.RegionHeld3
import Derived.Deep.RegionHeld
/- The walk of the reference's Few. -/
namespace Go.Proofs.YtcapbaocchaenaaGreatDoor
open Go.RowKit Fl

def fewB (v : V) : Bool := decide (bulkV v ≤ 900) && smallN 20 v

set_option maxRecDepth 100000 in
theorem few_any (v : V) (x : Array Value) (w : World) (h : VIn w v x) :
    Calls Tryz.prog 83 #[.agg x] w fun e w' => e = .returned (.bool (fewB v)) ∧ Below w.heap.size w w' := by
  obtain ⟨_, _, _, _, _, a, cap, rfl, _, _, _⟩ := h.parts
  have hb := (Below.refl w.heap.size w).alloc (Nat.le_refl _) (.cells (cells5 v.kind v.n v.f v.s a v.l.length cap) 43)
  have HW := Lib.hid (weight_any v 900 _ _ (by omega) (by omega) (h.below hb))
  have HV := Lib.hid (h.below hb)
  have Hb := Lib.hid hb
  have hc := fun j => box_cell w (cells5 v.kind v.n v.f v.s a v.l.length cap) 43 j
  have hc0 : (w.alloc (.cells #[.int .i64 v.kind, .int .i64 v.n, .float .f64 v.f, .string (str v.s), .slice a v.l.length cap] 43)).cell? ⟨w.heap.size, 0, none⟩ = some (.int .i64 v.kind) := hc 0
  have hc1 : (w.alloc (.cells #[.int .i64 v.kind, .int .i64 v.n, .float .f64 v.f, .string (str v.s), .slice a v.l.length cap] 43)).cell? ⟨w.heap.size, 1, none⟩ = some (.int .i64 v.n) := hc 1
  have hc2 : (w.alloc (.cells #[.int .i64 v.kind, .int .i64 v.n, .float .f64 v.f, .string (str v.s), .slice a v.l.length cap] 43)).cell? ⟨w.heap.size, 2, none⟩ = some (.float .f64 v.f) := hc 2
  have hc3 : (w.alloc (.cells #[.int .i64 v.kind, .int .i64 v.n, .float .f64 v.f, .string (str v.s), .slice a v.l.length cap] 43)).cell? ⟨w.heap.size, 3, none⟩ = some (.string (str v.s)) := hc 3
  have hc4 : (w.alloc (.cells #[.int .i64 v.kind, .int .i64 v.n, .float .f64 v.f, .string (str v.s), .slice a v.l.length cap] 43)).cell? ⟨w.heap.size, 4, none⟩ = some (.slice a v.l.length cap) := hc 4
  have hwz : (w.alloc (.cells #[.int .i64 v.kind, .int .i64 v.n, .float .f64 v.f, .string (str v.s), .slice a v.l.length cap] 43)).heap.size = w.heap.size + 1 := by simp
  clear h hb hc
  change Calls _ _ #[.agg #[.int .i64 v.kind, .int .i64 v.n, .float .f64 v.f, .string (str v.s), .slice a v.l.length cap]] _ _
  go_enter Tryz.func83, Tryz.ntmps83
  go_wp2_with fail
  refine HW.out.mono ?_
  generalize w.alloc (.cells #[.int .i64 v.kind, .int .i64 v.n, .float .f64 v.f, .string (str v.s), .slice a v.l.length cap] 43) = w1 at *
  rintro e w2 ⟨r, rfl, hr, hb2⟩
  have hk : ∀ j y, w1.cell? ⟨w.heap.size, j, none⟩ = some y → w2.cell? ⟨w.heap.size, j, none⟩ = some y := fun j y e => by
    rw [hb2.cell (show w.heap.size < w1.heap.size by omega)]
    exact e
  have d0 := hk 0 _ hc0
  have d1 := hk 1 _ hc1
  have d2 := hk 2 _ hc2
  have d3 := hk 3 _ hc3
  have d4 := hk 4 _ hc4
  have g2 : Below w.heap.size w w2 := Hb.out.trans (hb2.mono (by omega))
  have HS := Lib.hid (small_any 20 (by omega) v _ w2 (HV.out.below hb2))
  by_cases hle : bulkV v ≤ 900
  · have e := hr.2.2.2 (by omega)
    have hdr : decide (r ≤ 900) = true := decide_eq_true (by omega)
    have Hf := Lib.hid (show fewB v = smallN 20 v from by unfold fewB; rw [decide_eq_true hle, Bool.true_and])
    clear hr hle hk hc0 hc1 hc2 hc3 hc4 hwz e
    generalize smallN 20 v = sm at *
    go_wp2_with fail
    refine HS.out.mono ?_
    rintro e w3 ⟨rfl, hb3⟩
    go_wp2
    go_ret
    exact ⟨ret_bool Hf.out.symm, g2.trans (hb3.mono g2.size)⟩
  · have hdr : decide (r ≤ 900) = false := decide_eq_false (fun h => hle (by have := hr.2.2.1 h; omega))
    have Hf := Lib.hid (show fewB v = false from by unfold fewB; rw [decide_eq_false hle, Bool.false_and])
    clear hr hle hk hc0 hc1 hc2 hc3 hc4 hwz
    go_wp2
    go_ret
    exact ⟨ret_bool Hf.out.symm, g2⟩
end Go.Proofs.YtcapbaocchaenaaGreatDoor

/- The walks of Same of events, the code's and the reference's, and of the reference's Few. -/
namespace Go.Proofs.YtcapbaocchaenaaGreatDoor
open Go.RowKit Fl

/-- Small events. -/
def fewE (e : Ev) : Bool := fewB e.v && decide (e.nm.length ≤ 1100) && decide (e.tx.length ≤ 1100)

set_option maxRecDepth 100000 in
theorem few11_any (e : Ev) (x : Array Value) (w : World) (h : EvIn w e x) :
    Calls Tryz.prog 50 #[.agg x] w fun r w' => r = .returned (.bool (fewE e)) ∧ Below w.heap.size w w' := by
  obtain ⟨k, id, n, t, nm, tx, v⟩ := e
  obtain ⟨_, _, _, _, h5, h6, a, cap, rfl, hv⟩ := h
  have hal := (Below.refl w.heap.size w).alloc (Nat.le_refl _) (.cells (evC k id n t nm tx v.kind v.n v.f v.s a v.l.length cap) 45)
  have HF := Lib.hid (fun W (hW : Below w.heap.size w W) => few_any v _ W (hv.below hW))
  have Hal := Lib.hid hal
  have HE0 := Lib.hid (heap_alloc_new w (.cells (evC k id n t nm tx v.kind v.n v.f v.s a v.l.length cap) 45))
  have hz1 := str_size nm
  have hz2 := str_size tx
  have Hres := Lib.hid (show fewE ⟨k, id, n, t, nm, tx, v⟩ = (fewB v && decide (nm.length ≤ 1100) && decide (tx.length ≤ 1100)) from rfl)
  generalize fewE ⟨k, id, n, t, nm, tx, v⟩ = res at *
  unfold cells5 at HF
  clear hal hv h5 h6
  go_enter Tryz.func50, Tryz.ntmps50
  go_wp2_with fail
  obtain ⟨w1, hw1⟩ : ∃ w1, w1 = w.alloc (.cells (evC k id n t nm tx v.kind v.n v.f v.s a v.l.length cap) 45) := ⟨_, rfl⟩
  rw [← hw1] at Hal HE0 ⊢
  clear hw1
  refine (HF.out _ Hal.out).mono ?_
  rintro e w2 ⟨rfl, hb2⟩
  have hE2 := (hb2.block _ (Array.getElem?_eq_some_iff.1 HE0.out).1).trans HE0.out
  obtain ⟨g0, g1, g2, g3, g4, g5, g6, g7, g8, g9, g10⟩ := box11 hE2
  have Hb2 := Lib.hid (Hal.out.trans (hb2.mono Hal.out.size))
  clear hb2 hE2 g0 g1 g2 g3 g6 g7 g8 g9 g10
  cases hf : fewB v with
  | false =>
    have Hr := Lib.hid (show res = false from by rw [Hres.out, hf]; rfl)
    clear hf
    go_wp2
    go_ret
    exact ⟨ret_bool Hr.out.symm, Hb2.out⟩
  | true =>
    by_cases h1 : nm.length ≤ 1100
    · have Hr := Lib.hid (show res = decide (tx.length ≤ 1100) from by rw [Hres.out, hf, decide_eq_true h1]; rfl)
      have h1' : (nm.length : Int) ≤ 1100 := by omega
      clear hf
      clear h1
      go_wp2
      go_ret
      exact ⟨ret_bool (by rw [Hr.out]; exact decide_eq_decide.2 (by omega)), Hb2.out⟩
    · have Hr := Lib.hid (show res = false from by rw [Hres.out, hf, decide_eq_false h1]; rfl)
      have h1' : ¬ (nm.length : Int) ≤ 1100 := by omega
      clear hf
      go_wp2
      go_ret
      exact ⟨ret_bool Hr.out.symm, Hb2.out⟩

set_option maxRecDepth 100000 in
set_option maxHeartbeats 3200000 in
theorem rsame11_any (e e' : Ev) (x x' : Array Value) (w : World) (h : EvIn w e x) (h' : EvIn w e' x') :
    Calls Tryz.prog 44 #[.agg x, .agg x'] w fun r w' => r = .returned (.bool (sameE e e')) ∧ Below w.heap.size w w' := by
  obtain ⟨k, id, n, t, nm, tx, v⟩ := e
  obtain ⟨k', id', n', t', nm', tx', v'⟩ := e'
  obtain ⟨_, _, _, _, h5, h6, a, cap, rfl, hv⟩ := h
  obtain ⟨_, _, _, _, h5', h6', a', cap', rfl, hv'⟩ := h'
  have hal := ((Below.refl w.heap.size w).alloc (Nat.le_refl _) (.cells (evC k id n t nm tx v.kind v.n v.f v.s a v.l.length cap) 45)).alloc (by simp) (.cells (evC k' id' n' t' nm' tx' v'.kind v'.n v'.f v'.s a' v'.l.length cap') 45)
  have HS := Lib.hid (vsame_any v v' _ _ _ (hv.below hal) (hv'.below hal))
  have Hal := Lib.hid hal
  have Hres := Lib.hid (show sameE ⟨k, id, n, t, nm, tx, v⟩ ⟨k', id', n', t', nm', tx', v'⟩ = (decide (k = k' ∧ id = id' ∧ n = n' ∧ t = t' ∧ nm = nm' ∧ tx = tx') && sameV v v') from rfl)
  change Calls _ _ _ _ fun r w' => r = .returned (.bool (sameE ⟨k, id, n, t, nm, tx, v⟩ ⟨k', id', n', t', nm', tx', v'⟩)) ∧ _
  generalize sameE ⟨k, id, n, t, nm, tx, v⟩ ⟨k', id', n', t', nm', tx', v'⟩ = res at *
  have hNm := str_ne h5.1 h5'.1
  have hTx := str_ne h6.1 h6'.1
  have HNm := Lib.hid hNm
  have HTx := Lib.hid hTx
  unfold cells5 at HS
  have hsf := fun (W : World) (A : Addr) (f : Nat) (m : Mode) => (run_store Tryz.prog W A (.float .f64 f) m rfl)
  clear hal hv hv' h5 h6 h5' h6' hNm hTx
  by_cases q0 : k = k'
  case neg =>
    have d0 : (k == k') = false := beq_eq_false_iff_ne.2 q0
    have Hr := Lib.hid (show res = false from by rw [Hres.out, decide_eq_false (fun h => q0 h.1)]; rfl)
    clear q0
    go_enter Tryz.func44, Tryz.ntmps44
    go_wp2
    go_ret
    exact ⟨ret_bool Hr.out.symm, Hal.out⟩
  have d0 : (k == k') = true := beq_iff_eq.2 q0
  by_cases q1 : id = id'
  case neg =>
    have d1 : ((id : Int) == (id' : Int)) = false := by rw [beq_eq_false_iff_ne]; omega
    have Hr := Lib.hid (show res = false from by rw [Hres.out, decide_eq_false (fun h => q1 h.2.1)]; rfl)
    clear q0 q1
    go_enter Tryz.func44, Tryz.ntmps44
    go_wp2
    go_ret
    exact ⟨ret_bool Hr.out.symm, Hal.out⟩
  have d1 : ((id : Int) == (id' : Int)) = true := by rw [q1]; exact beq_self_eq_true _
  by_cases q2 : n = n'
  case neg =>
    have d2 : (n == n') = false := beq_eq_false_iff_ne.2 q2
    have Hr := Lib.hid (show res = false from by rw [Hres.out, decide_eq_false (fun h => q2 h.2.2.1)]; rfl)
    clear q0 q1 q2
    go_enter Tryz.func44, Tryz.ntmps44
    go_wp2
    go_ret
    exact ⟨ret_bool Hr.out.symm, Hal.out⟩
  have d2 : (n == n') = true := beq_iff_eq.2 q2
  by_cases q3 : t = t'
  case neg =>
    have d3 : ((t : Int) == (t' : Int)) = false := by rw [beq_eq_false_iff_ne]; omega
    have Hr := Lib.hid (show res = false from by rw [Hres.out, decide_eq_false (fun h => q3 h.2.2.2.1)]; rfl)
    clear q0 q1 q2 q3
    go_enter Tryz.func44, Tryz.ntmps44
    go_wp2
    go_ret
    exact ⟨ret_bool Hr.out.symm, Hal.out⟩
  have d3 : ((t : Int) == (t' : Int)) = true := by rw [q3]; exact beq_self_eq_true _
  by_cases q4 : nm = nm'
  case neg =>
    have d4 : ((str nm).toList == (str nm').toList) = false := HNm.out q4
    have Hr := Lib.hid (show res = false from by rw [Hres.out, decide_eq_false (fun h => q4 h.2.2.2.2.1)]; rfl)
    clear q0 q1 q2 q3 q4
    go_enter Tryz.func44, Tryz.ntmps44
    go_wp2
    go_ret
    exact ⟨ret_bool Hr.out.symm, Hal.out⟩
  have d4 : ((str nm).toList == (str nm').toList) = true := by rw [q4]; exact str_eq _
  by_cases q5 : tx = tx'
  case neg =>
    have d5 : ((str tx).toList == (str tx').toList) = false := HTx.out q5
    have Hr := Lib.hid (show res = false from by rw [Hres.out, decide_eq_false (fun h => q5 h.2.2.2.2.2)]; rfl)
    clear q0 q1 q2 q3 q4 q5
    go_enter Tryz.func44, Tryz.ntmps44
    go_wp2
    go_ret
    exact ⟨ret_bool Hr.out.symm, Hal.out⟩
  have d5 : ((str tx).toList == (str tx').toList) = true := by rw [q5]; exact str_eq _
  have Hr := Lib.hid (show res = sameV v v' from by rw [Hres.out, decide_eq_true ⟨q0, q1, q2, q3, q4, q5⟩, Bool.true_and])
  generalize sameV v v' = sv at *
  clear q0 q1 q2 q3 q4 q5
  go_enter Tryz.func44, Tryz.ntmps44
  go_wp2_with fail
  refine HS.out.mono ?_
  rintro r w2 ⟨rfl, hb2⟩
  have Hb2 := Lib.hid (Hal.out.trans (hb2.mono Hal.out.size))
  clear hb2
  go_wp2
  go_ret
  exact ⟨ret_bool Hr.out.symm, Hb2.out⟩

set_option maxRecDepth 100000 in
set_option maxHeartbeats 3200000 in
theorem csame11_any (e e' : Ev) (x x' : Array Value) (w : World) (h : EvIn w e x) (h' : EvIn w e' x') :
    Calls Tryz.prog 46 #[.agg x, .agg x'] w fun r w' => r = .returned (.bool (sameE e e')) ∧ Below w.heap.size w w' := by
  obtain ⟨k, id, n, t, nm, tx, v⟩ := e
  obtain ⟨k', id', n', t', nm', tx', v'⟩ := e'
  obtain ⟨_, _, _, _, h5, h6, a, cap, rfl, hv⟩ := h
  obtain ⟨_, _, _, _, h5', h6', a', cap', rfl, hv'⟩ := h'
  have hal := ((Below.refl w.heap.size w).alloc (Nat.le_refl _) (.cells (evC k id n t nm tx v.kind v.n v.f v.s a v.l.length cap) 45)).alloc (by simp) (.cells (evC k' id' n' t' nm' tx' v'.kind v'.n v'.f v'.s a' v'.l.length cap') 45)
  have HS := Lib.hid (vsameC_any v v' _ _ _ (hv.below hal) (hv'.below hal))
  have Hal := Lib.hid hal
  have Hres := Lib.hid (show sameE ⟨k, id, n, t, nm, tx, v⟩ ⟨k', id', n', t', nm', tx', v'⟩ = (decide (k = k' ∧ id = id' ∧ n = n' ∧ t = t' ∧ nm = nm' ∧ tx = tx') && sameV v v') from rfl)
  change Calls _ _ _ _ fun r w' => r = .returned (.bool (sameE ⟨k, id, n, t, nm, tx, v⟩ ⟨k', id', n', t', nm', tx', v'⟩)) ∧ _
  generalize sameE ⟨k, id, n, t, nm, tx, v⟩ ⟨k', id', n', t', nm', tx', v'⟩ = res at *
  have hNm := str_ne h5.1 h5'.1
  have hTx := str_ne h6.1 h6'.1
  have HNm := Lib.hid hNm
  have HTx := Lib.hid hTx
  unfold cells5 at HS
  have hsf := fun (W : World) (A : Addr) (f : Nat) (m : Mode) => (run_store Tryz.prog W A (.float .f64 f) m rfl)
  clear hal hv hv' h5 h6 h5' h6' hNm hTx
  by_cases q0 : k = k'
  case neg =>
    have d0 : (k == k') = false := beq_eq_false_iff_ne.2 q0
    have Hr := Lib.hid (show res = false from by rw [Hres.out, decide_eq_false (fun h => q0 h.1)]; rfl)
    clear q0
    go_enter Tryz.func46, Tryz.ntmps46
    go_wp2
    go_ret
    exact ⟨ret_bool Hr.out.symm, Hal.out⟩
  have d0 : (k == k') = true := beq_iff_eq.2 q0
  by_cases q1 : id = id'
  case neg =>
    have d1 : ((id : Int) == (id' : Int)) = false := by rw [beq_eq_false_iff_ne]; omega
    have Hr := Lib.hid (show res = false from by rw [Hres.out, decide_eq_false (fun h => q1 h.2.1)]; rfl)
    clear q0 q1
    go_enter Tryz.func46, Tryz.ntmps46
    go_wp2
    go_ret
    exact ⟨ret_bool Hr.out.symm, Hal.out⟩
  have d1 : ((id : Int) == (id' : Int)) = true := by rw [q1]; exact beq_self_eq_true _
  by_cases q2 : n = n'
  case neg =>
    have d2 : (n == n') = false := beq_eq_false_iff_ne.2 q2
    have Hr := Lib.hid (show res = false from by rw [Hres.out, decide_eq_false (fun h => q2 h.2.2.1)]; rfl)
    clear q0 q1 q2
    go_enter Tryz.func46, Tryz.ntmps46
    go_wp2
    go_ret
    exact ⟨ret_bool Hr.out.symm, Hal.out⟩
  have d2 : (n == n') = true := beq_iff_eq.2 q2
  by_cases q3 : t = t'
  case neg =>
    have d3 : ((t : Int) == (t' : Int)) = false := by rw [beq_eq_false_iff_ne]; omega
    have Hr := Lib.hid (show res = false from by rw [Hres.out, decide_eq_false (fun h => q3 h.2.2.2.1)]; rfl)
    clear q0 q1 q2 q3
    go_enter Tryz.func46, Tryz.ntmps46
    go_wp2
    go_ret
    exact ⟨ret_bool Hr.out.symm, Hal.out⟩
  have d3 : ((t : Int) == (t' : Int)) = true := by rw [q3]; exact beq_self_eq_true _
  by_cases q4 : nm = nm'
  case neg =>
    have d4 : ((str nm).toList == (str nm').toList) = false := HNm.out q4
    have Hr := Lib.hid (show res = false from by rw [Hres.out, decide_eq_false (fun h => q4 h.2.2.2.2.1)]; rfl)
    clear q0 q1 q2 q3 q4
    go_enter Tryz.func46, Tryz.ntmps46
    go_wp2
    go_ret
    exact ⟨ret_bool Hr.out.symm, Hal.out⟩
  have d4 : ((str nm).toList == (str nm').toList) = true := by rw [q4]; exact str_eq _
  by_cases q5 : tx = tx'
  case neg =>
    have d5 : ((str tx).toList == (str tx').toList) = false := HTx.out q5
    have Hr := Lib.hid (show res = false from by rw [Hres.out, decide_eq_false (fun h => q5 h.2.2.2.2.2)]; rfl)
    clear q0 q1 q2 q3 q4 q5
    go_enter Tryz.func46, Tryz.ntmps46
    go_wp2
    go_ret
    exact ⟨ret_bool Hr.out.symm, Hal.out⟩
  have d5 : ((str tx).toList == (str tx').toList) = true := by rw [q5]; exact str_eq _
  have Hr := Lib.hid (show res = sameV v v' from by rw [Hres.out, decide_eq_true ⟨q0, q1, q2, q3, q4, q5⟩, Bool.true_and])
  generalize sameV v v' = sv at *
  clear q0 q1 q2 q3 q4 q5
  go_enter Tryz.func46, Tryz.ntmps46
  go_wp2_with fail
  refine HS.out.mono ?_
  rintro r w2 ⟨rfl, hb2⟩
  have Hb2 := Lib.hid (Hal.out.trans (hb2.mono Hal.out.size))
  clear hb2
  go_wp2
  go_ret
  exact ⟨ret_bool Hr.out.symm, Hb2.out⟩

end Go.Proofs.YtcapbaocchaenaaGreatDoor

/- The walk of the reference's Few of a list of batches. -/
namespace Go.Proofs.YtcapbaocchaenaaGreatDoor
open Go.RowKit Fl

/-- The batch t lies in three cells. -/
def BtCells (w : World) (b o : Nat) (t : Bt) : Prop := ∃ a n c, BtIn w t #[.string (str t.flow), .int .u64 (t.at_ : Int), .slice a n c] ∧ Evs w a n c t.es ∧
  w.cell? ⟨b, o, none⟩ = some (.string (str t.flow)) ∧ w.cell? ⟨b, o + 1, none⟩ = some (.int .u64 (t.at_ : Int)) ∧ w.cell? ⟨b, o + 2, none⟩ = some (.slice a n c)

theorem BtCells.below {w w' : World} {b o : Nat} {t : Bt} (h : BtCells w b o t) (hb : Below w.heap.size w w') : BtCells w' b o t := by
  obtain ⟨a, n, c, h1, h2, h3, h4, h5⟩ := h
  exact ⟨a, n, c, h1.below hb, h2.below hb, cell_below hb h3, cell_below hb h4, cell_below hb h5⟩

/-- The batches l lie at the beginning of a slice. -/
structure Bts (w : World) (a : Option Addr) (n c : Nat) (l : List Bt) : Prop where
  len : l.length = n
  le : n ≤ c
  max : c ≤ 9223372036854775807
  cell : 0 < n → ∃ b o, a = some ⟨b, o, none⟩ ∧ ∀ i (hi : i < l.length), BtCells w b (o + i * 3) l[i]

theorem Bts.below {w w' : World} {a : Option Addr} {n c : Nat} {l : List Bt} (h : Bts w a n c l) (hb : Below w.heap.size w w') : Bts w' a n c l :=
  ⟨h.len, h.le, h.max, fun hn => by obtain ⟨b, o, e, hc⟩ := h.cell hn; exact ⟨b, o, e, fun i hi => (hc i hi).below hb⟩⟩

/-- Few and small batches, behind m events. -/
def fewGo : List Bt → Nat → Bool
  | [], _ => true
  | t :: r, m => decide (m + min t.es.length 100 ≤ 150) && decide (t.flow.length ≤ 300) && t.es.all fewE && fewGo r (m + min t.es.length 100)

/-- Few and small batches. -/
def fewL (l : List Bt) : Bool := fewGo l 0 && decide (l.length ≤ 60)

theorem fewGo_step {l : List Bt} {j : Nat} {t : Bt} (m : Nat) (h : l[j]? = some t) : fewGo (l.drop j) m = (decide (m + min t.es.length 100 ≤ 150) && decide (t.flow.length ≤ 300) && t.es.all fewE && fewGo (l.drop (j + 1)) (m + min t.es.length 100)) := by
  obtain ⟨hj, rfl⟩ := List.getElem?_eq_some_iff.1 h
  rw [List.drop_eq_getElem_cons hj, fewGo]

theorem few_bad {es : List Ev} {j : Nat} {e : Ev} (h : es[j]? = some e) (hb : fewE e = false) : es.all fewE = false := by
  cases ha : es.all fewE with
  | false => rfl
  | true =>
    have := List.all_eq_true.1 ha e (List.mem_of_getElem? h)
    rw [hb] at this
    cases this
theorem few_good {es : List Ev} (h : ∀ k, k < es.length → ∀ e, es[k]? = some e → fewE e = true) : es.all fewE = true :=
  List.all_eq_true.2 fun e he => by
    obtain ⟨k, hk, rfl⟩ := List.getElem_of_mem he
    exact h k hk _ (List.getElem?_eq_getElem hk)

set_option maxRecDepth 100000 in
set_option maxHeartbeats 3200000 in
theorem rfew12_any (a : Option Addr) (n c : Nat) (l : List Bt) (w : World) (h : Bts w a n c l) :
    Calls Tryz.prog 19 #[.slice a n c] w fun r w' => r = .returned (.bool (fewL l)) ∧ Below w.heap.size w w' := by
  have hlen := h.len
  have hcm := h.max
  have hle := h.le
  obtain ⟨res, hr⟩ : ∃ res, res = fewL l := ⟨_, rfl⟩
  rw [← hr]
  have Hr := Lib.hid hr
  have H := Lib.hid h
  clear h hr
  go_enter Tryz.func19, Tryz.ntmps19
  go_wp2
  go_loopw [3, 4] (fun q i wr => ∃ j m : Nat, j ≤ n ∧ i = .int .i64 (j : Int) ∧ q = .int .i64 (m : Int) ∧ m ≤ 150 ∧ fewGo (l.drop j) m = fewGo l 0 ∧ Below w.heap.size w wr) (fun _ i _ => n - (intOf i).toNat)
  case atStart => exact ⟨0, 0, Nat.zero_le _, rfl, rfl, Nat.zero_le _, rfl, Below.refl _ _⟩
  case round =>
    obtain ⟨j, m, hj, rfl, rfl, hm, hgo, hb⟩ := hrel
    have Hgo := Lib.hid hgo
    have Hb := Lib.hid hb
    clear hgo hb
    by_cases hlt : j < n
    · have hjl : j < l.length := by omega
      obtain ⟨b, o, rfl, hc⟩ := H.out.cell (by omega)
      obtain ⟨ea, en, ec, hI, hE, z0, z1, z2⟩ := (hc j hjl).below Hb.out
      have hje := List.getElem?_eq_getElem hjl
      have hji : (j : Int) < (n : Int) := by omega
      generalize l[j] = t at *
      obtain ⟨fl, at_, es⟩ := t
      have Hst := Lib.hid (show fewGo l 0 = (decide (m + min en 100 ≤ 150) && decide (fl.length ≤ 300) && es.all fewE && fewGo (l.drop (j + 1)) (m + min en 100)) from by rw [← Hgo.out, fewGo_step m hje]; show (decide (m + min es.length 100 ≤ 150) && decide (fl.length ≤ 300) && es.all fewE && fewGo (l.drop (j + 1)) (m + min es.length 100)) = _; rw [show es.length = en from hE.len])
      change Evs wr ea en ec es at hE
      change wr.cell? ⟨b, o + j * 3, none⟩ = some (.string (str fl)) at z0
      have helen := hE.len
      have hele := hE.le
      have hemax := hE.max
      have hz := str_size fl
      have HE := Lib.hid hE
      have Hlt := Lib.hid hlt
      have hmin : ((min en 100 : Nat) : Int) = min (en : Int) 100 := by omega
      have hcap : min en 100 ≤ 100 := Nat.min_le_right _ _
      clear hc hI hE hje hlt hjl z1
      by_cases h150 : m + min en 100 ≤ 150
      rotate_left
      · have q1 : (150 : Int) < (m : Int) + min (en : Int) 100 := by omega
        have Hf := Lib.hid (show res = false from by rw [Hr.out, fewL, Hst.out, decide_eq_false h150]; simp)
        clear h150 hmin hcap
        go_wp2
        go_ret
        exact ⟨ret_bool Hf.out.symm, Hb.out⟩
      have q1 : ¬ (150 : Int) < (m : Int) + min (en : Int) 100 := by omega
      by_cases h300 : fl.length ≤ 300
      rotate_left
      · have q2 : (300 : Int) < (fl.length : Int) := by omega
        have Hf := Lib.hid (show res = false from by rw [Hr.out, fewL, Hst.out, decide_eq_false h300]; simp)
        clear h150 h300 hmin hcap
        go_wp2
        go_ret
        exact ⟨ret_bool Hf.out.symm, Hb.out⟩
      have q2 : ¬ (300 : Int) < (fl.length : Int) := by omega
      have Hst2 := Lib.hid (show fewGo l 0 = (es.all fewE && fewGo (l.drop (j + 1)) (m + min en 100)) from by rw [Hst.out, decide_eq_true h150, decide_eq_true h300]; simp)
      have H150 := Lib.hid h150
      have Hmin := Lib.hid hmin
      clear h150 h300 hmin hcap Hst
      go_wp2
      obtain ⟨wo, hwo⟩ : ∃ wo, wo = wr := ⟨_, rfl⟩
      subst hwo
      go_loopw [5] (fun i ws => ∃ k : Nat, k ≤ en ∧ i = .int .i64 (k : Int) ∧ (∀ k', k' < k → ∀ e, es[k']? = some e → fewE e = true) ∧ Below wo.heap.size wo ws) (fun i _ => en - (intOf i).toNat)
      case atStart => exact ⟨0, Nat.zero_le _, rfl, fun k hk => absurd hk (by omega), Below.refl _ _⟩
      case round =>
        obtain ⟨k, hk, rfl, hall, hb⟩ := hrel
        have Hall := Lib.hid hall
        have Hbs := Lib.hid hb
        have x0 := cell_below hb z0
        have x2 := cell_below hb z2
        clear hall hb z0 z2
        by_cases hlt : k < en
        · have hle' : k < es.length := by omega
          obtain ⟨b2, o2, rfl, hc⟩ := HE.out.cell (by omega)
          obtain ⟨a', cap', hI, ⟨g0, g1, g2, g3, g4, g5⟩, g6, g7, g8, g9, g10⟩ := ((hc k hle').below Hbs.out).all
          have HC := Lib.hid (few11_any es[k] _ wr hI)
          have Hje := Lib.hid (List.getElem?_eq_getElem hle')
          have hki : (k : Int) < (en : Int) := by omega
          have Hklt := Lib.hid hlt
          generalize es[k] = e at *
          clear hc hI hlt hle'
          go_wp2_with fail
          refine HC.out.mono ?_
          rintro r w2 ⟨rfl, hb2⟩
          have Hb2 := Lib.hid (Hbs.out.trans (hb2.mono Hbs.out.size))
          clear hb2 g0 g1 g2 g3 g4 g5 g6 g7 g8 g9 g10 HC
          cases hok : fewE e with
          | false =>
            have Hbad := Lib.hid (show res = false from by rw [Hr.out, fewL, Hst2.out, few_bad Hje.out hok]; simp)
            clear hok
            go_wp2
            go_ret
            exact ⟨ret_bool Hbad.out.symm, Hb.out.trans (Hb2.out.mono Hb.out.size)⟩
          | true =>
            have Hok := Lib.hid hok
            clear hok
            go_wp2
            go_roundw
            case rel => exact ⟨k + 1, Hklt.out, by go_num, fun k' hk' e' he => by
              rcases Nat.lt_or_eq_of_le (Nat.le_of_lt_succ hk') with h | h
              · exact Hall.out k' h e' he
              · rw [h, Hje.out] at he
                cases he
                exact Hok.out, Hb2.out⟩
            case measure => simp [intOf]; have := Hklt.out; omega
        · have hkn : k = en := by omega
          have Hg := Lib.hid (few_good (fun k' hk' e he => Hall.out k' (by omega) e he))
          have hki : ¬ ((k : Int) < (en : Int)) := by omega
          clear hlt hkn
          go_wp2
          go_roundw
          case rel => exact ⟨j + 1, m + min en 100, Hlt.out, by go_num, by rw [← Hmin.out]; go_num, H150.out, by rw [Hst2.out, Hg.out, Bool.true_and], Hb.out.trans (Hbs.out.mono Hb.out.size)⟩
          case measure => simp [intOf]; have := Hlt.out; omega
    · have hjn : j = n := by omega
      have Hg := Lib.hid (show res = decide (n ≤ 60) from by rw [Hr.out, fewL, ← Hgo.out, List.drop_eq_nil_of_le (by omega), fewGo, Bool.true_and]; exact decide_eq_decide.2 (by omega))
      have hji : ¬ ((j : Int) < (n : Int)) := by omega
      clear hlt hjn
      go_wp2
      go_ret
      exact ⟨ret_bool (by rw [Hg.out]; exact decide_eq_decide.2 (by omega)), Hb.out⟩
end Go.Proofs.YtcapbaocchaenaaGreatDoor

/- The walks of Same of lists of events: the reference's SameEvents. -/
namespace Go.Proofs.YtcapbaocchaenaaGreatDoor
open Go.RowKit Fl

/-- The same lists of events. -/
def sameEs (l l' : List Ev) : Bool := decide (l.length = l'.length) && (l.zip l').all fun p => sameE p.1 p.2

theorem sameEs_len {l l' : List Ev} (h : l.length ≠ l'.length) : sameEs l l' = false := by
  unfold sameEs
  rw [decide_eq_false h]
  rfl
theorem sameEs_bad {l l' : List Ev} {j : Nat} {u u' : Ev} (h : l[j]? = some u) (h' : l'[j]? = some u') (hb : sameE u u' = false) : sameEs l l' = false := by
  cases hs : sameEs l l' with
  | false => rfl
  | true =>
    have h1 := List.all_eq_true.1 ((Bool.and_eq_true_iff.1 hs).2) (u, u') (List.mem_of_getElem? (i := j) (List.getElem?_zip_eq_some.2 ⟨h, h'⟩))
    rw [hb] at h1
    cases h1
theorem sameEs_good {l l' : List Ev} (hl : l.length = l'.length) (h : ∀ k u u', k < l.length → l[k]? = some u → l'[k]? = some u' → sameE u u' = true) : sameEs l l' = true := by
  unfold sameEs
  rw [decide_eq_true hl, Bool.true_and]
  refine List.all_eq_true.2 fun p hp => ?_
  obtain ⟨k, hk⟩ := List.getElem?_of_mem hp
  obtain ⟨h1, h2⟩ := List.getElem?_zip_eq_some.1 hk
  exact h k p.1 p.2 (List.getElem?_eq_some_iff.1 h1).1 h1 h2

set_option maxRecDepth 100000 in
set_option maxHeartbeats 3200000 in
theorem sameevents_any (a a' : Option Addr) (n n' c c' : Nat) (es es' : List Ev) (w : World) (h : Evs w a n c es) (h' : Evs w a' n' c' es') :
    Calls Tryz.prog 16 #[.slice a n c, .slice a' n' c'] w fun r w' => r = .returned (.bool (sameEs es es')) ∧ Below w.heap.size w w' := by
  have hlen := h.len
  have hlen' := h'.len
  have hcm := h.max
  have hcm' := h'.max
  have hle := h.le
  have hle' := h'.le
  obtain ⟨res, hr⟩ : ∃ res, res = sameEs es es' := ⟨_, rfl⟩
  rw [← hr]
  have Hr := Lib.hid hr
  have H := Lib.hid h
  have H' := Lib.hid h'
  clear h h' hr
  by_cases hn : n = n'
  rotate_left
  · have hq : ((n : Int) != (n' : Int)) = true := by rw [bne_iff_ne]; omega
    have Hf := Lib.hid (show res = false from by rw [Hr.out, sameEs_len (by omega)])
    clear hn
    go_enter Tryz.func16, Tryz.ntmps16
    go_wp2
    go_ret
    exact ⟨ret_bool Hf.out.symm, Below.refl _ _⟩
  subst hn
  have hq : ((n : Int) != (n : Int)) = false := by simp
  go_enter Tryz.func16, Tryz.ntmps16
  go_wp2
  go_loopw [5] (fun i wr => ∃ j : Nat, j ≤ n ∧ i = .int .i64 (j : Int) ∧ (∀ k u u', k < j → es[k]? = some u → es'[k]? = some u' → sameE u u' = true) ∧ Below w.heap.size w wr) (fun i _ => n - (intOf i).toNat)
  case atStart => exact ⟨0, Nat.zero_le _, rfl, fun k _ _ hk => absurd hk (by omega), Below.refl _ _⟩
  case round =>
    obtain ⟨j, hj, rfl, hall, hb⟩ := hrel
    have Hall := Lib.hid hall
    have Hb := Lib.hid hb
    clear hall hb
    by_cases hlt : j < n
    · have hl1 : j < es.length := by omega
      have hl2 : j < es'.length := by omega
      obtain ⟨b, o, rfl, hc⟩ := H.out.cell (by omega)
      obtain ⟨b', o', rfl, hc'⟩ := H'.out.cell (by omega)
      obtain ⟨p, cap, hI, ⟨g0, g1, g2, g3, g4, g5⟩, g6, g7, g8, g9, g10⟩ := ((hc j hl1).below Hb.out).all
      obtain ⟨p', cap', hI', ⟨k0, k1, k2, k3, k4, k5⟩, k6, k7, k8, k9, k10⟩ := ((hc' j hl2).below Hb.out).all
      have hdr : Below wr.heap.size wr wr.drew := (Below.refl _ _).drew
      have HC := Lib.hid (rsame11_any es[j] es'[j] _ _ wr.drew (hI.below hdr) (hI'.below hdr))
      have Hje := Lib.hid (List.getElem?_eq_getElem hl1)
      have Hje' := Lib.hid (List.getElem?_eq_getElem hl2)
      have hji : (j : Int) < (n : Int) := by omega
      have Hlt := Lib.hid hlt
      generalize es[j] = e at *
      generalize es'[j] = e' at *
      clear hc hc' hI hI' hlt hl1 hl2 hdr
      go_wp2
      go_region_held (fun w' =>
          (w'.cell? ⟨b, o + j * 11, none⟩ = some (.int .i64 e.k) ∧ w'.cell? ⟨b, o + j * 11 + 1, none⟩ = some (.int .u64 (e.id : Int)) ∧ w'.cell? ⟨b, o + j * 11 + 2, none⟩ = some (.int .i64 e.n) ∧ w'.cell? ⟨b, o + j * 11 + 3, none⟩ = some (.int .u64 (e.t : Int)) ∧ w'.cell? ⟨b, o + j * 11 + 4, none⟩ = some (.string (str e.nm)) ∧ w'.cell? ⟨b, o + j * 11 + 5, none⟩ = some (.string (str e.tx)) ∧
          w'.cell? ⟨b, o + j * 11 + 6, none⟩ = some (.int .i64 e.v.kind) ∧ w'.cell? ⟨b, o + j * 11 + 7, none⟩ = some (.int .i64 e.v.n) ∧ w'.cell? ⟨b, o + j * 11 + 8, none⟩ = some (.float .f64 e.v.f) ∧ w'.cell? ⟨b, o + j * 11 + 9, none⟩ = some (.string (str e.v.s)) ∧ w'.cell? ⟨b, o + j * 11 + 10, none⟩ = some (.slice p e.v.l.length cap)) ∧
          w'.cell? ⟨b', o' + j * 11, none⟩ = some (.int .i64 e'.k) ∧ w'.cell? ⟨b', o' + j * 11 + 1, none⟩ = some (.int .u64 (e'.id : Int)) ∧ w'.cell? ⟨b', o' + j * 11 + 2, none⟩ = some (.int .i64 e'.n) ∧ w'.cell? ⟨b', o' + j * 11 + 3, none⟩ = some (.int .u64 (e'.t : Int)) ∧ w'.cell? ⟨b', o' + j * 11 + 4, none⟩ = some (.string (str e'.nm)) ∧ w'.cell? ⟨b', o' + j * 11 + 5, none⟩ = some (.string (str e'.tx)) ∧
          w'.cell? ⟨b', o' + j * 11 + 6, none⟩ = some (.int .i64 e'.v.kind) ∧ w'.cell? ⟨b', o' + j * 11 + 7, none⟩ = some (.int .i64 e'.v.n) ∧ w'.cell? ⟨b', o' + j * 11 + 8, none⟩ = some (.float .f64 e'.v.f) ∧ w'.cell? ⟨b', o' + j * 11 + 9, none⟩ = some (.string (str e'.v.s)) ∧ w'.cell? ⟨b', o' + j * 11 + 10, none⟩ = some (.slice p' e'.v.l.length cap'))
        (first
          | exact ⟨⟨g0, g1, g2, g3, g4, g5, g6, g7, g8, g9, g10⟩, k0, k1, k2, k3, k4, k5, k6, k7, k8, k9, k10⟩
          | exact ⟨⟨cell_below hb2 g0, cell_below hb2 g1, cell_below hb2 g2, cell_below hb2 g3, cell_below hb2 g4, cell_below hb2 g5, cell_below hb2 g6, cell_below hb2 g7, cell_below hb2 g8, cell_below hb2 g9, cell_below hb2 g10⟩, cell_below hb2 k0, cell_below hb2 k1, cell_below hb2 k2, cell_below hb2 k3, cell_below hb2 k4, cell_below hb2 k5, cell_below hb2 k6, cell_below hb2 k7, cell_below hb2 k8, cell_below hb2 k9, cell_below hb2 k10⟩)
        (first | (go_at_call 44; (with_reducible refine HC.out.mono ?_); rintro r w2 ⟨rfl, hb2⟩))
      have Hb2 := Lib.hid (Hb.out.trans (((Below.refl _ _).drew.trans (hb2.mono (Nat.le_refl _))).mono Hb.out.size))
      clear hb2 g0 g1 g2 g3 g4 g5 g6 g7 g8 g9 g10 k0 k1 k2 k3 k4 k5 k6 k7 k8 k9 k10 HC
      cases hok : sameE e e' with
      | false =>
        have Hbad := Lib.hid (show res = false from by rw [Hr.out]; exact sameEs_bad Hje.out Hje'.out hok)
        clear hok
        go_wp2
        go_ret
        exact ⟨ret_bool Hbad.out.symm, Hb2.out⟩
      | true =>
        have Hok := Lib.hid hok
        clear hok
        go_wp2
        go_roundw
        case rel => exact ⟨j + 1, Hlt.out, by go_num, fun k u u' hk hu hu' => by
          rcases Nat.lt_or_eq_of_le (Nat.le_of_lt_succ hk) with h1 | h1
          · exact Hall.out k u u' h1 hu hu'
          · rw [h1, Hje.out] at hu
            rw [h1, Hje'.out] at hu'
            cases hu
            cases hu'
            exact Hok.out, Hb2.out⟩
        case measure => simp [intOf]; have := Hlt.out; omega
    · have hjn : j = n := by omega
      have Hg := Lib.hid (show res = true from by rw [Hr.out]; exact sameEs_good (by omega) (fun k u u' hk hu hu' => Hall.out k u u' (by omega) hu hu'))
      have hji : ¬ ((j : Int) < (n : Int)) := by omega
      clear hlt hjn
      go_wp2
      go_ret
      exact ⟨ret_bool Hg.out.symm, Hb.out⟩
end Go.Proofs.YtcapbaocchaenaaGreatDoor

/- The walk of the code's Valid of a batch. -/
namespace Go.Proofs.YtcapbaocchaenaaGreatDoor
open Go.RowKit Go.Shelf Fl

set_option maxRecDepth 100000 in
theorem binvalid_any (q : Nat) (hq : q ≤ 1000) (e : Ev) (x : Array Value) (w : World) (hs : smallN q e.v = true) (h : EvIn w e x) :
    Calls Tryz.prog 30 #[.agg x] w fun r w' => r = .returned (.bool (!okE e)) ∧ Below w.heap.size w w' := by
  obtain ⟨_, _, _, _, _, _, a, cap, hx, _⟩ := id h
  have HV := Lib.hid (fun W (hW : Below w.heap.size w W) => evalid_any q hq e x W hs (h.below hW))
  have Hal := Lib.hid ((Below.refl w.heap.size w).alloc (Nat.le_refl _) (.cells (evC e.k e.id e.n e.t e.nm e.tx e.v.kind e.v.n e.v.f e.v.s a e.v.l.length cap) 45))
  subst hx
  clear h hs
  generalize okE e = ok at *
  go_enter Tryz.func30, Tryz.ntmps30
  go_wp2_with fail
  refine (HV.out _ Hal.out).mono ?_
  rintro r w1 ⟨rfl, hb⟩
  have Hb := Lib.hid (Hal.out.trans (hb.mono Hal.out.size))
  clear hb
  go_wp2
  go_ret
  exact ⟨rfl, Hb.out⟩

/-- A function without captured variables, as a value. -/
abbrev fnV (f : FuncId) : Value := .func (.func f) #[] #[]

/-- The index of an event that is not valid, or none. -/
def IdxEnd (w : World) (es : List Ev) (r : Ending) (w' : World) : Prop := (∃ i : Int, r = .returned (.int .i64 i) ∧ (0 ≤ i ↔ es.all okE = false)) ∧ Below w.heap.size w w'

theorem all_bad {es : List Ev} {j : Nat} {e : Ev} (h : es[j]? = some e) (hb : okE e = false) : es.all okE = false := by
  cases ha : es.all okE with
  | false => rfl
  | true =>
    have := List.all_eq_true.1 ha e (List.mem_of_getElem? h)
    rw [hb] at this
    cases this
theorem all_good {es : List Ev} (h : ∀ k, k < es.length → ∀ e, es[k]? = some e → okE e = true) : es.all okE = true :=
  List.all_eq_true.2 fun e he => by
    obtain ⟨k, hk, rfl⟩ := List.getElem_of_mem he
    exact h k hk _ (List.getElem?_eq_getElem hk)

set_option maxRecDepth 100000 in
theorem index_any (q : Nat) (hq : q ≤ 1000) (a : Option Addr) (n c : Nat) (es : List Ev) (w : World) (hs : ∀ e ∈ es, smallN q e.v = true) (h : Evs w a n c es) :
    Calls Tryz.prog 56 #[.slice a n c, fnV 30] w (IdxEnd w es) := by
  have hlen := h.len
  have hcm := h.max
  have hle := h.le
  have H := Lib.hid h
  have Hs := Lib.hid hs
  have hent := fun W args => enters_of Tryz.func30 (by kernel_rfl) rfl args W
  clear h hs
  go_enter Tryz.func56, Tryz.ntmps56
  go_wp2
  go_loopw [5, 8] (fun t5 i wr => ∃ j : Nat, j ≤ n ∧ i = .int .i64 (j : Int) ∧ (∀ k, k < j → ∀ e, es[k]? = some e → okE e = true) ∧ Below w.heap.size w wr) (fun _ i _ => n - (intOf i).toNat)
  case atStart => exact ⟨0, Nat.zero_le _, rfl, fun k hk => absurd hk (by omega), Below.refl _ _⟩
  case round =>
    obtain ⟨j, hj, rfl, hall, hb⟩ := hrel
    have Hall := Lib.hid hall
    have Hb := Lib.hid hb
    clear hall hb
    by_cases hlt : j < n
    · have hle' : j < es.length := by omega
      obtain ⟨b, o, rfl, hc⟩ := H.out.cell (by omega)
      obtain ⟨a', cap', hI, ⟨g0, g1, g2, g3, g4, g5⟩, g6, g7, g8, g9, g10⟩ := ((hc j hle').below Hb.out).all
      have HC := Lib.hid (binvalid_any q hq es[j] _ wr (Hs.out _ (List.getElem_mem hle')) hI)
      have Hje := Lib.hid (List.getElem?_eq_getElem hle')
      have hji : (j : Int) < (n : Int) := by omega
      have Hlt := Lib.hid hlt
      generalize es[j] = e at *
      clear hc hI hlt hle'
      go_wp2_with fail
      refine HC.out.mono ?_
      rintro r w2 ⟨rfl, hb2⟩
      have Hb2 := Lib.hid (Hb.out.trans (hb2.mono Hb.out.size))
      clear hb2 g0 g1 g2 g3 g4 g5 g6 g7 g8 g9 g10 HC
      cases hok : okE e with
      | false =>
        have Hbad := Lib.hid (all_bad Hje.out hok)
        clear hok
        go_wp2
        go_ret
        exact ⟨⟨(j : Int), rfl, ⟨fun _ => Hbad.out, fun _ => by omega⟩⟩, Hb2.out⟩
      | true =>
        have Hok := Lib.hid hok
        clear hok
        go_wp2
        go_roundw
        case rel => exact ⟨j + 1, Hlt.out, by go_num, fun k hk e' he => by
          rcases Nat.lt_or_eq_of_le (Nat.le_of_lt_succ hk) with h | h
          · exact Hall.out k h e' he
          · rw [h, Hje.out] at he
            cases he
            exact Hok.out, Hb2.out⟩
        case measure => simp [intOf]; have := Hlt.out; omega
    · have hjn : j = n := by omega
      have Hg := Lib.hid (all_good (fun k hk e he => Hall.out k (by omega) e he))
      have hji : ¬ ((j : Int) < (n : Int)) := by omega
      clear hlt hjn
      go_wp2
      go_ret
      exact ⟨⟨-1, rfl, ⟨fun h => by omega, fun h => by rw [Hg.out] at h; cases h⟩⟩, Hb.out⟩

set_option maxRecDepth 100000 in
theorem contains_any11 (q : Nat) (hq : q ≤ 1000) (a : Option Addr) (n c : Nat) (es : List Ev) (w : World) (hs : ∀ e ∈ es, smallN q e.v = true) (h : Evs w a n c es) :
    Calls Tryz.prog 29 #[.slice a n c, fnV 30] w fun r w' => r = .returned (.bool (!es.all okE)) ∧ Below w.heap.size w w' := by
  have HI := Lib.hid (index_any q hq a n c es w hs h)
  obtain ⟨ok, hok⟩ : ∃ ok, ok = es.all okE := ⟨_, rfl⟩
  rw [← hok]
  have Hok := Lib.hid hok
  clear hs h hok
  go_enter Tryz.func29, Tryz.ntmps29
  go_wp2_with fail
  refine HI.out.mono ?_
  rintro r w1 ⟨⟨i, rfl, hi⟩, hb⟩
  have Hb := Lib.hid hb
  have Hi := Lib.hid hi
  clear hb hi
  cases ok with
  | true =>
    have hi : ¬ (0 : Int) ≤ i := fun h => by have := Hi.out.1 h; rw [← Hok.out] at this; cases this
    have hd : decide ((0 : Int) ≤ i) = false := decide_eq_false hi
    go_wp2
    go_ret
    exact ⟨by first | rfl | simp [*], Hb.out⟩
  | false =>
    have hi : (0 : Int) ≤ i := Hi.out.2 Hok.out.symm
    have hd : decide ((0 : Int) ≤ i) = true := decide_eq_true hi
    go_wp2
    go_ret
    exact ⟨by first | rfl | simp [*], Hb.out⟩

set_option maxRecDepth 100000 in
theorem bvalid_any (q : Nat) (hq : q ≤ 1000) (t : Bt) (x : Array Value) (w : World) (hs : ∀ e ∈ t.es, smallN q e.v = true) (h : BtIn w t x) :
    Calls Tryz.prog 9 #[.agg x] w fun r w' => r = .returned (.bool (okB t)) ∧ Below w.heap.size w w' := by
  obtain ⟨fl, at_, es⟩ := t
  obtain ⟨⟨hb1, hb2⟩, hat, a, n, c, rfl, hE⟩ := h
  change ∀ c ∈ fl, c < 256 at hb1
  change fl.length ≤ 9223372036854775807 at hb2
  change at_ < 18446744073709551616 at hat
  change Evs w a n c es at hE
  change ∀ e ∈ es, smallN q e.v = true at hs
  have hal := (Below.refl w.heap.size w).alloc (Nat.le_refl _) (.cells #[.string (str fl), .int .u64 (at_ : Int), .slice a n c] 25)
  have HC := Lib.hid (fun W (hW : Below w.heap.size w W) => contains_any11 q hq a n c es W hs (hE.below hW))
  have Hal := Lib.hid hal
  have HB := Lib.hid (heap_alloc_new w (.cells #[.string (str fl), .int .u64 (at_ : Int), .slice a n c] 25))
  have hz := str_size fl
  have hlen := hE.len
  have Hlen := Lib.hid hlen
  have hres : okB ⟨fl, at_, es⟩ = (decide (fl ≠ [] ∧ fl.length ≤ 1000) && decide (at_ ≤ 9223372036854775807) && decide (es ≠ []) && es.all okE) := rfl
  obtain ⟨res, hr⟩ : ∃ res, res = okB ⟨fl, at_, es⟩ := ⟨_, rfl⟩
  rw [← hr]
  rw [hres] at hr
  have Hr := Lib.hid hr
  have hem := emp_str fl
  clear hs hE hal hb1 hb2 hres hr hlen
  obtain ⟨y0, y1, y2⟩ := box3 HB.out
  by_cases h1 : fl = []
  · have hq1 : (str fl).toList.isEmpty = true := by rw [hem]; exact decide_eq_true h1
    have Hr2 := Lib.hid (show res = false from by rw [Hr.out, decide_eq_false (fun h => h.1 h1)]; rfl)
    clear h1 hem
    go_enter Tryz.func9, Tryz.ntmps9
    go_wp2
    go_ret
    exact ⟨ret_bool Hr2.out.symm, Hal.out⟩
  have hq1 : (str fl).toList.isEmpty = false := by rw [hem]; exact decide_eq_false h1
  by_cases h2 : fl.length ≤ 1000
  rotate_left
  · have hq2 : ¬ (fl.length : Int) ≤ 1000 := by omega
    have Hr2 := Lib.hid (show res = false from by rw [Hr.out, decide_eq_false (fun h => h2 h.2)]; rfl)
    clear h1 h2 hem
    go_enter Tryz.func9, Tryz.ntmps9
    go_wp2
    go_ret
    exact ⟨ret_bool Hr2.out.symm, Hal.out⟩
  have hq2 : (fl.length : Int) ≤ 1000 := by omega
  by_cases h3 : at_ ≤ 9223372036854775807
  rotate_left
  · have hq3 : ¬ (at_ : Int) ≤ 9223372036854775807 := by omega
    have Hr2 := Lib.hid (show res = false from by rw [Hr.out, decide_eq_false h3]; simp)
    clear h1 h2 h3 hem
    go_enter Tryz.func9, Tryz.ntmps9
    go_wp2
    go_ret
    exact ⟨ret_bool Hr2.out.symm, Hal.out⟩
  have hq3 : (at_ : Int) ≤ 9223372036854775807 := by omega
  by_cases h4 : 0 < n
  rotate_left
  · have hq4 : ¬ (0 : Int) < (n : Int) := by omega
    have Hr2 := Lib.hid (show res = false from by rw [Hr.out, show es = [] from List.length_eq_zero_iff.1 (by have := Hlen.out; omega)]; simp)
    clear h1 h2 h3 h4 hem
    go_enter Tryz.func9, Tryz.ntmps9
    go_wp2
    go_ret
    exact ⟨ret_bool Hr2.out.symm, Hal.out⟩
  have hq4 : (0 : Int) < (n : Int) := by omega
  have Hr2 := Lib.hid (show res = es.all okE from by have he : es ≠ [] := (fun h => by have := Hlen.out; rw [h] at this; simp at this; omega); rw [Hr.out]; simp [h1, h2, h3, he])
  clear h1 h2 h3 h4 hem
  generalize es.all okE = ok at *
  go_enter Tryz.func9, Tryz.ntmps9
  go_wp2_with fail
  refine (HC.out _ Hal.out).mono ?_
  rintro r w2 ⟨rfl, hb2⟩
  have Hb2 := Lib.hid (Hal.out.trans (hb2.mono Hal.out.size))
  clear hb2
  go_wp2
  go_ret
  exact ⟨ret_bool Hr2.out.symm, Hb2.out⟩
end Go.Proofs.YtcapbaocchaenaaGreatDoor

/- The walks of slices.EqualFunc over events with the code's event.Same. -/
namespace Go.Proofs.YtcapbaocchaenaaGreatDoor
open Go.RowKit Go.Shelf Fl

set_option maxRecDepth 100000 in
set_option maxHeartbeats 3200000 in
theorem eqfunc_any (a a' : Option Addr) (n n' c c' : Nat) (es es' : List Ev) (w : World) (h : Evs w a n c es) (h' : Evs w a' n' c' es') :
    Calls Tryz.prog 45 #[.slice a n c, .slice a' n' c', fnV 46] w fun r w' => r = .returned (.bool (sameEs es es')) ∧ Below w.heap.size w w' := by
  have hlen := h.len
  have hlen' := h'.len
  have hcm := h.max
  have hcm' := h'.max
  have hle := h.le
  have hle' := h'.le
  obtain ⟨res, hr⟩ : ∃ res, res = sameEs es es' := ⟨_, rfl⟩
  rw [← hr]
  have Hr := Lib.hid hr
  have H := Lib.hid h
  have H' := Lib.hid h'
  have hent := fun W args => enters_of Tryz.func46 (by kernel_rfl) rfl args W
  have hsf := fun (W : World) (A : Addr) (f : Nat) (m : Mode) => (run_store Tryz.prog W A (.float .f64 f) m rfl)
  clear h h' hr
  by_cases hn : n = n'
  rotate_left
  · have hq : ((n : Int) != (n' : Int)) = true := by rw [bne_iff_ne]; omega
    have Hf := Lib.hid (show res = false from by rw [Hr.out, sameEs_len (by omega)])
    clear hn
    go_enter Tryz.func45, Tryz.ntmps45
    go_wp2
    go_ret
    exact ⟨ret_bool Hf.out.symm, Below.refl _ _⟩
  subst hn
  have hq : ((n : Int) != (n : Int)) = false := by simp
  go_enter Tryz.func45, Tryz.ntmps45
  go_wp2
  go_loopw [17] (fun i wr => ∃ j : Nat, j ≤ n ∧ i = .int .i64 (j : Int) ∧ (∀ k u u', k < j → es[k]? = some u → es'[k]? = some u' → sameE u u' = true) ∧ Below w.heap.size w wr) (fun i _ => n - (intOf i).toNat)
  case atStart => exact ⟨0, Nat.zero_le _, rfl, fun k _ _ hk => absurd hk (by omega), Below.refl _ _⟩
  case round =>
    obtain ⟨j, hj, rfl, hall, hb⟩ := hrel
    have Hall := Lib.hid hall
    have Hb := Lib.hid hb
    clear hall hb
    by_cases hlt : j < n
    · have hl1 : j < es.length := by omega
      have hl2 : j < es'.length := by omega
      obtain ⟨b, o, rfl, hc⟩ := H.out.cell (by omega)
      obtain ⟨b', o', rfl, hc'⟩ := H'.out.cell (by omega)
      obtain ⟨p, cap, hI, ⟨g0, g1, g2, g3, g4, g5⟩, g6, g7, g8, g9, g10⟩ := ((hc j hl1).below Hb.out).all
      obtain ⟨p', cap', hI', ⟨k0, k1, k2, k3, k4, k5⟩, k6, k7, k8, k9, k10⟩ := ((hc' j hl2).below Hb.out).all
      have HC := Lib.hid (fun W hb1 hb2 => csame11_any es[j] es'[j] _ _ W (hI.below (w' := W) hb1) (hI'.below (w' := W) hb2))
      have Hje := Lib.hid (List.getElem?_eq_getElem hl1)
      have Hje' := Lib.hid (List.getElem?_eq_getElem hl2)
      have hji : (j : Int) < (n : Int) := by omega
      have Hlt := Lib.hid hlt
      generalize es[j] = e at *
      generalize es'[j] = e' at *
      have hO1 := (Below.refl wr.heap.size wr).alloc (Nat.le_refl _) (.cells (evC e.k e.id e.n e.t e.nm e.tx e.v.kind e.v.n e.v.f e.v.s p e.v.l.length cap) 45)
      have hO2 := hO1.alloc hO1.size (.cells (evC e'.k e'.id e'.n e'.t e'.nm e'.tx e'.v.kind e'.v.n e'.v.f e'.v.s p' e'.v.l.length cap') 45)
      have q0 := cell_below hO1 k0
      have q1 := cell_below hO1 k1
      have q2 := cell_below hO1 k2
      have q3 := cell_below hO1 k3
      have q4 := cell_below hO1 k4
      have q5 := cell_below hO1 k5
      have q6 := cell_below hO1 k6
      have q7 := cell_below hO1 k7
      have q8 := cell_below hO1 k8
      have q9 := cell_below hO1 k9
      have q10 := cell_below hO1 k10
      have HO2 := Lib.hid hO2
      clear hc hc' hI hI' hlt hl1 hl2 hO1 hO2 k0 k1 k2 k3 k4 k5 k6 k7 k8 k9 k10
      go_wp2_with fail
      refine (HC.out _ HO2.out HO2.out).mono ?_
      rintro r w2 ⟨rfl, hb2⟩
      have Hb2 := Lib.hid (Hb.out.trans ((HO2.out.trans (hb2.mono HO2.out.size)).mono Hb.out.size))
      clear hb2 g0 g1 g2 g3 g4 g5 g6 g7 g8 g9 g10 q0 q1 q2 q3 q4 q5 q6 q7 q8 q9 q10 HC HO2
      cases hok : sameE e e' with
      | false =>
        have Hbad := Lib.hid (show res = false from by rw [Hr.out]; exact sameEs_bad Hje.out Hje'.out hok)
        clear hok
        go_wp2
        go_ret
        exact ⟨ret_bool Hbad.out.symm, Hb2.out⟩
      | true =>
        have Hok := Lib.hid hok
        clear hok
        go_wp2
        go_roundw
        case rel => exact ⟨j + 1, Hlt.out, by go_num, fun k u u' hk hu hu' => by
          rcases Nat.lt_or_eq_of_le (Nat.le_of_lt_succ hk) with h1 | h1
          · exact Hall.out k u u' h1 hu hu'
          · rw [h1, Hje.out] at hu
            rw [h1, Hje'.out] at hu'
            cases hu
            cases hu'
            exact Hok.out, Hb2.out⟩
        case measure => simp [intOf]; have := Hlt.out; omega
    · have hjn : j = n := by omega
      have Hg := Lib.hid (show res = true from by rw [Hr.out]; exact sameEs_good (by omega) (fun k u u' hk hu hu' => Hall.out k u u' (by omega) hu hu'))
      have hji : ¬ ((j : Int) < (n : Int)) := by omega
      clear hlt hjn
      go_wp2
      go_ret
      exact ⟨ret_bool Hg.out.symm, Hb.out⟩
end Go.Proofs.YtcapbaocchaenaaGreatDoor

/- The walk of the code's Same of batches. -/
namespace Go.Proofs.YtcapbaocchaenaaGreatDoor
open Go.RowKit Go.Shelf Fl

/-- The same batches. -/
def sameB (t t' : Bt) : Bool := decide (t.flow = t'.flow ∧ t.at_ = t'.at_) && sameEs t.es t'.es

set_option maxRecDepth 100000 in
set_option maxHeartbeats 3200000 in
theorem bsame_any (t t' : Bt) (x x' : Array Value) (w : World) (h : BtIn w t x) (h' : BtIn w t' x') :
    Calls Tryz.prog 15 #[.agg x, .agg x'] w fun r w' => r = .returned (.bool (sameB t t')) ∧ Below w.heap.size w w' := by
  obtain ⟨fl, at_, es⟩ := t
  obtain ⟨fl', at', es'⟩ := t'
  obtain ⟨⟨hb1, _⟩, _, a, n, c, rfl, hE⟩ := h
  obtain ⟨⟨hb1', _⟩, _, a', n', c', rfl, hE'⟩ := h'
  change ∀ c ∈ fl, c < 256 at hb1
  change ∀ c ∈ fl', c < 256 at hb1'
  change Evs w a n c es at hE
  change Evs w a' n' c' es' at hE'
  have hal := ((Below.refl w.heap.size w).alloc (Nat.le_refl _) (.cells #[.string (str fl), .int .u64 (at_ : Int), .slice a n c] 25)).alloc (by simp) (.cells #[.string (str fl'), .int .u64 (at' : Int), .slice a' n' c'] 25)
  have HS := Lib.hid (eqfunc_any a a' n n' c c' es es' _ (hE.below hal) (hE'.below hal))
  have Hal := Lib.hid hal
  have Hres := Lib.hid (show sameB ⟨fl, at_, es⟩ ⟨fl', at', es'⟩ = (decide (fl = fl' ∧ at_ = at') && sameEs es es') from rfl)
  change Calls _ _ #[.agg #[.string (str fl), .int .u64 (at_ : Int), .slice a n c], .agg #[.string (str fl'), .int .u64 (at' : Int), .slice a' n' c']] _ fun r w' => r = .returned (.bool (sameB ⟨fl, at_, es⟩ ⟨fl', at', es'⟩)) ∧ _
  generalize sameB ⟨fl, at_, es⟩ ⟨fl', at', es'⟩ = res at *
  have HNm := Lib.hid (str_ne hb1 hb1')
  clear hal hE hE' hb1 hb1'
  by_cases q0 : fl = fl'
  case neg =>
    have d0 : ((str fl).toList == (str fl').toList) = false := HNm.out q0
    have Hr := Lib.hid (show res = false from by rw [Hres.out, decide_eq_false (fun h => q0 h.1)]; rfl)
    clear q0
    go_enter Tryz.func15, Tryz.ntmps15
    go_wp2
    go_ret
    exact ⟨ret_bool Hr.out.symm, Hal.out⟩
  have d0 : ((str fl).toList == (str fl').toList) = true := by rw [q0]; exact str_eq _
  by_cases q1 : at_ = at'
  case neg =>
    have d1 : ((at_ : Int) == (at' : Int)) = false := by rw [beq_eq_false_iff_ne]; omega
    have Hr := Lib.hid (show res = false from by rw [Hres.out, decide_eq_false (fun h => q1 h.2)]; rfl)
    clear q0 q1
    go_enter Tryz.func15, Tryz.ntmps15
    go_wp2
    go_ret
    exact ⟨ret_bool Hr.out.symm, Hal.out⟩
  have d1 : ((at_ : Int) == (at' : Int)) = true := by rw [q1]; exact beq_self_eq_true _
  have Hr := Lib.hid (show res = sameEs es es' from by rw [Hres.out, decide_eq_true ⟨q0, q1⟩, Bool.true_and])
  generalize sameEs es es' = sv at *
  clear q0 q1
  go_enter Tryz.func15, Tryz.ntmps15
  go_wp2_with fail
  refine HS.out.mono ?_
  rintro r w2 ⟨rfl, hb2⟩
  have Hb2 := Lib.hid (Hal.out.trans (hb2.mono Hal.out.size))
  clear hb2
  go_wp2
  go_ret
  exact ⟨ret_bool Hr.out.symm, Hb2.out⟩
end Go.Proofs.YtcapbaocchaenaaGreatDoor

/- The walks of the law's few and of the reference's SameBatch. -/
namespace Go.Proofs.YtcapbaocchaenaaGreatDoor
open Go.RowKit Go.Shelf Fl

/-- Small batches. -/
def fewB13 (t : Bt) : Bool := decide (t.flow.length ≤ 1100) && t.es.all fewE

theorem fewL_one (es : List Ev) : fewL [⟨[], 0, es⟩] = es.all fewE := by
  have h : min es.length 100 ≤ 150 := Nat.le_trans (Nat.min_le_right _ _) (by decide)
  simp [fewL, fewGo, h]

set_option maxRecDepth 100000 in
set_option maxHeartbeats 3200000 in
theorem few13_any (t : Bt) (x : Array Value) (w : World) (h : BtIn w t x) :
    Calls Tryz.prog 5 #[.agg x] w fun r w' => r = .returned (.bool (fewB13 t)) ∧ Below w.heap.size w w' := by
  obtain ⟨fl, at_, es⟩ := t
  obtain ⟨_, _, a, n, c, rfl, hE⟩ := h
  change Evs w a n c es at hE
  have hal := (Below.refl w.heap.size w).alloc (Nat.le_refl _) (.cells #[.string (str fl), .int .u64 (at_ : Int), .slice a n c] 25)
  have hal2 := hal.alloc (by simp) (.cells #[.string (str []), .int .u64 0, .slice a n c] 25)
  have hcm := hE.max
  have hle := hE.le
  have hE2 := hE.below hal2
  have HF := Lib.hid (rfew12_any (some ⟨w.heap.size + 1, 0, none⟩) 1 1 [⟨[], 0, es⟩] _ ⟨rfl, Nat.le_refl _, by decide, fun _ => ⟨_, _, rfl, fun i hi => by
    obtain rfl : i = 0 := by simp at hi; omega
    have hbl := heap_alloc_new (w.alloc (.cells #[.string (str fl), .int .u64 (at_ : Int), .slice a n c] 25)) (.cells #[.string (str []), .int .u64 0, .slice a n c] 25)
    rw [show (w.alloc (.cells #[.string (str fl), .int .u64 (at_ : Int), .slice a n c] 25)).heap.size = w.heap.size + 1 from by simp] at hbl
    obtain ⟨e0, e1, e2⟩ := box3 hbl
    exact ⟨a, n, c, ⟨⟨(fun _ h => nomatch h), (by show 0 ≤ 9223372036854775807; decide)⟩, (by show 0 < 18446744073709551616; decide), a, n, c, rfl, hE2⟩, hE2, e0, e1, e2⟩⟩⟩)
  rw [fewL_one] at HF
  have Hal := Lib.hid hal
  have Hal2 := Lib.hid hal2
  have hz := str_size fl
  obtain ⟨res, hr⟩ : ∃ res, res = fewB13 ⟨fl, at_, es⟩ := ⟨_, rfl⟩
  rw [← hr]
  have Hr := Lib.hid (show res = (decide (fl.length ≤ 1100) && es.all fewE) from hr)
  clear hE hE2 hal hal2 hr
  generalize es.all fewE = ok at *
  by_cases h1 : fl.length ≤ 1100
  rotate_left
  · have q1 : ¬ (fl.length : Int) ≤ 1100 := by omega
    have Hf := Lib.hid (show res = false from by rw [Hr.out, decide_eq_false h1]; rfl)
    clear h1 HF
    go_enter Tryz.func5, Tryz.ntmps5
    go_wp2
    go_ret
    exact ⟨ret_bool Hf.out.symm, Hal.out⟩
  have q1 : (fl.length : Int) ≤ 1100 := by omega
  have Hf := Lib.hid (show res = ok from by rw [Hr.out, decide_eq_true h1, Bool.true_and])
  clear h1
  go_enter Tryz.func5, Tryz.ntmps5
  go_wp2_with fail
  refine HF.out.mono ?_
  rintro r w2 ⟨rfl, hb2⟩
  have Hb2 := Lib.hid (Hal2.out.trans (hb2.mono Hal2.out.size))
  clear hb2
  go_wp2
  go_ret
  exact ⟨ret_bool Hf.out.symm, Hb2.out⟩
end Go.Proofs.YtcapbaocchaenaaGreatDoor

