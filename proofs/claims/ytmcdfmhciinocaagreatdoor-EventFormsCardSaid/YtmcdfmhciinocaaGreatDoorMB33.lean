import Derived.Test.YtmcdfmhciinocaaGreatDoorMB32
import Derived.Test.YtmcdfmhciinocaaGreatDoorMB9
import Derived.Deep.RegionHeld3
import Derived.Test.YtmcdfmhciinocaaGreatDoorMB16
import Derived.Deep.QuietTactic
import Derived.BigQuiet
import Derived.Test.YtmcdfmhciinocaaGreatDoorMB1
import Derived.Deep.RegionHeld
import Derived.Maps.AppendAt
import Derived.Test.YtmcdfmhciinocaaGreatDoorMB13
/- Events with the same text are the same. -/
namespace Go.Proofs.YtmcdfmhciinocaaGreatDoor
open Go.RowKit Fl

mutual
theorem textV_same : ∀ (u v : V), sameV u v = true → textV u = textV v
  | .mk k n f s l, .mk k' n' f' s' l', h => by
    rw [sameV, Bool.and_eq_true, decide_eq_true_eq] at h
    obtain ⟨⟨rfl, rfl, rfl, e⟩, h⟩ := h
    rw [textV, textV, e, textVs_same l l' h]
theorem textVs_same : ∀ (l l' : List V), sameL l l' = true → textVs l = textVs l'
  | [], [], _ => rfl
  | [], _ :: _, h => by simp [sameL] at h
  | _ :: _, [], h => by simp [sameL] at h
  | u :: l, v :: l', h => by
    rw [sameL, Bool.and_eq_true] at h
    rw [textVs, textVs, textV_same u v h.1, textVs_same l l' h.2]
end

mutual
theorem fields_same : ∀ (t : Nat) (u v : V), sameV u v = true → rightN t u = rightN t v
  | t, .mk k n f s l, .mk k' n' f' s' l', h => by
    rw [sameV, Bool.and_eq_true, decide_eq_true_eq] at h
    obtain ⟨⟨rfl, rfl, rfl, e⟩, h⟩ := h
    have hl : l = [] ↔ l' = [] := by
      have := sameL_len h
      constructor <;> (rintro rfl; simp at this)
      · exact List.eq_nil_of_length_eq_zero this.symm
      · exact this
    have hf : FieldsOk (.mk k n f s l) ↔ FieldsOk (.mk k n f' s l') := by
      unfold FieldsOk
      show ((k = 1 ∨ n = 0) ∧ (k = 2 ∨ bitsB f = 0) ∧ (k = 3 ∨ s = []) ∧ (k = 4 ∨ l = [])) ↔ ((k = 1 ∨ n = 0) ∧ (k = 2 ∨ bitsB f' = 0) ∧ (k = 3 ∨ s = []) ∧ (k = 4 ∨ l' = []))
      rw [e, hl]
    cases t with
    | zero =>
      unfold rightN
      simp only [hf]
      rfl
    | succ t =>
      unfold rightN
      simp only [hf]
      show (decide _ && l.all (rightN t) && _) = (decide _ && l'.all (rightN t) && _)
      rw [alls_same t l l' h]
      rfl
theorem alls_same : ∀ (t : Nat) (l l' : List V), sameL l l' = true → l.all (rightN t) = l'.all (rightN t)
  | _, [], [], _ => rfl
  | _, [], _ :: _, h => by simp [sameL] at h
  | _, _ :: _, [], h => by simp [sameL] at h
  | t, u :: l, v :: l', h => by
    rw [sameL, Bool.and_eq_true] at h
    rw [List.all_cons, List.all_cons, fields_same t u v h.1, alls_same t l l' h.2]
end

theorem decD_word (n : Nat) : Word (decD n) := fun c hc => by have := decD_digit n c hc; omega

theorem quoteL_is (s : List Nat) : quoteL s = 34 :: (hex2 s ++ [34]) := by
  unfold quoteL textB
  have h : rightN 8 (.mk 3 0 0 s []) = true := by
    have hz : bitsB 0 = 0 := by decide
    unfold rightN
    simp [FieldsOk, V.kind, V.n, V.f, V.s, V.l, hz]
  rw [if_pos h, textV]
  simp

theorem quoteL_word (s : List Nat) : Word (quoteL s) := by
  rw [quoteL_is]
  intro c hc
  rcases List.mem_cons.1 hc with rfl | hc
  · omega
  rcases List.mem_append.1 hc with hc | hc
  · exact hex2_word s c hc
  · rw [List.mem_singleton.1 hc]; omega

theorem quoteL_inj {s s' : List Nat} (h : quoteL s = quoteL s') : s = s' := by
  rw [quoteL_is, quoteL_is] at h
  exact hex2_inj (List.append_cancel_right (List.cons.inj h).2)

theorem evName_word (k : Int) : Word (evName k) := by
  unfold evName
  (repeat' split) <;> (unfold Word; decide)

theorem evName_inj {k k' : Int} (h : 1 ≤ k ∧ k ≤ 11) (h' : 1 ≤ k' ∧ k' ≤ 11) (e : evName k = evName k') : k = k' := by
  have c : k = 1 ∨ k = 2 ∨ k = 3 ∨ k = 4 ∨ k = 5 ∨ k = 6 ∨ k = 7 ∨ k = 8 ∨ k = 9 ∨ k = 10 ∨ k = 11 := by omega
  have c' : k' = 1 ∨ k' = 2 ∨ k' = 3 ∨ k' = 4 ∨ k' = 5 ∨ k' = 6 ∨ k' = 7 ∨ k' = 8 ∨ k' = 9 ∨ k' = 10 ∨ k' = 11 := by omega
  rcases c with rfl | rfl | rfl | rfl | rfl | rfl | rfl | rfl | rfl | rfl | rfl <;> rcases c' with rfl | rfl | rfl | rfl | rfl | rfl | rfl | rfl | rfl | rfl | rfl <;> first | rfl | (exfalso; revert e; decide)

theorem wordE_split {a b : Ev} (ha : EvB a) (hb : EvB b) {i : Nat} (hi : i < 6) (hra : rightE a i = true) (hrb : rightE b i = true) {r r' : List Nat} (er : Ends r) (er' : Ends r') (h : wordE a i ++ r = wordE b i ++ r') : eqF a b i ∧ r = r' := by
  match i, hi with
  | 0, _ =>
    obtain ⟨e, h⟩ := word_split (decD_word _) (decD_word _) er er' h
    exact ⟨decD_inj e, h⟩
  | 1, _ =>
    obtain ⟨e, h⟩ := word_split (decL_word _) (decL_word _) er er' h
    exact ⟨decL_inj e, h⟩
  | 2, _ =>
    obtain ⟨e, h⟩ := word_split (decD_word _) (decD_word _) er er' h
    exact ⟨decD_inj e, h⟩
  | 3, _ =>
    change quoteL a.nm ++ r = quoteL b.nm ++ r' at h
    obtain ⟨e, h⟩ := word_split (quoteL_word _) (quoteL_word _) er er' h
    exact ⟨quoteL_inj e, h⟩
  | 4, _ =>
    change quoteL a.tx ++ r = quoteL b.tx ++ r' at h
    obtain ⟨e, h⟩ := word_split (quoteL_word _) (quoteL_word _) er er' h
    exact ⟨quoteL_inj e, h⟩
  | 5, _ =>
    have h1 : rightN 8 a.v = true := by simpa [rightE] using hra
    have h2 : rightN 8 b.v = true := by simpa [rightE] using hrb
    change textB a.v ++ r = textB b.v ++ r' at h
    unfold textB at h
    rw [if_pos h1, if_pos h2] at h
    exact text_split _ _ 8 8 _ _ h1 h2 ha.w hb.w er er' h

theorem wordsT_ends (pc : Nat → List Nat) (fs : List Nat) : Ends (wordsT pc fs) := by
  cases fs with
  | nil => exact ends_nil
  | cons i fs => exact ends_32 _

theorem wordsT_split {a b : Ev} (ha : EvB a) (hb : EvB b) : ∀ (fs : List Nat), (∀ i ∈ fs, i < 6 ∧ rightE a i = true ∧ rightE b i = true) → wordsT (wordE a) fs = wordsT (wordE b) fs → ∀ i ∈ fs, eqF a b i
  | [], _, _ => fun i hi => (by cases hi)
  | i :: fs, hf, h => by
    have e : ∀ pc : Nat → List Nat, wordsT pc (i :: fs) = 32 :: (pc i ++ wordsT pc fs) := fun pc => by simp [wordsT]
    rw [e, e] at h
    obtain ⟨h6, h1, h2⟩ := hf i (by simp)
    obtain ⟨e, h⟩ := wordE_split ha hb h6 h1 h2 (wordsT_ends _ _) (wordsT_ends _ _) (List.cons.inj h).2
    have g := wordsT_split ha hb fs (fun j hj => hf j (by simp [hj])) h
    intro j hj
    rcases List.mem_cons.1 hj with rfl | hj
    · exact e
    · exact g j hj

theorem wordE_same {a b : Ev} (h : sameE a b = true) (i : Nat) : wordE a i = wordE b i := by
  unfold sameE at h
  rw [Bool.and_eq_true, decide_eq_true_eq] at h
  obtain ⟨⟨h0, h1, h2, h3, h4, h5⟩, h6⟩ := h
  unfold wordE
  have e : textB a.v = textB b.v := by
    unfold textB
    rw [fields_same 8 _ _ h6, textV_same _ _ h6]
  rw [h1, h2, h3, h4, h5, e]

theorem textE_iff {a b : Ev} (ha : okE a = true) (hb : okE b = true) (ba : EvB a) (bb : EvB b) : decide (textE a = textE b) = sameE a b := by
  unfold textE
  rw [if_pos ha, if_pos hb, Bool.eq_iff_iff, decide_eq_true_eq]
  constructor
  · intro h
    obtain ⟨hk, _⟩ := okE_parts ha
    obtain ⟨hk', _⟩ := okE_parts hb
    obtain ⟨e, h⟩ := word_split (evName_word _) (evName_word _) (wordsT_ends _ _) (wordsT_ends _ _) h
    have hkk := evName_inj hk hk' e
    rw [← hkk] at h
    exact same_of_fields ha hb hkk (wordsT_split ba bb _ (fun i hi => ⟨evFields_lt _ _ hi, okE_right ha hi, okE_right hb (by rw [← hkk]; exact hi)⟩) h)
  · intro h
    have hk : a.k = b.k := by
      unfold sameE at h
      rw [Bool.and_eq_true, decide_eq_true_eq] at h
      exact h.1.1
    unfold wordsT
    rw [hk, List.map_congr_left (fun i _ => by rw [wordE_same h i])]
end Go.Proofs.YtmcdfmhciinocaaGreatDoor

/- The walks of Same of events, the code's and the reference's, and of the reference's Few. -/
namespace Go.Proofs.YtmcdfmhciinocaaGreatDoor
open Go.RowKit Fl

/-- Small events. -/
def fewE (e : Ev) : Bool := fewB e.v && decide (e.nm.length ≤ 1100) && decide (e.tx.length ≤ 1100)

set_option maxRecDepth 100000 in
theorem few11_any (e : Ev) (x : Array Value) (w : World) (h : EvIn w e x) :
    Calls Tryz.prog 7 #[.agg x] w fun r w' => r = .returned (.bool (fewE e)) ∧ Below w.heap.size w w' := by
  obtain ⟨k, id, n, t, nm, tx, v⟩ := e
  obtain ⟨_, _, _, _, h5, h6, a, cap, rfl, hv⟩ := h
  have hal := (Below.refl w.heap.size w).alloc (Nat.le_refl _) (.cells (evC k id n t nm tx v.kind v.n v.f v.s a v.l.length cap) 28)
  have HF := Lib.hid (fun W (hW : Below w.heap.size w W) => few_any v _ W (hv.below hW))
  have Hal := Lib.hid hal
  have HE0 := Lib.hid (heap_alloc_new w (.cells (evC k id n t nm tx v.kind v.n v.f v.s a v.l.length cap) 28))
  have hz1 := str_size nm
  have hz2 := str_size tx
  have Hres := Lib.hid (show fewE ⟨k, id, n, t, nm, tx, v⟩ = (fewB v && decide (nm.length ≤ 1100) && decide (tx.length ≤ 1100)) from rfl)
  generalize fewE ⟨k, id, n, t, nm, tx, v⟩ = res at *
  unfold cells5 at HF
  clear hal hv h5 h6
  go_enter Tryz.func7, Tryz.ntmps7
  go_wp2_with fail
  obtain ⟨w1, hw1⟩ : ∃ w1, w1 = w.alloc (.cells (evC k id n t nm tx v.kind v.n v.f v.s a v.l.length cap) 28) := ⟨_, rfl⟩
  rw [← hw1] at Hal HE0 ⊢
  clear hw1
  refine (HF.out _ Hal.out).mono ?_
  rintro e w2 ⟨rfl, hb2⟩
  have hE2 := (hb2.block _ (Array.getElem?_eq_some_iff.1 HE0.out).1).trans HE0.out
  obtain ⟨g0, g1, g2, g3, g4, g5, g6, g7, g8, g9, g10⟩ := box11 hE2
  have Hb2 := Lib.hid (Hal.out.trans (hb2.mono Hal.out.size))
  clear hb2 hE2 g0 g1 g2 g3 g6 g7 g8 g9 g10
  cases hf : fewB v with
  | false =>
    have Hr := Lib.hid (show res = false from by rw [Hres.out, hf]; rfl)
    clear hf
    go_wp2
    go_ret
    exact ⟨ret_bool Hr.out.symm, Hb2.out⟩
  | true =>
    by_cases h1 : nm.length ≤ 1100
    · have Hr := Lib.hid (show res = decide (tx.length ≤ 1100) from by rw [Hres.out, hf, decide_eq_true h1]; rfl)
      have h1' : (nm.length : Int) ≤ 1100 := by omega
      clear hf
      clear h1
      go_wp2
      go_ret
      exact ⟨ret_bool (by rw [Hr.out]; exact decide_eq_decide.2 (by omega)), Hb2.out⟩
    · have Hr := Lib.hid (show res = false from by rw [Hres.out, hf, decide_eq_false h1]; rfl)
      have h1' : ¬ (nm.length : Int) ≤ 1100 := by omega
      clear hf
      go_wp2
      go_ret
      exact ⟨ret_bool Hr.out.symm, Hb2.out⟩

set_option maxRecDepth 100000 in
set_option maxHeartbeats 3200000 in
theorem rsame11_any (e e' : Ev) (x x' : Array Value) (w : World) (h : EvIn w e x) (h' : EvIn w e' x') :
    Calls Tryz.prog 18 #[.agg x, .agg x'] w fun r w' => r = .returned (.bool (sameE e e')) ∧ Below w.heap.size w w' := by
  obtain ⟨k, id, n, t, nm, tx, v⟩ := e
  obtain ⟨k', id', n', t', nm', tx', v'⟩ := e'
  obtain ⟨_, _, _, _, h5, h6, a, cap, rfl, hv⟩ := h
  obtain ⟨_, _, _, _, h5', h6', a', cap', rfl, hv'⟩ := h'
  have hal := ((Below.refl w.heap.size w).alloc (Nat.le_refl _) (.cells (evC k id n t nm tx v.kind v.n v.f v.s a v.l.length cap) 28)).alloc (by simp) (.cells (evC k' id' n' t' nm' tx' v'.kind v'.n v'.f v'.s a' v'.l.length cap') 28)
  have HS := Lib.hid (vsame_any v v' _ _ _ (hv.below hal) (hv'.below hal))
  have Hal := Lib.hid hal
  have Hres := Lib.hid (show sameE ⟨k, id, n, t, nm, tx, v⟩ ⟨k', id', n', t', nm', tx', v'⟩ = (decide (k = k' ∧ id = id' ∧ n = n' ∧ t = t' ∧ nm = nm' ∧ tx = tx') && sameV v v') from rfl)
  change Calls _ _ _ _ fun r w' => r = .returned (.bool (sameE ⟨k, id, n, t, nm, tx, v⟩ ⟨k', id', n', t', nm', tx', v'⟩)) ∧ _
  generalize sameE ⟨k, id, n, t, nm, tx, v⟩ ⟨k', id', n', t', nm', tx', v'⟩ = res at *
  have hNm := str_ne h5.1 h5'.1
  have hTx := str_ne h6.1 h6'.1
  have HNm := Lib.hid hNm
  have HTx := Lib.hid hTx
  unfold cells5 at HS
  have hsf := fun (W : World) (A : Addr) (f : Nat) (m : Mode) => (run_store Tryz.prog W A (.float .f64 f) m rfl)
  clear hal hv hv' h5 h6 h5' h6' hNm hTx
  by_cases q0 : k = k'
  case neg =>
    have d0 : (k == k') = false := beq_eq_false_iff_ne.2 q0
    have Hr := Lib.hid (show res = false from by rw [Hres.out, decide_eq_false (fun h => q0 h.1)]; rfl)
    clear q0
    go_enter Tryz.func18, Tryz.ntmps18
    go_wp2
    go_ret
    exact ⟨ret_bool Hr.out.symm, Hal.out⟩
  have d0 : (k == k') = true := beq_iff_eq.2 q0
  by_cases q1 : id = id'
  case neg =>
    have d1 : ((id : Int) == (id' : Int)) = false := by rw [beq_eq_false_iff_ne]; omega
    have Hr := Lib.hid (show res = false from by rw [Hres.out, decide_eq_false (fun h => q1 h.2.1)]; rfl)
    clear q0 q1
    go_enter Tryz.func18, Tryz.ntmps18
    go_wp2
    go_ret
    exact ⟨ret_bool Hr.out.symm, Hal.out⟩
  have d1 : ((id : Int) == (id' : Int)) = true := by rw [q1]; exact beq_self_eq_true _
  by_cases q2 : n = n'
  case neg =>
    have d2 : (n == n') = false := beq_eq_false_iff_ne.2 q2
    have Hr := Lib.hid (show res = false from by rw [Hres.out, decide_eq_false (fun h => q2 h.2.2.1)]; rfl)
    clear q0 q1 q2
    go_enter Tryz.func18, Tryz.ntmps18
    go_wp2
    go_ret
    exact ⟨ret_bool Hr.out.symm, Hal.out⟩
  have d2 : (n == n') = true := beq_iff_eq.2 q2
  by_cases q3 : t = t'
  case neg =>
    have d3 : ((t : Int) == (t' : Int)) = false := by rw [beq_eq_false_iff_ne]; omega
    have Hr := Lib.hid (show res = false from by rw [Hres.out, decide_eq_false (fun h => q3 h.2.2.2.1)]; rfl)
    clear q0 q1 q2 q3
    go_enter Tryz.func18, Tryz.ntmps18
    go_wp2
    go_ret
    exact ⟨ret_bool Hr.out.symm, Hal.out⟩
  have d3 : ((t : Int) == (t' : Int)) = true := by rw [q3]; exact beq_self_eq_true _
  by_cases q4 : nm = nm'
  case neg =>
    have d4 : ((str nm).toList == (str nm').toList) = false := HNm.out q4
    have Hr := Lib.hid (show res = false from by rw [Hres.out, decide_eq_false (fun h => q4 h.2.2.2.2.1)]; rfl)
    clear q0 q1 q2 q3 q4
    go_enter Tryz.func18, Tryz.ntmps18
    go_wp2
    go_ret
    exact ⟨ret_bool Hr.out.symm, Hal.out⟩
  have d4 : ((str nm).toList == (str nm').toList) = true := by rw [q4]; exact str_eq _
  by_cases q5 : tx = tx'
  case neg =>
    have d5 : ((str tx).toList == (str tx').toList) = false := HTx.out q5
    have Hr := Lib.hid (show res = false from by rw [Hres.out, decide_eq_false (fun h => q5 h.2.2.2.2.2)]; rfl)
    clear q0 q1 q2 q3 q4 q5
    go_enter Tryz.func18, Tryz.ntmps18
    go_wp2
    go_ret
    exact ⟨ret_bool Hr.out.symm, Hal.out⟩
  have d5 : ((str tx).toList == (str tx').toList) = true := by rw [q5]; exact str_eq _
  have Hr := Lib.hid (show res = sameV v v' from by rw [Hres.out, decide_eq_true ⟨q0, q1, q2, q3, q4, q5⟩, Bool.true_and])
  generalize sameV v v' = sv at *
  clear q0 q1 q2 q3 q4 q5
  go_enter Tryz.func18, Tryz.ntmps18
  go_wp2_with fail
  refine HS.out.mono ?_
  rintro r w2 ⟨rfl, hb2⟩
  have Hb2 := Lib.hid (Hal.out.trans (hb2.mono Hal.out.size))
  clear hb2
  go_wp2
  go_ret
  exact ⟨ret_bool Hr.out.symm, Hb2.out⟩

set_option maxRecDepth 100000 in
set_option maxHeartbeats 3200000 in
theorem csame11_any (e e' : Ev) (x x' : Array Value) (w : World) (h : EvIn w e x) (h' : EvIn w e' x') :
    Calls Tryz.prog 75 #[.agg x, .agg x'] w fun r w' => r = .returned (.bool (sameE e e')) ∧ Below w.heap.size w w' := by
  obtain ⟨k, id, n, t, nm, tx, v⟩ := e
  obtain ⟨k', id', n', t', nm', tx', v'⟩ := e'
  obtain ⟨_, _, _, _, h5, h6, a, cap, rfl, hv⟩ := h
  obtain ⟨_, _, _, _, h5', h6', a', cap', rfl, hv'⟩ := h'
  have hal := ((Below.refl w.heap.size w).alloc (Nat.le_refl _) (.cells (evC k id n t nm tx v.kind v.n v.f v.s a v.l.length cap) 28)).alloc (by simp) (.cells (evC k' id' n' t' nm' tx' v'.kind v'.n v'.f v'.s a' v'.l.length cap') 28)
  have HS := Lib.hid (vsameC_any v v' _ _ _ (hv.below hal) (hv'.below hal))
  have Hal := Lib.hid hal
  have Hres := Lib.hid (show sameE ⟨k, id, n, t, nm, tx, v⟩ ⟨k', id', n', t', nm', tx', v'⟩ = (decide (k = k' ∧ id = id' ∧ n = n' ∧ t = t' ∧ nm = nm' ∧ tx = tx') && sameV v v') from rfl)
  change Calls _ _ _ _ fun r w' => r = .returned (.bool (sameE ⟨k, id, n, t, nm, tx, v⟩ ⟨k', id', n', t', nm', tx', v'⟩)) ∧ _
  generalize sameE ⟨k, id, n, t, nm, tx, v⟩ ⟨k', id', n', t', nm', tx', v'⟩ = res at *
  have hNm := str_ne h5.1 h5'.1
  have hTx := str_ne h6.1 h6'.1
  have HNm := Lib.hid hNm
  have HTx := Lib.hid hTx
  unfold cells5 at HS
  have hsf := fun (W : World) (A : Addr) (f : Nat) (m : Mode) => (run_store Tryz.prog W A (.float .f64 f) m rfl)
  clear hal hv hv' h5 h6 h5' h6' hNm hTx
  by_cases q0 : k = k'
  case neg =>
    have d0 : (k == k') = false := beq_eq_false_iff_ne.2 q0
    have Hr := Lib.hid (show res = false from by rw [Hres.out, decide_eq_false (fun h => q0 h.1)]; rfl)
    clear q0
    go_enter Tryz.func75, Tryz.ntmps75
    go_wp2
    go_ret
    exact ⟨ret_bool Hr.out.symm, Hal.out⟩
  have d0 : (k == k') = true := beq_iff_eq.2 q0
  by_cases q1 : id = id'
  case neg =>
    have d1 : ((id : Int) == (id' : Int)) = false := by rw [beq_eq_false_iff_ne]; omega
    have Hr := Lib.hid (show res = false from by rw [Hres.out, decide_eq_false (fun h => q1 h.2.1)]; rfl)
    clear q0 q1
    go_enter Tryz.func75, Tryz.ntmps75
    go_wp2
    go_ret
    exact ⟨ret_bool Hr.out.symm, Hal.out⟩
  have d1 : ((id : Int) == (id' : Int)) = true := by rw [q1]; exact beq_self_eq_true _
  by_cases q2 : n = n'
  case neg =>
    have d2 : (n == n') = false := beq_eq_false_iff_ne.2 q2
    have Hr := Lib.hid (show res = false from by rw [Hres.out, decide_eq_false (fun h => q2 h.2.2.1)]; rfl)
    clear q0 q1 q2
    go_enter Tryz.func75, Tryz.ntmps75
    go_wp2
    go_ret
    exact ⟨ret_bool Hr.out.symm, Hal.out⟩
  have d2 : (n == n') = true := beq_iff_eq.2 q2
  by_cases q3 : t = t'
  case neg =>
    have d3 : ((t : Int) == (t' : Int)) = false := by rw [beq_eq_false_iff_ne]; omega
    have Hr := Lib.hid (show res = false from by rw [Hres.out, decide_eq_false (fun h => q3 h.2.2.2.1)]; rfl)
    clear q0 q1 q2 q3
    go_enter Tryz.func75, Tryz.ntmps75
    go_wp2
    go_ret
    exact ⟨ret_bool Hr.out.symm, Hal.out⟩
  have d3 : ((t : Int) == (t' : Int)) = true := by rw [q3]; exact beq_self_eq_true _
  by_cases q4 : nm = nm'
  case neg =>
    have d4 : ((str nm).toList == (str nm').toList) = false := HNm.out q4
    have Hr := Lib.hid (show res = false from by rw [Hres.out, decide_eq_false (fun h => q4 h.2.2.2.2.1)]; rfl)
    clear q0 q1 q2 q3 q4
    go_enter Tryz.func75, Tryz.ntmps75
    go_wp2
    go_ret
    exact ⟨ret_bool Hr.out.symm, Hal.out⟩
  have d4 : ((str nm).toList == (str nm').toList) = true := by rw [q4]; exact str_eq _
  by_cases q5 : tx = tx'
  case neg =>
    have d5 : ((str tx).toList == (str tx').toList) = false := HTx.out q5
    have Hr := Lib.hid (show res = false from by rw [Hres.out, decide_eq_false (fun h => q5 h.2.2.2.2.2)]; rfl)
    clear q0 q1 q2 q3 q4 q5
    go_enter Tryz.func75, Tryz.ntmps75
    go_wp2
    go_ret
    exact ⟨ret_bool Hr.out.symm, Hal.out⟩
  have d5 : ((str tx).toList == (str tx').toList) = true := by rw [q5]; exact str_eq _
  have Hr := Lib.hid (show res = sameV v v' from by rw [Hres.out, decide_eq_true ⟨q0, q1, q2, q3, q4, q5⟩, Bool.true_and])
  generalize sameV v v' = sv at *
  clear q0 q1 q2 q3 q4 q5
  go_enter Tryz.func75, Tryz.ntmps75
  go_wp2_with fail
  refine HS.out.mono ?_
  rintro r w2 ⟨rfl, hb2⟩
  have Hb2 := Lib.hid (Hal.out.trans (hb2.mono Hal.out.size))
  clear hb2
  go_wp2
  go_ret
  exact ⟨ret_bool Hr.out.symm, Hb2.out⟩

end Go.Proofs.YtmcdfmhciinocaaGreatDoor

/- The walk of the reference's Number. -/
namespace Go.Proofs.YtmcdfmhciinocaaGreatDoor
open Go.RowKit

def stepN (b c : Nat) : Nat := if 48 ≤ c ∧ c ≤ 57 then (b * 10 + (c - 48)) % 18446744073709551616 else b

def numv (l : List Nat) : Nat := l.foldl stepN 0

theorem numv_decD (n : Nat) : numv (decD n) = n % 18446744073709551616 := by
  induction n using Nat.strongRecOn with
  | ind n ih =>
    by_cases h : n < 10
    · rw [decD_low h]
      unfold numv
      rw [List.foldl_cons, List.foldl_nil]
      unfold stepN
      rw [if_pos (by omega)]
      omega
    · rw [decD_high h]
      have h1 := ih (n / 10) (by omega)
      unfold numv at *
      rw [List.foldl_append, h1, List.foldl_cons, List.foldl_nil]
      unfold stepN
      rw [if_pos (by omega)]
      omega

theorem numv_decL (n : Int) : numv (decL n) = n.natAbs % 18446744073709551616 := by
  unfold decL
  split
  · have h := numv_decD n.natAbs
    unfold numv at *
    rw [List.foldl_cons, show stepN 0 45 = 0 from rfl, h]
  · exact numv_decD _

theorem numv_lt (l : List Nat) : numv l < 18446744073709551616 := by
  have h : ∀ (l : List Nat) (b : Nat), b < 18446744073709551616 → l.foldl stepN b < 18446744073709551616 := by
    intro l
    induction l with
    | nil => intro b hb; exact hb
    | cons c r ih =>
      intro b hb
      rw [List.foldl_cons]
      apply ih
      unfold stepN
      split
      · exact Nat.mod_lt _ (by omega)
      · exact hb
  exact h l 0 (by omega)

theorem num_found {x : Int} {l : List Nat} (h1 : -9223372036854775808 ≤ x) (h2 : x ≤ 9223372036854775807) (h : decL x = l) : x = IntKind.i64.wrap (numv l : Int) ∨ x = IntKind.i64.wrap (-IntKind.i64.wrap (numv l : Int)) := by
  have e := numv_decL x
  rw [h] at e
  rw [e, IntKind.wrap_i64, IntKind.wrap_i64]
  omega

theorem wrap_i64_range (x : Int) : -9223372036854775808 ≤ IntKind.i64.wrap x ∧ IntKind.i64.wrap x ≤ 9223372036854775807 := by
  rw [IntKind.wrap_i64]
  omega

theorem decL_byte (n : Int) : ∀ c ∈ decL n, c < 256 := by
  have hh : ∀ m, ∀ c ∈ decD m, c < 256 := fun m c hc => by have := decD_digit m c hc; omega
  intro c hc
  unfold decL at hc
  split at hc
  · rcases List.mem_cons.1 hc with rfl | hc
    · decide
    · exact hh _ c hc
  · exact hh _ c hc

/-- What Number answers. -/
def NumEnd (w : World) (l : List Nat) (e : Ending) (w' : World) : Prop :=
  ∃ m : Int, (-9223372036854775808 ≤ m ∧ m ≤ 9223372036854775807) ∧ e = .returned (.tuple #[.int .i64 m, .bool (decide (decL m = l))]) ∧ (decL m ≠ l → ∀ x : Int, -9223372036854775808 ≤ x → x ≤ 9223372036854775807 → decL x ≠ l) ∧ Below w.heap.size w w'

theorem stepN_digit {b c : Nat} (h1 : 48 ≤ (c : Int)) (h2 : (c : Int) ≤ 57) : IntKind.u64.wrap (IntKind.u64.wrap ((b : Int) * 10) + ((c : Int) - 48)) = ((stepN b c : Nat) : Int) := by
  unfold stepN
  rw [if_pos (show 48 ≤ c ∧ c ≤ 57 by omega), IntKind.wrap_u64, IntKind.wrap_u64]
  omega

theorem stepN_none {b c : Nat} (h1 : ¬ (48 ≤ (c : Int) ∧ (c : Int) ≤ 57)) : (b : Int) = ((stepN b c : Nat) : Int) := by
  unfold stepN
  rw [if_neg (show ¬ (48 ≤ c ∧ c ≤ 57) by omega)]

def NumRel (l : List Nat) (b i : Value) : Prop := ∃ k : Nat, k ≤ l.length ∧ i = .int .i64 k ∧ b = .int .u64 (numv (l.take k) : Nat)

theorem num_close {l : List Nat} {k b c : Nat} {x : Int} (h : k < l.length) (hn : numv (l.take (k + 1)) = stepN b c) (hx : x = ((stepN b c : Nat) : Int)) : NumRel l (.int .u64 x) (.int .i64 ((k : Int) + 1)) := by
  refine ⟨k + 1, by omega, by go_num, ?_⟩
  rw [hn, hx]

theorem num_next {l : List Nat} {k : Nat} (h : k < l.length) : numv (l.take (k + 1)) = stepN (numv (l.take k)) (l.getD k 0) := by
  rw [List.take_succ_eq_append_getElem h, List.getD_eq_getElem?_getD, List.getElem?_eq_getElem h]
  unfold numv
  rw [List.foldl_append]
  rfl

end Go.Proofs.YtmcdfmhciinocaaGreatDoor

/- The walk of the reference's Unhex. -/
namespace Go.Proofs.YtmcdfmhciinocaaGreatDoor
open Go.RowKit

/-- A new row of one byte. -/
theorem byte_row (w : World) {z : Int} {x : Nat} (h : z = (x : Int)) (hx : x < 256) : Bytes (w.alloc (.cells #[.int .u8 z] 5)) (some ⟨w.heap.size, 0, none⟩) 1 1 [x] := by
  subst h
  exact bytes_of_own (new_row w [x] (by simp)) (by simpa using hx)

def stepU (n c : Nat) : Nat := n * 16 + (if 48 ≤ c ∧ c ≤ 57 then c - 48 else if 97 ≤ c ∧ c ≤ 102 then c - 87 else 0)

theorem stepU_hexD {n d : Nat} (h : d < 16) : stepU n (hexD d) = n * 16 + d := by
  unfold stepU hexD
  split
  · rw [if_pos (by omega)]; omega
  · rw [if_neg (by omega), if_pos (by omega)]; omega

theorem stepU_lt {n c k : Nat} (h : n < k) : stepU n c < 16 * k := by
  unfold stepU
  split
  · omega
  · split <;> omega

/-- The bytes of the first pairs. -/
def outB (l : List Nat) (j : Nat) : List Nat := (List.range j).map fun i => stepU (stepU 0 (l.getD (2 * i) 0)) (l.getD (2 * i + 1) 0)

theorem outB_len (l : List Nat) (j : Nat) : (outB l j).length = j := by unfold outB; rw [List.length_map, List.length_range]

theorem outB_succ (l : List Nat) (j : Nat) : outB l (j + 1) = outB l j ++ [stepU (stepU 0 (l.getD (2 * j) 0)) (l.getD (2 * j + 1) 0)] := by
  unfold outB
  rw [List.range_succ, List.map_append]
  rfl

theorem outB_byte (l : List Nat) (j : Nat) : ∀ c ∈ outB l j, c < 256 := by
  intro c hc
  unfold outB at hc
  obtain ⟨i, _, rfl⟩ := List.mem_map.1 hc
  exact stepU_lt (k := 16) (stepU_lt (k := 1) (by omega))

theorem hex2_get : ∀ (b : List Nat) (i : Nat), i < b.length → (hex2 b).getD (2 * i) 0 = hexD (b.getD i 0 / 16) ∧ (hex2 b).getD (2 * i + 1) 0 = hexD (b.getD i 0 % 16)
  | [], i, h => by simp at h
  | c :: r, 0, _ => ⟨rfl, rfl⟩
  | c :: r, i + 1, h => by
    have ih := hex2_get r i (by simpa using h)
    unfold hex2 at *
    rw [List.flatMap_cons, show 2 * (i + 1) = 2 * i + 1 + 1 by omega]
    exact ih

theorem outB_hex2 (b : List Nat) (hb : ∀ c ∈ b, c < 256) : outB (hex2 b) ((hex2 b).length / 2) = b := by
  rw [hex2_len, Nat.mul_div_cancel_left _ (by omega)]
  apply List.ext_getElem
  · rw [outB_len]
  · intro i h1 h2
    obtain ⟨e1, e2⟩ := hex2_get b i h2
    have e3 : b.getD i 0 = b[i] := by rw [List.getD_eq_getElem?_getD, List.getElem?_eq_getElem h2]; rfl
    have := hb _ (List.getElem_mem h2)
    have e4 : (outB (hex2 b) b.length)[i] = stepU (stepU 0 ((hex2 b).getD (2 * i) 0)) ((hex2 b).getD (2 * i + 1) 0) := by simp [outB]
    rw [e4, e1, e2, e3, stepU_hexD (by omega), stepU_hexD (by omega)]
    omega

/-- What Unhex answers. -/
def UnhexEnd (w : World) (l : List Nat) (e : Ending) (w' : World) : Prop :=
  ∃ b : List Nat, (∀ c ∈ b, c < 256) ∧ 2 * b.length ≤ l.length ∧ e = .returned (.tuple #[.string (str b), .bool (decide (hex2 b = l))]) ∧ (hex2 b ≠ l → ∀ x : List Nat, (∀ c ∈ x, c < 256) → hex2 x ≠ l) ∧ Below w.heap.size w w'

def UnRel (w : World) (l : List Nat) (v i : Value) (wr : World) : Prop := ∃ j : Nat, 2 * j ≤ l.length ∧ i = .int .i64 ((2 * j : Nat) : Int) ∧ wr.ownsRow w.heap.size 5 1 v (outB l j).length (u8s (outB l j)) ∧ Below w.heap.size w wr

def InRel (c d J : Nat) (n k : Value) : Prop :=
  (n = .int .i64 0 ∧ k = .int .i64 (J : Int)) ∨ (n = .int .i64 ((stepU 0 c : Nat) : Int) ∧ k = .int .i64 ((J : Int) + 1)) ∨ (n = .int .i64 ((stepU (stepU 0 c) d : Nat) : Int) ∧ k = .int .i64 ((J : Int) + 2))

theorem stepU_is {n c : Nat} {x : Int} (h : x = (n : Int) * 16 + (if 48 ≤ (c : Int) ∧ (c : Int) ≤ 57 then (c : Int) - 48 else if 97 ≤ (c : Int) ∧ (c : Int) ≤ 102 then (c : Int) - 87 else 0)) : x = ((stepU n c : Nat) : Int) := by
  rw [h]
  unfold stepU
  by_cases h1 : 48 ≤ c ∧ c ≤ 57
  · rw [if_pos h1, if_pos (by omega)]; omega
  · rw [if_neg h1, if_neg (by omega)]
    by_cases h2 : 97 ≤ c ∧ c ≤ 102
    · rw [if_pos h2, if_pos (by omega)]; omega
    · rw [if_neg h2, if_neg (by omega)]; omega

end Go.Proofs.YtmcdfmhciinocaaGreatDoor

/- Lists of values that a call has made itself: where their rows lie, and how they grow. -/
namespace Go.Proofs.YtmcdfmhciinocaaGreatDoor
open Go.RowKit Fl

mutual
/-- The cells x hold the value v; the rows of its lists lie in blocks that q allows. -/
def VInP (q : Nat → Prop) (w : World) : V → Array Value → Prop
  | .mk k n f s l, x => (-9223372036854775808 ≤ k ∧ k ≤ 9223372036854775807) ∧ (-9223372036854775808 ≤ n ∧ n ≤ 9223372036854775807) ∧ f < 18446744073709551616 ∧ (∀ c ∈ s, c < 256) ∧ s.length ≤ 9223372036854775807 ∧
    ∃ a cap, x = cells5 k n f s a l.length cap ∧ l.length ≤ cap ∧ cap ≤ 9223372036854775807 ∧ (l = [] ∨ ∃ b o, a = some ⟨b, o, none⟩ ∧ q b ∧ VsInP q w l b o)
def VsInP (q : Nat → Prop) (w : World) : List V → Nat → Nat → Prop
  | [], _, _ => True
  | v :: r, b, o => (∃ x : Array Value, x.size = 5 ∧ (∀ j, j < 5 → w.cell? ⟨b, o + j, none⟩ = x[j]?) ∧ VInP q w v x) ∧ VsInP q w r b (o + 5)
end

mutual
theorem VInP.weak {q : Nat → Prop} {w : World} : ∀ (v : V) (x : Array Value), VInP q w v x → VIn w v x
  | .mk k n f s l, x, h => by
    rw [VInP] at h
    rw [VIn]
    obtain ⟨h1, h2, h3, h4, h5, a, cap, h6, h7, h8, h9⟩ := h
    refine ⟨h1, h2, h3, h4, h5, a, cap, h6, h7, h8, ?_⟩
    rcases h9 with h9 | ⟨b, o, ha, _, hv⟩
    · exact .inl h9
    · exact .inr ⟨b, o, ha, VsInP.weak l b o hv⟩
theorem VsInP.weak {q : Nat → Prop} {w : World} : ∀ (l : List V) (b o : Nat), VsInP q w l b o → VsIn w l b o
  | [], _, _, _ => by rw [VsIn]; trivial
  | v :: r, b, o, h => by
    rw [VsInP] at h
    rw [VsIn]
    obtain ⟨⟨x, hx, hc, hv⟩, hr⟩ := h
    exact ⟨⟨x, hx, hc, VInP.weak v x hv⟩, VsInP.weak r b (o + 5) hr⟩
end

mutual
theorem VInP.turn {q q' : Nat → Prop} {w w' : World} (hq : ∀ b, q b → q' b) (hw : ∀ p : Addr, q p.block → w'.cell? p = w.cell? p) : ∀ (v : V) (x : Array Value), VInP q w v x → VInP q' w' v x
  | .mk k n f s l, x, h => by
    rw [VInP] at h ⊢
    obtain ⟨h1, h2, h3, h4, h5, a, cap, h6, h7, h8, h9⟩ := h
    refine ⟨h1, h2, h3, h4, h5, a, cap, h6, h7, h8, ?_⟩
    rcases h9 with h9 | ⟨b, o, ha, hb, hv⟩
    · exact .inl h9
    · exact .inr ⟨b, o, ha, hq b hb, VsInP.turn hq hw l b o hb hv⟩
theorem VsInP.turn {q q' : Nat → Prop} {w w' : World} (hq : ∀ b, q b → q' b) (hw : ∀ p : Addr, q p.block → w'.cell? p = w.cell? p) : ∀ (l : List V) (b o : Nat), q b → VsInP q w l b o → VsInP q' w' l b o
  | [], _, _, _, _ => by rw [VsInP]; trivial
  | v :: r, b, o, hb, h => by
    rw [VsInP] at h ⊢
    obtain ⟨⟨x, hx, hc, hv⟩, hr⟩ := h
    exact ⟨⟨x, hx, fun j hj => by rw [hw ⟨b, o + j, none⟩ hb]; exact hc j hj, VInP.turn hq hw v x hv⟩, VsInP.turn hq hw r b (o + 5) hb hr⟩
end

theorem VInP.size {q : Nat → Prop} {w : World} {v : V} {x : Array Value} (h : VInP q w v x) : x.size = 5 := (VInP.weak v x h).size

/-- A list of values of the call's own: its row, and its elements' rows in other blocks. -/
def OwnVs (w : World) (base : Nat) (v : Value) (l : List V) : Prop :=
  ∃ cs : List (Array Value), cs.length = l.length ∧ w.ownsRow base 26 5 v l.length (cs.flatMap Array.toList) ∧
    ∀ (i : Nat) (x : Array Value) (u : V), cs[i]? = some x → l[i]? = some u → VInP (fun b => base ≤ b ∧ some b ≠ v.ownBlock ∧ b < w.heap.size) w u x

theorem OwnVs.nil (w : World) (base : Nat) : OwnVs w base (.slice none 0 0) [] := ⟨[], rfl, ⟨rfl, .inl ⟨rfl, rfl⟩⟩, fun i x u h => by simp at h⟩

theorem OwnVs.snoc {w w' : World} {base : Nat} {v v' : Value} {l : List V} {cs : List (Array Value)} {u : V} {x : Array Value} (hlen : cs.length = l.length)
    (hel : ∀ (i : Nat) (x : Array Value) (u : V), cs[i]? = some x → l[i]? = some u → VInP (fun b => base ≤ b ∧ some b ≠ v.ownBlock ∧ b < w.heap.size) w u x)
    (hu : VInP (fun b => base ≤ b ∧ some b ≠ v.ownBlock ∧ b < w.heap.size) w u x) (hown : w'.ownsRow base 26 5 v' (l.length + 1) (cs.flatMap Array.toList ++ x.toList))
    (hg : w.grownBy w' v.ownBlock) (hb : v'.ownBlock = v.ownBlock ∨ v'.ownBlock = some w.heap.size) : OwnVs w' base v' (l ++ [u]) := by
  have hs : w.heap.size ≤ w'.heap.size := hg.size
  have hturn : ∀ (y : Array Value) (z : V), VInP (fun b => base ≤ b ∧ some b ≠ v.ownBlock ∧ b < w.heap.size) w z y → VInP (fun b => base ≤ b ∧ some b ≠ v'.ownBlock ∧ b < w'.heap.size) w' z y := by
    intro y z hz
    have k1 : ∀ b, (base ≤ b ∧ some b ≠ v.ownBlock ∧ b < w.heap.size) → (base ≤ b ∧ some b ≠ v'.ownBlock ∧ b < w'.heap.size) := by
      intro b hb1
      refine ⟨hb1.1, ?_, by omega⟩
      rcases hb with e | e
      · rw [e]; exact hb1.2.1
      · rw [e]
        intro e2
        have e3 : b = w.heap.size := Option.some.inj e2
        omega
    have k2 : ∀ p : Addr, (base ≤ p.block ∧ some p.block ≠ v.ownBlock ∧ p.block < w.heap.size) → w'.cell? p = w.cell? p := by
      intro p hp
      unfold World.cell?
      rw [hg.block p.block hp.2.2 hp.2.1]
    exact VInP.turn k1 k2 z y hz
  refine ⟨cs ++ [x], by rw [List.length_append, List.length_append, hlen]; rfl, ?_, fun i y z hy hz => ?_⟩
  · rw [List.length_append, List.flatMap_append]
    simpa using hown
  · rcases Nat.lt_or_ge i cs.length with hi | hi
    · rw [List.getElem?_append_left hi] at hy
      rw [List.getElem?_append_left (by omega)] at hz
      exact hturn y z (hel i y z hy hz)
    · rw [List.getElem?_append_right hi] at hy
      rw [List.getElem?_append_right (by omega), ← hlen] at hz
      cases hk : i - cs.length with
      | zero =>
        rw [hk] at hy hz
        simp at hy hz
        subst hy
        subst hz
        exact hturn x u hu
      | succ m => rw [hk] at hy; simp at hy

theorem flat_at : ∀ (cs : List (Array Value)), (∀ x ∈ cs, x.size = 5) → ∀ (i : Nat) (x : Array Value), cs[i]? = some x → ∀ j, j < 5 → (cs.flatMap Array.toList)[i * 5 + j]? = x[j]?
  | [], _, i, x, h, _, _ => by simp at h
  | y :: r, hs, i, x, h, j, hj => by
    have hy : y.toList.length = 5 := by rw [Array.length_toList]; exact hs y (by simp)
    rw [List.flatMap_cons]
    cases i with
    | zero =>
      simp at h
      subst h
      rw [List.getElem?_append_left (by omega)]
      simp
    | succ i =>
      have ih := flat_at r (fun z hz => hs z (by simp [hz])) i x (by simpa using h) j hj
      rw [List.getElem?_append_right (by omega), hy, show (i + 1) * 5 + j - 5 = i * 5 + j by omega]
      exact ih

theorem VsInP.mk {q : Nat → Prop} {w : World} {b : Nat} : ∀ (l : List V) (o : Nat), (∀ (i : Nat) (u : V), l[i]? = some u → ∃ x : Array Value, x.size = 5 ∧ (∀ j, j < 5 → w.cell? ⟨b, o + i * 5 + j, none⟩ = x[j]?) ∧ VInP q w u x) → VsInP q w l b o
  | [], _, _ => by rw [VsInP]; trivial
  | v :: r, o, h => by
    rw [VsInP]
    obtain ⟨x, hx, hc, hv⟩ := h 0 v rfl
    refine ⟨⟨x, hx, fun j hj => by have := hc j hj; simpa using this, hv⟩, VsInP.mk r (o + 5) (fun i u hu => ?_)⟩
    obtain ⟨y, hy, hd, hz⟩ := h (i + 1) u (by simpa using hu)
    exact ⟨y, hy, fun j hj => by rw [← hd j hj]; congr 2; omega, hz⟩

/-- A list of the call's own, as a list in memory. -/
theorem OwnVs.lies {w : World} {base : Nat} {v : Value} {l : List V} (h : OwnVs w base v l) : ∃ a cap, v = .slice a l.length cap ∧ l.length ≤ cap ∧ cap ≤ 9223372036854775807 ∧
    (l = [] ∨ ∃ g, a = some ⟨g, 0, none⟩ ∧ (base ≤ g ∧ g < w.heap.size) ∧ VsInP (fun b => base ≤ b ∧ b < w.heap.size) w l g 0) := by
  obtain ⟨cs, hlen, ⟨_, hrow⟩, hel⟩ := h
  rcases hrow with ⟨rfl, h0⟩ | ⟨g, cap, cur, rfl, hbg, hg, hle, hcm, hsz, htake⟩
  · have e : l = [] := List.length_eq_zero_iff.1 h0
    subst e
    exact ⟨none, 0, rfl, Nat.le_refl _, by omega, .inl rfl⟩
  · have hglt : g < w.heap.size := (Array.getElem?_eq_some_iff.1 hg).1
    refine ⟨_, cap, rfl, hle, by rw [maxLen_nat] at hcm; exact hcm, .inr ⟨g, rfl, ⟨hbg, hglt⟩, VsInP.mk l 0 (fun i u hu => ?_)⟩⟩
    have hi : i < l.length := (List.getElem?_eq_some_iff.1 hu).1
    have hx : cs[i]? = some (cs[i]'(by omega)) := List.getElem?_eq_getElem (by omega)
    have hsz5 : ∀ x ∈ cs, x.size = 5 := by
      intro x hx
      obtain ⟨k, hk, rfl⟩ := List.getElem_of_mem hx
      exact (hel k _ l[k] (List.getElem?_eq_getElem hk) (List.getElem?_eq_getElem (by omega))).size
    have hv := hel i _ u hx hu
    refine ⟨_, hv.size, fun j hj => ?_, VInP.turn (fun b hb => ⟨hb.1, hb.2.2⟩) (fun _ _ => rfl) u _ hv⟩
    rw [cell_of_row w g _ cur _ _ hg, ← flat_at cs hsz5 i _ hx j hj, ← htake, Nat.zero_add, List.getElem?_take, if_pos (by omega), Array.getElem?_toList]
end Go.Proofs.YtmcdfmhciinocaaGreatDoor

/- The walk of the reference's atom. -/
namespace Go.Proofs.YtmcdfmhciinocaaGreatDoor
open Go.RowKit Fl

theorem str_extract (l : List Nat) (i j : Nat) : (str l).extract i j = str ((l.take j).drop i) := by
  apply ByteArray.ext
  unfold str
  rw [ByteArray.data_extract]
  apply Array.ext'
  simp [List.map_take, List.map_drop, List.drop_take]

mutual
/-- A value as a world holds it: numbers and bytes in their bounds. -/
def soundV : V → Prop
  | .mk _ n f s l => (-9223372036854775808 ≤ n ∧ n ≤ 9223372036854775807) ∧ f < 18446744073709551616 ∧ (∀ c ∈ s, c < 256) ∧ soundL l
def soundL : List V → Prop
  | [] => True
  | v :: r => soundV v ∧ soundL r
end

mutual
theorem soundV.words : ∀ v : V, soundV v → wordsV v
  | .mk k n f s l, h => by
    rw [soundV] at h
    rw [wordsV]
    exact ⟨h.2.1, soundL.words l h.2.2.2⟩
theorem soundL.words : ∀ l : List V, soundL l → wordsL l
  | [], _ => by rw [wordsL]; trivial
  | v :: r, h => by
    rw [soundL] at h
    rw [wordsL]
    exact ⟨soundV.words v h.1, soundL.words r h.2⟩
end

mutual
theorem VIn.sound {w : World} : ∀ (v : V) (x : Array Value), VIn w v x → soundV v
  | .mk k n f s l, x, h => by
    rw [VIn] at h
    obtain ⟨_, hn, hf, hs, _, a, cap, _, _, _, h9⟩ := h
    rw [soundV]
    refine ⟨hn, hf, hs, ?_⟩
    rcases h9 with rfl | ⟨b, o, _, hv⟩
    · rw [soundL]; trivial
    · exact VsIn.sound l b o hv
theorem VsIn.sound {w : World} : ∀ (l : List V) (b o : Nat), VsIn w l b o → soundL l
  | [], _, _, _ => by rw [soundL]; trivial
  | v :: r, b, o, h => by
    rw [VsIn] at h
    obtain ⟨⟨x, _, _, hv⟩, hr⟩ := h
    rw [soundL]
    exact ⟨VIn.sound v x hv, VsIn.sound r b (o + 5) hr⟩
end

/-- What the text of a value that is no list looks like. -/
theorem plain_text {t : Nat} {u : V} {l : List Nat} (h : rightN t u = true) (hs : soundV u) (hk : u.kind ≠ 4) (e : textV u = l) :
    l = [110, 105, 108] ∨ (∃ n : Int, -9223372036854775808 ≤ n ∧ n ≤ 9223372036854775807 ∧ decL n = l) ∨ (∃ b, b < 18446744073709551616 ∧ l = 35 :: textL (bitsB b)) ∨ ∃ s : List Nat, (∀ c ∈ s, c < 256) ∧ l = 34 :: (hex2 s ++ [34]) := by
  obtain ⟨k, n, f, s, q⟩ := u
  obtain ⟨_, h0, h4, _⟩ := right_parts h
  change k ≠ 4 at hk
  rw [soundV] at hs
  rw [textV] at e
  by_cases h1 : k = 1
  · rw [if_pos h1] at e
    exact .inr (.inl ⟨n, hs.1.1, hs.1.2, e⟩)
  · rw [if_neg h1] at e
    by_cases h2 : k = 2
    · rw [if_pos h2] at e
      exact .inr (.inr (.inl ⟨f, hs.2.1, e.symm⟩))
    · rw [if_neg h2] at e
      by_cases h3 : k = 3
      · rw [if_pos h3] at e
        exact .inr (.inr (.inr ⟨s, hs.2.2.1, e.symm⟩))
      · rw [if_neg h3, if_neg hk] at e
        exact .inl e.symm

/-- What atom answers. -/
def AtomEnd (w : World) (l : List Nat) (e : Ending) (w' : World) : Prop :=
  ∃ (v : V) (x : Array Value) (ok : Bool), e = .returned (.tuple #[.agg x, .bool ok]) ∧ VInP (fun _ => False) w' v x ∧ Below w.heap.size w w' ∧ (ok = true → textV v = l ∧ ∀ t, rightN t v = true) ∧
    (ok = false → ∀ (t : Nat) (u : V), rightN t u = true → soundV u → u.kind ≠ 4 → textV u ≠ l)

/-- A value without a list, in its five words. -/
theorem vin_plain {w : World} {k n : Int} {f : Nat} {s : List Nat} (hk : 0 ≤ k ∧ k ≤ 4) (hn : -9223372036854775808 ≤ n ∧ n ≤ 9223372036854775807) (hf : f < 18446744073709551616) (hs : ∀ c ∈ s, c < 256) (hss : s.length ≤ 9223372036854775807) :
    VInP (fun _ => False) w (.mk k n f s []) #[.int .i64 k, .int .i64 n, .float .f64 f, .string (str s), .slice none 0 0] := by
  rw [VInP]
  exact ⟨by omega, hn, hf, hs, hss, none, 0, rfl, Nat.le_refl _, by omega, .inl rfl⟩

theorem atom_none {l : List Nat} (h0 : l ≠ [110, 105, 108]) (hN : ∀ n : Int, -9223372036854775808 ≤ n → n ≤ 9223372036854775807 → decL n ≠ l) (h35 : ∀ b, b < 18446744073709551616 → l ≠ 35 :: textL (bitsB b))
    (h34 : ∀ s : List Nat, (∀ c ∈ s, c < 256) → l ≠ 34 :: (hex2 s ++ [34])) : ∀ (t : Nat) (u : V), rightN t u = true → soundV u → u.kind ≠ 4 → textV u ≠ l := by
  intro t u h hs hk e
  rcases plain_text h hs hk e with e | ⟨n, h1, h2, e⟩ | ⟨b, hb, e⟩ | ⟨x, hx, e⟩
  · exact h0 e
  · exact hN n h1 h2 e
  · exact h35 b hb e
  · exact h34 x hx e

theorem ends34 {l x : List Nat} (h : l = 34 :: (x ++ [34])) : 2 ≤ l.length ∧ l.getD 0 0 = 34 ∧ l.getD (l.length - 1) 0 = 34 ∧ (l.take (l.length - 1)).drop 1 = x := by
  subst h
  refine ⟨by simp, rfl, ?_, ?_⟩
  · simp
  · simp

theorem mid34 {l : List Nat} (h2 : 2 ≤ l.length) (h0 : l.getD 0 0 = 34) (h1 : l.getD (l.length - 1) 0 = 34) : l = 34 :: ((l.take (l.length - 1)).drop 1 ++ [34]) := by
  cases l with
  | nil => simp at h2
  | cons c r =>
    have e0 : c = 34 := by simpa using h0
    rcases List.eq_nil_or_concat r with e | ⟨q, d, e⟩
    · rw [e] at h2; simp at h2
    · subst e0
      subst e
      have e1 : d = 34 := by simpa using h1
      subst e1
      simp

end Go.Proofs.YtmcdfmhciinocaaGreatDoor

/- How long the texts of a list are. -/
namespace Go.Proofs.YtmcdfmhciinocaaGreatDoor
open Go.RowKit Fl

def tsum : List V → Nat
  | [] => 0
  | v :: r => (textV v).length + 1 + tsum r

theorem tsum_append : ∀ (a b : List V), tsum (a ++ b) = tsum a + tsum b
  | [], b => by simp [tsum]
  | v :: r, b => by rw [List.cons_append, tsum, tsum, tsum_append r b]; omega

theorem joinS_tsum : ∀ (a : List V), (joinS (textVs a)).length ≤ tsum a
  | [] => by simp [textVs, joinS]
  | [v] => by simp [textVs, joinS, tsum]
  | v :: u :: r => by
    have ih := joinS_tsum (u :: r)
    rw [textVs, tsum]
    rw [textVs] at ih ⊢
    rw [joinS, List.length_append, List.length_cons]
    omega
end Go.Proofs.YtmcdfmhciinocaaGreatDoor

