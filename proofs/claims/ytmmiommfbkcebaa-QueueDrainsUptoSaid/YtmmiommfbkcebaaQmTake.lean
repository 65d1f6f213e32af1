/- The walks of take, Pop, Place, Remove. -/
import Derived.Test.YtmmiommfbkcebaaQmPush
namespace Go.Proofs.Ytmmiommfbkcebaa
open Go.RowKit Go.Maps

section
variable {P : Program}
theorem step_delK {ops : Array Oper} {o : Oper} {a : Act} {w : World} {K : Act → World → Prop} {Q : Exit → Act → World → Prop} {E : Prop}
    (hg : o.guard = none) (d x : Operand) (dT sT : TypeId) (hop : o.op = Op.call { callee := Callee.builtin Builtin.delete, args := #[d, x], argTypes := #[dT, sT] })
    (v u : Value) (hd : a.eval d = v) (hx : a.eval x = u) {v' : Value} {w' : World} (hr : (Builtin.delete_ #[dT, sT] o.type #[v, u]).run P w = .ok v' w') (hK : K (a.put o.dst v') w') :
    if Region.wanted o (yielded ops a.tmps) = true then Oper.wp P o a w K Q else E := by
  have hw : Region.wanted o (yielded ops a.tmps) = true := by simp [Region.wanted, hg]
  rw [if_pos hw]
  unfold Oper.wp execOp
  simp only [hop, resolve, invoke, builtin, Sem.run_bind, Sem.run_pure, Result.andThen_ok, List.map_toArray, List.map_cons, List.map_nil, hd, hx, hr]
  exact hK
end

/-- What lies in T but at place i. -/
theorem drop_mem {α : Type} {T : List α} {i : Nat} {t : α} (ht : T[i]? = some t) (hn : T.Nodup) : ∀ x, x ∈ T.take i ++ T.drop (i + 1) ↔ x ∈ T ∧ x ≠ t := by
  obtain ⟨hi, rfl⟩ := List.getElem?_eq_some_iff.1 ht
  have e : T = T.take i ++ T[i] :: T.drop (i + 1) := by rw [← List.drop_eq_getElem_cons hi, List.take_append_drop]
  intro x
  have hn2 := hn
  rw [e, List.nodup_append, List.nodup_cons] at hn2
  obtain ⟨_, ⟨h1, _⟩, h3⟩ := hn2
  constructor
  · intro hx
    refine ⟨?_, fun h => ?_⟩
    · rw [e, List.mem_append, List.mem_cons]
      rcases List.mem_append.1 hx with h | h
      · exact .inl h
      · exact .inr (.inr h)
    · subst h
      rcases List.mem_append.1 hx with h | h
      · exact h3 _ h _ List.mem_cons_self rfl
      · exact h1 h
  · rintro ⟨hx, hne⟩
    rw [e, List.mem_append, List.mem_cons] at hx
    rw [List.mem_append]
    rcases hx with h | h | h
    · exact .inl h
    · exact absurd h hne
    · exact .inr h

theorem nodup_of_map {α β : Type} (f : α → β) {T : List α} (h : (T.map f).Nodup) : T.Nodup := (List.pairwise_map.1 h).imp (fun h e => h (by rw [e]))

section
variable {w0 : World} {X : Nat → Prop} {w : World} {m d : Nat} {l : List Int} {v : Value} {T : List (Int × Nat)} {mb k : Nat}

/-- All but place i: the plain part of what take leaves. -/
theorem Qm.gone (h : Qm w0 X w m d l v T mb k) {i : Nat} {w' : World} {v' : Value} (hos : w'.os = w.os) (htape : w'.tape = w.tape) (hout : w'.output = w.output) (hsz : w.heap.size ≤ w'.heap.size)
    (hc : ∀ b, b < w.heap.size → b ≠ d → b ≠ mb → v.ownBlock ≠ some b → w'.heap[b]? = w.heap[b]?)
    (head : w'.heap[d]? = some (.cells #[v', .map (some mb), .int .u64 (k : Int)] 57 (0, 0))) (row : ItI w' w0.heap.size v' (T.take i ++ T.drop (i + 1))) (map : MapE elI 3 w' mb (T.take i ++ T.drop (i + 1))) (own : v'.ownBlock = v.ownBlock) :
    QmE w0 X w m d (l.take i ++ l.drop (i + 1)) w' := by
  have hsub : (T.take i ++ T.drop (i + 1)).Sublist T := by
    conv => rhs; rw [← List.take_append_drop i T]
    exact List.Sublist.append (List.Sublist.refl _) (List.drop_sublist_drop_left T (Nat.le_succ i))
  have hsubl : (l.take i ++ l.drop (i + 1)).Sublist l := by
    conv => rhs; rw [← List.take_append_drop i l]
    exact List.Sublist.append (List.Sublist.refl _) (List.drop_sublist_drop_left l (Nat.le_succ i))
  exact h.turn (v' := v') (T' := T.take i ++ T.drop (i + 1)) (k' := k) hos htape hout hsz hc head row map (fun b e => .inl (own ▸ e)) (by rw [h.els, List.map_append, List.map_take, List.map_drop]) (h.nd.sublist hsubl) (fun x hx => h.rng x (hsubl.subset hx)) (h.srt.sublist hsub) (fun t ht => h.lt t (hsub.subset ht)) ⟨h.cnt.1, Nat.le_trans hsub.length_le h.cnt.2⟩

set_option maxRecDepth 100000 in
set_option maxHeartbeats 1600000 in
theorem take_any (h : Qm w0 X w m d l v T mb k) (hm : m ≤ 2000000) {i : Nat} (hi : i < l.length) :
    Calls Try.prog 28 #[.pointer (some ⟨d, 0, none⟩), .int .i64 (i : Int)] w fun r w' => r = .returned (.tuple #[]) ∧ QmE w0 X w m d (l.take i ++ l.drop (i + 1)) w' := by
  have hiT : i < T.length := by rw [← h.len]; exact hi
  obtain ⟨t, ht⟩ : ∃ t, T[i]? = some t := ⟨_, List.getElem?_eq_getElem hiT⟩
  have htm := List.mem_of_getElem? ht
  have hrx : InI t.1 := h.rng _ (by rw [h.els]; exact List.mem_map.2 ⟨t, htm, rfl⟩)
  have hmem := drop_mem ht (nodup_of_map (·.1) (by rw [← h.els]; exact h.nd))
  have hlen : (T.take i ++ T.drop (i + 1)).length + 1 = T.length := by rw [List.length_append, List.length_take, List.length_drop]; omega
  have Hdel := fun ty => MapE.del (w := w.drew) (T' := T.take i ++ T.drop (i + 1)) (h.map.kept rfl) t htm hrx h.ids hmem hlen ty
  obtain ⟨w1, hdel, hmap1, hg1⟩ := Hdel 0
  have q0 := h.c0
  have q1 := h.c1
  obtain ⟨g, o, c, hv, hnc, hcm, hcell⟩ := h.row.cell (by omega)
  obtain ⟨c0, c1⟩ := hcell i t ht
  obtain ⟨x, j⟩ := t
  change w.cell? _ = some (.int .i64 x) at c0
  have hd := h.dlt
  have hmb := h.map.lt
  have hvd : ∀ b, v.ownBlock = some b → b ≠ d ∧ b ≠ mb := fun b e => (h.vpos b e).2
  have hgd := hvd g (by rw [hv]; rfl)
  have hglt := h.row.lt (b := g) (by rw [hv]; rfl)
  have kd : w1.heap[d]? = w.heap[d]? := hg1.block d hd (fun e => h.ne (Option.some.inj e))
  have hd1 := kd.trans h.head
  have kg : w1.heap[g]? = w.heap[g]? := hg1.block g hglt.2 (fun e => hgd.2 (Option.some.inj e))
  have e0 : w1.cell? ⟨d, 0, none⟩ = some v := by rw [cell_of_row _ _ _ _ _ (0, 0) hd1]; rfl
  have hrow1 : ItI w1 w0.heap.size v T := h.row.kept (fun b e => hg1.block b (h.row.lt e).2 (fun e' => (hvd b e).2 (Option.some.inj e')))
  obtain ⟨N, hN⟩ : ∃ N, N = T.length := ⟨_, rfl⟩
  rw [← hN] at hv hnc hiT
  have hin : (i : Int) < (N : Int) := by omega
  by_cases hi0 : 0 < i
  · have hpos : (0 : Int) < (i : Int) := by omega
    have hiw : IntKind.i64.wrap ((i : Int) + 1) = (i : Int) + 1 := by rw [IntKind.wrap_i64]; have := h.cnt.2; omega
    have HD := Lib.hid (show Calls Try.prog 32 #[.slice (some ⟨g, o, none⟩) N c, .int .i64 (i : Int), .int .i64 ((i : Int) + 1)] w1 fun r w2 => ∃ p' n' c', r = .returned (.slice p' n' c') ∧ w2.cell? ⟨d, 0, none⟩ = some v ∧ w2.frozen? ⟨d, 0, none⟩ = false ∧ Hid (QmE w0 X w m d (l.take i ++ l.drop (i + 1)) (w2.setCell ⟨d, 0, none⟩ (.slice p' n' c'))) from by
      rw [← hv]
      refine (delete_any hrow1 (by have := h.cnt.2; omega) i (by omega)).mono ?_
      rintro r w2 ⟨v', rfl, hrow2, hg2, hob2⟩
      obtain ⟨p', c', rfl, _, _⟩ := hrow2.slice
      have hd2 : w2.heap[d]? = some (.cells #[v, .map (some mb), .int .u64 (k : Int)] 57 (0, 0)) := (hg2.block d (Array.getElem?_eq_some_iff.1 hd1).1 (fun e => (hvd d e.symm).1 rfl)).trans hd1
      have km2 : w2.heap[mb]? = w1.heap[mb]? := hg2.block mb hmap1.lt (fun e => (hvd mb e.symm).2 rfl)
      refine ⟨p', _, c', rfl, by rw [cell_of_row _ _ _ _ _ (0, 0) hd2]; rfl, by simp [World.frozen?, hd2], Lib.hid ?_⟩
      have s1 : w.heap.size ≤ w1.heap.size := hg1.size
      refine h.gone ?_ ?_ ?_ ?_ (fun b hb h1 h2 h3 => ?_) ?_ ?_ ?_ hob2
      · show w2.os = _; rw [hg2.os, hg1.os]; rfl
      · show w2.tape = _; rw [hg2.tape, hg1.tape]; rfl
      · show w2.output = _; rw [hg2.output, hg1.output]; rfl
      · have s2 := hg2.size
        have s3 : (w2.setCell ⟨d, 0, none⟩ (.slice p' (T.take i ++ T.drop (i + 1)).length c')).heap.size = w2.heap.size := by simp [World.setCell]
        omega
      · rw [heap_setCell_other _ _ _ _ h1, hg2.block b (by omega) (fun e => h3 e.symm), hg1.block b hb (fun e => h2 (Option.some.inj e))]; rfl
      · rw [Joins.block_setCell (i := 0) hd2]; rfl
      · exact hrow2.kept (fun b e => heap_setCell_other _ _ _ _ (hvd b (hob2 ▸ e)).1)
      · exact (hmap1.kept km2).kept (heap_setCell_other _ _ _ _ (Ne.symm h.ne)))
    subst hv
    clear hN
    clear h Hdel hmap1 hg1 hmem hlen hcell kd hd1 kg hrow1 hvd hd hmb ht htm
    go_enter Try.func28, Try.ntmps28
    go_wp2_with fail
    go_region_law (first | (refine step_delK rfl (.tmp 7) (.tmp 15) 53 3 rfl (.map (some mb)) (.int .i64 x) (by simp [Act.eval]) (by simp [Act.eval]) hdel ?_))
    all_goals
      go_wp2_with fail
      refine HD.out.mono ?_
      rintro r w2 ⟨p', n', c', rfl, z0, zf, HE⟩
      go_wp2
      refine bodyPost_ret (results_none rfl _ _ _) rfl ?_
      exact ⟨rfl, HE.out⟩
  · obtain rfl : i = 0 := by omega
    have hcN : 0 < N := by omega
    have hc1 : 1 ≤ c := by omega
    have hn1 : (1 : Int) ≤ (N : Int) := by omega
    have hN1 : 1 ≤ N := by omega
    have g0 : w1.cell? ⟨g, o, none⟩ = some (.int .i64 x) := by rw [World.cell?_of_block kg]; simpa using c0
    have g1 : w1.cell? ⟨g, o + 1, none⟩ = some (.int .u64 (j : Int)) := by rw [World.cell?_of_block kg]; simpa using c1
    rcases h.row with ⟨e, _⟩ | ⟨g', o', c', cur, e, hbase, hg, hnc', hcm', hfit, htake⟩
    · rw [hv] at e; cases e
    obtain ⟨rfl, rfl, rfl⟩ : g = g' ∧ o = o' ∧ c = c' := by
      rw [hv] at e
      injection e with e1 e2 e3
      injection e1 with e1
      injection e1 with e1 e4
      exact ⟨e1, e4, e3⟩
    have f0 : w1.frozen? ⟨g, o, none⟩ = false := by simp [World.frozen?, kg.trans hg]
    have f1 : w1.frozen? ⟨g, o + 1, none⟩ = false := by simp [World.frozen?, kg.trans hg]
    have hmaxc : c ≤ 9223372036854775807 := hcm
    have hne : g ≠ d := hgd.1
    have HN := Lib.hid hN
    have c0 : w.cell? ⟨g, o, none⟩ = some (.int .i64 x) := by simpa using c0
    have fd : w1.frozen? ⟨d, 0, none⟩ = false := by simp [World.frozen?, hd1]
    have HE := Lib.hid (show ∀ q, (c = 1 ∧ q = o ∨ ¬ c = 1 ∧ q = o + 2) → QmE w0 X w m d (l.take 0 ++ l.drop (0 + 1)) (((w1.setCell ⟨g, o, none⟩ (.int .i64 0)).setCell ⟨g, o + 1, none⟩ (.int .u64 0)).setCell ⟨d, 0, none⟩ (.slice (some ⟨g, q, none⟩) (N - 1) (c - 1))) from by
      intro q hq
      obtain ⟨w2, hw2⟩ : ∃ w2, w2 = (w1.setCell ⟨g, o, none⟩ (.int .i64 0)).setCell ⟨g, o + 1, none⟩ (.int .u64 0) := ⟨_, rfl⟩
      rw [← hw2]
      have k2 : ∀ b, b ≠ g → w2.heap[b]? = w1.heap[b]? := fun b hb => by rw [hw2, heap_setCell_other _ _ _ _ hb, heap_setCell_other _ _ _ _ hb]
      have s2 : w2.heap.size = w1.heap.size := by rw [hw2]; simp [World.setCell]
      have hd2 := (k2 d (Ne.symm hne)).trans hd1
      have hg2 : w2.heap[g]? = some (.cells ((cur.setIfInBounds o (.int .i64 0)).setIfInBounds (o + 1) (.int .u64 0)) 59 (0, 0)) := by rw [hw2, Joins.block_setCell (i := o + 1) (Joins.block_setCell (i := o) (kg.trans hg) _) _]
      have s1 : w.heap.size ≤ w1.heap.size := hg1.size
      refine h.gone (v' := .slice (some ⟨g, q, none⟩) (N - 1) (c - 1)) ?_ ?_ ?_ ?_ (fun b hb h1 h2 h3 => ?_) ?_ ?_ ?_ (by rw [hv]; rfl)
      · show w2.os = _; rw [hw2]; show w1.os = _; rw [hg1.os]; rfl
      · show w2.tape = _; rw [hw2]; show w1.tape = _; rw [hg1.tape]; rfl
      · show w2.output = _; rw [hw2]; show w1.output = _; rw [hg1.output]; rfl
      · have s3 : (w2.setCell ⟨d, 0, none⟩ (.slice (some ⟨g, q, none⟩) (N - 1) (c - 1))).heap.size = w2.heap.size := by simp [World.setCell]
        omega
      · rw [heap_setCell_other _ _ _ _ h1, k2 b (fun e => h3 (by rw [hv, e]; try rfl)), hg1.block b hb (fun e => h2 (Option.some.inj e))]; rfl
      · rw [Joins.block_setCell (i := 0) hd2]; rfl
      · have hl2 : (T.take 0 ++ T.drop (0 + 1)).length = N - 1 := by rw [List.take_zero, List.nil_append, List.length_drop]; omega
        refine .inr ⟨g, q, c - 1, _, by rw [hl2], hbase, (heap_setCell_other _ _ _ _ hne).trans hg2, by omega, by omega, ?_, ?_⟩
        · rw [Array.size_setIfInBounds, Array.size_setIfInBounds]; omega
        · rw [hl2]
          simp only [List.take_zero, List.nil_append, Array.toList_setIfInBounds]
          rcases hq with ⟨hc1', rfl⟩ | ⟨_, rfl⟩
          · have : N - 1 = 0 := by omega
            rw [this, Nat.zero_mul, List.take_zero]
            have : T.drop (0 + 1) = [] := List.drop_eq_nil_of_le (by omega)
            rw [this]; rfl
          · rw [List.drop_set_of_lt (by omega), List.drop_set_of_lt (by omega), flatE_drop, ← htake, List.drop_take, List.drop_drop]
            congr 1
            omega
      · exact (hmap1.kept (k2 mb (fun e => hgd.2 e.symm))).kept (heap_setCell_other _ _ _ _ (Ne.symm h.ne)))
    subst hv
    clear hN e hbase hg htake
    clear Hdel hg1 hmem hlen hcell hrow1 hvd hd hmb ht htm h hmap1 kd hd1 kg
    by_cases hc1e : c = 1
    · have HE1 := Lib.hid (HE.out o (.inl ⟨hc1e, rfl⟩))
      go_enter Try.func28, Try.ntmps28
      go_wp2_with fail
      go_region_law (first | (refine step_delK rfl (.tmp 7) (.tmp 15) 53 3 rfl (.map (some mb)) (.int .i64 x) (by simp [Act.eval]) (by simp [Act.eval]) hdel ?_))
      all_goals
        go_wp2
        go_end0
        exact ⟨rfl, by have h5 := HE1.out; subst hc1e; exact h5⟩
    · have HE1 := Lib.hid (HE.out (o + 2) (.inr ⟨hc1e, rfl⟩))
      go_enter Try.func28, Try.ntmps28
      go_wp2_with fail
      go_region_law (first | (refine step_delK rfl (.tmp 7) (.tmp 15) 53 3 rfl (.map (some mb)) (.int .i64 x) (by simp [Act.eval]) (by simp [Act.eval]) hdel ?_))
      all_goals
        go_wp2
        go_end0
        exact ⟨rfl, HE1.out⟩
end
end Go.Proofs.Ytmmiommfbkcebaa
