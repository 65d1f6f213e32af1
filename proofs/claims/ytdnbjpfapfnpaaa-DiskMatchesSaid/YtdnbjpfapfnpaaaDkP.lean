/- A disk's directory changes: a file is put in, taken out, or has another content. -/
import Derived.Test.YtdnbjpfapfnpaaaDkW
namespace Go.Proofs.Ytdnbjpfapfnpaaa
open Go.RowKit Go.Maps

theorem usedF_cons (x : F) (l : List F) : usedF (x :: l) = x.b.length + usedF l := by simp [usedF]
theorem usedF_perm {l l' : List F} (h : l.Perm l') : usedF l = usedF l' := (h.map _).sum_nat
theorem usedF_ins (x : F) (l : List F) : usedF (insN F.n x l) = x.b.length + usedF l := by rw [usedF_perm (perm_insN F.n x l), usedF_cons]
theorem usedF_del (n : List UInt8) : ∀ l : List F, usedF (delN F.n n l) ≤ usedF l
  | [] => Nat.le_refl _
  | y :: r => by
    have ih := usedF_del n r
    unfold delN at *
    rw [List.filter_cons]
    split
    · rw [usedF_cons, usedF_cons]; omega
    · rw [usedF_cons]; omega
theorem usedF_del_find {n : List UInt8} : ∀ {l : List F} {x : F}, findN F.n n l = some x → usedF (delN F.n n l) + x.b.length ≤ usedF l
  | [], x, h => by cases h
  | y :: r, x, h => by
    unfold findN at h
    rw [List.find?_cons] at h
    unfold delN
    rw [List.filter_cons]
    cases hy : y.n == n with
    | true =>
      rw [hy] at h
      simp only [Option.some.injEq] at h
      subst h
      rw [if_neg (by simp), usedF_cons]
      have := usedF_del n r
      unfold delN at this
      omega
    | false =>
      rw [hy] at h
      have ih := usedF_del_find (l := r) (n := n) (x := x) h
      unfold delN at ih
      rw [if_pos (by simp), usedF_cons, usedF_cons]
      omega

theorem fpOf_perm {L L' : List FW} (h : L.Perm L') : (fpOf L).Perm (fpOf L') := h.flatMap_right _
theorem fpOf_ins (x : FW) (L : List FW) : (fpOf (insN FW.n x L)).Perm (fpOne x ++ fpOf L) := by
  have := fpOf_perm (perm_insN FW.n x L)
  rwa [show fpOf (x :: L) = fpOne x ++ fpOf L from List.flatMap_cons ..] at this
theorem fpOf_sub {L L' : List FW} (h : L'.Sublist L) : (fpOf L').Sublist (fpOf L) := by
  unfold fpOf
  induction h with
  | slnil => exact List.Sublist.refl _
  | cons a h ih => rw [List.flatMap_cons]; exact List.Sublist.trans ih (List.sublist_append_right _ _)
  | cons_cons a h ih => rw [List.flatMap_cons, List.flatMap_cons]; exact List.Sublist.append (List.Sublist.refl _) ih
theorem fpOf_del (n : List UInt8) (L : List FW) : (fpOf (delN FW.n n L)).Sublist (fpOf L) := fpOf_sub (List.filter_sublist ..)

/-- Another directory. -/
theorem DiskAt.dir_set {S S' : Nat → Prop} {w w' : World} {d mb : Nat} {p : Int} {L L' : List FW} {M : DM} {fs : List F} (h : DiskAt S w d mb p L M) (hf : fs = L'.map FW.f) (hdir : w'.ownsMap Try.prog 9 ptrR mb L'.length (dirD L'))
    (hc : Chg (fun b => b = mb) w w') (hok : ∀ x ∈ L', FileOk w' x ∨ x ∈ L) (hap : (d :: mb :: fpOf L').Nodup) (hsub : ∀ b ∈ fpOf L', S' b) (hs : ∀ b, S b → S' b) (hb : ∀ b, S' b → b < w'.heap.size) (hu : usedF fs ≤ M.room) :
    DiskAt S' w' d mb p L' { M with fs := fs } := by
  have hnd := List.nodup_cons.1 h.apart
  have hnm := (List.nodup_cons.1 hnd.2).1
  have hdm : d ≠ mb := fun e => hnd.1 (by simp [e])
  refine ⟨hf, (hc.block d (h.bound d (h.sub d (by simp))) hdm).trans h.head, h.plan, h.lo, h.hi, hdir, fun x hx => ?_, hap, fun b hb' => ?_, hb, hu, h.room⟩
  · rcases hok x hx with h1 | h1
    · exact h1
    · exact (h.ok x h1).keep (fun b hb' => hc.block b (h.bound b (h.sub b (by simp [mem_fpOf h1 hb']))) (fun e => hnm (e ▸ mem_fpOf h1 hb')))
  · rcases List.mem_cons.1 hb' with e | e
    · rw [e]; exact hs d (h.sub d (by simp))
    · rcases List.mem_cons.1 e with e | e
      · rw [e]; exact hs mb (h.sub mb (by simp))
      · exact hsub b e

/-- A file is put in. -/
theorem DiskAt.put {S S' : Nat → Prop} {w w' : World} {d mb : Nat} {p : Int} {L : List FW} {M : DM} (h : DiskAt S w d mb p L M) (x : FW) (hdir : w'.ownsMap Try.prog 9 ptrR mb (L.length + 1) (dirD (putN FW.n x L)))
    (hc : Chg (fun b => b = mb) w w') (hx : FileOk w' x) (hfr : ∀ b ∈ fpOne x, b ∉ d :: mb :: fpOf (delN FW.n x.n L)) (hnd : (fpOne x).Nodup) (hsx : ∀ b ∈ fpOne x, S' b) (hs : ∀ b, S b → S' b) (hb : ∀ b, S' b → b < w'.heap.size)
    (hu : x.f.b.length + usedF (delN F.n x.n M.fs) ≤ M.room) : DiskAt S' w' d mb p (putN FW.n x L) { M with fs := putN F.n x.f M.fs } := by
  have hperm : (fpOf (putN FW.n x L)).Perm (fpOne x ++ fpOf (delN FW.n x.n L)) := fpOf_ins x _
  have hmem : ∀ y ∈ putN FW.n x L, y = x ∨ y ∈ L := fun y hy => ((mem_insN FW.n x _ y).1 hy).imp id (fun h => (List.mem_filter.1 h).1)
  have hdel : (d :: mb :: fpOf (delN FW.n x.n L)).Nodup := h.apart.sublist (((fpOf_del x.n L).cons_cons mb).cons_cons d)
  have hsz : w'.ownsMap Try.prog 9 ptrR mb (putN FW.n x L).length (dirD (putN FW.n x L)) := by
    obtain ⟨es, clock, hb0, F0, hs0, hD⟩ := hdir
    refine ⟨es, clock, hb0, F0, ?_, hD⟩
    have e1 := congrArg Maps.size hD
    rw [dirD_size] at e1
    rw [e1]
    show es.size ≤ List.length _
    rw [length_sorted]
    simp
  refine h.dir_set ?_ hsz hc (fun y hy => (hmem y hy).elim (fun e => .inl (e ▸ hx)) .inr) ?_ (fun b hb' => ?_) hs hb ?_
  · rw [h.files, putN_map FW.n F.n FW.f (fun _ => rfl)]
  · have e : (d :: mb :: fpOf (putN FW.n x L)).Perm (fpOne x ++ (d :: mb :: fpOf (delN FW.n x.n L))) := by
      refine ((hperm.cons mb).cons d).trans ?_
      refine List.Perm.trans (List.Perm.cons d (List.perm_middle.symm)) ?_
      exact List.perm_middle.symm
    rw [e.nodup_iff, List.nodup_append]
    exact ⟨hnd, hdel, fun a ha b hb' e => hfr a ha (e ▸ hb')⟩
  · rcases List.mem_append.1 (hperm.mem_iff.1 hb') with h1 | h1
    · exact hsx b h1
    · exact hs b (h.sub b (by simp [(fpOf_del x.n L).subset h1]))
  · show usedF (insN F.n x.f (delN F.n x.n M.fs)) ≤ M.room
    rw [usedF_ins]
    exact hu

/-- A file is taken out. -/
theorem DiskAt.out {S : Nat → Prop} {w w' : World} {d mb : Nat} {p : Int} {L : List FW} {M : DM} (h : DiskAt S w d mb p L M) (n : List UInt8) (hdir : w'.ownsMap Try.prog 9 ptrR mb L.length (dirD (delN FW.n n L)))
    (hc : Chg (fun b => b = mb) w w') : DiskAt S w' d mb p (delN FW.n n L) { M with fs := delN F.n n M.fs } := by
  have hsz : w'.ownsMap Try.prog 9 ptrR mb (delN FW.n n L).length (dirD (delN FW.n n L)) := by
    obtain ⟨es, clock, hb0, F0, hs0, hD⟩ := hdir
    refine ⟨es, clock, hb0, F0, ?_, hD⟩
    have e1 := congrArg Maps.size hD
    rw [dirD_size] at e1
    rw [e1]
    show es.size ≤ List.length _
    rw [length_sorted]
    simp
  refine h.dir_set ?_ hsz hc (fun y hy => .inr (List.mem_filter.1 hy).1) (h.apart.sublist (((fpOf_del n L).cons_cons mb).cons_cons d)) (fun b hb' => h.sub b (by simp [(fpOf_del n L).subset hb'])) (fun _ h => h)
    (fun b hb' => Nat.lt_of_lt_of_le (h.bound b hb') hc.size) (Nat.le_trans (usedF_del n _) h.used)
  rw [h.files, delN_map FW.n F.n FW.f (fun _ => rfl)]
end Go.Proofs.Ytdnbjpfapfnpaaa
