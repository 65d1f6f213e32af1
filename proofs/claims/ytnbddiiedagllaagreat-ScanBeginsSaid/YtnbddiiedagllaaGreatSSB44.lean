import Derived.Test.YtnbddiiedagllaaGreatSSB43
import Derived.Test.YtnbddiiedagllaaGreatSSB34
import Derived.Test.YtnbddiiedagllaaGreatSSB25
import Derived.Test.YtnbddiiedagllaaGreatSSB15
import Derived.Test.YtnbddiiedagllaaGreatSSB36
import Derived.Test.YtnbddiiedagllaaGreatSSB26
import Derived.Test.YtnbddiiedagllaaGreatSSB17
import Derived.Maps.AppendAt
import Derived.Lib.AppendZeros
import Derived.Test.YtnbddiiedagllaaGreatSSB13
import Derived.Test.YtnbddiiedagllaaGreatSSB30
import Derived.Test.YtnbddiiedagllaaGreatSSB8
/- The repair of a log is a run: whatever failure is planned, and whatever crash follows, the log has the same records. -/
namespace Go.Proofs.YtnbddiiedagllaaGreat
open Go.RowKit Go.Maps

section
variable {room : Nat} {fs : List F} {nm : List UInt8}

theorem op_remove (hn : named nm = true) {f : F} (h : findN F.n nm fs = some f) : soM ⟨5, nm, [], []⟩ ⟨room, fs, false, 0⟩ = (⟨room, delN F.n nm fs, false, 0⟩, 0) := by
 show removeM nm ⟨room, fs, false, 0⟩ = _
 unfold removeM chgM onM
 rw [show failM ⟨room, fs, false, 0⟩ = ⟨room, fs, false, 0⟩ from rfl, if_neg Bool.false_ne_true, if_pos hn]
 simp only [h]

theorem op_create (hn : named nm = true) (h : findN F.n nm fs = none) : soM ⟨1, nm, [], []⟩ ⟨room, fs, false, 0⟩ = (⟨room, putN F.n ⟨nm, [], 0⟩ fs, false, 0⟩, 0) := by
 show createM nm ⟨room, fs, false, 0⟩ = _
 unfold createM chgM
 rw [show failM ⟨room, fs, false, 0⟩ = ⟨room, fs, false, 0⟩ from rfl, if_neg Bool.false_ne_true, if_pos hn]
 simp only [h]

theorem op_append (hn : named nm = true) {f : F} (h : findN F.n nm fs = some f) (bs : List Nat) (hr : usedF fs + bs.length ≤ room) : soM ⟨2, nm, [], bs⟩ ⟨room, fs, false, 0⟩ = (⟨room, setN F.n ⟨nm, f.b ++ bs, f.d⟩ fs, false, 0⟩, 0) := by
 show appendM nm bs ⟨room, fs, false, 0⟩ = _
 unfold appendM chgM onM
 rw [show failM ⟨room, fs, false, 0⟩ = ⟨room, fs, false, 0⟩ from rfl, if_neg Bool.false_ne_true, if_pos hn]
 simp only [h]
 rw [if_pos hr]

theorem op_sync (hn : named nm = true) {f : F} (h : findN F.n nm fs = some f) : soM ⟨3, nm, [], []⟩ ⟨room, fs, false, 0⟩ = (⟨room, setN F.n ⟨nm, f.b, f.b.length⟩ fs, false, 0⟩, 0) := by
 show syncM nm ⟨room, fs, false, 0⟩ = _
 unfold syncM chgM onM
 rw [show failM ⟨room, fs, false, 0⟩ = ⟨room, fs, false, 0⟩ from rfl, if_neg Bool.false_ne_true, if_pos hn]
 simp only [h]

theorem op_rename (hn : named nm = true) {tt : List UInt8} (ht : named tt = true) {f : F} (h : findN F.n nm fs = some f) : soM ⟨4, nm, tt, []⟩ ⟨room, fs, false, 0⟩ = (⟨room, putN F.n ⟨tt, f.b, f.d⟩ (delN F.n nm fs), false, 0⟩, 0) := by
 show renameM nm tt ⟨room, fs, false, 0⟩ = _
 unfold renameM chgM onM
 rw [show failM ⟨room, fs, false, 0⟩ = ⟨room, fs, false, 0⟩ from rfl, if_neg Bool.false_ne_true, if_pos hn]
 simp only [h]
 rw [if_pos ht]
end

theorem cutB_named : named cutB = true := by decide
theorem newB_named : named newB = true := by decide

theorem nmB_cut (N : Nat) : nmB N ≠ cutB := fun e => by have := congrArg List.length e; rw [nmB_length] at this; cases this
theorem nmB_new (N : Nat) : nmB N ≠ newB := fun e => by have := congrArg List.length e; rw [nmB_length] at this; cases this

theorem segC_same {fs fs' : List F} (h : ∀ N, 1 ≤ N → N ≤ 99999999 → findN F.n (nmB N) fs' = findN F.n (nmB N) fs) {N : Nat} (h1 : 1 ≤ N) (h2 : N ≤ 99999999) : segC fs' N = segC fs N := by
 unfold segC
 rw [h N h1 h2]

theorem segSync_same {fs fs' : List F} (hs : SegSync fs) (h : ∀ N, 1 ≤ N → N ≤ 99999999 → findN F.n (nmB N) fs' = findN F.n (nmB N) fs) : SegSync fs' :=
 fun N f h1 h2 hf => hs N f h1 h2 (by rw [← h N h1 h2]; exact hf)

def LogK (ps : List PS) (k : Nat) (recs : List (List Nat)) : Prop := FirstAt ps k ∧ Good (ps.drop k) ∧ recs = recsL (ps.drop k)

theorem LogK.drop {ps : List PS} {k : Nat} {recs : List (List Nat)} (h : LogK ps k recs) {j : Nat} (hj : j ≤ k) : LogK (ps.drop j) (k - j) recs := by
 obtain ⟨⟨h1, h2, h3⟩, h4, h5⟩ := h
 have e : (ps.drop j).drop (k - j) = ps.drop k := by rw [List.drop_drop]; congr 1; omega
 refine ⟨⟨by rw [List.length_drop]; omega, fun i hi hlt => ?_, ?_⟩, by rw [e]; exact h4, by rw [e]; exact h5⟩
 ·rw [List.getElem_drop]
  exact h2 (j + i) (by rw [List.length_drop] at hi; omega) (by omega)
 ·rcases h3 with h3 | h3
  ·exact .inl (by omega)
  ·right
   rw [List.getElem_drop]
   have e2 : j + (k - j) = k := by omega
   simp only [e2]
   exact h3

theorem LogK.cut {qs : List PS} {p : PS} {k : Nat} {recs : List (List Nat)} (h : LogK (qs ++ [p]) k recs) : LogK (qs ++ [⟨p.n, p.ls, []⟩]) k recs := by
 obtain ⟨⟨h1, h2, h3⟩, h4, h5⟩ := h
 have hl : (qs ++ [(⟨p.n, p.ls, []⟩ : PS)]).length = (qs ++ [p]).length := by simp
 have key : ∀ i (hi : i < (qs ++ [p]).length), ((qs ++ [(⟨p.n, p.ls, []⟩ : PS)])[i]'(by rw [hl]; exact hi)).n = (qs ++ [p])[i].n ∧ ((qs ++ [(⟨p.n, p.ls, []⟩ : PS)])[i]'(by rw [hl]; exact hi)).ls = (qs ++ [p])[i].ls ∧ ((qs ++ [p])[i].t = [] → ((qs ++ [(⟨p.n, p.ls, []⟩ : PS)])[i]'(by rw [hl]; exact hi)).t = []) := by
  intro i hi
  by_cases hq : i < qs.length
  ·rw [List.getElem_append_left hq, List.getElem_append_left hq]
   exact ⟨rfl, rfl, fun h => h⟩
  ·have e : i - qs.length = 0 := by rw [List.length_append] at hi; simp at hi; omega
   rw [List.getElem_append_right (by omega), List.getElem_append_right (by omega)]
   simp only [e, List.getElem_cons_zero]
   exact ⟨trivial, trivial, fun _ => trivial⟩
 have hmk : ∀ i (hi : i < (qs ++ [p]).length), ((qs ++ [(⟨p.n, p.ls, []⟩ : PS)])[i]'(by rw [hl]; exact hi)).mark = (qs ++ [p])[i].mark := fun i hi => by unfold PS.mark; rw [(key i hi).2.1]
 refine ⟨⟨by rw [hl]; exact h1, fun i hi hlt => by rw [hmk i (by rw [← hl]; exact hi)]; exact h2 i (by rw [← hl]; exact hi) hlt, h3.imp id (fun h => by rw [hmk k h1]; exact h)⟩, fun i hi => ?_, ?_⟩
 ·have hi0 : k + i < (qs ++ [p]).length := by rw [List.length_drop, hl] at hi; omega
  have hg := h4 i (by rw [List.length_drop]; omega)
  obtain ⟨g1, g2, g3⟩ := hg
  refine ⟨fun h0 => ?_, fun h0 => ?_, ?_⟩
  ·have e1 := g1 h0
   rw [List.getElem_drop, List.getElem_drop] at e1 ⊢
   rw [(key (k + i) hi0).1, (key (k + (i - 1)) (by omega)).1]
   exact e1
  ·have e1 := g2 (by rw [List.length_drop]; rw [List.length_drop, hl] at h0; omega)
   rw [List.getElem_drop] at e1 ⊢
   exact (key (k + i) hi0).2.2 e1
  ·rw [List.getElem_drop] at g3 ⊢
   unfold PS.recs at g3 ⊢
   rw [(key (k + i) hi0).2.1]
   exact g3
 ·rw [h5]
  unfold recsL
  congr 1
  apply List.ext_getElem
  ·rw [List.length_map, List.length_map, List.length_drop, List.length_drop, hl]
  ·intro i hi hi'
   rw [List.getElem_map, List.getElem_map, List.getElem_drop, List.getElem_drop]
   have hi0 : k + i < (qs ++ [p]).length := by rw [List.length_map, List.length_drop] at hi; omega
   unfold PS.recs
   rw [(key (k + i) hi0).2.1]

def GL (recs : List (List Nat)) (fs : List F) : Prop := SegSync fs ∧ ∃ ps, SegsC fs ps ∧ ((ps = [] ∧ recs = []) ∨ ∃ k, LogK ps k recs)

theorem GL.same {recs : List (List Nat)} {fs fs' : List F} (h : GL recs fs) (he : ∀ N, 1 ≤ N → N ≤ 99999999 → findN F.n (nmB N) fs' = findN F.n (nmB N) fs) : GL recs fs' := by
 obtain ⟨h1, ps, h2, h3⟩ := h
 exact ⟨segSync_same h1 he, ps, h2.same (fun N g1 g2 => segC_same he g1 g2), h3⟩

structure Left (fs fs' : List F) : Prop where
 used : usedF fs' ≤ usedF fs
 sorted : Sorted fs'

theorem clean_run {recs : List (List Nat)} {room : Nat} {M : DM} (hG : GL recs M.fs) (hs : Sorted M.fs) : ∃ fs', Run (GL recs) room (cleanM [cutB, newB] M) M.fs fs' ∧ (∀ n, findN F.n n fs' = if n = cutB ∨ n = newB then none else findN F.n n M.fs) ∧ Left M.fs fs' := by
 have one : ∀ (nm : List UInt8) (fs : List F), named nm = true → (∀ N, nmB N ≠ nm) → GL recs fs → Sorted fs → ∃ fs', Run (GL recs) room (if nm ∈ fs.map F.n then [⟨5, nm, [], []⟩] else []) fs fs' ∧ (∀ n, findN F.n n fs' = if n = nm then none else findN F.n n fs) ∧ Left fs fs' := by
  intro nm fs hn hne hG hs
  by_cases h : nm ∈ fs.map F.n
  ·rw [if_pos h]
   obtain ⟨f, hf, e⟩ := List.mem_map.1 h
   obtain ⟨f', hf'⟩ := findN_have (n := nm) ⟨f, hf, e⟩
   have hG' : GL recs (delN F.n nm fs) := hG.same (fun N _ _ => by rw [fd_del, if_neg (hne N)])
   exact ⟨delN F.n nm fs, .cons hG (op_remove hn hf') (.nil hG'), fun n => fd_del F.n n nm fs, usedF_delN nm fs, del_sorted nm hs⟩
  ·rw [if_neg h]
   refine ⟨fs, .nil hG, fun n => ?_, Nat.le_refl _, hs⟩
   split
   ·next e =>
    subst e
    cases hf : findN F.n n fs with
    | none => rfl
    | some f =>
     obtain ⟨h1, h2⟩ := findN_some hf
     exact absurd (List.mem_map.2 ⟨f, h1, h2⟩) h
   ·rfl
 obtain ⟨fs1, r1, q1, l1⟩ := one cutB M.fs cutB_named nmB_cut hG hs
 obtain ⟨fs2, r2, q2, l2⟩ := one newB fs1 newB_named nmB_new r1.last l1.sorted
 have hmem : (newB ∈ fs1.map F.n) ↔ (newB ∈ M.fs.map F.n) := by
  have key : ∀ fs : List F, newB ∈ fs.map F.n ↔ findN F.n newB fs ≠ none := by
   intro fs
   constructor
   ·intro h e
    obtain ⟨f, hf, e2⟩ := List.mem_map.1 h
    exact findN_none e f hf e2
   ·intro h
    cases hf : findN F.n newB fs with
    | none => exact absurd hf h
    | some f =>
     obtain ⟨h1, h2⟩ := findN_some hf
     exact List.mem_map.2 ⟨f, h1, h2⟩
  rw [key, key, q1, if_neg (by decide)]
 have e : cleanM [cutB, newB] M = (if cutB ∈ M.fs.map F.n then [⟨5, cutB, [], []⟩] else []) ++ (if newB ∈ fs1.map F.n then [⟨5, newB, [], []⟩] else []) := by
  have e1 : [cutB, newB] = ([] ++ [cutB]) ++ [newB] := rfl
  rw [e1, cleanM_snoc, cleanM_snoc]
  simp only [hmem]
  rfl
 rw [e]
 refine ⟨fs2, r1.append r2, fun n => ?_, Nat.le_trans l2.used l1.used, l2.sorted⟩
 rw [q2, q1]
 by_cases h1 : n = newB
 ·simp [h1]
 ·by_cases h2 : n = cutB
  ·simp [h2]
  ·simp [h1, h2]

theorem used_put_le (x : F) (fs : List F) : usedF (putN F.n x fs) ≤ usedF fs + x.b.length := by
 unfold putN
 rw [usedF_insN]
 have := usedF_delN x.n fs
 omega

theorem cut_run {recs : List (List Nat)} {room : Nat} {fs : List F} (hG : GL recs fs) (hs : Sorted fs) (hc : findN F.n cutB fs = none) (N : Nat) (l : List Nat) (hroom : usedF fs + l.length ≤ room)
  (hG' : ∀ fs', (∀ n, findN F.n n fs' = if n = nmB N then some ⟨nmB N, l, l.length⟩ else findN F.n n fs) → GL recs fs') :
  ∃ fs', Run (GL recs) room (cutOps (nmB N) l) fs fs' ∧ (∀ n, findN F.n n fs' = if n = nmB N then some ⟨nmB N, l, l.length⟩ else findN F.n n fs) ∧ Sorted fs' ∧ usedF fs' ≤ usedF fs + l.length := by
 have h1 : ∀ n, findN F.n n (putN F.n ⟨cutB, [], 0⟩ fs) = if n = cutB then some ⟨cutB, [], 0⟩ else findN F.n n fs := fun n => fd_put F.n n ⟨cutB, [], 0⟩ fs
 have u1 : usedF (putN F.n ⟨cutB, [], 0⟩ fs) ≤ usedF fs := used_put_le ⟨cutB, [], 0⟩ fs
 have s1 : Sorted (putN F.n ⟨cutB, [], 0⟩ fs) := put_sorted _ hs
 generalize hf1 : putN F.n ⟨cutB, [], 0⟩ fs = fs1 at *
 have c1 : findN F.n cutB fs1 = some ⟨cutB, [], 0⟩ := by rw [h1, if_pos rfl]
 have h2 : ∀ n, findN F.n n (setN F.n ⟨cutB, l, 0⟩ fs1) = if n = cutB then some ⟨cutB, l, 0⟩ else findN F.n n fs := fun n => by
  rw [fd_set, h1]
  by_cases e : n = cutB
  ·subst e; simp
  ·simp [e]
 have u2 : usedF (setN F.n ⟨cutB, l, 0⟩ fs1) ≤ usedF fs + l.length := by
  rw [setN_putN _ _ s1 (by show findN F.n cutB fs1 ≠ none; rw [c1]; simp)]
  have := used_put_le ⟨cutB, l, 0⟩ fs1
  simp only at this
  omega
 have s2 : Sorted (setN F.n ⟨cutB, l, 0⟩ fs1) := setN_sorted _ s1
 have o2 := op_append (room := room) cutB_named c1 l (by omega)
 simp only [List.nil_append] at o2
 generalize hf2 : setN F.n ⟨cutB, l, 0⟩ fs1 = fs2 at *
 have c2 : findN F.n cutB fs2 = some ⟨cutB, l, 0⟩ := by rw [h2, if_pos rfl]
 have o3 := op_sync (room := room) cutB_named c2
 simp only at o3
 have h3 : ∀ n, findN F.n n (setN F.n ⟨cutB, l, l.length⟩ fs2) = if n = cutB then some ⟨cutB, l, l.length⟩ else findN F.n n fs := fun n => by
  rw [fd_set, h2]
  by_cases e : n = cutB
  ·subst e; simp
  ·simp [e]
 have s3 : Sorted (setN F.n ⟨cutB, l, l.length⟩ fs2) := setN_sorted _ s2
 have u3 : usedF (setN F.n ⟨cutB, l, l.length⟩ fs2) ≤ usedF fs2 := by
  rw [setN_putN _ _ s2 (by show findN F.n cutB fs2 ≠ none; rw [c2]; simp)]
  unfold putN
  rw [usedF_insN]
  obtain ⟨m1, m2⟩ := findN_some c2
  have := usedF_delN_mem m1 m2
  simp only at this ⊢
  omega
 generalize hf3 : setN F.n ⟨cutB, l, l.length⟩ fs2 = fs3 at *
 have c3 : findN F.n cutB fs3 = some ⟨cutB, l, l.length⟩ := by rw [h3, if_pos rfl]
 have o4 := op_rename (room := room) cutB_named (nmB_named N) c3
 simp only at o4
 have h4 : ∀ n, findN F.n n (putN F.n ⟨nmB N, l, l.length⟩ (delN F.n cutB fs3)) = if n = nmB N then some ⟨nmB N, l, l.length⟩ else findN F.n n fs := fun n => by
  rw [fd_put, fd_del, h3]
  by_cases e : n = nmB N
  ·simp [e]
  ·simp only [e, if_false]
   by_cases e2 : n = cutB
   ·subst e2; simp [hc]
   ·simp [e2]
 have s4 : Sorted (putN F.n ⟨nmB N, l, l.length⟩ (delN F.n cutB fs3)) := put_sorted _ (del_sorted _ s3)
 have u4 : usedF (putN F.n ⟨nmB N, l, l.length⟩ (delN F.n cutB fs3)) ≤ usedF fs3 := by
  have h5 := used_put_le ⟨nmB N, l, l.length⟩ (delN F.n cutB fs3)
  obtain ⟨m1, m2⟩ := findN_some c3
  have := usedF_delN_mem m1 m2
  simp only at this h5
  omega
 have g : ∀ {fs' : List F} {x : F}, (∀ n, findN F.n n fs' = if n = cutB then some x else findN F.n n fs) → GL recs fs' := fun h => hG.same (fun N _ _ => by rw [h, if_neg (nmB_cut N)])
 refine ⟨_, .cons hG (by rw [op_create cutB_named hc, hf1]) (.cons (g h1) o2 (.cons (g h2) o3 (.cons (g h3) o4 (.nil (hG' _ h4))))), h4, s4, by omega⟩

theorem older_run {recs : List (List Nat)} {room : Nat} (rest : List PS) : ∀ (qs : List PS) (fs : List F), SegsC fs (qs ++ rest) → SegSync fs → Sorted fs → (∀ j fs', j ≤ qs.length → SegsC fs' (qs.drop j ++ rest) → SegSync fs' → GL recs fs') →
  ∃ fs', Run (GL recs) room (qs.map fun p => ⟨5, nmB p.n.toNat, [], []⟩) fs fs' ∧ SegsC fs' rest ∧ SegSync fs' ∧ (∀ n, (∀ N, n ≠ nmB N) → findN F.n n fs' = findN F.n n fs) ∧ Left fs fs' ∧ ∀ p ∈ rest, findN F.n (nmB p.n.toNat) fs' = findN F.n (nmB p.n.toNat) fs
 | [], fs, h1, h2, hs, hg => ⟨fs, .nil (hg 0 fs (Nat.le_refl _) h1 h2), h1, h2, fun _ _ => rfl, ⟨Nat.le_refl _, hs⟩, fun _ _ => rfl⟩
 | q :: qs, fs, h1, h2, hs, hg => by
  obtain ⟨N, b, e, g1, g2, g3, g4⟩ := h1.2.1 q (by simp)
  obtain ⟨f, hf, _⟩ := segC_some g3
  have hN : q.n.toNat = N := by rw [e]; rfl
  have hfd : ∀ n, findN F.n n (delN F.n (nmB N) fs) = if n = nmB N then none else findN F.n n fs := fun n => fd_del F.n n (nmB N) fs
  have hseg : SegsC (delN F.n (nmB N) fs) (qs ++ rest) := SegsC.tail (p := q) h1 (fun K k1 k2 => by
   unfold segC
   rw [hfd]
   by_cases h : K = N
   ·subst h; rw [if_pos rfl, if_pos e.symm]; rfl
   ·rw [if_neg (fun h' => h (nmB_inj k2 g2 h')), if_neg (by rw [e]; omega)])
  have hsy : SegSync (delN F.n (nmB N) fs) := fun K f' k1 k2 hf' => by
   rw [hfd] at hf'
   split at hf'
   ·cases hf'
   ·exact h2 K f' k1 k2 hf'
  obtain ⟨fs', r1, r2, r3, r4, r5, r6⟩ := older_run rest qs (delN F.n (nmB N) fs) hseg hsy (del_sorted _ hs) (fun j fs' hj => hg (j + 1) fs' (by rw [List.length_cons]; omega))
  refine ⟨fs', ?_, r2, r3, fun n hn => ?_, ⟨Nat.le_trans r5.used (usedF_delN _ _), r5.sorted⟩, fun p hp => ?_⟩
  ·rw [List.map_cons, hN]
   exact .cons (hg 0 fs (Nat.zero_le _) h1 h2) (op_remove (nmB_named N) hf) r1
  ·rw [r4 n hn, hfd, if_neg (hn N)]
  ·rw [r6 p hp, hfd, if_neg ?_]
   intro h
   have h3 := h1.1
   rw [List.cons_append, List.map_cons] at h3
   have h4 := (List.pairwise_cons.1 h3).1 p.n (List.mem_map.2 ⟨p, List.mem_append.2 (.inr hp), rfl⟩)
   obtain ⟨K, _, e2, k1, k2, _⟩ := h1.2.1 p (by simp [hp])
   rw [e2] at h h4
   have := nmB_inj k2 g2 h
   omega
end Go.Proofs.YtnbddiiedagllaaGreat

/- Opening a log, a crash, and opening it again, as plain data: the records stay. -/
namespace Go.Proofs.YtnbddiiedagllaaGreat
open Go.RowKit Go.Maps

theorem mem_le_sum : ∀ (l : List Nat) (x : Nat), x ∈ l → x ≤ l.sum
 | [], _, h => by cases h
 | y :: l, x, h => by
  rw [List.sum_cons]
  rcases List.mem_cons.1 h with rfl | h
  ·omega
  ·have := mem_le_sum l x h
   omega

theorem lastP_eq {ps : List PS} (h : 0 < ps.length) : ps = ps.take (ps.length - 1) ++ [lastP ps h] := by
 have h1 : ps.length - 1 < ps.length := by omega
 have h2 := List.take_append_drop (ps.length - 1) ps
 rw [List.drop_eq_getElem_cons h1, List.drop_of_length_le (by omega)] at h2
 exact h2.symm

theorem lastP_snoc (qs : List PS) (p : PS) (h : 0 < (qs ++ [p]).length) : lastP (qs ++ [p]) h = p := by
 unfold lastP
 rw [List.getElem_append_right (by simp)]
 simp

structure Final (N size : Nat) (recs : List (List Nat)) (fs : List F) (ps : List PS) : Prop where
 sync : SegSync fs
 cut : findN F.n cutB fs = none
 new : findN F.n newB fs = none
 segs : SegsC fs ps
 log : LogK ps 0 recs
 last : ∃ h : 0 < ps.length, (lastP ps h).n = (N : Int) ∧ (lastP ps h).t = [] ∧ (joinL (lastP ps h).ls).length = size

theorem segsC_find {fs : List F} {ps : List PS} (h : SegsC fs ps) {p : PS} (hp : p ∈ ps) {N : Nat} (hN : p.n = (N : Int)) : ∃ f, findN F.n (nmB N) fs = some f ∧ 1 ≤ N ∧ N ≤ 99999999 ∧ Splits f.b p.ls p.t := by
 obtain ⟨K, b, e, g1, g2, g3, g4⟩ := h.2.1 p hp
 obtain rfl : K = N := by rw [hN] at e; omega
 obtain ⟨f, hf, rfl⟩ := segC_some g3
 exact ⟨f, hf, g1, g2, g4⟩

theorem sync_run {recs : List (List Nat)} {room : Nat} {fs : List F} (hG : GL recs fs) {N : Nat} {f : F} (h1 : 1 ≤ N) (h2 : N ≤ 99999999) (hf : findN F.n (nmB N) fs = some f) : ∃ fs', Run (GL recs) room [⟨3, nmB N, [], []⟩] fs fs' ∧ ∀ n, findN F.n n fs' = findN F.n n fs := by
 have hd := hG.1 N f h1 h2 hf
 have hn := (findN_some hf).2
 have e : (⟨nmB N, f.b, f.b.length⟩ : F) = f := by
  obtain ⟨a, b, c⟩ := f
  simp only at hd hn
  rw [hn, hd]
 have hsame : ∀ n, findN F.n n (setN F.n ⟨nmB N, f.b, f.b.length⟩ fs) = findN F.n n fs := fun n => by
  rw [fd_set]
  by_cases h : n = nmB N
  ·subst h
   rw [if_pos rfl, hf, e]
   rfl
  ·rw [if_neg h]
 exact ⟨_, .cons hG (op_sync (nmB_named N) hf) (.nil (hG.same (fun K _ _ => hsame _))), hsame⟩

theorem rep_run {M : DM} {ps : List PS} (hs : SegsC M.fs ps) (hy : SegSync M.fs) (hso : Sorted M.fs) (hroom : 2 * usedF M.fs ≤ M.room) {ops : List SO} {N size : Nat} {recs : List (List Nat)} (h : RepOf M ps ops N size recs) :
  ∃ fs' ps', Run (GL recs) M.room ops M.fs fs' ∧ Final N size recs fs' ps' := by
 rcases h with ⟨rfl, rfl, rfl, rfl, rfl⟩ | ⟨k, hp, hk, hg, hN, rfl, rfl, rfl⟩
 ·have hG : GL [] M.fs := ⟨hy, [], hs, .inl ⟨rfl, rfl⟩⟩
  obtain ⟨fs1, r1, q1, l1⟩ := clean_run (room := M.room) hG hso
  have hno : ∀ K : Nat, 1 ≤ K → K ≤ 99999999 → findN F.n (nmB K) fs1 = none := by
   intro K k1 k2
   rw [q1, if_neg (fun h => h.elim (nmB_cut K) (nmB_new K))]
   cases hf : findN F.n (nmB K) M.fs with
   | none => rfl
   | some f => exact absurd (hs.2.2 K k1 k2 (by unfold segC; rw [hf]; simp)) (by simp)
  have hfd : ∀ n, findN F.n n (putN F.n ⟨nmB 1, [], 0⟩ fs1) = if n = nmB 1 then some ⟨nmB 1, [], 0⟩ else findN F.n n fs1 := fun n => fd_put F.n n ⟨nmB 1, [], 0⟩ fs1
  have hsy : SegSync (putN F.n ⟨nmB 1, [], 0⟩ fs1) := fun K f k1 k2 hf => by
   rw [hfd] at hf
   split at hf
   ·cases hf; rfl
   ·rw [hno K k1 k2] at hf; cases hf
  have hse : SegsC (putN F.n ⟨nmB 1, [], 0⟩ fs1) [⟨1, [], []⟩] := by
   refine ⟨by unfold Asc; simp, fun p hp => ?_, fun K k1 k2 hK => ?_⟩
   ·rw [List.mem_singleton.1 hp]
    refine ⟨1, [], rfl, Nat.le_refl _, by decide, ?_, splits_all [] (fun r hr => by cases hr)⟩
    unfold segC
    rw [hfd, if_pos rfl]
    rfl
   ·unfold segC at hK
    rw [hfd] at hK
    by_cases e : nmB K = nmB 1
    ·have := nmB_inj k2 (by decide) e
     subst this
     simp
    ·rw [if_neg e, hno K k1 k2] at hK
     exact absurd rfl hK
  have hlog : LogK [(⟨1, [], []⟩ : PS)] 0 [] := by
   refine ⟨⟨by simp, fun i hi hlt => by simp at hi; omega, .inl rfl⟩, fun i hi => ?_, rfl⟩
   obtain rfl : i = 0 := by simpa using hi
   exact ⟨fun h => absurd h (Nat.lt_irrefl _), fun _ => rfl, by simp [PS.recs, restOf, markOf]⟩
  have hGe : GL [] (putN F.n ⟨nmB 1, [], 0⟩ fs1) := ⟨hsy, _, hse, .inr ⟨0, hlog⟩⟩
  refine ⟨_, _, r1.append (.cons r1.last (op_create (nmB_named 1) (hno 1 (Nat.le_refl _) (by decide))) (.nil hGe)), hsy, ?_, ?_, hse, hlog, by simp, rfl, rfl, rfl⟩
  ·rw [hfd, if_neg (nmB_cut 1).symm, q1, if_pos (.inl rfl)]
  ·rw [hfd, if_neg (nmB_new 1).symm, q1, if_pos (.inr rfl)]
 ·have hlog : LogK ps k (recsL (ps.drop k)) := ⟨hk, hg, rfl⟩
  have hG : GL (recsL (ps.drop k)) M.fs := ⟨hy, ps, hs, .inr ⟨k, hlog⟩⟩
  obtain ⟨fs1, r1, q1, l1⟩ := clean_run (room := M.room) hG hso
  have hsame1 : ∀ K : Nat, 1 ≤ K → K ≤ 99999999 → findN F.n (nmB K) fs1 = findN F.n (nmB K) M.fs := fun K _ _ => by rw [q1, if_neg (fun h => h.elim (nmB_cut K) (nmB_new K))]
  have hs1 : SegsC fs1 ps := hs.same (fun K k1 k2 => segC_same hsame1 k1 k2)
  have hy1 := segSync_same hy hsame1
  have hc1 : findN F.n cutB fs1 = none := by rw [q1, if_pos (.inl rfl)]
  have hn1 : findN F.n newB fs1 = none := by rw [q1, if_pos (.inr rfl)]
  have hps := lastP_eq hp
  generalize hqs : ps.take (ps.length - 1) = qs at hps
  generalize hlp : lastP ps hp = p at hps hN
  have hpm : p ∈ ps := by rw [hps]; simp
  have hkq : k ≤ qs.length := by
   have h1 := hk.1
   rw [hps, List.length_append] at h1
   simp at h1
   omega
  obtain ⟨fl, hfl, n1, n2, hsp⟩ := segsC_find hs1 hpm hN
  -- cut
  have key2 : ∃ fs2, Run (GL (recsL (ps.drop k))) M.room (if p.t.length = 0 then [] else cutOps (nmB N) (joinL p.ls)) fs1 fs2 ∧ SegsC fs2 (qs ++ [⟨p.n, p.ls, []⟩]) ∧ SegSync fs2 ∧ Sorted fs2 ∧ findN F.n cutB fs2 = none ∧ findN F.n newB fs2 = none := by
   by_cases hT : p.t.length = 0
   ·rw [if_pos hT]
    have ht : p.t = [] := List.length_eq_zero_iff.1 hT
    have e : qs ++ [(⟨p.n, p.ls, []⟩ : PS)] = ps := by
     rw [hps]
     congr 2
     rw [← ht]
    exact ⟨fs1, .nil r1.last, by rw [e]; exact hs1, hy1, l1.sorted, hc1, hn1⟩
   ·rw [if_neg hT]
    have hlen := congrArg List.length hsp.eq
    rw [List.length_append] at hlen
    have hle : fl.b.length ≤ usedF fs1 := by
     unfold usedF
     exact mem_le_sum (fs1.map fun f => f.b.length) _ (List.mem_map.2 ⟨fl, (findN_some hfl).1, rfl⟩)
    have hu := l1.used
    have hspec : ∀ fs' : List F, (∀ n, findN F.n n fs' = if n = nmB N then some ⟨nmB N, joinL p.ls, (joinL p.ls).length⟩ else findN F.n n fs1) → SegsC fs' (qs ++ [⟨p.n, p.ls, []⟩]) ∧ SegSync fs' := by
     intro fs' hq
     refine ⟨SegsC.cut (p := p) (by rw [← hps]; exact hs1) (fun K k1 k2 => ?_), fun K f k1 k2 hf => ?_⟩
     ·unfold segC
      rw [hq]
      by_cases e : K = N
      ·subst e; rw [if_pos rfl, if_pos hN.symm]; rfl
      ·rw [if_neg (fun h => e (nmB_inj k2 n2 h)), if_neg (by rw [hN]; omega)]
     ·rw [hq] at hf
      split at hf
      ·cases hf; rfl
      ·exact hy1 K f k1 k2 hf
    have hlogc : LogK (qs ++ [⟨p.n, p.ls, []⟩]) k (recsL (ps.drop k)) := LogK.cut (by rw [← hps]; exact hlog)
    obtain ⟨fs2, r2, q2, s2, u2⟩ := cut_run (room := M.room) r1.last l1.sorted hc1 N (joinL p.ls) (by omega) (fun fs' hq => ⟨(hspec fs' hq).2, _, (hspec fs' hq).1, .inr ⟨k, hlogc⟩⟩)
    exact ⟨fs2, r2, (hspec fs2 q2).1, (hspec fs2 q2).2, s2, by rw [q2, if_neg (nmB_cut N).symm, hc1], by rw [q2, if_neg (nmB_new N).symm, hn1]⟩
  obtain ⟨fs2, r2, hs2, hy2, so2, hc2, hn2⟩ := key2
  have hlog2 : LogK (qs ++ [⟨p.n, p.ls, []⟩]) k (recsL (ps.drop k)) := LogK.cut (by rw [← hps]; exact hlog)
  generalize hps2 : qs ++ [(⟨p.n, p.ls, []⟩ : PS)] = ps2 at hs2 hlog2
  have hl2 : ps2.length = qs.length + 1 := by rw [← hps2]; simp
  -- older
  obtain ⟨fs3, r3, hs3, hy3, hk3, l3, hm3⟩ := older_run (recs := recsL (ps.drop k)) (room := M.room) (ps2.drop k) (ps2.take k) fs2 (by rw [List.take_append_drop]; exact hs2) hy2 so2 (fun j fs' hj hsj hyj => by
   rw [List.length_take] at hj
   have e : (ps2.take k).drop j ++ ps2.drop k = ps2.drop j := by
    conv => rhs; rw [← List.take_append_drop k ps2]
    rw [List.drop_append_of_le_length (by rw [List.length_take]; omega)]
   rw [e] at hsj
   exact ⟨hyj, _, hsj, .inr ⟨_, hlog2.drop (j := j) (by omega)⟩⟩)
  have hlog3 : LogK (ps2.drop k) 0 (recsL (ps.drop k)) := by
   have := hlog2.drop (j := k) (Nat.le_refl _)
   rwa [Nat.sub_self] at this
  have hlast3 : (⟨p.n, p.ls, []⟩ : PS) ∈ ps2.drop k := by
   rw [← hps2, List.drop_append_of_le_length hkq]
   simp
  obtain ⟨f3, hf3, _, _, hsp3⟩ := segsC_find hs3 hlast3 (N := N) hN
  -- sync
  obtain ⟨fs4, r4, q4⟩ := sync_run (room := M.room) r3.last n1 n2 hf3
  have hnum : (ps2.take k).map (fun p => (⟨5, nmB p.n.toNat, [], []⟩ : SO)) = ((ps.take k).map PS.n).map fun n => ⟨5, nmB n.toNat, [], []⟩ := by
   rw [List.map_map, ← hps2, hps, List.take_append_of_le_length hkq, List.take_append_of_le_length hkq]
   rfl
  have hrun := ((r1.append r2).append r3).append r4
  rw [hnum] at hrun
  refine ⟨fs4, ps2.drop k, hrun, segSync_same hy3 (fun K _ _ => q4 _), ?_, ?_, hs3.same (fun K k1 k2 => segC_same (fun K _ _ => q4 _) k1 k2), hlog3, ?_⟩
  ·rw [q4, hk3 cutB (fun K => (nmB_cut K).symm), hc2]
  ·rw [q4, hk3 newB (fun K => (nmB_new K).symm), hn2]
  ·have hd : ps2.drop k = qs.drop k ++ [⟨p.n, p.ls, []⟩] := by rw [← hps2, List.drop_append_of_le_length hkq]
   rw [hd]
   refine ⟨by simp, ?_⟩
   rw [lastP_snoc]
   exact ⟨hN, rfl, rfl⟩
end Go.Proofs.YtnbddiiedagllaaGreat

/- What Put makes of a log whose segments are durable, whichever number its first one has. -/
namespace Go.Proofs.YtnbddiiedagllaaGreat
open Go.RowKit Go.Maps

theorem sizeL_memC : ∀ {ls : List (List Nat)} {r : List Nat}, r ∈ ls → r.length ≤ sizeL ls
 | l :: ls, r, h => by
  rw [sizeL_cons]
  rcases List.mem_cons.1 h with rfl | h
  ·omega
  ·have := sizeL_memC h
   omega

theorem SegsC.more {fs fs' : List F} {ps : List PS} (h : SegsC fs ps) {N : Nat} {ls : List (List Nat)} {b : List Nat} (h1 : 1 ≤ N) (h2 : N ≤ 99999999) (hlt : ∀ p ∈ ps, p.n < (N : Int)) (hsp : Splits b ls [])
  (he : ∀ K : Nat, 1 ≤ K → K ≤ 99999999 → segC fs' K = if K = N then some b else segC fs K) : SegsC fs' (ps ++ [⟨N, ls, []⟩]) := by
 obtain ⟨g1, g2, g3⟩ := h
 refine ⟨?_, fun p hp => ?_, fun K k1 k2 k3 => ?_⟩
 ·rw [List.map_append]
  refine List.pairwise_append.2 ⟨g1, List.pairwise_singleton _ _, fun x hx y hy => ?_⟩
  obtain ⟨p, hp, rfl⟩ := List.mem_map.1 hx
  rw [List.map_cons, List.map_nil, List.mem_singleton] at hy
  subst hy
  exact hlt p hp
 ·rcases List.mem_append.1 hp with hp | hp
  ·obtain ⟨K, b', e, k1, k2, k3, k4⟩ := g2 p hp
   have := hlt p hp
   exact ⟨K, b', e, k1, k2, by rw [he K k1 k2, if_neg (by omega)]; exact k3, k4⟩
  ·rw [List.mem_singleton] at hp
   subst hp
   exact ⟨N, b, rfl, h1, h2, by rw [he N h1 h2, if_pos rfl], hsp⟩
 ·rw [List.map_append, List.mem_append]
  by_cases hk : K = N
  ·subst hk
   exact .inr (by simp)
  ·exact .inl (g3 K k1 k2 (by rwa [he K k1 k2, if_neg hk] at k3))

theorem SegsC.last {fs fs' : List F} {p : PS} {qs : List PS} (h : SegsC fs (qs ++ [p])) {ls : List (List Nat)} (hls : ∀ r ∈ ls, r.length ≤ 1048576) (he : ∀ N : Nat, 1 ≤ N → N ≤ 99999999 → segC fs' N = if (N : Int) = p.n then some (joinL ls) else segC fs N) : SegsC fs' (qs ++ [⟨p.n, ls, []⟩]) := by
 obtain ⟨h1, h2, h3⟩ := h
 have hm : (qs ++ [(⟨p.n, ls, []⟩ : PS)]).map PS.n = (qs ++ [p]).map PS.n := by simp
 refine ⟨by rw [hm]; exact h1, fun q hq => ?_, fun N g1 g2 g3 => ?_⟩
 ·rcases List.mem_append.1 hq with hq | hq
  ·obtain ⟨N, b, e, g1, g2, g3, g4⟩ := h2 q (List.mem_append.2 (.inl hq))
   refine ⟨N, b, e, g1, g2, ?_, g4⟩
   rw [he N g1 g2, if_neg ?_]
   ·exact g3
   ·intro h
    unfold Asc at h1
    rw [List.map_append, List.pairwise_append] at h1
    have := h1.2.2 q.n (List.mem_map.2 ⟨q, hq, rfl⟩) p.n (by simp)
    omega
  ·obtain rfl := List.mem_singleton.1 hq
   obtain ⟨N, b, e, g1, g2, g3, g4⟩ := h2 p (by simp)
   refine ⟨N, joinL ls, e, g1, g2, ?_, splits_all _ hls⟩
   rw [he N g1 g2, if_pos e.symm]
 ·rw [hm]
  rw [he N g1 g2] at g3
  by_cases hN : (N : Int) = p.n
  ·rw [hN]; simp
  ·rw [if_neg hN] at g3
   exact h3 N g1 g2 g3

theorem restOf_snoc (ls : List (List Nat)) {l : List Nat} (hl : l ≠ []) : markOf (ls ++ [l]) = markOf ls ∧ restOf (ls ++ [l]) = restOf ls ++ [l] := by
 cases ls with
 | nil =>
  have hm : markOf [l] = false := decide_eq_false hl
  exact ⟨hm, by show restOf [l] = _; unfold restOf; rw [hm]; rfl⟩
 | cons r ls =>
  refine ⟨rfl, ?_⟩
  have e : markOf (r :: ls ++ [l]) = markOf (r :: ls) := rfl
  unfold restOf
  rw [e]
  split <;> rfl

theorem LogK.more {qs : List PS} {p : PS} {recs : List (List Nat)} (h : LogK (qs ++ [p]) 0 recs) (ht : p.t = []) {l : List Nat} (hl : l ≠ []) {N : Nat} (hN : (N : Int) = p.n + 1) : LogK (qs ++ [p] ++ [⟨N, [l], []⟩]) 0 (recs ++ [l]) := by
 have hr := restOf_snoc [] hl
 obtain ⟨⟨h1, h2, h3⟩, h4, h5⟩ := h
 rw [List.drop_zero] at h4 h5
 have hlen : (qs ++ [p] ++ [(⟨N, [l], []⟩ : PS)]).length = (qs ++ [p]).length + 1 := by simp
 have hat : ∀ i (hi : i < (qs ++ [p]).length), (qs ++ [p] ++ [(⟨N, [l], []⟩ : PS)])[i]'(by omega) = (qs ++ [p])[i] := fun i hi => List.getElem_append_left hi
 have hlast : (qs ++ [p] ++ [(⟨N, [l], []⟩ : PS)])[(qs ++ [p]).length]'(by omega) = ⟨N, [l], []⟩ := by simp
 have hp : (qs ++ [p])[(qs ++ [p]).length - 1]'(by simp) = p := by simp
 refine ⟨⟨by omega, fun i hi hlt => ?_, .inl rfl⟩, ?_, ?_⟩
 ·by_cases hc : i < (qs ++ [p]).length
  ·rw [hat i hc]; exact h2 i hc hlt
  ·obtain rfl : i = (qs ++ [p]).length := by omega
   rw [hlast]
   exact hr.1
 ·rw [List.drop_zero]
  intro i hi
  by_cases hc : i < (qs ++ [p]).length
  ·obtain ⟨k1, k2, k3⟩ := h4 i hc
   refine ⟨fun h0 => ?_, fun _ => ?_, ?_⟩
   ·rw [hat i hc, hat (i - 1) (by omega)]; exact k1 h0
   ·rw [hat i hc]
    by_cases hc2 : i + 1 < (qs ++ [p]).length
    ·exact k2 hc2
    ·obtain rfl : i = (qs ++ [p]).length - 1 := by omega
     rw [hp]; exact ht
   ·rw [hat i hc]; exact k3
  ·obtain rfl : i = (qs ++ [p]).length := by omega
   refine ⟨fun h0 => ?_, fun hx => by omega, ?_⟩
   ·rw [hlast, hat _ (by omega), hp]; exact hN
   ·rw [hlast]
    show [] ∉ restOf [l]
    have e : restOf [l] = [l] := hr.2
    rw [e]
    simpa using hl
 ·rw [List.drop_zero, recsL_snoc, ← h5]
  show recs ++ [l] = recs ++ restOf [l]
  have e : restOf [l] = [l] := hr.2
  rw [e]

theorem LogK.last {qs : List PS} {p : PS} {recs : List (List Nat)} (h : LogK (qs ++ [p]) 0 recs) {l : List Nat} (hl : l ≠ []) : LogK (qs ++ [⟨p.n, p.ls ++ [l], []⟩]) 0 (recs ++ [l]) := by
 obtain ⟨hm, hr⟩ := restOf_snoc p.ls hl
 obtain ⟨⟨h1, h2, h3⟩, h4, h5⟩ := h
 rw [List.drop_zero] at h4 h5
 have hlen : (qs ++ [(⟨p.n, p.ls ++ [l], []⟩ : PS)]).length = (qs ++ [p]).length := by simp
 have hq : (qs ++ [p]).length = qs.length + 1 := by simp
 have hat : ∀ i (hi : i < qs.length), (qs ++ [(⟨p.n, p.ls ++ [l], []⟩ : PS)])[i]'(by omega) = (qs ++ [p])[i]'(by omega) := fun i hi => by
  rw [List.getElem_append_left hi, List.getElem_append_left hi]
 have hl1 : (qs ++ [(⟨p.n, p.ls ++ [l], []⟩ : PS)])[qs.length]'(by omega) = ⟨p.n, p.ls ++ [l], []⟩ := by simp
 have hl2 : (qs ++ [p])[qs.length]'(by omega) = p := by simp
 refine ⟨⟨by omega, fun i hi hlt => ?_, .inl rfl⟩, ?_, ?_⟩
 ·by_cases hc : i < qs.length
  ·rw [hat i hc]; exact h2 i (by omega) hlt
  ·obtain rfl : i = qs.length := by omega
   rw [hl1]
   show markOf (p.ls ++ [l]) = false
   rw [hm]
   have := h2 qs.length (by omega) hlt
   rw [hl2] at this
   exact this
 ·rw [List.drop_zero]
  intro i hi
  by_cases hc : i < qs.length
  ·obtain ⟨k1, k2, k3⟩ := h4 i (by omega)
   refine ⟨fun h0 => ?_, fun h0 => ?_, ?_⟩
   ·rw [hat i hc, hat (i - 1) (by omega)]; exact k1 h0
   ·rw [hat i hc]; exact k2 (by omega)
   ·rw [hat i hc]; exact k3
  ·obtain rfl : i = qs.length := by omega
   obtain ⟨k1, k2, k3⟩ := h4 qs.length (by omega)
   refine ⟨fun h0 => ?_, fun hx => by omega, ?_⟩
   ·have := k1 h0
    rw [hl2] at this
    rw [hl1, hat (qs.length - 1) (by omega)]; exact this
   ·rw [hl1]
    show [] ∉ restOf (p.ls ++ [l])
    rw [hr]
    rw [hl2] at k3
    intro hx
    rcases List.mem_append.1 hx with hx | hx
    ·exact k3 hx
    ·exact hl (List.mem_singleton.1 hx).symm
 ·rw [List.drop_zero, recsL_snoc]
  rw [recsL_snoc] at h5
  show recs ++ [l] = recsL qs ++ restOf (p.ls ++ [l])
  rw [hr, h5, List.append_assoc]
  rfl

set_option maxHeartbeats 1600000 in
theorem put_final {W : WM} {recs : List (List Nat)} {ps : List PS} (hF : Final W.n W.size recs W.D.fs ps) (hd : W.D.down = false) (hpl : W.D.plan = 0) (hs : Sorted W.D.fs) (hn : W.n < 99999999) (l : List Nat) (hroom : usedF W.D.fs + (l.length + 8) ≤ W.D.room) :
  ((putW W l).2 ≠ 0 ∧ (putW W l).1 = W) ∨ ((putW W l).2 = 0 ∧ (putW W l).1.D.down = false ∧ ∃ ps', SegsC (putW W l).1.D.fs ps' ∧ LogK ps' 0 (recs ++ [l])) := by
 obtain ⟨⟨room, fs, down, plan⟩, most, n, size, wait⟩ := W
 simp only at *
 subst hd hpl
 obtain ⟨hp, h1, h2, h3⟩ := hF.last
 obtain ⟨qs, p, rfl⟩ : ∃ qs p, ps = qs ++ [p] := ⟨ps.dropLast, ps.getLast (by intro e; rw [e] at hp; exact absurd hp (by simp)), (List.dropLast_concat_getLast _).symm⟩
 have hlp : lastP (qs ++ [p]) hp = p := by unfold lastP; simp
 rw [hlp] at h1 h2 h3
 obtain ⟨f, hf, g1, g2, g3⟩ := segsC_find hF.segs (p := p) (by simp) h1
 rw [h2] at g3
 have hfb : f.b = joinL p.ls := by have := g3.eq; rwa [List.append_nil] at this
 have hfd := hF.sync n f g1 g2 hf
 have hlt : ∀ q ∈ qs ++ [p], q.n < ((n + 1 : Nat) : Int) := fun q hq => by
  have hA := hF.segs.1
  unfold Asc at hA
  rcases List.mem_append.1 hq with hq | hq
  ·rw [List.map_append, List.pairwise_append] at hA
   have := hA.2.2 q.n (List.mem_map.2 ⟨q, hq, rfl⟩) p.n (by simp)
   omega
  ·rw [List.mem_singleton] at hq
   subst hq
   omega
 unfold putW
 by_cases hl : l = []
 ·rw [if_pos hl]; exact .inl ⟨by show (2 : Int) ≠ 0; decide, rfl⟩
 rw [if_neg hl]
 dsimp only
 by_cases hbig : 1048576 < l.length ∨ most < ((l.length + 8 : Nat) : Int)
 ·rw [if_pos hbig]; exact .inl ⟨by show (4 : Int) ≠ 0; decide, rfl⟩
 rw [if_neg hbig]
 have hl2 : l.length ≤ 1048576 := by omega
 right
 by_cases hrot : 0 < size ∧ most < ((size + (l.length + 8) : Nat) : Int)
 ·rw [if_pos hrot]
  have e1 : syncM (nmB n) ⟨room, fs, false, 0⟩ = (⟨room, setN F.n ⟨nmB n, f.b, f.b.length⟩ fs, false, 0⟩, 0) := op_sync (room := room) (nmB_named n) hf
  have s1 : ∀ k, findN F.n k (setN F.n ⟨nmB n, f.b, f.b.length⟩ fs) = findN F.n k fs := fun k => by
   rw [fd_set]
   split
   ·next e =>
    have e' : k = nmB n := e
    rw [e', hf, Option.map_some, ← hfd]
    have hfn := (findN_some hf).2
    show some (⟨nmB n, f.b, f.d⟩ : F) = some f
    rw [← hfn]
   ·rfl
  have u1 : usedF (setN F.n ⟨nmB n, f.b, f.b.length⟩ fs) ≤ usedF fs := by
   rw [setN_putN _ _ hs (by show findN F.n (nmB n) fs ≠ none; rw [hf]; simp)]
   unfold putN
   rw [usedF_insN]
   obtain ⟨m1, m2⟩ := findN_some hf
   have := usedF_delN_mem m1 m2
   simp only at this ⊢
   omega
  generalize hfs1 : setN F.n ⟨nmB n, f.b, f.b.length⟩ fs = fs1 at *
  have hno : findN F.n (nmB (n + 1)) fs1 = none := by
   rw [s1]
   cases hx : findN F.n (nmB (n + 1)) fs with
   | none => rfl
   | some y =>
    have := hF.segs.2.2 (n + 1) (by omega) (by omega) (by unfold segC; rw [hx]; simp)
    obtain ⟨q, hq, e⟩ := List.mem_map.1 this
    have := hlt q hq
    omega
  have e2 : createM (nmB (n + 1)) ⟨room, fs1, false, 0⟩ = (⟨room, putN F.n ⟨nmB (n + 1), [], 0⟩ fs1, false, 0⟩, 0) := op_create (room := room) (nmB_named (n + 1)) hno
  have s2 : ∀ k, findN F.n k (putN F.n ⟨nmB (n + 1), [], 0⟩ fs1) = if k = nmB (n + 1) then some ⟨nmB (n + 1), [], 0⟩ else findN F.n k fs := fun k => by rw [fd_put, s1]
  have u2 : usedF (putN F.n ⟨nmB (n + 1), [], 0⟩ fs1) ≤ usedF fs := by have := used_put_le ⟨nmB (n + 1), [], 0⟩ fs1; simp only [List.length_nil] at this; omega
  generalize hfs2 : putN F.n ⟨nmB (n + 1), [], 0⟩ fs1 = fs2 at *
  have hf2 : findN F.n (nmB (n + 1)) fs2 = some ⟨nmB (n + 1), [], 0⟩ := by rw [s2, if_pos rfl]
  have e3 : appendM (nmB (n + 1)) (frameL l) ⟨room, fs2, false, 0⟩ = (⟨room, setN F.n ⟨nmB (n + 1), frameL l, 0⟩ fs2, false, 0⟩, 0) := by
   have h := op_append (room := room) (nmB_named (n + 1)) hf2 (frameL l) (by rw [frameL_len]; omega)
   rw [List.nil_append] at h
   exact h
  have er : rotW ⟨⟨room, fs, false, 0⟩, most, n, size, wait⟩ = (⟨⟨room, fs2, false, 0⟩, most, n + 1, 0, 0⟩, 0) := by
   unfold rotW
   rw [if_neg (by show ¬ 99999999 ≤ n; omega)]
   dsimp only
   rw [e1]
   dsimp only
   rw [if_neg (by decide), e2]
   dsimp only
   rw [if_neg (by decide)]
  rw [er, if_neg (by show ¬ ((0 : Int) ≠ 0); decide)]
  have ea : appW ⟨⟨room, fs2, false, 0⟩, most, n + 1, 0, 0⟩ l = (⟨⟨room, setN F.n ⟨nmB (n + 1), frameL l, 0⟩ fs2, false, 0⟩, most, n + 1, 0 + (l.length + 8), 0 + 1⟩, 0) := by
   unfold appW
   dsimp only
   rw [e3, if_pos rfl]
  rw [ea]
  refine ⟨rfl, rfl, _, SegsC.more hF.segs (N := n + 1) (ls := [l]) (b := joinL [l]) (by omega) (by omega) hlt (splits_all _ (fun r hr => by rw [List.mem_singleton] at hr; rw [hr]; exact hl2)) (fun K k1 k2 => ?_), LogK.more hF.log h2 hl (by rw [h1]; omega)⟩
  unfold segC
  rw [fd_set, s2]
  by_cases hk : K = n + 1
  ·subst hk
   simp [joinL_cons, joinL_nil]
  ·have : nmB K ≠ nmB (n + 1) := fun e => hk (nmB_inj k2 (by omega) e)
   simp [this, hk]
 ·rw [if_neg hrot]
  have e3 : appendM (nmB n) (frameL l) ⟨room, fs, false, 0⟩ = (⟨room, setN F.n ⟨nmB n, f.b ++ frameL l, f.d⟩ fs, false, 0⟩, 0) := op_append (room := room) (nmB_named n) hf (frameL l) (by rw [frameL_len]; omega)
  have ea : appW ⟨⟨room, fs, false, 0⟩, most, n, size, wait⟩ l = (⟨⟨room, setN F.n ⟨nmB n, f.b ++ frameL l, f.d⟩ fs, false, 0⟩, most, n, size + (l.length + 8), wait + 1⟩, 0) := by
   unfold appW
   dsimp only
   rw [e3, if_pos rfl]
  rw [ea]
  refine ⟨rfl, rfl, _, SegsC.last hF.segs (ls := p.ls ++ [l]) (fun r hr => ?_) (fun K k1 k2 => ?_), LogK.last hF.log hl⟩
  ·rcases List.mem_append.1 hr with hr | hr
   ·exact g3.recs r hr
   ·rw [List.mem_singleton] at hr; rw [hr]; exact hl2
  ·unfold segC
   rw [fd_set, joinL_snoc, ← hfb]
   by_cases hk : K = n
   ·subst hk
    rw [h1]
    simp [hf]
   ·have : nmB K ≠ nmB n := fun e => hk (nmB_inj k2 g2 e)
    have h' : ¬ (K : Int) = p.n := by omega
    simp [this, h']
end Go.Proofs.YtnbddiiedagllaaGreat

/- Worth: the bytes of the segments of a disk against the cost. -/
namespace Go.Proofs.YtnbddiiedagllaaGreat
open Go.RowKit Go.Maps Go.Shelf

def bytesM (M : DM) (out : List Int) : Nat := (out.map fun x => (readM (nmB x.toNat) M).1.length).sum

end Go.Proofs.YtnbddiiedagllaaGreat

/- The reference's number of bytes of all segments. -/
namespace Go.Proofs.YtnbddiiedagllaaGreat
open Go.RowKit Go.Maps Go.Shelf

def segLen (f : F) : Nat := if 0 < segNum (nmL f.n) then f.b.length else 0
def segF (fs : List F) : Nat := (fs.map segLen).sum
end Go.Proofs.YtnbddiiedagllaaGreat

