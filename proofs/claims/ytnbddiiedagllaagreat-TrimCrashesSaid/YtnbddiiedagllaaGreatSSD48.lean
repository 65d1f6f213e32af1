import Derived.Test.YtnbddiiedagllaaGreatSSD31
import Derived.Test.YtnbddiiedagllaaGreatSSD34
import Derived.Test.YtnbddiiedagllaaGreatSSD33
import Derived.Test.YtnbddiiedagllaaGreatSSD47
/- Runs of changes that succeed: whatever failure is planned, what is left is what some of them have made. -/
namespace Go.Proofs.YtnbddiiedagllaaGreat
open Go.RowKit Go.Maps

inductive Run (G : List F → Prop) (room : Nat) : List SO → List F → List F → Prop
 | nil {fs : List F} : G fs → Run G room [] fs fs
 | cons {x : SO} {ops : List SO} {fs fs1 fs2 : List F} : G fs → soM x ⟨room, fs, false, 0⟩ = (⟨room, fs1, false, 0⟩, 0) → Run G room ops fs1 fs2 → Run G room (x :: ops) fs fs2

theorem Run.first {G : List F → Prop} {room : Nat} {ops : List SO} {fs fs2 : List F} (h : Run G room ops fs fs2) : G fs := by
 cases h with
 | nil h => exact h
 | cons h _ _ => exact h

theorem Run.last {G : List F → Prop} {room : Nat} {ops : List SO} {fs fs2 : List F} (h : Run G room ops fs fs2) : G fs2 := by
 induction h with
 | nil h => exact h
 | cons _ _ _ ih => exact ih

theorem Run.append {G : List F → Prop} {room : Nat} {a b : List SO} {fs fs1 fs2 : List F} (h : Run G room a fs fs1) (k : Run G room b fs1 fs2) : Run G room (a ++ b) fs fs2 := by
 induction h with
 | nil _ => exact k
 | cons hg hs _ ih => exact .cons hg hs (ih k)

theorem Run.mono {G G' : List F → Prop} (hG : ∀ fs, G fs → G' fs) {room : Nat} {a : List SO} {fs fs1 : List F} (h : Run G room a fs fs1) : Run G' room a fs fs1 := by
 induction h with
 | nil h => exact .nil (hG _ h)
 | cons hg hs _ ih => exact .cons (hG _ hg) hs ih

theorem soM_plan (x : SO) {M : DM} {fs1 : List F} (hd : M.down = false) (h : soM x ⟨M.room, M.fs, false, 0⟩ = (⟨M.room, fs1, false, 0⟩, 0)) :
  (M.plan = 1 ∧ (soM x M).2 = 10 ∧ (soM x M).1.fs = M.fs ∧ (soM x M).1.down = true ∧ (soM x M).1.room = M.room) ∨ (M.plan ≠ 1 ∧ soM x M = (⟨M.room, fs1, false, M.plan - 1⟩, 0)) := by
 obtain ⟨room, fs, down, plan⟩ := M
 simp only at *
 subst hd
 by_cases hp : plan = 1
 ·subst hp
  refine .inl ⟨rfl, ?_⟩
  have hf : failM ⟨room, fs, false, 1⟩ = ⟨room, fs, true, 0⟩ := rfl
  unfold soM stepM createM appendM syncM renameM removeM chgM
  rw [hf]
  simp only [if_true]
  split
  ·exact ⟨rfl, rfl, rfl, rfl⟩
  ·split
   ·exact ⟨rfl, rfl, rfl, rfl⟩
   ·split
    ·exact ⟨rfl, rfl, rfl, rfl⟩
    ·split <;> exact ⟨rfl, rfl, rfl, rfl⟩
 ·refine .inr ⟨hp, ?_⟩
  have hf : failM ⟨room, fs, false, plan⟩ = ⟨room, fs, false, plan - 1⟩ := by
   unfold failM
   simp only [Bool.false_eq_true, if_false, if_neg hp]
  have hf0 : failM ⟨room, fs, false, 0⟩ = ⟨room, fs, false, 0⟩ := rfl
  have key : ∀ q : Nat, chgM ⟨room, fs, false, q⟩ = chgM ⟨room, fs, false, q⟩ := fun _ => rfl
  clear key
  unfold soM stepM createM appendM syncM renameM removeM chgM onM at h ⊢
  rw [hf]
  rw [hf0] at h
  simp only [Bool.false_eq_true, if_false] at h ⊢
  by_cases hn : named x.nm = true
  ·simp only [hn, if_true] at h ⊢
   cases hfd : findN F.n x.nm fs with
   | none => simp only [hfd] at h ⊢; (split at h <;> (try split at h) <;> (try split at h) <;> (try split at h) <;> simp_all)
   | some f => simp only [hfd] at h ⊢; (split at h <;> (try split at h) <;> (try split at h) <;> (try split at h) <;> (try split at h) <;> simp_all)
  ·simp only [hn] at h ⊢
   (split at h <;> (try split at h) <;> (try split at h) <;> (try split at h) <;> simp_all)

theorem Run.steps {G : List F → Prop} {room : Nat} {ops : List SO} {fs fs2 : List F} (h : Run G room ops fs fs2) : ∀ M : DM, M.room = room → M.fs = fs → M.down = false →
  G (stepsM ops M).1.fs ∧ (stepsM ops M).1.room = room ∧ (((stepsM ops M).2 = 0 ∧ (stepsM ops M).1.fs = fs2 ∧ (stepsM ops M).1.down = false) ∨ ((stepsM ops M).2 = 10 ∧ M.plan ≠ 0 ∧ (stepsM ops M).1.down = true)) ∧ (M.plan = 0 → (stepsM ops M).1.plan = 0) := by
 induction h with
 | nil h => rintro M rfl rfl hd; exact ⟨h, rfl, .inl ⟨rfl, rfl, hd⟩, fun h => h⟩
 | @cons x ops fs fs1 fs2 hg hs hr ih =>
  rintro M rfl rfl hd
  have e : stepsM (x :: ops) M = if (soM x M).2 = 0 then stepsM ops (soM x M).1 else soM x M := rfl
  rcases soM_plan x hd hs with ⟨h1, h2, h3, h4, h5⟩ | ⟨h1, h2⟩
  ·rw [e, if_neg (by rw [h2]; decide)]
   exact ⟨by rw [h3]; exact hg, h5, .inr ⟨h2, by rw [h1]; decide, h4⟩, fun h => by rw [h1] at h; cases h⟩
  ·rw [e, h2, if_pos rfl]
   obtain ⟨g1, g2, g3, g4⟩ := ih ⟨M.room, fs1, false, M.plan - 1⟩ rfl rfl rfl
   refine ⟨g1, g2, g3.imp id (fun ⟨a, b, c⟩ => ⟨a, fun h => b (by show M.plan - 1 = 0; omega), c⟩), fun h => g4 (by show M.plan - 1 = 0; omega)⟩
end Go.Proofs.YtnbddiiedagllaaGreat

/- The repair of a log is a run: whatever failure is planned, and whatever crash follows, the log has the same records. -/
namespace Go.Proofs.YtnbddiiedagllaaGreat
open Go.RowKit Go.Maps

section
variable {room : Nat} {fs : List F} {nm : List UInt8}

theorem op_remove (hn : named nm = true) {f : F} (h : findN F.n nm fs = some f) : soM ⟨5, nm, [], []⟩ ⟨room, fs, false, 0⟩ = (⟨room, delN F.n nm fs, false, 0⟩, 0) := by
 show removeM nm ⟨room, fs, false, 0⟩ = _
 unfold removeM chgM onM
 rw [show failM ⟨room, fs, false, 0⟩ = ⟨room, fs, false, 0⟩ from rfl, if_neg Bool.false_ne_true, if_pos hn]
 simp only [h]

theorem op_create (hn : named nm = true) (h : findN F.n nm fs = none) : soM ⟨1, nm, [], []⟩ ⟨room, fs, false, 0⟩ = (⟨room, putN F.n ⟨nm, [], 0⟩ fs, false, 0⟩, 0) := by
 show createM nm ⟨room, fs, false, 0⟩ = _
 unfold createM chgM
 rw [show failM ⟨room, fs, false, 0⟩ = ⟨room, fs, false, 0⟩ from rfl, if_neg Bool.false_ne_true, if_pos hn]
 simp only [h]

theorem op_append (hn : named nm = true) {f : F} (h : findN F.n nm fs = some f) (bs : List Nat) (hr : usedF fs + bs.length ≤ room) : soM ⟨2, nm, [], bs⟩ ⟨room, fs, false, 0⟩ = (⟨room, setN F.n ⟨nm, f.b ++ bs, f.d⟩ fs, false, 0⟩, 0) := by
 show appendM nm bs ⟨room, fs, false, 0⟩ = _
 unfold appendM chgM onM
 rw [show failM ⟨room, fs, false, 0⟩ = ⟨room, fs, false, 0⟩ from rfl, if_neg Bool.false_ne_true, if_pos hn]
 simp only [h]
 rw [if_pos hr]

theorem op_sync (hn : named nm = true) {f : F} (h : findN F.n nm fs = some f) : soM ⟨3, nm, [], []⟩ ⟨room, fs, false, 0⟩ = (⟨room, setN F.n ⟨nm, f.b, f.b.length⟩ fs, false, 0⟩, 0) := by
 show syncM nm ⟨room, fs, false, 0⟩ = _
 unfold syncM chgM onM
 rw [show failM ⟨room, fs, false, 0⟩ = ⟨room, fs, false, 0⟩ from rfl, if_neg Bool.false_ne_true, if_pos hn]
 simp only [h]

theorem op_rename (hn : named nm = true) {tt : List UInt8} (ht : named tt = true) {f : F} (h : findN F.n nm fs = some f) : soM ⟨4, nm, tt, []⟩ ⟨room, fs, false, 0⟩ = (⟨room, putN F.n ⟨tt, f.b, f.d⟩ (delN F.n nm fs), false, 0⟩, 0) := by
 show renameM nm tt ⟨room, fs, false, 0⟩ = _
 unfold renameM chgM onM
 rw [show failM ⟨room, fs, false, 0⟩ = ⟨room, fs, false, 0⟩ from rfl, if_neg Bool.false_ne_true, if_pos hn]
 simp only [h]
 rw [if_pos ht]
end

theorem cutB_named : named cutB = true := by decide
theorem newB_named : named newB = true := by decide

theorem nmB_cut (N : Nat) : nmB N ≠ cutB := fun e => by have := congrArg List.length e; rw [nmB_length] at this; cases this
theorem nmB_new (N : Nat) : nmB N ≠ newB := fun e => by have := congrArg List.length e; rw [nmB_length] at this; cases this

theorem segC_same {fs fs' : List F} (h : ∀ N, 1 ≤ N → N ≤ 99999999 → findN F.n (nmB N) fs' = findN F.n (nmB N) fs) {N : Nat} (h1 : 1 ≤ N) (h2 : N ≤ 99999999) : segC fs' N = segC fs N := by
 unfold segC
 rw [h N h1 h2]

theorem segSync_same {fs fs' : List F} (hs : SegSync fs) (h : ∀ N, 1 ≤ N → N ≤ 99999999 → findN F.n (nmB N) fs' = findN F.n (nmB N) fs) : SegSync fs' :=
 fun N f h1 h2 hf => hs N f h1 h2 (by rw [← h N h1 h2]; exact hf)

def LogK (ps : List PS) (k : Nat) (recs : List (List Nat)) : Prop := FirstAt ps k ∧ Good (ps.drop k) ∧ recs = recsL (ps.drop k)

theorem LogK.drop {ps : List PS} {k : Nat} {recs : List (List Nat)} (h : LogK ps k recs) {j : Nat} (hj : j ≤ k) : LogK (ps.drop j) (k - j) recs := by
 obtain ⟨⟨h1, h2, h3⟩, h4, h5⟩ := h
 have e : (ps.drop j).drop (k - j) = ps.drop k := by rw [List.drop_drop]; congr 1; omega
 refine ⟨⟨by rw [List.length_drop]; omega, fun i hi hlt => ?_, ?_⟩, by rw [e]; exact h4, by rw [e]; exact h5⟩
 ·rw [List.getElem_drop]
  exact h2 (j + i) (by rw [List.length_drop] at hi; omega) (by omega)
 ·rcases h3 with h3 | h3
  ·exact .inl (by omega)
  ·right
   rw [List.getElem_drop]
   have e2 : j + (k - j) = k := by omega
   simp only [e2]
   exact h3

theorem LogK.cut {qs : List PS} {p : PS} {k : Nat} {recs : List (List Nat)} (h : LogK (qs ++ [p]) k recs) : LogK (qs ++ [⟨p.n, p.ls, []⟩]) k recs := by
 obtain ⟨⟨h1, h2, h3⟩, h4, h5⟩ := h
 have hl : (qs ++ [(⟨p.n, p.ls, []⟩ : PS)]).length = (qs ++ [p]).length := by simp
 have key : ∀ i (hi : i < (qs ++ [p]).length), ((qs ++ [(⟨p.n, p.ls, []⟩ : PS)])[i]'(by rw [hl]; exact hi)).n = (qs ++ [p])[i].n ∧ ((qs ++ [(⟨p.n, p.ls, []⟩ : PS)])[i]'(by rw [hl]; exact hi)).ls = (qs ++ [p])[i].ls ∧ ((qs ++ [p])[i].t = [] → ((qs ++ [(⟨p.n, p.ls, []⟩ : PS)])[i]'(by rw [hl]; exact hi)).t = []) := by
  intro i hi
  by_cases hq : i < qs.length
  ·rw [List.getElem_append_left hq, List.getElem_append_left hq]
   exact ⟨rfl, rfl, fun h => h⟩
  ·have e : i - qs.length = 0 := by rw [List.length_append] at hi; simp at hi; omega
   rw [List.getElem_append_right (by omega), List.getElem_append_right (by omega)]
   simp only [e, List.getElem_cons_zero]
   exact ⟨trivial, trivial, fun _ => trivial⟩
 have hmk : ∀ i (hi : i < (qs ++ [p]).length), ((qs ++ [(⟨p.n, p.ls, []⟩ : PS)])[i]'(by rw [hl]; exact hi)).mark = (qs ++ [p])[i].mark := fun i hi => by unfold PS.mark; rw [(key i hi).2.1]
 refine ⟨⟨by rw [hl]; exact h1, fun i hi hlt => by rw [hmk i (by rw [← hl]; exact hi)]; exact h2 i (by rw [← hl]; exact hi) hlt, h3.imp id (fun h => by rw [hmk k h1]; exact h)⟩, fun i hi => ?_, ?_⟩
 ·have hi0 : k + i < (qs ++ [p]).length := by rw [List.length_drop, hl] at hi; omega
  have hg := h4 i (by rw [List.length_drop]; omega)
  obtain ⟨g1, g2, g3⟩ := hg
  refine ⟨fun h0 => ?_, fun h0 => ?_, ?_⟩
  ·have e1 := g1 h0
   rw [List.getElem_drop, List.getElem_drop] at e1 ⊢
   rw [(key (k + i) hi0).1, (key (k + (i - 1)) (by omega)).1]
   exact e1
  ·have e1 := g2 (by rw [List.length_drop]; rw [List.length_drop, hl] at h0; omega)
   rw [List.getElem_drop] at e1 ⊢
   exact (key (k + i) hi0).2.2 e1
  ·rw [List.getElem_drop] at g3 ⊢
   unfold PS.recs at g3 ⊢
   rw [(key (k + i) hi0).2.1]
   exact g3
 ·rw [h5]
  unfold recsL
  congr 1
  apply List.ext_getElem
  ·rw [List.length_map, List.length_map, List.length_drop, List.length_drop, hl]
  ·intro i hi hi'
   rw [List.getElem_map, List.getElem_map, List.getElem_drop, List.getElem_drop]
   have hi0 : k + i < (qs ++ [p]).length := by rw [List.length_map, List.length_drop] at hi; omega
   unfold PS.recs
   rw [(key (k + i) hi0).2.1]

def GL (recs : List (List Nat)) (fs : List F) : Prop := SegSync fs ∧ ∃ ps, SegsC fs ps ∧ ((ps = [] ∧ recs = []) ∨ ∃ k, LogK ps k recs)

theorem GL.same {recs : List (List Nat)} {fs fs' : List F} (h : GL recs fs) (he : ∀ N, 1 ≤ N → N ≤ 99999999 → findN F.n (nmB N) fs' = findN F.n (nmB N) fs) : GL recs fs' := by
 obtain ⟨h1, ps, h2, h3⟩ := h
 exact ⟨segSync_same h1 he, ps, h2.same (fun N g1 g2 => segC_same he g1 g2), h3⟩

structure Left (fs fs' : List F) : Prop where
 used : usedF fs' ≤ usedF fs
 sorted : Sorted fs'

theorem clean_run {recs : List (List Nat)} {room : Nat} {M : DM} (hG : GL recs M.fs) (hs : Sorted M.fs) : ∃ fs', Run (GL recs) room (cleanM [cutB, newB] M) M.fs fs' ∧ (∀ n, findN F.n n fs' = if n = cutB ∨ n = newB then none else findN F.n n M.fs) ∧ Left M.fs fs' := by
 have one : ∀ (nm : List UInt8) (fs : List F), named nm = true → (∀ N, nmB N ≠ nm) → GL recs fs → Sorted fs → ∃ fs', Run (GL recs) room (if nm ∈ fs.map F.n then [⟨5, nm, [], []⟩] else []) fs fs' ∧ (∀ n, findN F.n n fs' = if n = nm then none else findN F.n n fs) ∧ Left fs fs' := by
  intro nm fs hn hne hG hs
  by_cases h : nm ∈ fs.map F.n
  ·rw [if_pos h]
   obtain ⟨f, hf, e⟩ := List.mem_map.1 h
   obtain ⟨f', hf'⟩ := findN_have (n := nm) ⟨f, hf, e⟩
   have hG' : GL recs (delN F.n nm fs) := hG.same (fun N _ _ => by rw [fd_del, if_neg (hne N)])
   exact ⟨delN F.n nm fs, .cons hG (op_remove hn hf') (.nil hG'), fun n => fd_del F.n n nm fs, usedF_delN nm fs, del_sorted nm hs⟩
  ·rw [if_neg h]
   refine ⟨fs, .nil hG, fun n => ?_, Nat.le_refl _, hs⟩
   split
   ·next e =>
    subst e
    cases hf : findN F.n n fs with
    | none => rfl
    | some f =>
     obtain ⟨h1, h2⟩ := findN_some hf
     exact absurd (List.mem_map.2 ⟨f, h1, h2⟩) h
   ·rfl
 obtain ⟨fs1, r1, q1, l1⟩ := one cutB M.fs cutB_named nmB_cut hG hs
 obtain ⟨fs2, r2, q2, l2⟩ := one newB fs1 newB_named nmB_new r1.last l1.sorted
 have hmem : (newB ∈ fs1.map F.n) ↔ (newB ∈ M.fs.map F.n) := by
  have key : ∀ fs : List F, newB ∈ fs.map F.n ↔ findN F.n newB fs ≠ none := by
   intro fs
   constructor
   ·intro h e
    obtain ⟨f, hf, e2⟩ := List.mem_map.1 h
    exact findN_none e f hf e2
   ·intro h
    cases hf : findN F.n newB fs with
    | none => exact absurd hf h
    | some f =>
     obtain ⟨h1, h2⟩ := findN_some hf
     exact List.mem_map.2 ⟨f, h1, h2⟩
  rw [key, key, q1, if_neg (by decide)]
 have e : cleanM [cutB, newB] M = (if cutB ∈ M.fs.map F.n then [⟨5, cutB, [], []⟩] else []) ++ (if newB ∈ fs1.map F.n then [⟨5, newB, [], []⟩] else []) := by
  have e1 : [cutB, newB] = ([] ++ [cutB]) ++ [newB] := rfl
  rw [e1, cleanM_snoc, cleanM_snoc]
  simp only [hmem]
  rfl
 rw [e]
 refine ⟨fs2, r1.append r2, fun n => ?_, Nat.le_trans l2.used l1.used, l2.sorted⟩
 rw [q2, q1]
 by_cases h1 : n = newB
 ·simp [h1]
 ·by_cases h2 : n = cutB
  ·simp [h2]
  ·simp [h1, h2]

theorem used_put_le (x : F) (fs : List F) : usedF (putN F.n x fs) ≤ usedF fs + x.b.length := by
 unfold putN
 rw [usedF_insN]
 have := usedF_delN x.n fs
 omega

theorem cut_run {recs : List (List Nat)} {room : Nat} {fs : List F} (hG : GL recs fs) (hs : Sorted fs) (hc : findN F.n cutB fs = none) (N : Nat) (l : List Nat) (hroom : usedF fs + l.length ≤ room)
  (hG' : ∀ fs', (∀ n, findN F.n n fs' = if n = nmB N then some ⟨nmB N, l, l.length⟩ else findN F.n n fs) → GL recs fs') :
  ∃ fs', Run (GL recs) room (cutOps (nmB N) l) fs fs' ∧ (∀ n, findN F.n n fs' = if n = nmB N then some ⟨nmB N, l, l.length⟩ else findN F.n n fs) ∧ Sorted fs' ∧ usedF fs' ≤ usedF fs + l.length := by
 have h1 : ∀ n, findN F.n n (putN F.n ⟨cutB, [], 0⟩ fs) = if n = cutB then some ⟨cutB, [], 0⟩ else findN F.n n fs := fun n => fd_put F.n n ⟨cutB, [], 0⟩ fs
 have u1 : usedF (putN F.n ⟨cutB, [], 0⟩ fs) ≤ usedF fs := used_put_le ⟨cutB, [], 0⟩ fs
 have s1 : Sorted (putN F.n ⟨cutB, [], 0⟩ fs) := put_sorted _ hs
 generalize hf1 : putN F.n ⟨cutB, [], 0⟩ fs = fs1 at *
 have c1 : findN F.n cutB fs1 = some ⟨cutB, [], 0⟩ := by rw [h1, if_pos rfl]
 have h2 : ∀ n, findN F.n n (setN F.n ⟨cutB, l, 0⟩ fs1) = if n = cutB then some ⟨cutB, l, 0⟩ else findN F.n n fs := fun n => by
  rw [fd_set, h1]
  by_cases e : n = cutB
  ·subst e; simp
  ·simp [e]
 have u2 : usedF (setN F.n ⟨cutB, l, 0⟩ fs1) ≤ usedF fs + l.length := by
  rw [setN_putN _ _ s1 (by show findN F.n cutB fs1 ≠ none; rw [c1]; simp)]
  have := used_put_le ⟨cutB, l, 0⟩ fs1
  simp only at this
  omega
 have s2 : Sorted (setN F.n ⟨cutB, l, 0⟩ fs1) := setN_sorted _ s1
 have o2 := op_append (room := room) cutB_named c1 l (by omega)
 simp only [List.nil_append] at o2
 generalize hf2 : setN F.n ⟨cutB, l, 0⟩ fs1 = fs2 at *
 have c2 : findN F.n cutB fs2 = some ⟨cutB, l, 0⟩ := by rw [h2, if_pos rfl]
 have o3 := op_sync (room := room) cutB_named c2
 simp only at o3
 have h3 : ∀ n, findN F.n n (setN F.n ⟨cutB, l, l.length⟩ fs2) = if n = cutB then some ⟨cutB, l, l.length⟩ else findN F.n n fs := fun n => by
  rw [fd_set, h2]
  by_cases e : n = cutB
  ·subst e; simp
  ·simp [e]
 have s3 : Sorted (setN F.n ⟨cutB, l, l.length⟩ fs2) := setN_sorted _ s2
 have u3 : usedF (setN F.n ⟨cutB, l, l.length⟩ fs2) ≤ usedF fs2 := by
  rw [setN_putN _ _ s2 (by show findN F.n cutB fs2 ≠ none; rw [c2]; simp)]
  unfold putN
  rw [usedF_insN]
  obtain ⟨m1, m2⟩ := findN_some c2
  have := usedF_delN_mem m1 m2
  simp only at this ⊢
  omega
 generalize hf3 : setN F.n ⟨cutB, l, l.length⟩ fs2 = fs3 at *
 have c3 : findN F.n cutB fs3 = some ⟨cutB, l, l.length⟩ := by rw [h3, if_pos rfl]
 have o4 := op_rename (room := room) cutB_named (nmB_named N) c3
 simp only at o4
 have h4 : ∀ n, findN F.n n (putN F.n ⟨nmB N, l, l.length⟩ (delN F.n cutB fs3)) = if n = nmB N then some ⟨nmB N, l, l.length⟩ else findN F.n n fs := fun n => by
  rw [fd_put, fd_del, h3]
  by_cases e : n = nmB N
  ·simp [e]
  ·simp only [e, if_false]
   by_cases e2 : n = cutB
   ·subst e2; simp [hc]
   ·simp [e2]
 have s4 : Sorted (putN F.n ⟨nmB N, l, l.length⟩ (delN F.n cutB fs3)) := put_sorted _ (del_sorted _ s3)
 have u4 : usedF (putN F.n ⟨nmB N, l, l.length⟩ (delN F.n cutB fs3)) ≤ usedF fs3 := by
  have h5 := used_put_le ⟨nmB N, l, l.length⟩ (delN F.n cutB fs3)
  obtain ⟨m1, m2⟩ := findN_some c3
  have := usedF_delN_mem m1 m2
  simp only at this h5
  omega
 have g : ∀ {fs' : List F} {x : F}, (∀ n, findN F.n n fs' = if n = cutB then some x else findN F.n n fs) → GL recs fs' := fun h => hG.same (fun N _ _ => by rw [h, if_neg (nmB_cut N)])
 refine ⟨_, .cons hG (by rw [op_create cutB_named hc, hf1]) (.cons (g h1) o2 (.cons (g h2) o3 (.cons (g h3) o4 (.nil (hG' _ h4))))), h4, s4, by omega⟩

theorem older_run {recs : List (List Nat)} {room : Nat} (rest : List PS) : ∀ (qs : List PS) (fs : List F), SegsC fs (qs ++ rest) → SegSync fs → Sorted fs → (∀ j fs', j ≤ qs.length → SegsC fs' (qs.drop j ++ rest) → SegSync fs' → GL recs fs') →
  ∃ fs', Run (GL recs) room (qs.map fun p => ⟨5, nmB p.n.toNat, [], []⟩) fs fs' ∧ SegsC fs' rest ∧ SegSync fs' ∧ (∀ n, (∀ N, n ≠ nmB N) → findN F.n n fs' = findN F.n n fs) ∧ Left fs fs' ∧ ∀ p ∈ rest, findN F.n (nmB p.n.toNat) fs' = findN F.n (nmB p.n.toNat) fs
 | [], fs, h1, h2, hs, hg => ⟨fs, .nil (hg 0 fs (Nat.le_refl _) h1 h2), h1, h2, fun _ _ => rfl, ⟨Nat.le_refl _, hs⟩, fun _ _ => rfl⟩
 | q :: qs, fs, h1, h2, hs, hg => by
  obtain ⟨N, b, e, g1, g2, g3, g4⟩ := h1.2.1 q (by simp)
  obtain ⟨f, hf, _⟩ := segC_some g3
  have hN : q.n.toNat = N := by rw [e]; rfl
  have hfd : ∀ n, findN F.n n (delN F.n (nmB N) fs) = if n = nmB N then none else findN F.n n fs := fun n => fd_del F.n n (nmB N) fs
  have hseg : SegsC (delN F.n (nmB N) fs) (qs ++ rest) := SegsC.tail (p := q) h1 (fun K k1 k2 => by
   unfold segC
   rw [hfd]
   by_cases h : K = N
   ·subst h; rw [if_pos rfl, if_pos e.symm]; rfl
   ·rw [if_neg (fun h' => h (nmB_inj k2 g2 h')), if_neg (by rw [e]; omega)])
  have hsy : SegSync (delN F.n (nmB N) fs) := fun K f' k1 k2 hf' => by
   rw [hfd] at hf'
   split at hf'
   ·cases hf'
   ·exact h2 K f' k1 k2 hf'
  obtain ⟨fs', r1, r2, r3, r4, r5, r6⟩ := older_run rest qs (delN F.n (nmB N) fs) hseg hsy (del_sorted _ hs) (fun j fs' hj => hg (j + 1) fs' (by rw [List.length_cons]; omega))
  refine ⟨fs', ?_, r2, r3, fun n hn => ?_, ⟨Nat.le_trans r5.used (usedF_delN _ _), r5.sorted⟩, fun p hp => ?_⟩
  ·rw [List.map_cons, hN]
   exact .cons (hg 0 fs (Nat.zero_le _) h1 h2) (op_remove (nmB_named N) hf) r1
  ·rw [r4 n hn, hfd, if_neg (hn N)]
  ·rw [r6 p hp, hfd, if_neg ?_]
   intro h
   have h3 := h1.1
   rw [List.cons_append, List.map_cons] at h3
   have h4 := (List.pairwise_cons.1 h3).1 p.n (List.mem_map.2 ⟨p, List.mem_append.2 (.inr hp), rfl⟩)
   obtain ⟨K, _, e2, k1, k2, _⟩ := h1.2.1 p (by simp [hp])
   rw [e2] at h h4
   have := nmB_inj k2 g2 h
   omega
end Go.Proofs.YtnbddiiedagllaaGreat

/- What compacting leaves, wherever it fails: the old log or the new one. -/
namespace Go.Proofs.YtnbddiiedagllaaGreat
open Go.RowKit Go.Maps

theorem fill_run {G : List F → Prop} {room : Nat} {fs : List F} (hs : Sorted fs) (hc : findN F.n newB fs = none) (N : Nat) (l : List Nat) (hroom : usedF fs + l.length ≤ room)
  (hg : ∀ fs', (∀ n, n ≠ newB → findN F.n n fs' = findN F.n n fs) → G fs') (hG' : ∀ fs', (∀ n, findN F.n n fs' = if n = nmB N then some ⟨nmB N, l, l.length⟩ else findN F.n n fs) → G fs') :
  ∃ fs', Run G room (fillOps N l) fs fs' ∧ (∀ n, findN F.n n fs' = if n = nmB N then some ⟨nmB N, l, l.length⟩ else findN F.n n fs) ∧ Sorted fs' ∧ usedF fs' ≤ usedF fs + l.length := by
 have h1 : ∀ n, findN F.n n (putN F.n ⟨newB, [], 0⟩ fs) = if n = newB then some ⟨newB, [], 0⟩ else findN F.n n fs := fun n => fd_put F.n n ⟨newB, [], 0⟩ fs
 have u1 : usedF (putN F.n ⟨newB, [], 0⟩ fs) ≤ usedF fs := used_put_le ⟨newB, [], 0⟩ fs
 have s1 : Sorted (putN F.n ⟨newB, [], 0⟩ fs) := put_sorted _ hs
 generalize hf1 : putN F.n ⟨newB, [], 0⟩ fs = fs1 at *
 have c1 : findN F.n newB fs1 = some ⟨newB, [], 0⟩ := by rw [h1, if_pos rfl]
 have h2 : ∀ n, findN F.n n (setN F.n ⟨newB, l, 0⟩ fs1) = if n = newB then some ⟨newB, l, 0⟩ else findN F.n n fs := fun n => by
  rw [fd_set, h1]
  by_cases e : n = newB
  ·subst e; simp
  ·simp [e]
 have u2 : usedF (setN F.n ⟨newB, l, 0⟩ fs1) ≤ usedF fs + l.length := by
  rw [setN_putN _ _ s1 (by show findN F.n newB fs1 ≠ none; rw [c1]; simp)]
  have := used_put_le ⟨newB, l, 0⟩ fs1
  simp only at this
  omega
 have s2 : Sorted (setN F.n ⟨newB, l, 0⟩ fs1) := setN_sorted _ s1
 have o2 := op_append (room := room) newB_named c1 l (by omega)
 simp only [List.nil_append] at o2
 generalize hf2 : setN F.n ⟨newB, l, 0⟩ fs1 = fs2 at *
 have c2 : findN F.n newB fs2 = some ⟨newB, l, 0⟩ := by rw [h2, if_pos rfl]
 have o3 := op_sync (room := room) newB_named c2
 simp only at o3
 have h3 : ∀ n, findN F.n n (setN F.n ⟨newB, l, l.length⟩ fs2) = if n = newB then some ⟨newB, l, l.length⟩ else findN F.n n fs := fun n => by
  rw [fd_set, h2]
  by_cases e : n = newB
  ·subst e; simp
  ·simp [e]
 have s3 : Sorted (setN F.n ⟨newB, l, l.length⟩ fs2) := setN_sorted _ s2
 have u3 : usedF (setN F.n ⟨newB, l, l.length⟩ fs2) ≤ usedF fs2 := by
  rw [setN_putN _ _ s2 (by show findN F.n newB fs2 ≠ none; rw [c2]; simp)]
  unfold putN
  rw [usedF_insN]
  obtain ⟨m1, m2⟩ := findN_some c2
  have := usedF_delN_mem m1 m2
  simp only at this ⊢
  omega
 generalize hf3 : setN F.n ⟨newB, l, l.length⟩ fs2 = fs3 at *
 have c3 : findN F.n newB fs3 = some ⟨newB, l, l.length⟩ := by rw [h3, if_pos rfl]
 have o4 := op_rename (room := room) newB_named (nmB_named N) c3
 simp only at o4
 have h4 : ∀ n, findN F.n n (putN F.n ⟨nmB N, l, l.length⟩ (delN F.n newB fs3)) = if n = nmB N then some ⟨nmB N, l, l.length⟩ else findN F.n n fs := fun n => by
  rw [fd_put, fd_del, h3]
  by_cases e : n = nmB N
  ·simp [e]
  ·simp only [e, if_false]
   by_cases e2 : n = newB
   ·subst e2; simp [hc]
   ·simp [e2]
 have s4 : Sorted (putN F.n ⟨nmB N, l, l.length⟩ (delN F.n newB fs3)) := put_sorted _ (del_sorted _ s3)
 have u4 : usedF (putN F.n ⟨nmB N, l, l.length⟩ (delN F.n newB fs3)) ≤ usedF fs3 := by
  have h5 := used_put_le ⟨nmB N, l, l.length⟩ (delN F.n newB fs3)
  obtain ⟨m1, m2⟩ := findN_some c3
  have := usedF_delN_mem m1 m2
  simp only at this h5
  omega
 refine ⟨_, .cons (hg _ fun _ _ => rfl) (by rw [op_create newB_named hc, hf1]) (.cons (hg _ fun n e => by rw [h1, if_neg e]) o2 (.cons (hg _ fun n e => by rw [h2, if_neg e]) o3 (.cons (hg _ fun n e => by rw [h3, if_neg e]) o4 (.nil (hG' _ h4))))), h4, s4, by omega⟩

theorem SegsC.snoc {fs fs' : List F} {ps : List PS} (h : SegsC fs ps) {N : Nat} {ls : List (List Nat)} {l : List Nat} (h1 : 1 ≤ N) (h2 : N ≤ 99999999) (hlt : ∀ p ∈ ps, p.n < (N : Int)) (hsp : Splits l ls [])
  (he : ∀ n, findN F.n n fs' = if n = nmB N then some ⟨nmB N, l, l.length⟩ else findN F.n n fs) : SegsC fs' (ps ++ [⟨N, ls, []⟩]) := by
 obtain ⟨g1, g2, g3⟩ := h
 have hN : segC fs' N = some l := by unfold segC; rw [he, if_pos rfl]; rfl
 have hne : ∀ K : Nat, K ≤ 99999999 → K ≠ N → segC fs' K = segC fs K := fun K hk hkn => by unfold segC; rw [he, if_neg (fun e => hkn (nmB_inj hk h2 e))]
 refine ⟨?_, fun p hp => ?_, fun K k1 k2 k3 => ?_⟩
 ·rw [List.map_append]
  refine List.pairwise_append.2 ⟨g1, List.pairwise_singleton _ _, fun x hx y hy => ?_⟩
  obtain ⟨p, hp, rfl⟩ := List.mem_map.1 hx
  rw [List.map_cons, List.map_nil, List.mem_singleton] at hy
  subst hy
  exact hlt p hp
 ·rcases List.mem_append.1 hp with hp | hp
  ·obtain ⟨K, b, e, k1, k2, k3, k4⟩ := g2 p hp
   have := hlt p hp
   exact ⟨K, b, e, k1, k2, by rw [hne K k2 (by omega)]; exact k3, k4⟩
  ·rw [List.mem_singleton] at hp
   subst hp
   exact ⟨N, l, rfl, h1, h2, hN, hsp⟩
 ·rw [List.map_append, List.mem_append]
  by_cases hk : K = N
  ·subst hk
   exact .inr (by simp)
  ·exact .inl (g3 K k1 k2 (by rwa [hne K k2 hk] at k3))

theorem marked_log {ms : List (List Nat)} (hm : [] ∉ ms) {fs : List F} {qs : List PS} {N : Int} (hs : SegsC fs (qs ++ [⟨N, [] :: ms, []⟩])) (hy : SegSync fs) : GL ms fs := by
 refine ⟨hy, _, hs, .inr ⟨qs.length, ⟨by simp, fun i hi hlt => ?_, .inr (by simp [PS.mark, markOf])⟩, ?_, ?_⟩⟩
 ·rw [List.length_append, List.length_singleton] at hi
  omega
 ·rw [List.drop_left]
  intro i hi
  have e : i = 0 := by simpa using hi
  subst e
  exact ⟨fun h => absurd h (Nat.lt_irrefl _), fun h => absurd h (by simp), by simpa [PS.recs, restOf, markOf] using hm⟩
 ·rw [List.drop_left]
  simp [recsL, PS.recs, restOf, markOf]

theorem comp_run {recs ms : List (List Nat)} {M : DM} {out : List Int} {N : Nat} (hG : GL recs M.fs) (hs : Sorted M.fs) (hd : M.down = false) (ho : SegsOf M out) (hlt : ∀ x ∈ out, x < (N : Int)) (h1 : 1 ≤ N) (h2 : N ≤ 99999999)
  (hm : [] ∉ ms) (hml : ∀ r ∈ ms, r.length ≤ 1048576) (hroom : usedF M.fs + (joinL ([] :: ms)).length ≤ M.room) :
  ∃ fs', Run (fun fs => GL recs fs ∨ GL ms fs) M.room (compOps M out N (joinL ([] :: ms))) M.fs fs' ∧ GL ms fs' ∧ Sorted fs' ∧ SegsC fs' [⟨N, [] :: ms, []⟩] ∧ usedF fs' ≤ usedF M.fs + (joinL ([] :: ms)).length ∧ ∀ n, n ≠ newB → (∀ K, n ≠ nmB K) → findN F.n n fs' = findN F.n n M.fs := by
 have hG0 := hG
 obtain ⟨hy, ps, hseg, hps⟩ := hG
 obtain rfl : out = ps.map PS.n := segsOf_uniq ho ((allOf_segs hd).2 hseg).1
 have hlt' : ∀ p ∈ ps, p.n < (N : Int) := fun p hp => hlt _ (List.mem_map.2 ⟨p, hp, rfl⟩)
 have hclean : ∃ fs0, Run (fun fs => GL recs fs ∨ GL ms fs) M.room (cleanM [newB] M) M.fs fs0 ∧ (∀ n, findN F.n n fs0 = if n = newB then none else findN F.n n M.fs) ∧ Sorted fs0 ∧ usedF fs0 ≤ usedF M.fs := by
  have e2 : cleanM [newB] M = if newB ∈ M.fs.map F.n then [⟨5, newB, [], []⟩] else [] := cleanM_snoc [] newB M
  rw [e2]
  by_cases hin : newB ∈ M.fs.map F.n
  ·obtain ⟨f, hf⟩ := findN_have (n := newB) (l := M.fs) (by obtain ⟨f, hf, e⟩ := List.mem_map.1 hin; exact ⟨f, hf, e⟩)
   have hfd : ∀ n, findN F.n n (delN F.n newB M.fs) = if n = newB then none else findN F.n n M.fs := fun n => fd_del F.n n newB M.fs
   rw [if_pos hin]
   exact ⟨_, .cons (.inl hG0) (op_remove newB_named hf) (.nil (.inl (hG0.same fun K _ _ => by rw [hfd, if_neg (nmB_new K)]))), hfd, del_sorted _ hs, usedF_delN _ _⟩
  ·rw [if_neg hin]
   refine ⟨M.fs, .nil (.inl hG0), fun n => ?_, hs, Nat.le_refl _⟩
   split
   ·next e =>
    subst e
    cases hf : findN F.n newB M.fs with
    | none => rfl
    | some f =>
     obtain ⟨m1, m2⟩ := findN_some hf
     exact absurd (List.mem_map.2 ⟨f, m1, m2⟩) hin
   ·rfl
 obtain ⟨fs0, r0, f0, s0, u0⟩ := hclean
 have hG1 : GL recs fs0 := hG0.same fun K _ _ => by rw [f0, if_neg (nmB_new K)]
 have hseg0 : SegsC fs0 ps := hseg.same (fun K k1 k2 => segC_same (fun K _ _ => by rw [f0, if_neg (nmB_new K)]) k1 k2)
 have hy0 : SegSync fs0 := hG1.1
 have hsp : Splits (joinL ([] :: ms)) ([] :: ms) [] := splits_all _ (fun r hr => by
  rcases List.mem_cons.1 hr with rfl | hr
  ·exact Nat.zero_le _
  ·exact hml r hr)
 have hsn : ∀ fs', (∀ n, findN F.n n fs' = if n = nmB N then some ⟨nmB N, joinL ([] :: ms), (joinL ([] :: ms)).length⟩ else findN F.n n fs0) → SegsC fs' (ps ++ [⟨N, [] :: ms, []⟩]) ∧ SegSync fs' := fun fs' he =>
  ⟨hseg0.snoc h1 h2 hlt' hsp he, fun K f k1 k2 hf => by
   rw [he] at hf
   split at hf
   ·cases hf; rfl
   ·exact hy0 K f k1 k2 hf⟩
 obtain ⟨fs1, r1, f1, s1, u1⟩ := fill_run (G := fun fs => GL recs fs ∨ GL ms fs) (room := M.room) s0 (by rw [f0, if_pos rfl]) N (joinL ([] :: ms)) (by omega)
  (fun fs' he => .inl (hG1.same fun K _ _ => he _ (nmB_new K))) (fun fs' he => .inr (marked_log hm (hsn fs' he).1 (hsn fs' he).2))
 obtain ⟨hs1, hy1⟩ := hsn fs1 f1
 obtain ⟨fs2, r2, g1, g2, g3, g4, g5⟩ := older_run (recs := ms) (room := M.room) [⟨N, [] :: ms, []⟩] ps fs1 hs1 hy1 s1 (fun j fs' _ h k => marked_log hm h k)
 have hold : oldOps (ps.map PS.n) N = ps.map fun p => ⟨5, nmB p.n.toNat, [], []⟩ := by
  unfold oldOps
  rw [List.filter_eq_self.2 (fun x hx => by simpa using hlt x hx), List.map_map]
  rfl
 refine ⟨fs2, ?_, marked_log hm (qs := []) g1 g2, g4.sorted, g1, Nat.le_trans g4.used (by omega), fun n hn hk => ?_⟩
 ·unfold compOps
  rw [hold]
  exact (r0.append r1).append (r2.mono fun _ h => .inr h)
 ·rw [g3 n hk, f1, if_neg (hk N), f0, if_neg hn]
end Go.Proofs.YtnbddiiedagllaaGreat

/- A log whose records are durable, as segments. -/
namespace Go.Proofs.YtnbddiiedagllaaGreat
open Go.RowKit Go.Maps

def psL (L : List (List (List Nat))) : List PS := L.mapIdx fun i b => ⟨((i + 1 : Nat) : Int), b, []⟩

theorem psL_len (L : List (List (List Nat))) : (psL L).length = L.length := by unfold psL; rw [List.length_mapIdx]
theorem psL_at (L : List (List (List Nat))) (i : Nat) (h : i < (psL L).length) : (psL L)[i] = ⟨((i + 1 : Nat) : Int), L[i]'(by rw [← psL_len]; exact h), []⟩ :=
 List.getElem_mapIdx (f := fun i b => (⟨((i + 1 : Nat) : Int), b, []⟩ : PS)) (h := h)

theorem LInv.len {W : WM} {B : List (List (List Nat))} {c : List (List Nat)} (h : LInv W B c) : W.D.fs.length = (B ++ [c]).length := by
 rw [h.fs]; unfold filesL; rw [List.length_append, List.length_mapIdx, List.length_append]; rfl

theorem LInv.file_at {W : WM} {B : List (List (List Nat))} {c : List (List Nat)} (h : LInv W B c) (i : Nat) (hi : i < W.D.fs.length) :
  W.D.fs[i].b = joinL ((B ++ [c])[i]'(by rw [← h.len]; exact hi)) ∧ (W.wait = 0 → W.D.fs[i].d = W.D.fs[i].b.length) := by
 have hfs := h.fs
 have hl := h.len
 rw [List.length_append, List.length_singleton] at hl
 have he : W.D.fs[i] = (filesL B c W.wait)[i]'(by rw [← hfs]; exact hi) := by
  congr 1
 rw [he]
 unfold filesL
 by_cases hb : i < B.length
 ·rw [List.getElem_append_left (by rw [List.length_mapIdx]; exact hb), List.getElem_mapIdx]
  rw [List.getElem_append_left hb]
  exact ⟨rfl, fun _ => rfl⟩
 ·have e : i = B.length := by omega
  subst e
  rw [List.getElem_append_right (by rw [List.length_mapIdx]; exact Nat.le_refl _)]
  refine ⟨by simp [lastF], fun hw => ?_⟩
  simp [lastF, hw, joinL_len]

theorem restOf_ne {l : List (List Nat)} (h : ∀ r ∈ l, r ≠ []) : markOf l = false ∧ restOf l = l := by
 have hm : markOf l = false := by
  cases l with
  | nil => rfl
  | cons r l => exact decide_eq_false (h r (by simp))
 exact ⟨hm, by unfold restOf; rw [hm]; rfl⟩

theorem LInv.logK {W : WM} {B : List (List (List Nat))} {c : List (List Nat)} (h : LInv W B c) : SegsC W.D.fs (psL (B ++ [c])) ∧ LogK (psL (B ++ [c])) 0 (B.flatten ++ c) := by
 have hl := h.len
 have hne : ∀ b ∈ B ++ [c], ∀ r ∈ b, r ≠ [] ∧ r.length ≤ 1048576 := fun b hb r hr => h.recs r (by
  rcases List.mem_append.1 hb with hb | hb
  ·exact List.mem_append.2 (.inl (List.mem_flatten.2 ⟨b, hb, hr⟩))
  ·rw [List.mem_singleton] at hb; subst hb; exact List.mem_append.2 (.inr hr))
 have hmax := h.nmax
 have hn : (B ++ [c]).length = W.n := by rw [h.n, List.length_append]; rfl
 refine ⟨⟨?_, fun p hp => ?_, fun N h1 h2 h3 => ?_⟩, ⟨?_, ?_, ?_⟩⟩
 ·show List.Pairwise (· < ·) _
  rw [List.pairwise_iff_getElem]
  intro i j hi hj hij
  rw [List.getElem_map, List.getElem_map, psL_at, psL_at]
  show ((i + 1 : Nat) : Int) < ((j + 1 : Nat) : Int)
  omega
 ·obtain ⟨i, hi, rfl⟩ := List.getElem_of_mem hp
  have hi2 : i < W.D.fs.length := by rw [hl, ← psL_len]; exact hi
  have hi3 : i < (B ++ [c]).length := by rw [← hl]; exact hi2
  rw [psL_at]
  refine ⟨i + 1, joinL (B ++ [c])[i], rfl, by omega, by omega, ?_, splits_all _ (fun r hr => (hne _ (List.getElem_mem hi3) r hr).2)⟩
  unfold segC
  rw [← h.name_at i hi2, find_sorted h.sorted (List.getElem_mem hi2)]
  show some W.D.fs[i].b = _
  rw [(h.file_at i hi2).1]
 ·obtain ⟨b, hb⟩ := Option.ne_none_iff_exists'.1 h3
  obtain ⟨f, hf, _⟩ := segC_some hb
  obtain ⟨m1, m2⟩ := findN_some hf
  obtain ⟨i, hi, rfl⟩ := List.getElem_of_mem m1
  rw [h.name_at i hi] at m2
  have e := nmB_inj (by rw [hl, hn] at hi; omega) h2 m2
  subst e
  have hi2 : i < (psL (B ++ [c])).length := by rw [psL_len, ← hl]; exact hi
  refine List.mem_map.2 ⟨(psL (B ++ [c]))[i], List.getElem_mem hi2, ?_⟩
  rw [psL_at]
 ·refine ⟨by rw [psL_len, hn, h.n]; omega, fun i hi _ => ?_, .inl rfl⟩
  rw [psL_at]
  exact (restOf_ne (fun r hr => (hne _ (List.getElem_mem _) r hr).1)).1
 ·rw [List.drop_zero]
  intro i hi
  refine ⟨fun h0 => ?_, fun _ => by rw [psL_at], ?_⟩
  ·rw [psL_at, psL_at]
   show ((i + 1 : Nat) : Int) = ((i - 1 + 1 : Nat) : Int) + 1
   omega
  ·rw [psL_at]
   show [] ∉ restOf _
   rw [(restOf_ne (fun r hr => (hne _ (List.getElem_mem _) r hr).1)).2]
   exact fun hm => (hne _ (List.getElem_mem _) _ hm).1 rfl
 ·rw [List.drop_zero]
  unfold recsL
  have e : (psL (B ++ [c])).map PS.recs = B ++ [c] := by
   refine List.ext_getElem (by rw [List.length_map, psL_len]) fun i h1 h2 => ?_
   rw [List.getElem_map, psL_at]
   exact (restOf_ne (fun r hr => (hne _ (List.getElem_mem _) r hr).1)).2
  rw [e, List.flatten_append, List.flatten_cons, List.flatten_nil, List.append_nil]

theorem LInv.gl {W : WM} {B : List (List (List Nat))} {c : List (List Nat)} (h : LInv W B c) (hw : W.wait = 0) : GL (B.flatten ++ c) W.D.fs := by
 refine ⟨fun N f _ _ hf => ?_, _, h.logK.1, .inr ⟨0, h.logK.2⟩⟩
 obtain ⟨m1, _⟩ := findN_some hf
 obtain ⟨i, hi, rfl⟩ := List.getElem_of_mem m1
 exact (h.file_at i hi).2 hw
end Go.Proofs.YtnbddiiedagllaaGreat

