import Derived.Test.YtnbddiiedagllaaGreatSSL46
import Derived.Test.YtnbddiiedagllaaGreatSSL33
import Derived.Test.YtnbddiiedagllaaGreatSSL25
import Derived.Test.YtnbddiiedagllaaGreatSSL38
import Derived.Test.YtnbddiiedagllaaGreatSSL36
/- The repair of a log is a run: whatever failure is planned, and whatever crash follows, the log has the same records. -/
namespace Go.Proofs.YtnbddiiedagllaaGreat
open Go.RowKit Go.Maps

section
variable {room : Nat} {fs : List F} {nm : List UInt8}

theorem op_remove (hn : named nm = true) {f : F} (h : findN F.n nm fs = some f) : soM ⟨5, nm, [], []⟩ ⟨room, fs, false, 0⟩ = (⟨room, delN F.n nm fs, false, 0⟩, 0) := by
 show removeM nm ⟨room, fs, false, 0⟩ = _
 unfold removeM chgM onM
 rw [show failM ⟨room, fs, false, 0⟩ = ⟨room, fs, false, 0⟩ from rfl, if_neg Bool.false_ne_true, if_pos hn]
 simp only [h]

theorem op_create (hn : named nm = true) (h : findN F.n nm fs = none) : soM ⟨1, nm, [], []⟩ ⟨room, fs, false, 0⟩ = (⟨room, putN F.n ⟨nm, [], 0⟩ fs, false, 0⟩, 0) := by
 show createM nm ⟨room, fs, false, 0⟩ = _
 unfold createM chgM
 rw [show failM ⟨room, fs, false, 0⟩ = ⟨room, fs, false, 0⟩ from rfl, if_neg Bool.false_ne_true, if_pos hn]
 simp only [h]

theorem op_append (hn : named nm = true) {f : F} (h : findN F.n nm fs = some f) (bs : List Nat) (hr : usedF fs + bs.length ≤ room) : soM ⟨2, nm, [], bs⟩ ⟨room, fs, false, 0⟩ = (⟨room, setN F.n ⟨nm, f.b ++ bs, f.d⟩ fs, false, 0⟩, 0) := by
 show appendM nm bs ⟨room, fs, false, 0⟩ = _
 unfold appendM chgM onM
 rw [show failM ⟨room, fs, false, 0⟩ = ⟨room, fs, false, 0⟩ from rfl, if_neg Bool.false_ne_true, if_pos hn]
 simp only [h]
 rw [if_pos hr]

theorem op_sync (hn : named nm = true) {f : F} (h : findN F.n nm fs = some f) : soM ⟨3, nm, [], []⟩ ⟨room, fs, false, 0⟩ = (⟨room, setN F.n ⟨nm, f.b, f.b.length⟩ fs, false, 0⟩, 0) := by
 show syncM nm ⟨room, fs, false, 0⟩ = _
 unfold syncM chgM onM
 rw [show failM ⟨room, fs, false, 0⟩ = ⟨room, fs, false, 0⟩ from rfl, if_neg Bool.false_ne_true, if_pos hn]
 simp only [h]

theorem op_rename (hn : named nm = true) {tt : List UInt8} (ht : named tt = true) {f : F} (h : findN F.n nm fs = some f) : soM ⟨4, nm, tt, []⟩ ⟨room, fs, false, 0⟩ = (⟨room, putN F.n ⟨tt, f.b, f.d⟩ (delN F.n nm fs), false, 0⟩, 0) := by
 show renameM nm tt ⟨room, fs, false, 0⟩ = _
 unfold renameM chgM onM
 rw [show failM ⟨room, fs, false, 0⟩ = ⟨room, fs, false, 0⟩ from rfl, if_neg Bool.false_ne_true, if_pos hn]
 simp only [h]
 rw [if_pos ht]
end

theorem newB_named : named newB = true := by decide

theorem nmB_cut (N : Nat) : nmB N ≠ cutB := fun e => by have := congrArg List.length e; rw [nmB_length] at this; cases this
theorem nmB_new (N : Nat) : nmB N ≠ newB := fun e => by have := congrArg List.length e; rw [nmB_length] at this; cases this

theorem segC_same {fs fs' : List F} (h : ∀ N, 1 ≤ N → N ≤ 99999999 → findN F.n (nmB N) fs' = findN F.n (nmB N) fs) {N : Nat} (h1 : 1 ≤ N) (h2 : N ≤ 99999999) : segC fs' N = segC fs N := by
 unfold segC
 rw [h N h1 h2]

theorem segSync_same {fs fs' : List F} (hs : SegSync fs) (h : ∀ N, 1 ≤ N → N ≤ 99999999 → findN F.n (nmB N) fs' = findN F.n (nmB N) fs) : SegSync fs' :=
 fun N f h1 h2 hf => hs N f h1 h2 (by rw [← h N h1 h2]; exact hf)

def LogK (ps : List PS) (k : Nat) (recs : List (List Nat)) : Prop := FirstAt ps k ∧ Good (ps.drop k) ∧ recs = recsL (ps.drop k)

theorem LogK.cut {qs : List PS} {p : PS} {k : Nat} {recs : List (List Nat)} (h : LogK (qs ++ [p]) k recs) : LogK (qs ++ [⟨p.n, p.ls, []⟩]) k recs := by
 obtain ⟨⟨h1, h2, h3⟩, h4, h5⟩ := h
 have hl : (qs ++ [(⟨p.n, p.ls, []⟩ : PS)]).length = (qs ++ [p]).length := by simp
 have key : ∀ i (hi : i < (qs ++ [p]).length), ((qs ++ [(⟨p.n, p.ls, []⟩ : PS)])[i]'(by rw [hl]; exact hi)).n = (qs ++ [p])[i].n ∧ ((qs ++ [(⟨p.n, p.ls, []⟩ : PS)])[i]'(by rw [hl]; exact hi)).ls = (qs ++ [p])[i].ls ∧ ((qs ++ [p])[i].t = [] → ((qs ++ [(⟨p.n, p.ls, []⟩ : PS)])[i]'(by rw [hl]; exact hi)).t = []) := by
  intro i hi
  by_cases hq : i < qs.length
  ·rw [List.getElem_append_left hq, List.getElem_append_left hq]
   exact ⟨rfl, rfl, fun h => h⟩
  ·have e : i - qs.length = 0 := by rw [List.length_append] at hi; simp at hi; omega
   rw [List.getElem_append_right (by omega), List.getElem_append_right (by omega)]
   simp only [e, List.getElem_cons_zero]
   exact ⟨trivial, trivial, fun _ => trivial⟩
 have hmk : ∀ i (hi : i < (qs ++ [p]).length), ((qs ++ [(⟨p.n, p.ls, []⟩ : PS)])[i]'(by rw [hl]; exact hi)).mark = (qs ++ [p])[i].mark := fun i hi => by unfold PS.mark; rw [(key i hi).2.1]
 refine ⟨⟨by rw [hl]; exact h1, fun i hi hlt => by rw [hmk i (by rw [← hl]; exact hi)]; exact h2 i (by rw [← hl]; exact hi) hlt, h3.imp id (fun h => by rw [hmk k h1]; exact h)⟩, fun i hi => ?_, ?_⟩
 ·have hi0 : k + i < (qs ++ [p]).length := by rw [List.length_drop, hl] at hi; omega
  have hg := h4 i (by rw [List.length_drop]; omega)
  obtain ⟨g1, g2, g3⟩ := hg
  refine ⟨fun h0 => ?_, fun h0 => ?_, ?_⟩
  ·have e1 := g1 h0
   rw [List.getElem_drop, List.getElem_drop] at e1 ⊢
   rw [(key (k + i) hi0).1, (key (k + (i - 1)) (by omega)).1]
   exact e1
  ·have e1 := g2 (by rw [List.length_drop]; rw [List.length_drop, hl] at h0; omega)
   rw [List.getElem_drop] at e1 ⊢
   exact (key (k + i) hi0).2.2 e1
  ·rw [List.getElem_drop] at g3 ⊢
   unfold PS.recs at g3 ⊢
   rw [(key (k + i) hi0).2.1]
   exact g3
 ·rw [h5]
  unfold recsL
  congr 1
  apply List.ext_getElem
  ·rw [List.length_map, List.length_map, List.length_drop, List.length_drop, hl]
  ·intro i hi hi'
   rw [List.getElem_map, List.getElem_map, List.getElem_drop, List.getElem_drop]
   have hi0 : k + i < (qs ++ [p]).length := by rw [List.length_map, List.length_drop] at hi; omega
   unfold PS.recs
   rw [(key (k + i) hi0).2.1]

def GL (recs : List (List Nat)) (fs : List F) : Prop := SegSync fs ∧ ∃ ps, SegsC fs ps ∧ ((ps = [] ∧ recs = []) ∨ ∃ k, LogK ps k recs)

theorem GL.same {recs : List (List Nat)} {fs fs' : List F} (h : GL recs fs) (he : ∀ N, 1 ≤ N → N ≤ 99999999 → findN F.n (nmB N) fs' = findN F.n (nmB N) fs) : GL recs fs' := by
 obtain ⟨h1, ps, h2, h3⟩ := h
 exact ⟨segSync_same h1 he, ps, h2.same (fun N g1 g2 => segC_same he g1 g2), h3⟩

theorem used_put_le (x : F) (fs : List F) : usedF (putN F.n x fs) ≤ usedF fs + x.b.length := by
 unfold putN
 rw [usedF_insN]
 have := usedF_delN x.n fs
 omega

end Go.Proofs.YtnbddiiedagllaaGreat

/- What compacting leaves, wherever it fails: the old log or the new one. -/
namespace Go.Proofs.YtnbddiiedagllaaGreat
open Go.RowKit Go.Maps

theorem fill_run {G : List F → Prop} {room : Nat} {fs : List F} (hs : Sorted fs) (hc : findN F.n newB fs = none) (N : Nat) (l : List Nat) (hroom : usedF fs + l.length ≤ room)
  (hg : ∀ fs', (∀ n, n ≠ newB → findN F.n n fs' = findN F.n n fs) → G fs') (hG' : ∀ fs', (∀ n, findN F.n n fs' = if n = nmB N then some ⟨nmB N, l, l.length⟩ else findN F.n n fs) → G fs') :
  ∃ fs', Run G room (fillOps N l) fs fs' ∧ (∀ n, findN F.n n fs' = if n = nmB N then some ⟨nmB N, l, l.length⟩ else findN F.n n fs) ∧ Sorted fs' ∧ usedF fs' ≤ usedF fs + l.length := by
 have h1 : ∀ n, findN F.n n (putN F.n ⟨newB, [], 0⟩ fs) = if n = newB then some ⟨newB, [], 0⟩ else findN F.n n fs := fun n => fd_put F.n n ⟨newB, [], 0⟩ fs
 have u1 : usedF (putN F.n ⟨newB, [], 0⟩ fs) ≤ usedF fs := used_put_le ⟨newB, [], 0⟩ fs
 have s1 : Sorted (putN F.n ⟨newB, [], 0⟩ fs) := put_sorted _ hs
 generalize hf1 : putN F.n ⟨newB, [], 0⟩ fs = fs1 at *
 have c1 : findN F.n newB fs1 = some ⟨newB, [], 0⟩ := by rw [h1, if_pos rfl]
 have h2 : ∀ n, findN F.n n (setN F.n ⟨newB, l, 0⟩ fs1) = if n = newB then some ⟨newB, l, 0⟩ else findN F.n n fs := fun n => by
  rw [fd_set, h1]
  by_cases e : n = newB
  ·subst e; simp
  ·simp [e]
 have u2 : usedF (setN F.n ⟨newB, l, 0⟩ fs1) ≤ usedF fs + l.length := by
  rw [setN_putN _ _ s1 (by show findN F.n newB fs1 ≠ none; rw [c1]; simp)]
  have := used_put_le ⟨newB, l, 0⟩ fs1
  simp only at this
  omega
 have s2 : Sorted (setN F.n ⟨newB, l, 0⟩ fs1) := setN_sorted _ s1
 have o2 := op_append (room := room) newB_named c1 l (by omega)
 simp only [List.nil_append] at o2
 generalize hf2 : setN F.n ⟨newB, l, 0⟩ fs1 = fs2 at *
 have c2 : findN F.n newB fs2 = some ⟨newB, l, 0⟩ := by rw [h2, if_pos rfl]
 have o3 := op_sync (room := room) newB_named c2
 simp only at o3
 have h3 : ∀ n, findN F.n n (setN F.n ⟨newB, l, l.length⟩ fs2) = if n = newB then some ⟨newB, l, l.length⟩ else findN F.n n fs := fun n => by
  rw [fd_set, h2]
  by_cases e : n = newB
  ·subst e; simp
  ·simp [e]
 have s3 : Sorted (setN F.n ⟨newB, l, l.length⟩ fs2) := setN_sorted _ s2
 have u3 : usedF (setN F.n ⟨newB, l, l.length⟩ fs2) ≤ usedF fs2 := by
  rw [setN_putN _ _ s2 (by show findN F.n newB fs2 ≠ none; rw [c2]; simp)]
  unfold putN
  rw [usedF_insN]
  obtain ⟨m1, m2⟩ := findN_some c2
  have := usedF_delN_mem m1 m2
  simp only at this ⊢
  omega
 generalize hf3 : setN F.n ⟨newB, l, l.length⟩ fs2 = fs3 at *
 have c3 : findN F.n newB fs3 = some ⟨newB, l, l.length⟩ := by rw [h3, if_pos rfl]
 have o4 := op_rename (room := room) newB_named (nmB_named N) c3
 simp only at o4
 have h4 : ∀ n, findN F.n n (putN F.n ⟨nmB N, l, l.length⟩ (delN F.n newB fs3)) = if n = nmB N then some ⟨nmB N, l, l.length⟩ else findN F.n n fs := fun n => by
  rw [fd_put, fd_del, h3]
  by_cases e : n = nmB N
  ·simp [e]
  ·simp only [e, if_false]
   by_cases e2 : n = newB
   ·subst e2; simp [hc]
   ·simp [e2]
 have s4 : Sorted (putN F.n ⟨nmB N, l, l.length⟩ (delN F.n newB fs3)) := put_sorted _ (del_sorted _ s3)
 have u4 : usedF (putN F.n ⟨nmB N, l, l.length⟩ (delN F.n newB fs3)) ≤ usedF fs3 := by
  have h5 := used_put_le ⟨nmB N, l, l.length⟩ (delN F.n newB fs3)
  obtain ⟨m1, m2⟩ := findN_some c3
  have := usedF_delN_mem m1 m2
  simp only at this h5
  omega
 refine ⟨_, .cons (hg _ fun _ _ => rfl) (by rw [op_create newB_named hc, hf1]) (.cons (hg _ fun n e => by rw [h1, if_neg e]) o2 (.cons (hg _ fun n e => by rw [h2, if_neg e]) o3 (.cons (hg _ fun n e => by rw [h3, if_neg e]) o4 (.nil (hG' _ h4))))), h4, s4, by omega⟩

end Go.Proofs.YtnbddiiedagllaaGreat

/- A log whose records are durable, as segments. -/
namespace Go.Proofs.YtnbddiiedagllaaGreat
open Go.RowKit Go.Maps

theorem LInv.len {W : WM} {B : List (List (List Nat))} {c : List (List Nat)} (h : LInv W B c) : W.D.fs.length = (B ++ [c]).length := by
 rw [h.fs]; unfold filesL; rw [List.length_append, List.length_mapIdx, List.length_append]; rfl

end Go.Proofs.YtnbddiiedagllaaGreat

/- Opening a log, a crash, and opening it again, as plain data: the records stay. -/
namespace Go.Proofs.YtnbddiiedagllaaGreat
open Go.RowKit Go.Maps

structure Final (N size : Nat) (recs : List (List Nat)) (fs : List F) (ps : List PS) : Prop where
 sync : SegSync fs
 cut : findN F.n cutB fs = none
 new : findN F.n newB fs = none
 segs : SegsC fs ps
 log : LogK ps 0 recs
 last : ∃ h : 0 < ps.length, (lastP ps h).n = (N : Int) ∧ (lastP ps h).t = [] ∧ (joinL (lastP ps h).ls).length = size

theorem segsC_find {fs : List F} {ps : List PS} (h : SegsC fs ps) {p : PS} (hp : p ∈ ps) {N : Nat} (hN : p.n = (N : Int)) : ∃ f, findN F.n (nmB N) fs = some f ∧ 1 ≤ N ∧ N ≤ 99999999 ∧ Splits f.b p.ls p.t := by
 obtain ⟨K, b, e, g1, g2, g3, g4⟩ := h.2.1 p hp
 obtain rfl : K = N := by rw [hN] at e; omega
 obtain ⟨f, hf, rfl⟩ := segC_some g3
 exact ⟨f, hf, g1, g2, g4⟩

end Go.Proofs.YtnbddiiedagllaaGreat

/- What a crash leaves of a log that was being compacted. -/
namespace Go.Proofs.YtnbddiiedagllaaGreat
open Go.RowKit Go.Maps

theorem gl_log {recs : List (List Nat)} {M : DM} {ps : List PS} {y : LR} (hd : M.down = false) (hG : GL recs M.fs) (hA : AllOf M ps) (hy : IsLog ps y) : y.z = 0 ∧ y.recs = recs := by
 obtain ⟨_, qs, hq, hl⟩ := hG
 obtain rfl := allOf_uniq hA ((allOf_segs hd).2 hq)
 rcases hl with ⟨rfl, rfl⟩ | ⟨k, hk, hg, rfl⟩
 ·obtain rfl := isLog_uniq hy (.inl ⟨rfl, rfl⟩)
  exact ⟨rfl, rfl⟩
 ·have h0 : 0 < ps.length := by obtain ⟨h, _⟩ := hk; omega
  obtain rfl := isLog_uniq hy (.inr ⟨k, h0, hk, .inr ⟨hg, rfl⟩⟩)
  exact ⟨rfl, rfl⟩

end Go.Proofs.YtnbddiiedagllaaGreat

