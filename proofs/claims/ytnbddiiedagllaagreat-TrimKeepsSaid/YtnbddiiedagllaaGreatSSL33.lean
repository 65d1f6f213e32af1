import Derived.Test.YtnbddiiedagllaaGreatSSL32
import Derived.Test.YtnbddiiedagllaaGreatSSL31
import Derived.Test.YtnbddiiedagllaaGreatSSL21
/- What the reference reads of a segment that is there. -/
namespace Go.Proofs.YtnbddiiedagllaaGreat
open Go.RowKit Go.Maps Go.Shelf

theorem markAt_split {l t : List Nat} {ls : List (List Nat)} {b : Bool} (hs : Splits l ls t) (hm : MarkAt l b) : b = markOf ls := by
 match ls, hs with
 | [], hs =>
  have e : l = t := by have := hs.eq; rwa [joinL_nil, List.nil_append] at this
  rcases hm with ⟨r, t', hl, hr, _⟩ | ⟨_, rfl⟩
  ·exact absurd (e.symm.trans hl) (hs.no r t' hr)
  ·rfl
 | q :: ls, hs =>
  have e : l = frameL q ++ (joinL ls ++ t) := by have := hs.eq; rwa [joinL_cons, List.append_assoc] at this
  rcases hm with ⟨r, t', hl, hr, rfl⟩ | ⟨hno, _⟩
  ·obtain ⟨rfl, _⟩ := frame_uniq (hl.symm.trans e)
   rfl
  ·exact absurd e (hno q _ (hs.recs q (List.mem_cons_self ..)))

theorem seg_file {M : DM} {ps : List PS} (hA : AllOf M ps) {R : List FR} (hfs : R.map FR.f = M.fs) (hd : M.down = false) {p : PS} (hp : p ∈ ps) :
  ∃ (N : Nat) (y : FR), p.n = (N : Int) ∧ 1 ≤ N ∧ N ≤ 99999999 ∧ findN FR.n (nmB N) R = some y ∧ y ∈ R ∧ y.f.b = joinL p.ls ++ p.t ∧ Splits y.f.b p.ls p.t := by
 obtain ⟨l, hl1, hl2, hl3⟩ := (hA.1.2 p.n).1 (List.mem_map.2 ⟨p, hp, rfl⟩)
 obtain ⟨f, hf, rfl⟩ := List.mem_map.1 hl1
 have hnb := nmB_of_num hl2
 have hle2 := segNum_le (nmL f.n)
 obtain ⟨N, hN⟩ : ∃ N, N = segNum (nmL f.n) := ⟨_, rfl⟩
 rw [← hN] at hl2 hl3 hle2 hnb
 obtain ⟨f', hf'⟩ := findN_have (n := nmB N) ⟨f, hf, hnb.symm⟩
 have hfd : findN F.n (nmB N) M.fs = (findN FR.n (nmB N) R).map FR.f := by rw [← hfs]; exact findN_map FR.n F.n FR.f (fun _ => rfl) (nmB N) R
 rw [hf'] at hfd
 cases hy : findN FR.n (nmB N) R with
 | none => rw [hy] at hfd; cases hfd
 | some y =>
  rw [hy] at hfd
  have hyf : f' = y.f := Option.some.inj hfd
  have hs := hA.2 p hp
  rw [hl3, Int.toNat_natCast, readM_up hd hf', hyf] at hs
  exact ⟨N, y, hl3, by omega, hle2, hy, (findN_some hy).1, hs.eq, hs⟩

theorem allOf_asc {M : DM} {ps : List PS} (hA : AllOf M ps) : Asc (ps.map PS.n) := hA.1.1

theorem allOf_pos {M : DM} {ps : List PS} (hA : AllOf M ps) : ∀ x ∈ ps.map PS.n, 0 < x ∧ x ≤ 99999999 := by
 intro x hx
 obtain ⟨l, _, h1, rfl⟩ := (hA.1.2 x).1 hx
 have := segNum_le l
 omega

theorem allOf_lt {M : DM} {ps : List PS} (hA : AllOf M ps) {i j : Nat} (hi : i < j) (hj : j < ps.length) : (ps[i]'(by omega)).n < ps[j].n := by
 have := (List.pairwise_iff_getElem.1 hA.1.1) i j (by rw [List.length_map]; omega) (by rw [List.length_map]; exact hj) hi
 simpa using this

theorem allOf_lt_iff {M : DM} {ps : List PS} (hA : AllOf M ps) {i j : Nat} (hi : i < ps.length) (hj : j < ps.length) : ps[i].n < ps[j].n ↔ i < j := by
 constructor
 ·intro h
  rcases Nat.lt_trichotomy i j with g | g | g
  ·exact g
  ·subst g; omega
  ·have := allOf_lt hA g hi; omega
 ·exact fun h => allOf_lt hA h hj
end Go.Proofs.YtnbddiiedagllaaGreat

/- Compacting a log, as plain data: the changes that it makes. -/
namespace Go.Proofs.YtnbddiiedagllaaGreat
open Go.RowKit Go.Maps

theorem stepsM_append (a b : List SO) (M : DM) : stepsM (a ++ b) M = if (stepsM a M).2 = 0 then stepsM b (stepsM a M).1 else stepsM a M := by
 induction a generalizing M with
 | nil => simp [stepsM]
 | cons x a ih =>
  have e : ∀ l, stepsM (x :: l) M = if (stepM x.k x.nm x.tt x.bs M).2 = 0 then stepsM l (stepM x.k x.nm x.tt x.bs M).1 else stepM x.k x.nm x.tt x.bs M := fun _ => rfl
  rw [List.cons_append, e, e]
  by_cases h : (stepM x.k x.nm x.tt x.bs M).2 = 0
  ·rw [if_pos h, if_pos h, ih]
  ·rw [if_neg h, if_neg h, if_neg h]

theorem mem_names_ins (x : F) (l : List F) (n : List UInt8) : n ∈ (insN F.n x l).map F.n ↔ n = x.n ∨ n ∈ l.map F.n := by
 constructor
 ·intro h
  obtain ⟨f, hf, e⟩ := List.mem_map.1 h
  rcases (mem_insN F.n _ _ _).1 hf with rfl | hf
  ·exact .inl e.symm
  ·exact .inr (List.mem_map.2 ⟨f, hf, e⟩)
 ·rintro (e | h)
  ·exact List.mem_map.2 ⟨x, (mem_insN F.n _ _ _).2 (.inl rfl), e.symm⟩
  ·obtain ⟨f, hf, e⟩ := List.mem_map.1 h
   exact List.mem_map.2 ⟨f, (mem_insN F.n _ _ _).2 (.inr hf), e⟩

theorem mem_names_del (m : List UInt8) (l : List F) (n : List UInt8) (hne : n ≠ m) : n ∈ (delN F.n m l).map F.n ↔ n ∈ l.map F.n := by
 unfold delN
 constructor
 ·intro h
  obtain ⟨f, hf, e⟩ := List.mem_map.1 h
  exact List.mem_map.2 ⟨f, (List.mem_filter.1 hf).1, e⟩
 ·intro h
  obtain ⟨f, hf, e⟩ := List.mem_map.1 h
  exact List.mem_map.2 ⟨f, List.mem_filter.2 ⟨hf, by rw [e]; simpa using hne⟩, e⟩

theorem mem_names_put (x : F) (l : List F) (n : List UInt8) (hne : n ≠ x.n) : n ∈ (putN F.n x l).map F.n ↔ n ∈ l.map F.n := by
 unfold putN
 rw [mem_names_ins, mem_names_del _ _ _ hne]
 exact ⟨fun h => h.resolve_left hne, .inr⟩

theorem mem_names_set (x : F) (l : List F) (n : List UInt8) : n ∈ (setN F.n x l).map F.n ↔ n ∈ l.map F.n := by
 have e : (setN F.n x l).map F.n = l.map F.n := by
  unfold setN
  rw [List.map_map]
  refine List.map_congr_left (fun y _ => ?_)
  show F.n (if (F.n y == F.n x) = true then x else y) = F.n y
  by_cases h : (F.n y == F.n x) = true
  ·rw [if_pos h]; exact (by simpa using h : F.n y = F.n x).symm
  ·rw [if_neg h]
 rw [e]

theorem chgM_names {M : DM} {nm n : List UInt8} {act : DM → DM × Int} (ha : ∀ M', M'.fs = M.fs → (n ∈ (act M').1.fs.map F.n ↔ n ∈ M.fs.map F.n)) : n ∈ (chgM M nm act).1.fs.map F.n ↔ n ∈ M.fs.map F.n := by
 unfold chgM
 split
 ·rw [failM_fs' M]
 ·split
  ·exact ha _ (failM_fs' M)
  ·rw [failM_fs' M]

theorem onM_names {M M' : DM} (he : M'.fs = M.fs) {nm n : List UInt8} {act : F → DM → DM × Int} (ha : ∀ f, n ∈ (act f M').1.fs.map F.n ↔ n ∈ M.fs.map F.n) : n ∈ (onM nm act M').1.fs.map F.n ↔ n ∈ M.fs.map F.n := by
 unfold onM
 split
 ·rw [he]
 ·exact ha _

theorem step_names {M : DM} {k : Int} {nm tt : List UInt8} {bs : List Nat} {n : List UInt8} (h1 : n ≠ nm) (h2 : n ≠ tt) : n ∈ (stepM k nm tt bs M).1.fs.map F.n ↔ n ∈ M.fs.map F.n := by
 unfold stepM
 split
 ·refine chgM_names fun M' e => ?_
  split
  ·rw [e]
  ·rw [mem_names_put _ _ _ h1, e]
 ·split
  ·refine chgM_names fun M' e => onM_names e fun f => ?_
   split
   ·rw [mem_names_set, e]
   ·rw [e]
  ·split
   ·refine chgM_names fun M' e => onM_names e fun f => ?_
    rw [mem_names_set, e]
   ·split
    ·refine chgM_names fun M' e => onM_names e fun f => ?_
     split
     ·rw [mem_names_put _ _ _ h2, mem_names_del _ _ _ h1, e]
     ·rw [e]
    ·refine chgM_names fun M' e => onM_names e fun f => ?_
     rw [mem_names_del _ _ _ h1, e]

theorem steps_names {n : List UInt8} : ∀ (ops : List SO) {M : DM}, (∀ x ∈ ops, n ≠ x.nm ∧ n ≠ x.tt) → (n ∈ (stepsM ops M).1.fs.map F.n ↔ n ∈ M.fs.map F.n)
 | [], _, _ => Iff.rfl
 | x :: ops, M, h => by
  have h1 := step_names (M := M) (k := x.k) (bs := x.bs) (h x (List.mem_cons_self ..)).1 (h x (List.mem_cons_self ..)).2
  have e : stepsM (x :: ops) M = if (stepM x.k x.nm x.tt x.bs M).2 = 0 then stepsM ops (stepM x.k x.nm x.tt x.bs M).1 else stepM x.k x.nm x.tt x.bs M := rfl
  rw [e]
  split
  ·rw [steps_names ops (fun y hy => h y (List.mem_cons_of_mem _ hy)), h1]
  ·exact h1

def fillOps (n : Nat) (b : List Nat) : List SO := [⟨1, newB, [], []⟩, ⟨2, newB, [], b⟩, ⟨3, newB, [], []⟩, ⟨4, newB, nmB n, []⟩]
def oldOps (out : List Int) (n : Nat) : List SO := (out.filter fun x => decide (x < (n : Int))).map fun x => ⟨5, nmB x.toNat, [], []⟩
def compOps (M : DM) (out : List Int) (n : Nat) (b : List Nat) : List SO := cleanM [newB] M ++ fillOps n b ++ oldOps out n

def IsComp (M : DM) (n : Nat) (b : List Nat) (r : DM × Int) : Prop := ∃ out, SegsOf M out ∧ r = stepsM (compOps M out n b) M

theorem isComp_uniq {M : DM} {n : Nat} {b : List Nat} {r r' : DM × Int} (h : IsComp M n b r) (h' : IsComp M n b r') : r = r' := by
 obtain ⟨o, h1, rfl⟩ := h
 obtain ⟨o', h2, rfl⟩ := h'
 rw [segsOf_uniq h1 h2]

theorem nmB_newB (N : Nat) : nmB N ≠ newB := fun e => by have := congrArg List.length e; rw [nmB_length] at this; cases this
theorem nmB_nil (N : Nat) : nmB N ≠ [] := fun e => by have := congrArg List.length e; rw [nmB_length] at this; cases this

theorem older_same {M M' : DM} {out out' : List Int} {n : Nat} {ops : List SO} (hn : n ≤ 99999999) (ho : ∀ x ∈ ops, (x.nm = newB ∨ x.nm = nmB n) ∧ (x.tt = [] ∨ x.tt = nmB n)) (hM : M' = (stepsM ops M).1) (h : SegsOf M out) (h' : SegsOf M' out') :
  out'.filter (fun x => decide (x < (n : Int))) = out.filter (fun x => decide (x < (n : Int))) := by
 have key : ∀ k : Nat, 1 ≤ k → k < n → (nmB k ∈ M'.fs.map F.n ↔ nmB k ∈ M.fs.map F.n) := by
  intro k h1 h2
  rw [hM]
  refine steps_names ops fun x hx => ?_
  have hk : nmB k ≠ nmB n := fun e => by have := nmB_inj (by omega) hn e; omega
  obtain ⟨g1, g2⟩ := ho x hx
  constructor
  ·rcases g1 with g | g <;> rw [g]
   ·exact nmB_newB k
   ·exact hk
  ·rcases g2 with g | g <;> rw [g]
   ·exact nmB_nil k
   ·exact hk
 have mem : ∀ {D : DM} {o : List Int}, SegsOf D o → ∀ x : Int, x < (n : Int) → (x ∈ o ↔ ∃ k : Nat, 1 ≤ k ∧ x = (k : Int) ∧ nmB k ∈ D.fs.map F.n) := by
  intro D o hD x hx
  rw [hD.2 x]
  constructor
  ·rintro ⟨l, hl, h1, rfl⟩
   obtain ⟨f, hf, rfl⟩ := List.mem_map.1 hl
   exact ⟨_, h1, rfl, List.mem_map.2 ⟨f, hf, (nmB_of_num h1).symm⟩⟩
  ·rintro ⟨k, h1, rfl, hk⟩
   obtain ⟨f, hf, e⟩ := List.mem_map.1 hk
   have e2 : segNum (nmL f.n) = k := by rw [e, nmL_nmB, segNum_name (by omega)]
   exact ⟨nmL f.n, List.mem_map.2 ⟨f, hf, rfl⟩, by omega, by rw [e2]⟩
 refine asc_eq (List.Pairwise.filter _ h'.1) (List.Pairwise.filter _ h.1) fun x => ?_
 rw [List.mem_filter, List.mem_filter]
 constructor
 ·rintro ⟨h1, h2⟩
  have hx : x < (n : Int) := by simpa using h2
  refine ⟨?_, h2⟩
  obtain ⟨k, k1, rfl, k3⟩ := (mem h' x hx).1 h1
  exact (mem h _ hx).2 ⟨k, k1, rfl, (key k k1 (by omega)).1 k3⟩
 ·rintro ⟨h1, h2⟩
  have hx : x < (n : Int) := by simpa using h2
  refine ⟨?_, h2⟩
  obtain ⟨k, k1, rfl, k3⟩ := (mem h x hx).1 h1
  exact (mem h' _ hx).2 ⟨k, k1, rfl, (key k k1 (by omega)).2 k3⟩

theorem isComp_steps {M : DM} {n : Nat} {b : List Nat} (hn : n ≤ 99999999) {r1 r2 : DM × Int} {out' : List Int} (h1 : r1 = stepsM (cleanM [newB] M) M) (h2 : r2 = if r1.2 = 0 then stepsM (fillOps n b) r1.1 else r1) {out : List Int} (ho : SegsOf M out) (ho' : SegsOf r2.1 out') {r : DM × Int} (hr : r = if r2.2 = 0 then stepsM (oldOps out' n) r2.1 else r2) : IsComp M n b r := by
 refine ⟨out, ho, ?_⟩
 have e2 : r2 = stepsM (cleanM [newB] M ++ fillOps n b) M := by rw [h2, stepsM_append, ← h1]
 have hold : oldOps out' n = oldOps out n := by
  unfold oldOps
  rw [older_same (M := M) (M' := r2.1) (ops := cleanM [newB] M ++ fillOps n b) hn (fun x hx => ?_) (by rw [e2]) ho ho']
  rcases List.mem_append.1 hx with h | h
  ·unfold cleanM at h
   obtain ⟨m, hm, rfl⟩ := List.mem_map.1 h
   have := (List.mem_filter.1 hm).1
   exact ⟨.inl (by simpa using this), .inl rfl⟩
  ·unfold fillOps at h
   simp only [List.mem_cons, List.not_mem_nil, or_false] at h
   rcases h with rfl | rfl | rfl | rfl
   ·exact ⟨.inl rfl, .inl rfl⟩
   ·exact ⟨.inl rfl, .inl rfl⟩
   ·exact ⟨.inl rfl, .inl rfl⟩
   ·exact ⟨.inl rfl, .inr rfl⟩
 unfold compOps
 rw [hr, hold, stepsM_append, ← e2]

theorem compOps_len (M : DM) (out : List Int) (n : Nat) (b : List Nat) : (compOps M out n b).length ≤ out.length + 5 := by
 unfold compOps oldOps fillOps
 have h1 := cleanM_len [newB] M
 have h2 := List.length_filter_le (fun x : Int => decide (x < (n : Int))) out
 simp only [List.length_append, List.length_map, List.length_cons, List.length_nil] at *
 omega
end Go.Proofs.YtnbddiiedagllaaGreat

/- Files found by their names: after a removal, a change, a crash. -/
namespace Go.Proofs.YtnbddiiedagllaaGreat
open Go.RowKit Go.Maps

section
variable {α : Type}

theorem fd_del (f : α → List UInt8) (n m : List UInt8) (l : List α) : findN f n (delN f m l) = if n = m then none else findN f n l := by
 unfold findN delN
 rw [List.find?_filter]
 split
 ·next h =>
  subst h
  rw [List.find?_eq_none]
  intro x _ hx
  have hx := of_decide_eq_true hx
  simp only [Bool.not_eq_true'] at hx
  rw [hx.2] at hx
  exact absurd hx.1 (by simp)
 ·next h =>
  congr 1
  funext x
  by_cases e : f x = n
  ·simp [e, h]
  ·simp [e]

theorem fd_ins (f : α → List UInt8) (n : List UInt8) (x : α) : ∀ l : List α, (∀ y ∈ l, f y ≠ f x) → findN f n (insN f x l) = if n = f x then some x else findN f n l
 | [], _ => by
  unfold insN findN
  by_cases e : n = f x
  ·simp [e]
  ·simp [e, Ne.symm e]
 | y :: l, h => by
  have hy := h y (List.mem_cons_self ..)
  have ih := fd_ins f n x l (fun z hz => h z (List.mem_cons_of_mem _ hz))
  unfold insN
  split
  ·unfold findN
   by_cases e : n = f x
   ·simp [e]
   ·simp [e, Ne.symm e]
  ·unfold findN at ih ⊢
   by_cases e : f y = n
   ·have : n ≠ f x := fun e2 => hy (e.trans e2)
    simp [e, this]
   ·rw [List.find?_cons_of_neg (by simpa using e), List.find?_cons_of_neg (by simpa using e)]
    exact ih

theorem fd_put (f : α → List UInt8) (n : List UInt8) (x : α) (l : List α) : findN f n (putN f x l) = if n = f x then some x else findN f n l := by
 unfold putN
 rw [fd_ins f n x _ (fun y hy => by
  unfold delN at hy
  have := (List.mem_filter.1 hy).2
  simpa using this), fd_del]
 split
 ·rfl
 ·rfl

theorem fd_set (f : α → List UInt8) (n : List UInt8) (x : α) : ∀ l : List α, findN f n (setN f x l) = if n = f x then (findN f n l).map (fun _ => x) else findN f n l
 | [] => by unfold setN findN; simp
 | y :: l => by
  have ih := fd_set f n x l
  unfold setN findN at ih ⊢
  rw [List.map_cons]
  by_cases e : f y = f x
  ·rw [if_pos (by simpa using e)]
   by_cases e2 : n = f x
   ·subst e2
    simp [e]
   ·rw [if_neg e2] at ih ⊢
    rw [List.find?_cons_of_neg (by simpa using fun h => e2 h.symm), List.find?_cons_of_neg (by simpa [e] using fun h => e2 h.symm)]
    exact ih
  ·rw [if_neg (by simpa using e)]
   by_cases e3 : f y = n
   ·have : n ≠ f x := fun h => e (e3.trans h)
    rw [if_neg this, List.find?_cons_of_pos (by simpa using e3), List.find?_cons_of_pos (by simpa using e3)]
   ·rw [List.find?_cons_of_neg (by simpa using e3), List.find?_cons_of_neg (by simpa using e3)]
    exact ih
end

def segC (fs : List F) (N : Nat) : Option (List Nat) := (findN F.n (nmB N) fs).map F.b

end Go.Proofs.YtnbddiiedagllaaGreat

/- The segments of a disk by what each number's file has; what removals and cuts make of them. -/
namespace Go.Proofs.YtnbddiiedagllaaGreat
open Go.RowKit Go.Maps

def SegsC (fs : List F) (ps : List PS) : Prop :=
 Asc (ps.map PS.n) ∧ (∀ p ∈ ps, ∃ (N : Nat) (b : List Nat), p.n = (N : Int) ∧ 1 ≤ N ∧ N ≤ 99999999 ∧ segC fs N = some b ∧ Splits b p.ls p.t) ∧ ∀ N : Nat, 1 ≤ N → N ≤ 99999999 → segC fs N ≠ none → (N : Int) ∈ ps.map PS.n

theorem segC_some {fs : List F} {N : Nat} {b : List Nat} (h : segC fs N = some b) : ∃ f, findN F.n (nmB N) fs = some f ∧ f.b = b := by
 unfold segC at h
 cases hf : findN F.n (nmB N) fs with
 | none => rw [hf] at h; cases h
 | some f => rw [hf] at h; exact ⟨f, rfl, Option.some.inj h⟩

theorem allOf_segs {M : DM} (hd : M.down = false) {ps : List PS} : AllOf M ps ↔ SegsC M.fs ps := by
 constructor
 ·intro hA
  refine ⟨hA.1.1, fun p hp => ?_, fun N h1 h2 h3 => ?_⟩
  ·obtain ⟨l, hl1, hl2, hl3⟩ := (hA.1.2 p.n).1 (List.mem_map.2 ⟨p, hp, rfl⟩)
   obtain ⟨f, hf, rfl⟩ := List.mem_map.1 hl1
   have hnb := nmB_of_num hl2
   have hle := segNum_le (nmL f.n)
   obtain ⟨f', hf'⟩ := findN_have (n := nmB (segNum (nmL f.n))) ⟨f, hf, hnb.symm⟩
   have hs := hA.2 p hp
   rw [hl3, Int.toNat_natCast, readM_up hd hf'] at hs
   exact ⟨_, f'.b, hl3, hl2, hle, by unfold segC; rw [hf']; rfl, hs⟩
  ·cases hs : segC M.fs N with
   | none => exact absurd hs h3
   | some b =>
    obtain ⟨f, hf, _⟩ := segC_some hs
    obtain ⟨hm, hn⟩ := findN_some hf
    refine (hA.1.2 _).2 ⟨nmL f.n, List.mem_map.2 ⟨f, hm, rfl⟩, ?_, ?_⟩ <;> rw [hn, nmL_nmB, segNum_name h2]
    omega
 ·rintro ⟨h1, h2, h3⟩
  refine ⟨⟨h1, fun x => ⟨fun hx => ?_, fun hx => ?_⟩⟩, fun p hp => ?_⟩
  ·obtain ⟨p, hp, rfl⟩ := List.mem_map.1 hx
   obtain ⟨N, b, e, g1, g2, g3, _⟩ := h2 p hp
   obtain ⟨f, hf, _⟩ := segC_some g3
   obtain ⟨hm, hn⟩ := findN_some hf
   refine ⟨nmL f.n, List.mem_map.2 ⟨f, hm, rfl⟩, ?_, ?_⟩ <;> rw [hn, nmL_nmB, segNum_name g2]
   ·omega
   ·exact e
  ·obtain ⟨l, hl1, hl2, rfl⟩ := hx
   obtain ⟨f, hf, rfl⟩ := List.mem_map.1 hl1
   have hnb := nmB_of_num hl2
   obtain ⟨f', hf'⟩ := findN_have (n := nmB (segNum (nmL f.n))) ⟨f, hf, hnb.symm⟩
   refine h3 _ hl2 (segNum_le _) ?_
   unfold segC
   rw [hf']
   simp
  ·obtain ⟨N, b, e, g1, g2, g3, g4⟩ := h2 p hp
   obtain ⟨f, hf, hb⟩ := segC_some g3
   rw [e, Int.toNat_natCast, readM_up hd hf, hb]
   exact g4

theorem SegsC.same {fs fs' : List F} {ps : List PS} (h : SegsC fs ps) (he : ∀ N : Nat, 1 ≤ N → N ≤ 99999999 → segC fs' N = segC fs N) : SegsC fs' ps := by
 obtain ⟨h1, h2, h3⟩ := h
 refine ⟨h1, fun p hp => ?_, fun N g1 g2 g3 => h3 N g1 g2 (by rwa [he N g1 g2] at g3)⟩
 obtain ⟨N, b, e, g1, g2, g3, g4⟩ := h2 p hp
 exact ⟨N, b, e, g1, g2, by rw [he N g1 g2]; exact g3, g4⟩

theorem SegsC.cut {fs fs' : List F} {p : PS} {qs : List PS} (h : SegsC fs (qs ++ [p])) (he : ∀ N : Nat, 1 ≤ N → N ≤ 99999999 → segC fs' N = if (N : Int) = p.n then some (joinL p.ls) else segC fs N) : SegsC fs' (qs ++ [⟨p.n, p.ls, []⟩]) := by
 obtain ⟨h1, h2, h3⟩ := h
 have hm : (qs ++ [(⟨p.n, p.ls, []⟩ : PS)]).map PS.n = (qs ++ [p]).map PS.n := by simp
 refine ⟨by rw [hm]; exact h1, fun q hq => ?_, fun N g1 g2 g3 => ?_⟩
 ·rcases List.mem_append.1 hq with hq | hq
  ·obtain ⟨N, b, e, g1, g2, g3, g4⟩ := h2 q (List.mem_append.2 (.inl hq))
   refine ⟨N, b, e, g1, g2, ?_, g4⟩
   rw [he N g1 g2, if_neg ?_]
   ·exact g3
   ·intro h
    unfold Asc at h1
    rw [List.map_append, List.pairwise_append] at h1
    have := h1.2.2 q.n (List.mem_map.2 ⟨q, hq, rfl⟩) p.n (by simp)
    omega
  ·obtain rfl := List.mem_singleton.1 hq
   obtain ⟨N, b, e, g1, g2, g3, g4⟩ := h2 p (by simp)
   refine ⟨N, joinL p.ls, e, g1, g2, ?_, splits_all _ g4.recs⟩
   rw [he N g1 g2, if_pos e.symm]
 ·rw [hm]
  rw [he N g1 g2] at g3
  by_cases hN : (N : Int) = p.n
  ·rw [hN]; simp
  ·rw [if_neg hN] at g3
   exact h3 N g1 g2 g3

def SegSync (fs : List F) : Prop := ∀ (N : Nat) (f : F), 1 ≤ N → N ≤ 99999999 → findN F.n (nmB N) fs = some f → f.d = f.b.length

end Go.Proofs.YtnbddiiedagllaaGreat

/- What Open makes of a log, as plain data. -/
namespace Go.Proofs.YtnbddiiedagllaaGreat
open Go.RowKit Go.Maps

def lastP (ps : List PS) (h : 0 < ps.length) : PS := ps[ps.length - 1]'(by omega)

def BrokenAt (ps : List PS) : Prop := ∃ k, FirstAt ps k ∧ ¬ Good (ps.drop k)

def RepOf (M : DM) (ps : List PS) (ops : List SO) (N size : Nat) (recs : List (List Nat)) : Prop :=
 (ps = [] ∧ ops = repNone M ∧ N = 1 ∧ size = 0 ∧ recs = []) ∨
 ∃ (k : Nat) (h : 0 < ps.length), FirstAt ps k ∧ Good (ps.drop k) ∧ (lastP ps h).n = (N : Int) ∧ size = (joinL (lastP ps h).ls).length ∧ recs = recsL (ps.drop k) ∧ ops = repOps M ((ps.take k).map PS.n) N (joinL (lastP ps h).ls) (lastP ps h).t.length

structure OR where
 z : Int
 M : DM
 N : Nat
 size : Nat
 recs : List (List Nat)

def IsOpen (M : DM) (ps : List PS) (r : OR) : Prop := (BrokenAt ps ∧ r = ⟨11, M, 0, 0, []⟩) ∨ ∃ ops N size recs, RepOf M ps ops N size recs ∧ r = ⟨(stepsM ops M).2, (stepsM ops M).1, N, size, recs⟩

theorem first_ex (ps : List PS) (h : 0 < ps.length) : ∃ k, FirstAt ps k := by
 have key : ∀ j, j ≤ ps.length → (∃ k, FirstAt ps k) ∨ ∀ i (h : i < ps.length), ps.length - j ≤ i → ps[i].mark = false := by
  intro j
  induction j with
  | zero => exact fun _ => .inr fun i hi h => by omega
  | succ j ih =>
   intro hj
   rcases ih (by omega) with h1 | h1
   ·exact .inl h1
   ·have hx : ps.length - (j + 1) < ps.length := by omega
    by_cases hm : ps[ps.length - (j + 1)].mark = true
    ·exact .inl ⟨_, hx, fun i hi hlt => h1 i hi (by omega), .inr hm⟩
    ·refine .inr fun i hi hle => ?_
     by_cases e : i = ps.length - (j + 1)
     ·subst e
      simpa using hm
     ·exact h1 i hi (by omega)
 rcases key ps.length (Nat.le_refl _) with h1 | h1
 ·exact h1
 ·exact ⟨0, h, fun i hi _ => h1 i hi (by omega), .inl rfl⟩
end Go.Proofs.YtnbddiiedagllaaGreat

