import Derived.Test.YtmiepigieajpcaaGreatMB28
import Derived.Test.YtmiepigieajpcaaGreatHScanAgainJ3
import Derived.Test.YtmiepigieajpcaaGreatHScanAgainJ6
import Derived.Test.YtmiepigieajpcaaGreatMB34
import Derived.Test.YtmiepigieajpcaaGreatHScanAgainJ4
import Derived.Test.YtmiepigieajpcaaGreatHScanAgainJ2
import Derived.Deep.RegionHeld3
import Derived.Deep.DeepCutAuto
import Derived.Deep.CutBlock
/- Files found by their names: after a removal, a change, a crash. -/
namespace Go.Proofs.YtmiepigieajpcaaGreat
open Go.RowKit Go.Maps

section
variable {α : Type}

theorem fd_del (f : α → List UInt8) (n m : List UInt8) (l : List α) : findN f n (delN f m l) = if n = m then none else findN f n l := by
  unfold findN delN
  rw [List.find?_filter]
  split
  · next h =>
    subst h
    rw [List.find?_eq_none]
    intro x _ hx
    have hx := of_decide_eq_true hx
    simp only [Bool.not_eq_true'] at hx
    rw [hx.2] at hx
    exact absurd hx.1 (by simp)
  · next h =>
    congr 1
    funext x
    by_cases e : f x = n
    · simp [e, h]
    · simp [e]

theorem fd_ins (f : α → List UInt8) (n : List UInt8) (x : α) : ∀ l : List α, (∀ y ∈ l, f y ≠ f x) → findN f n (insN f x l) = if n = f x then some x else findN f n l
  | [], _ => by
    unfold insN findN
    by_cases e : n = f x
    · simp [e]
    · simp [e, Ne.symm e]
  | y :: l, h => by
    have hy := h y (List.mem_cons_self ..)
    have ih := fd_ins f n x l (fun z hz => h z (List.mem_cons_of_mem _ hz))
    unfold insN
    split
    · unfold findN
      by_cases e : n = f x
      · simp [e]
      · simp [e, Ne.symm e]
    · unfold findN at ih ⊢
      by_cases e : f y = n
      · have : n ≠ f x := fun e2 => hy (e.trans e2)
        simp [e, this]
      · rw [List.find?_cons_of_neg (by simpa using e), List.find?_cons_of_neg (by simpa using e)]
        exact ih

theorem fd_put (f : α → List UInt8) (n : List UInt8) (x : α) (l : List α) : findN f n (putN f x l) = if n = f x then some x else findN f n l := by
  unfold putN
  rw [fd_ins f n x _ (fun y hy => by
    unfold delN at hy
    have := (List.mem_filter.1 hy).2
    simpa using this), fd_del]
  split
  · rfl
  · rfl

theorem fd_set (f : α → List UInt8) (n : List UInt8) (x : α) : ∀ l : List α, findN f n (setN f x l) = if n = f x then (findN f n l).map (fun _ => x) else findN f n l
  | [] => by unfold setN findN; simp
  | y :: l => by
    have ih := fd_set f n x l
    unfold setN findN at ih ⊢
    rw [List.map_cons]
    by_cases e : f y = f x
    · rw [if_pos (by simpa using e)]
      by_cases e2 : n = f x
      · subst e2
        simp [e]
      · rw [if_neg e2] at ih ⊢
        rw [List.find?_cons_of_neg (by simpa using fun h => e2 h.symm), List.find?_cons_of_neg (by simpa [e] using fun h => e2 h.symm)]
        exact ih
    · rw [if_neg (by simpa using e)]
      by_cases e3 : f y = n
      · have : n ≠ f x := fun h => e (e3.trans h)
        rw [if_neg this, List.find?_cons_of_pos (by simpa using e3), List.find?_cons_of_pos (by simpa using e3)]
      · rw [List.find?_cons_of_neg (by simpa using e3), List.find?_cons_of_neg (by simpa using e3)]
        exact ih
end

/-- A segment's bytes. -/
def segC (fs : List F) (N : Nat) : Option (List Nat) := (findN F.n (nmB N) fs).map F.b

theorem fd_crash (n : List UInt8) (ks : List Int) : ∀ (fs : List F) (o : Nat), (findN F.n n fs = none ∧ findN F.n n (fs.mapIdx fun i f => cutF f (ks.getD (o + i) 0)) = none) ∨ ∃ f k, findN F.n n fs = some f ∧ findN F.n n (fs.mapIdx fun i f => cutF f (ks.getD (o + i) 0)) = some (cutF f k)
  | [], _ => .inl ⟨rfl, rfl⟩
  | y :: fs, o => by
    rw [List.mapIdx_cons]
    have ih := fd_crash n ks fs (o + 1)
    have e0 : (fun i f => cutF f (ks.getD (o + (i + 1)) 0)) = fun i f => cutF f (ks.getD (o + 1 + i) 0) := by
      funext i f
      rw [show o + (i + 1) = o + 1 + i by omega]
    rw [e0]
    unfold findN at ih ⊢
    by_cases e : y.n = n
    · exact .inr ⟨y, ks.getD (o + 0) 0, List.find?_cons_of_pos (by simpa using e), List.find?_cons_of_pos (by simpa [cutF] using e)⟩
    · rw [List.find?_cons_of_neg (by simpa using e), List.find?_cons_of_neg (by simpa [cutF] using e)]
      exact ih

theorem cutF_sync {f : F} (h : f.d = f.b.length) (k : Int) : cutF f k = f := by
  unfold cutF
  rw [h, Nat.sub_self, Nat.min_zero, Nat.add_zero, List.take_length, ← h]

/-- A crash leaves files whose bytes are all durable. -/
theorem fd_crash_sync {n : List UInt8} (ks : List Int) {M : DM} (h : ∀ f, findN F.n n M.fs = some f → f.d = f.b.length) : findN F.n n (crashM ks M).fs = findN F.n n M.fs := by
  have e : (crashM ks M).fs = M.fs.mapIdx fun i f => cutF f (ks.getD (0 + i) 0) := by
    unfold crashM
    simp
  rw [e]
  rcases fd_crash n ks M.fs 0 with ⟨h1, h2⟩ | ⟨f, k, h1, h2⟩
  · rw [h1, h2]
  · rw [h1, h2, cutF_sync (h f h1)]
end Go.Proofs.YtmiepigieajpcaaGreat

/- The segments of a disk by what each number's file has; what removals and cuts make of them. -/
namespace Go.Proofs.YtmiepigieajpcaaGreat
open Go.RowKit Go.Maps

/-- The segments, by their contents. -/
def SegsC (fs : List F) (ps : List PS) : Prop :=
  Asc (ps.map PS.n) ∧ (∀ p ∈ ps, ∃ (N : Nat) (b : List Nat), p.n = (N : Int) ∧ 1 ≤ N ∧ N ≤ 99999999 ∧ segC fs N = some b ∧ Splits b p.ls p.t) ∧ ∀ N : Nat, 1 ≤ N → N ≤ 99999999 → segC fs N ≠ none → (N : Int) ∈ ps.map PS.n

theorem segC_some {fs : List F} {N : Nat} {b : List Nat} (h : segC fs N = some b) : ∃ f, findN F.n (nmB N) fs = some f ∧ f.b = b := by
  unfold segC at h
  cases hf : findN F.n (nmB N) fs with
  | none => rw [hf] at h; cases h
  | some f => rw [hf] at h; exact ⟨f, rfl, Option.some.inj h⟩

theorem allOf_segs {M : DM} (hd : M.down = false) {ps : List PS} : AllOf M ps ↔ SegsC M.fs ps := by
  constructor
  · intro hA
    refine ⟨hA.1.1, fun p hp => ?_, fun N h1 h2 h3 => ?_⟩
    · obtain ⟨l, hl1, hl2, hl3⟩ := (hA.1.2 p.n).1 (List.mem_map.2 ⟨p, hp, rfl⟩)
      obtain ⟨f, hf, rfl⟩ := List.mem_map.1 hl1
      have hnb := nmB_of_num hl2
      have hle := segNum_le (nmL f.n)
      obtain ⟨f', hf'⟩ := findN_have (n := nmB (segNum (nmL f.n))) ⟨f, hf, hnb.symm⟩
      have hs := hA.2 p hp
      rw [hl3, Int.toNat_natCast, readM_up hd hf'] at hs
      exact ⟨_, f'.b, hl3, hl2, hle, by unfold segC; rw [hf']; rfl, hs⟩
    · cases hs : segC M.fs N with
      | none => exact absurd hs h3
      | some b =>
        obtain ⟨f, hf, _⟩ := segC_some hs
        obtain ⟨hm, hn⟩ := findN_some hf
        refine (hA.1.2 _).2 ⟨nmL f.n, List.mem_map.2 ⟨f, hm, rfl⟩, ?_, ?_⟩ <;> rw [hn, nmL_nmB, segNum_name h2]
        omega
  · rintro ⟨h1, h2, h3⟩
    refine ⟨⟨h1, fun x => ⟨fun hx => ?_, fun hx => ?_⟩⟩, fun p hp => ?_⟩
    · obtain ⟨p, hp, rfl⟩ := List.mem_map.1 hx
      obtain ⟨N, b, e, g1, g2, g3, _⟩ := h2 p hp
      obtain ⟨f, hf, _⟩ := segC_some g3
      obtain ⟨hm, hn⟩ := findN_some hf
      refine ⟨nmL f.n, List.mem_map.2 ⟨f, hm, rfl⟩, ?_, ?_⟩ <;> rw [hn, nmL_nmB, segNum_name g2]
      · omega
      · exact e
    · obtain ⟨l, hl1, hl2, rfl⟩ := hx
      obtain ⟨f, hf, rfl⟩ := List.mem_map.1 hl1
      have hnb := nmB_of_num hl2
      obtain ⟨f', hf'⟩ := findN_have (n := nmB (segNum (nmL f.n))) ⟨f, hf, hnb.symm⟩
      refine h3 _ hl2 (segNum_le _) ?_
      unfold segC
      rw [hf']
      simp
    · obtain ⟨N, b, e, g1, g2, g3, g4⟩ := h2 p hp
      obtain ⟨f, hf, hb⟩ := segC_some g3
      rw [e, Int.toNat_natCast, readM_up hd hf, hb]
      exact g4

theorem SegsC.same {fs fs' : List F} {ps : List PS} (h : SegsC fs ps) (he : ∀ N : Nat, 1 ≤ N → N ≤ 99999999 → segC fs' N = segC fs N) : SegsC fs' ps := by
  obtain ⟨h1, h2, h3⟩ := h
  refine ⟨h1, fun p hp => ?_, fun N g1 g2 g3 => h3 N g1 g2 (by rwa [he N g1 g2] at g3)⟩
  obtain ⟨N, b, e, g1, g2, g3, g4⟩ := h2 p hp
  exact ⟨N, b, e, g1, g2, by rw [he N g1 g2]; exact g3, g4⟩

/-- The first segment is removed. -/
theorem SegsC.tail {fs fs' : List F} {p : PS} {ps : List PS} (h : SegsC fs (p :: ps)) (he : ∀ N : Nat, 1 ≤ N → N ≤ 99999999 → segC fs' N = if (N : Int) = p.n then none else segC fs N) : SegsC fs' ps := by
  obtain ⟨h1, h2, h3⟩ := h
  rw [List.map_cons] at h1
  have hlt := (List.pairwise_cons.1 h1).1
  refine ⟨(List.pairwise_cons.1 h1).2, fun q hq => ?_, fun N g1 g2 g3 => ?_⟩
  · obtain ⟨N, b, e, g1, g2, g3, g4⟩ := h2 q (List.mem_cons_of_mem _ hq)
    refine ⟨N, b, e, g1, g2, ?_, g4⟩
    rw [he N g1 g2, if_neg ?_]
    · exact g3
    · intro h
      have := hlt q.n (List.mem_map.2 ⟨q, hq, rfl⟩)
      omega
  · rw [he N g1 g2] at g3
    by_cases hN : (N : Int) = p.n
    · rw [if_pos hN] at g3
      exact absurd rfl g3
    · rw [if_neg hN] at g3
      have := h3 N g1 g2 g3
      rw [List.map_cons] at this
      rcases List.mem_cons.1 this with h | h
      · exact absurd h hN
      · exact h

/-- What is torn of the last segment is cut. -/
theorem SegsC.cut {fs fs' : List F} {p : PS} {qs : List PS} (h : SegsC fs (qs ++ [p])) (he : ∀ N : Nat, 1 ≤ N → N ≤ 99999999 → segC fs' N = if (N : Int) = p.n then some (joinL p.ls) else segC fs N) : SegsC fs' (qs ++ [⟨p.n, p.ls, []⟩]) := by
  obtain ⟨h1, h2, h3⟩ := h
  have hm : (qs ++ [(⟨p.n, p.ls, []⟩ : PS)]).map PS.n = (qs ++ [p]).map PS.n := by simp
  refine ⟨by rw [hm]; exact h1, fun q hq => ?_, fun N g1 g2 g3 => ?_⟩
  · rcases List.mem_append.1 hq with hq | hq
    · obtain ⟨N, b, e, g1, g2, g3, g4⟩ := h2 q (List.mem_append.2 (.inl hq))
      refine ⟨N, b, e, g1, g2, ?_, g4⟩
      rw [he N g1 g2, if_neg ?_]
      · exact g3
      · intro h
        unfold Asc at h1
        rw [List.map_append, List.pairwise_append] at h1
        have := h1.2.2 q.n (List.mem_map.2 ⟨q, hq, rfl⟩) p.n (by simp)
        omega
    · obtain rfl := List.mem_singleton.1 hq
      obtain ⟨N, b, e, g1, g2, g3, g4⟩ := h2 p (by simp)
      refine ⟨N, joinL p.ls, e, g1, g2, ?_, splits_all _ g4.recs⟩
      rw [he N g1 g2, if_pos e.symm]
  · rw [hm]
    rw [he N g1 g2] at g3
    by_cases hN : (N : Int) = p.n
    · rw [hN]; simp
    · rw [if_neg hN] at g3
      exact h3 N g1 g2 g3

/-- Every segment is durable. -/
def SegSync (fs : List F) : Prop := ∀ (N : Nat) (f : F), 1 ≤ N → N ≤ 99999999 → findN F.n (nmB N) fs = some f → f.d = f.b.length

theorem segs_crash {M : DM} (h : SegSync M.fs) (ks : List Int) (N : Nat) (h1 : 1 ≤ N) (h2 : N ≤ 99999999) : segC (crashM ks M).fs N = segC M.fs N := by
  unfold segC
  rw [fd_crash_sync ks (fun f hf => h N f h1 h2 hf)]

theorem segSync_crash {M : DM} (h : SegSync M.fs) (ks : List Int) : SegSync (crashM ks M).fs := by
  intro N f h1 h2 hf
  rw [fd_crash_sync ks (fun f hf => h N f h1 h2 hf)] at hf
  exact h N f h1 h2 hf
end Go.Proofs.YtmiepigieajpcaaGreat

/- Runs of changes that succeed: whatever failure is planned, what is left is what some of them have made. -/
namespace Go.Proofs.YtmiepigieajpcaaGreat
open Go.RowKit Go.Maps

/-- Every change succeeds on a disk that is up; before each, and behind the last, G holds. -/
inductive Run (G : List F → Prop) (room : Nat) : List SO → List F → List F → Prop
  | nil {fs : List F} : G fs → Run G room [] fs fs
  | cons {x : SO} {ops : List SO} {fs fs1 fs2 : List F} : G fs → soM x ⟨room, fs, false, 0⟩ = (⟨room, fs1, false, 0⟩, 0) → Run G room ops fs1 fs2 → Run G room (x :: ops) fs fs2

theorem Run.first {G : List F → Prop} {room : Nat} {ops : List SO} {fs fs2 : List F} (h : Run G room ops fs fs2) : G fs := by
  cases h with
  | nil h => exact h
  | cons h _ _ => exact h

theorem Run.last {G : List F → Prop} {room : Nat} {ops : List SO} {fs fs2 : List F} (h : Run G room ops fs fs2) : G fs2 := by
  induction h with
  | nil h => exact h
  | cons _ _ _ ih => exact ih

theorem Run.append {G : List F → Prop} {room : Nat} {a b : List SO} {fs fs1 fs2 : List F} (h : Run G room a fs fs1) (k : Run G room b fs1 fs2) : Run G room (a ++ b) fs fs2 := by
  induction h with
  | nil _ => exact k
  | cons hg hs _ ih => exact .cons hg hs (ih k)

theorem Run.mono {G G' : List F → Prop} (hG : ∀ fs, G fs → G' fs) {room : Nat} {a : List SO} {fs fs1 : List F} (h : Run G room a fs fs1) : Run G' room a fs fs1 := by
  induction h with
  | nil h => exact .nil (hG _ h)
  | cons hg hs _ ih => exact .cons (hG _ hg) hs ih

/-- A change on a disk on which a failure may be planned. -/
theorem soM_plan (x : SO) {M : DM} {fs1 : List F} (hd : M.down = false) (h : soM x ⟨M.room, M.fs, false, 0⟩ = (⟨M.room, fs1, false, 0⟩, 0)) :
    (M.plan = 1 ∧ (soM x M).2 = 10 ∧ (soM x M).1.fs = M.fs ∧ (soM x M).1.down = true ∧ (soM x M).1.room = M.room) ∨ (M.plan ≠ 1 ∧ soM x M = (⟨M.room, fs1, false, M.plan - 1⟩, 0)) := by
  obtain ⟨room, fs, down, plan⟩ := M
  simp only at *
  subst hd
  by_cases hp : plan = 1
  · subst hp
    refine .inl ⟨rfl, ?_⟩
    have hf : failM ⟨room, fs, false, 1⟩ = ⟨room, fs, true, 0⟩ := rfl
    unfold soM stepM createM appendM syncM renameM removeM chgM
    rw [hf]
    simp only [if_true]
    split
    · exact ⟨rfl, rfl, rfl, rfl⟩
    · split
      · exact ⟨rfl, rfl, rfl, rfl⟩
      · split
        · exact ⟨rfl, rfl, rfl, rfl⟩
        · split <;> exact ⟨rfl, rfl, rfl, rfl⟩
  · refine .inr ⟨hp, ?_⟩
    have hf : failM ⟨room, fs, false, plan⟩ = ⟨room, fs, false, plan - 1⟩ := by
      unfold failM
      simp only [Bool.false_eq_true, if_false, if_neg hp]
    have hf0 : failM ⟨room, fs, false, 0⟩ = ⟨room, fs, false, 0⟩ := rfl
    have key : ∀ q : Nat, chgM ⟨room, fs, false, q⟩ = chgM ⟨room, fs, false, q⟩ := fun _ => rfl
    clear key
    unfold soM stepM createM appendM syncM renameM removeM chgM onM at h ⊢
    rw [hf]
    rw [hf0] at h
    simp only [Bool.false_eq_true, if_false] at h ⊢
    by_cases hn : named x.nm = true
    · simp only [hn, if_true] at h ⊢
      cases hfd : findN F.n x.nm fs with
      | none => simp only [hfd] at h ⊢; (split at h <;> (try split at h) <;> (try split at h) <;> (try split at h) <;> simp_all)
      | some f => simp only [hfd] at h ⊢; (split at h <;> (try split at h) <;> (try split at h) <;> (try split at h) <;> (try split at h) <;> simp_all)
    · simp only [hn] at h ⊢
      (split at h <;> (try split at h) <;> (try split at h) <;> (try split at h) <;> simp_all)

theorem Run.steps {G : List F → Prop} {room : Nat} {ops : List SO} {fs fs2 : List F} (h : Run G room ops fs fs2) : ∀ M : DM, M.room = room → M.fs = fs → M.down = false →
    G (stepsM ops M).1.fs ∧ (stepsM ops M).1.room = room ∧ (((stepsM ops M).2 = 0 ∧ (stepsM ops M).1.fs = fs2 ∧ (stepsM ops M).1.down = false) ∨ ((stepsM ops M).2 = 10 ∧ M.plan ≠ 0 ∧ (stepsM ops M).1.down = true)) ∧ (M.plan = 0 → (stepsM ops M).1.plan = 0) := by
  induction h with
  | nil h => rintro M rfl rfl hd; exact ⟨h, rfl, .inl ⟨rfl, rfl, hd⟩, fun h => h⟩
  | @cons x ops fs fs1 fs2 hg hs hr ih =>
    rintro M rfl rfl hd
    have e : stepsM (x :: ops) M = if (soM x M).2 = 0 then stepsM ops (soM x M).1 else soM x M := rfl
    rcases soM_plan x hd hs with ⟨h1, h2, h3, h4, h5⟩ | ⟨h1, h2⟩
    · rw [e, if_neg (by rw [h2]; decide)]
      exact ⟨by rw [h3]; exact hg, h5, .inr ⟨h2, by rw [h1]; decide, h4⟩, fun h => by rw [h1] at h; cases h⟩
    · rw [e, h2, if_pos rfl]
      obtain ⟨g1, g2, g3, g4⟩ := ih ⟨M.room, fs1, false, M.plan - 1⟩ rfl rfl rfl
      refine ⟨g1, g2, g3.imp id (fun ⟨a, b, c⟩ => ⟨a, fun h => b (by show M.plan - 1 = 0; omega), c⟩), fun h => g4 (by show M.plan - 1 = 0; omega)⟩
end Go.Proofs.YtmiepigieajpcaaGreat

/- What Open makes of a log, as plain data. -/
namespace Go.Proofs.YtmiepigieajpcaaGreat
open Go.RowKit Go.Maps

def lastP (ps : List PS) (h : 0 < ps.length) : PS := ps[ps.length - 1]'(by omega)

/-- The log on a disk is broken. -/
def BrokenAt (ps : List PS) : Prop := ∃ k, FirstAt ps k ∧ ¬ Good (ps.drop k)

/-- The changes that repair a log, its last segment, what this has, its records. -/
def RepOf (M : DM) (ps : List PS) (ops : List SO) (N size : Nat) (recs : List (List Nat)) : Prop :=
  (ps = [] ∧ ops = repNone M ∧ N = 1 ∧ size = 0 ∧ recs = []) ∨
  ∃ (k : Nat) (h : 0 < ps.length), FirstAt ps k ∧ Good (ps.drop k) ∧ (lastP ps h).n = (N : Int) ∧ size = (joinL (lastP ps h).ls).length ∧ recs = recsL (ps.drop k) ∧ ops = repOps M ((ps.take k).map PS.n) N (joinL (lastP ps h).ls) (lastP ps h).t.length

theorem repOf_uniq {M : DM} {ps : List PS} {ops ops' : List SO} {N N' size size' : Nat} {recs recs' : List (List Nat)} (h : RepOf M ps ops N size recs) (h' : RepOf M ps ops' N' size' recs') : ops = ops' ∧ N = N' ∧ size = size' ∧ recs = recs' := by
  rcases h with ⟨h0, rfl, rfl, rfl, rfl⟩ | ⟨k, hp, hk, hg, hn, rfl, rfl, rfl⟩
  · rcases h' with ⟨_, rfl, rfl, rfl, rfl⟩ | ⟨k', hp', _⟩
    · exact ⟨rfl, rfl, rfl, rfl⟩
    · rw [h0] at hp'; exact absurd hp' (Nat.lt_irrefl _)
  · rcases h' with ⟨h0, _⟩ | ⟨k', hp', hk', hg', hn', rfl, rfl, rfl⟩
    · rw [h0] at hp; exact absurd hp (Nat.lt_irrefl _)
    · obtain rfl := firstAt_uniq hk hk'
      obtain rfl : N = N' := by rw [hn] at hn'; omega
      exact ⟨rfl, rfl, rfl, rfl⟩

theorem broken_rep {M : DM} {ps : List PS} {ops : List SO} {N size : Nat} {recs : List (List Nat)} (h : BrokenAt ps) (h' : RepOf M ps ops N size recs) : False := by
  obtain ⟨k, hk, hg⟩ := h
  rcases h' with ⟨h0, _⟩ | ⟨k', _, hk', hg', _⟩
  · subst h0
    obtain ⟨h, _⟩ := hk
    exact absurd h (by simp)
  · obtain rfl := firstAt_uniq hk hk'
    exact hg hg'

/-- Where a change failed, or none: what Open answers and leaves. -/
structure OR where
  z : Int
  M : DM
  N : Nat
  size : Nat
  recs : List (List Nat)

def IsOpen (M : DM) (ps : List PS) (r : OR) : Prop := (BrokenAt ps ∧ r = ⟨11, M, 0, 0, []⟩) ∨ ∃ ops N size recs, RepOf M ps ops N size recs ∧ r = ⟨(stepsM ops M).2, (stepsM ops M).1, N, size, recs⟩

theorem isOpen_uniq {M : DM} {ps : List PS} {r r' : OR} (h : IsOpen M ps r) (h' : IsOpen M ps r') : r = r' := by
  rcases h with ⟨hb, rfl⟩ | ⟨ops, N, size, recs, hr, rfl⟩
  · rcases h' with ⟨_, rfl⟩ | ⟨ops, N, size, recs, hr, rfl⟩
    · rfl
    · exact (broken_rep hb hr).elim
  · rcases h' with ⟨hb, rfl⟩ | ⟨ops', N', size', recs', hr', rfl⟩
    · exact (broken_rep hb hr).elim
    · obtain ⟨rfl, rfl, rfl, rfl⟩ := repOf_uniq hr hr'
      rfl

theorem first_ex (ps : List PS) (h : 0 < ps.length) : ∃ k, FirstAt ps k := by
  have key : ∀ j, j ≤ ps.length → (∃ k, FirstAt ps k) ∨ ∀ i (h : i < ps.length), ps.length - j ≤ i → ps[i].mark = false := by
    intro j
    induction j with
    | zero => exact fun _ => .inr fun i hi h => by omega
    | succ j ih =>
      intro hj
      rcases ih (by omega) with h1 | h1
      · exact .inl h1
      · have hx : ps.length - (j + 1) < ps.length := by omega
        by_cases hm : ps[ps.length - (j + 1)].mark = true
        · exact .inl ⟨_, hx, fun i hi hlt => h1 i hi (by omega), .inr hm⟩
        · refine .inr fun i hi hle => ?_
          by_cases e : i = ps.length - (j + 1)
          · subst e
            simpa using hm
          · exact h1 i hi (by omega)
  rcases key ps.length (Nat.le_refl _) with h1 | h1
  · exact h1
  · exact ⟨0, h, fun i hi _ => h1 i hi (by omega), .inl rfl⟩
end Go.Proofs.YtmiepigieajpcaaGreat

/- The repair of a log is a run: whatever failure is planned, and whatever crash follows, the log has the same records. -/
namespace Go.Proofs.YtmiepigieajpcaaGreat
open Go.RowKit Go.Maps

section
variable {room : Nat} {fs : List F} {nm : List UInt8}

theorem op_remove (hn : named nm = true) {f : F} (h : findN F.n nm fs = some f) : soM ⟨5, nm, [], []⟩ ⟨room, fs, false, 0⟩ = (⟨room, delN F.n nm fs, false, 0⟩, 0) := by
  show removeM nm ⟨room, fs, false, 0⟩ = _
  unfold removeM chgM onM
  rw [show failM ⟨room, fs, false, 0⟩ = ⟨room, fs, false, 0⟩ from rfl, if_neg Bool.false_ne_true, if_pos hn]
  simp only [h]

theorem op_create (hn : named nm = true) (h : findN F.n nm fs = none) : soM ⟨1, nm, [], []⟩ ⟨room, fs, false, 0⟩ = (⟨room, putN F.n ⟨nm, [], 0⟩ fs, false, 0⟩, 0) := by
  show createM nm ⟨room, fs, false, 0⟩ = _
  unfold createM chgM
  rw [show failM ⟨room, fs, false, 0⟩ = ⟨room, fs, false, 0⟩ from rfl, if_neg Bool.false_ne_true, if_pos hn]
  simp only [h]

theorem op_append (hn : named nm = true) {f : F} (h : findN F.n nm fs = some f) (bs : List Nat) (hr : usedF fs + bs.length ≤ room) : soM ⟨2, nm, [], bs⟩ ⟨room, fs, false, 0⟩ = (⟨room, setN F.n ⟨nm, f.b ++ bs, f.d⟩ fs, false, 0⟩, 0) := by
  show appendM nm bs ⟨room, fs, false, 0⟩ = _
  unfold appendM chgM onM
  rw [show failM ⟨room, fs, false, 0⟩ = ⟨room, fs, false, 0⟩ from rfl, if_neg Bool.false_ne_true, if_pos hn]
  simp only [h]
  rw [if_pos hr]

theorem op_sync (hn : named nm = true) {f : F} (h : findN F.n nm fs = some f) : soM ⟨3, nm, [], []⟩ ⟨room, fs, false, 0⟩ = (⟨room, setN F.n ⟨nm, f.b, f.b.length⟩ fs, false, 0⟩, 0) := by
  show syncM nm ⟨room, fs, false, 0⟩ = _
  unfold syncM chgM onM
  rw [show failM ⟨room, fs, false, 0⟩ = ⟨room, fs, false, 0⟩ from rfl, if_neg Bool.false_ne_true, if_pos hn]
  simp only [h]

theorem op_rename (hn : named nm = true) {tt : List UInt8} (ht : named tt = true) {f : F} (h : findN F.n nm fs = some f) : soM ⟨4, nm, tt, []⟩ ⟨room, fs, false, 0⟩ = (⟨room, putN F.n ⟨tt, f.b, f.d⟩ (delN F.n nm fs), false, 0⟩, 0) := by
  show renameM nm tt ⟨room, fs, false, 0⟩ = _
  unfold renameM chgM onM
  rw [show failM ⟨room, fs, false, 0⟩ = ⟨room, fs, false, 0⟩ from rfl, if_neg Bool.false_ne_true, if_pos hn]
  simp only [h]
  rw [if_pos ht]
end

theorem cutB_named : named cutB = true := by decide
theorem newB_named : named newB = true := by decide


theorem nmB_cut (N : Nat) : nmB N ≠ cutB := fun e => by have := congrArg List.length e; rw [nmB_length] at this; cases this
theorem nmB_new (N : Nat) : nmB N ≠ newB := fun e => by have := congrArg List.length e; rw [nmB_length] at this; cases this

theorem segC_same {fs fs' : List F} (h : ∀ N, 1 ≤ N → N ≤ 99999999 → findN F.n (nmB N) fs' = findN F.n (nmB N) fs) {N : Nat} (h1 : 1 ≤ N) (h2 : N ≤ 99999999) : segC fs' N = segC fs N := by
  unfold segC
  rw [h N h1 h2]

theorem segSync_same {fs fs' : List F} (hs : SegSync fs) (h : ∀ N, 1 ≤ N → N ≤ 99999999 → findN F.n (nmB N) fs' = findN F.n (nmB N) fs) : SegSync fs' :=
  fun N f h1 h2 hf => hs N f h1 h2 (by rw [← h N h1 h2]; exact hf)

theorem used_set (x : F) : ∀ fs : List F, (∀ f ∈ fs, f.n = x.n → f.b.length = x.b.length) → usedF (setN F.n x fs) = usedF fs
  | [], _ => rfl
  | y :: fs, h => by
    have ih := used_set x fs (fun f hf => h f (List.mem_cons_of_mem _ hf))
    unfold setN usedF at ih ⊢
    rw [List.map_cons, List.map_cons, List.sum_cons, List.map_cons, List.sum_cons, ih]
    congr 1
    by_cases e : y.n = x.n
    · rw [if_pos (by simpa using e), h y (List.mem_cons_self ..) e]
    · rw [if_neg (by simpa using e)]

/-- The log with its first segment at k. -/
def LogK (ps : List PS) (k : Nat) (recs : List (List Nat)) : Prop := FirstAt ps k ∧ Good (ps.drop k) ∧ recs = recsL (ps.drop k)

theorem LogK.drop {ps : List PS} {k : Nat} {recs : List (List Nat)} (h : LogK ps k recs) {j : Nat} (hj : j ≤ k) : LogK (ps.drop j) (k - j) recs := by
  obtain ⟨⟨h1, h2, h3⟩, h4, h5⟩ := h
  have e : (ps.drop j).drop (k - j) = ps.drop k := by rw [List.drop_drop]; congr 1; omega
  refine ⟨⟨by rw [List.length_drop]; omega, fun i hi hlt => ?_, ?_⟩, by rw [e]; exact h4, by rw [e]; exact h5⟩
  · rw [List.getElem_drop]
    exact h2 (j + i) (by rw [List.length_drop] at hi; omega) (by omega)
  · rcases h3 with h3 | h3
    · exact .inl (by omega)
    · right
      rw [List.getElem_drop]
      have e2 : j + (k - j) = k := by omega
      simp only [e2]
      exact h3

theorem LogK.cut {qs : List PS} {p : PS} {k : Nat} {recs : List (List Nat)} (h : LogK (qs ++ [p]) k recs) : LogK (qs ++ [⟨p.n, p.ls, []⟩]) k recs := by
  obtain ⟨⟨h1, h2, h3⟩, h4, h5⟩ := h
  have hl : (qs ++ [(⟨p.n, p.ls, []⟩ : PS)]).length = (qs ++ [p]).length := by simp
  have key : ∀ i (hi : i < (qs ++ [p]).length), ((qs ++ [(⟨p.n, p.ls, []⟩ : PS)])[i]'(by rw [hl]; exact hi)).n = (qs ++ [p])[i].n ∧ ((qs ++ [(⟨p.n, p.ls, []⟩ : PS)])[i]'(by rw [hl]; exact hi)).ls = (qs ++ [p])[i].ls ∧ ((qs ++ [p])[i].t = [] → ((qs ++ [(⟨p.n, p.ls, []⟩ : PS)])[i]'(by rw [hl]; exact hi)).t = []) := by
    intro i hi
    by_cases hq : i < qs.length
    · rw [List.getElem_append_left hq, List.getElem_append_left hq]
      exact ⟨rfl, rfl, fun h => h⟩
    · have e : i - qs.length = 0 := by rw [List.length_append] at hi; simp at hi; omega
      rw [List.getElem_append_right (by omega), List.getElem_append_right (by omega)]
      simp only [e, List.getElem_cons_zero]
      exact ⟨trivial, trivial, fun _ => trivial⟩
  have hmk : ∀ i (hi : i < (qs ++ [p]).length), ((qs ++ [(⟨p.n, p.ls, []⟩ : PS)])[i]'(by rw [hl]; exact hi)).mark = (qs ++ [p])[i].mark := fun i hi => by unfold PS.mark; rw [(key i hi).2.1]
  refine ⟨⟨by rw [hl]; exact h1, fun i hi hlt => by rw [hmk i (by rw [← hl]; exact hi)]; exact h2 i (by rw [← hl]; exact hi) hlt, h3.imp id (fun h => by rw [hmk k h1]; exact h)⟩, fun i hi => ?_, ?_⟩
  · have hi0 : k + i < (qs ++ [p]).length := by rw [List.length_drop, hl] at hi; omega
    have hg := h4 i (by rw [List.length_drop]; omega)
    obtain ⟨g1, g2, g3⟩ := hg
    refine ⟨fun h0 => ?_, fun h0 => ?_, ?_⟩
    · have e1 := g1 h0
      rw [List.getElem_drop, List.getElem_drop] at e1 ⊢
      rw [(key (k + i) hi0).1, (key (k + (i - 1)) (by omega)).1]
      exact e1
    · have e1 := g2 (by rw [List.length_drop]; rw [List.length_drop, hl] at h0; omega)
      rw [List.getElem_drop] at e1 ⊢
      exact (key (k + i) hi0).2.2 e1
    · rw [List.getElem_drop] at g3 ⊢
      unfold PS.recs at g3 ⊢
      rw [(key (k + i) hi0).2.1]
      exact g3
  · rw [h5]
    unfold recsL
    congr 1
    apply List.ext_getElem
    · rw [List.length_map, List.length_map, List.length_drop, List.length_drop, hl]
    · intro i hi hi'
      rw [List.getElem_map, List.getElem_map, List.getElem_drop, List.getElem_drop]
      have hi0 : k + i < (qs ++ [p]).length := by rw [List.length_map, List.length_drop] at hi; omega
      unfold PS.recs
      rw [(key (k + i) hi0).2.1]

/-- What holds all along: every segment is durable, and the log has the records. -/
def GL (recs : List (List Nat)) (fs : List F) : Prop := SegSync fs ∧ ∃ ps, SegsC fs ps ∧ ((ps = [] ∧ recs = []) ∨ ∃ k, LogK ps k recs)

theorem GL.same {recs : List (List Nat)} {fs fs' : List F} (h : GL recs fs) (he : ∀ N, 1 ≤ N → N ≤ 99999999 → findN F.n (nmB N) fs' = findN F.n (nmB N) fs) : GL recs fs' := by
  obtain ⟨h1, ps, h2, h3⟩ := h
  exact ⟨segSync_same h1 he, ps, h2.same (fun N g1 g2 => segC_same he g1 g2), h3⟩

/-- What a phase leaves. -/
structure Left (fs fs' : List F) : Prop where
  used : usedF fs' ≤ usedF fs
  sorted : Sorted fs'

theorem clean_run {recs : List (List Nat)} {room : Nat} {M : DM} (hG : GL recs M.fs) (hs : Sorted M.fs) : ∃ fs', Run (GL recs) room (cleanM [cutB, newB] M) M.fs fs' ∧ (∀ n, findN F.n n fs' = if n = cutB ∨ n = newB then none else findN F.n n M.fs) ∧ Left M.fs fs' := by
  have one : ∀ (nm : List UInt8) (fs : List F), named nm = true → (∀ N, nmB N ≠ nm) → GL recs fs → Sorted fs → ∃ fs', Run (GL recs) room (if nm ∈ fs.map F.n then [⟨5, nm, [], []⟩] else []) fs fs' ∧ (∀ n, findN F.n n fs' = if n = nm then none else findN F.n n fs) ∧ Left fs fs' := by
    intro nm fs hn hne hG hs
    by_cases h : nm ∈ fs.map F.n
    · rw [if_pos h]
      obtain ⟨f, hf, e⟩ := List.mem_map.1 h
      obtain ⟨f', hf'⟩ := findN_have (n := nm) ⟨f, hf, e⟩
      have hG' : GL recs (delN F.n nm fs) := hG.same (fun N _ _ => by rw [fd_del, if_neg (hne N)])
      exact ⟨delN F.n nm fs, .cons hG (op_remove hn hf') (.nil hG'), fun n => fd_del F.n n nm fs, usedF_delN nm fs, del_sorted nm hs⟩
    · rw [if_neg h]
      refine ⟨fs, .nil hG, fun n => ?_, Nat.le_refl _, hs⟩
      split
      · next e =>
        subst e
        cases hf : findN F.n n fs with
        | none => rfl
        | some f =>
          obtain ⟨h1, h2⟩ := findN_some hf
          exact absurd (List.mem_map.2 ⟨f, h1, h2⟩) h
      · rfl
  obtain ⟨fs1, r1, q1, l1⟩ := one cutB M.fs cutB_named nmB_cut hG hs
  obtain ⟨fs2, r2, q2, l2⟩ := one newB fs1 newB_named nmB_new r1.last l1.sorted
  have hmem : (newB ∈ fs1.map F.n) ↔ (newB ∈ M.fs.map F.n) := by
    have key : ∀ fs : List F, newB ∈ fs.map F.n ↔ findN F.n newB fs ≠ none := by
      intro fs
      constructor
      · intro h e
        obtain ⟨f, hf, e2⟩ := List.mem_map.1 h
        exact findN_none e f hf e2
      · intro h
        cases hf : findN F.n newB fs with
        | none => exact absurd hf h
        | some f =>
          obtain ⟨h1, h2⟩ := findN_some hf
          exact List.mem_map.2 ⟨f, h1, h2⟩
    rw [key, key, q1, if_neg (by decide)]
  have e : cleanM [cutB, newB] M = (if cutB ∈ M.fs.map F.n then [⟨5, cutB, [], []⟩] else []) ++ (if newB ∈ fs1.map F.n then [⟨5, newB, [], []⟩] else []) := by
    have e1 : [cutB, newB] = ([] ++ [cutB]) ++ [newB] := rfl
    rw [e1, cleanM_snoc, cleanM_snoc]
    simp only [hmem]
    rfl
  rw [e]
  refine ⟨fs2, r1.append r2, fun n => ?_, Nat.le_trans l2.used l1.used, l2.sorted⟩
  rw [q2, q1]
  by_cases h1 : n = newB
  · simp [h1]
  · by_cases h2 : n = cutB
    · simp [h2]
    · simp [h1, h2]

theorem used_put_le (x : F) (fs : List F) : usedF (putN F.n x fs) ≤ usedF fs + x.b.length := by
  unfold putN
  rw [usedF_insN]
  have := usedF_delN x.n fs
  omega

theorem cut_run {recs : List (List Nat)} {room : Nat} {fs : List F} (hG : GL recs fs) (hs : Sorted fs) (hc : findN F.n cutB fs = none) (N : Nat) (l : List Nat) (hroom : usedF fs + l.length ≤ room)
    (hG' : ∀ fs', (∀ n, findN F.n n fs' = if n = nmB N then some ⟨nmB N, l, l.length⟩ else findN F.n n fs) → GL recs fs') :
    ∃ fs', Run (GL recs) room (cutOps (nmB N) l) fs fs' ∧ (∀ n, findN F.n n fs' = if n = nmB N then some ⟨nmB N, l, l.length⟩ else findN F.n n fs) ∧ Sorted fs' ∧ usedF fs' ≤ usedF fs + l.length := by
  have h1 : ∀ n, findN F.n n (putN F.n ⟨cutB, [], 0⟩ fs) = if n = cutB then some ⟨cutB, [], 0⟩ else findN F.n n fs := fun n => fd_put F.n n ⟨cutB, [], 0⟩ fs
  have u1 : usedF (putN F.n ⟨cutB, [], 0⟩ fs) ≤ usedF fs := used_put_le ⟨cutB, [], 0⟩ fs
  have s1 : Sorted (putN F.n ⟨cutB, [], 0⟩ fs) := put_sorted _ hs
  generalize hf1 : putN F.n ⟨cutB, [], 0⟩ fs = fs1 at *
  have c1 : findN F.n cutB fs1 = some ⟨cutB, [], 0⟩ := by rw [h1, if_pos rfl]
  have h2 : ∀ n, findN F.n n (setN F.n ⟨cutB, l, 0⟩ fs1) = if n = cutB then some ⟨cutB, l, 0⟩ else findN F.n n fs := fun n => by
    rw [fd_set, h1]
    by_cases e : n = cutB
    · subst e; simp
    · simp [e]
  have u2 : usedF (setN F.n ⟨cutB, l, 0⟩ fs1) ≤ usedF fs + l.length := by
    rw [setN_putN _ _ s1 (by show findN F.n cutB fs1 ≠ none; rw [c1]; simp)]
    have := used_put_le ⟨cutB, l, 0⟩ fs1
    simp only at this
    omega
  have s2 : Sorted (setN F.n ⟨cutB, l, 0⟩ fs1) := setN_sorted _ s1
  have o2 := op_append (room := room) cutB_named c1 l (by omega)
  simp only [List.nil_append] at o2
  generalize hf2 : setN F.n ⟨cutB, l, 0⟩ fs1 = fs2 at *
  have c2 : findN F.n cutB fs2 = some ⟨cutB, l, 0⟩ := by rw [h2, if_pos rfl]
  have o3 := op_sync (room := room) cutB_named c2
  simp only at o3
  have h3 : ∀ n, findN F.n n (setN F.n ⟨cutB, l, l.length⟩ fs2) = if n = cutB then some ⟨cutB, l, l.length⟩ else findN F.n n fs := fun n => by
    rw [fd_set, h2]
    by_cases e : n = cutB
    · subst e; simp
    · simp [e]
  have s3 : Sorted (setN F.n ⟨cutB, l, l.length⟩ fs2) := setN_sorted _ s2
  have u3 : usedF (setN F.n ⟨cutB, l, l.length⟩ fs2) ≤ usedF fs2 := by
    rw [setN_putN _ _ s2 (by show findN F.n cutB fs2 ≠ none; rw [c2]; simp)]
    unfold putN
    rw [usedF_insN]
    obtain ⟨m1, m2⟩ := findN_some c2
    have := usedF_delN_mem m1 m2
    simp only at this ⊢
    omega
  generalize hf3 : setN F.n ⟨cutB, l, l.length⟩ fs2 = fs3 at *
  have c3 : findN F.n cutB fs3 = some ⟨cutB, l, l.length⟩ := by rw [h3, if_pos rfl]
  have o4 := op_rename (room := room) cutB_named (nmB_named N) c3
  simp only at o4
  have h4 : ∀ n, findN F.n n (putN F.n ⟨nmB N, l, l.length⟩ (delN F.n cutB fs3)) = if n = nmB N then some ⟨nmB N, l, l.length⟩ else findN F.n n fs := fun n => by
    rw [fd_put, fd_del, h3]
    by_cases e : n = nmB N
    · simp [e]
    · simp only [e, if_false]
      by_cases e2 : n = cutB
      · subst e2; simp [hc]
      · simp [e2]
  have s4 : Sorted (putN F.n ⟨nmB N, l, l.length⟩ (delN F.n cutB fs3)) := put_sorted _ (del_sorted _ s3)
  have u4 : usedF (putN F.n ⟨nmB N, l, l.length⟩ (delN F.n cutB fs3)) ≤ usedF fs3 := by
    have h5 := used_put_le ⟨nmB N, l, l.length⟩ (delN F.n cutB fs3)
    obtain ⟨m1, m2⟩ := findN_some c3
    have := usedF_delN_mem m1 m2
    simp only at this h5
    omega
  have g : ∀ {fs' : List F} {x : F}, (∀ n, findN F.n n fs' = if n = cutB then some x else findN F.n n fs) → GL recs fs' := fun h => hG.same (fun N _ _ => by rw [h, if_neg (nmB_cut N)])
  refine ⟨_, .cons hG (by rw [op_create cutB_named hc, hf1]) (.cons (g h1) o2 (.cons (g h2) o3 (.cons (g h3) o4 (.nil (hG' _ h4))))), h4, s4, by omega⟩

theorem older_run {recs : List (List Nat)} {room : Nat} (rest : List PS) : ∀ (qs : List PS) (fs : List F), SegsC fs (qs ++ rest) → SegSync fs → Sorted fs → (∀ j fs', j ≤ qs.length → SegsC fs' (qs.drop j ++ rest) → SegSync fs' → GL recs fs') →
    ∃ fs', Run (GL recs) room (qs.map fun p => ⟨5, nmB p.n.toNat, [], []⟩) fs fs' ∧ SegsC fs' rest ∧ SegSync fs' ∧ (∀ n, (∀ N, n ≠ nmB N) → findN F.n n fs' = findN F.n n fs) ∧ Left fs fs' ∧ ∀ p ∈ rest, findN F.n (nmB p.n.toNat) fs' = findN F.n (nmB p.n.toNat) fs
  | [], fs, h1, h2, hs, hg => ⟨fs, .nil (hg 0 fs (Nat.le_refl _) h1 h2), h1, h2, fun _ _ => rfl, ⟨Nat.le_refl _, hs⟩, fun _ _ => rfl⟩
  | q :: qs, fs, h1, h2, hs, hg => by
    obtain ⟨N, b, e, g1, g2, g3, g4⟩ := h1.2.1 q (by simp)
    obtain ⟨f, hf, _⟩ := segC_some g3
    have hN : q.n.toNat = N := by rw [e]; rfl
    have hfd : ∀ n, findN F.n n (delN F.n (nmB N) fs) = if n = nmB N then none else findN F.n n fs := fun n => fd_del F.n n (nmB N) fs
    have hseg : SegsC (delN F.n (nmB N) fs) (qs ++ rest) := SegsC.tail (p := q) h1 (fun K k1 k2 => by
      unfold segC
      rw [hfd]
      by_cases h : K = N
      · subst h; rw [if_pos rfl, if_pos e.symm]; rfl
      · rw [if_neg (fun h' => h (nmB_inj k2 g2 h')), if_neg (by rw [e]; omega)])
    have hsy : SegSync (delN F.n (nmB N) fs) := fun K f' k1 k2 hf' => by
      rw [hfd] at hf'
      split at hf'
      · cases hf'
      · exact h2 K f' k1 k2 hf'
    obtain ⟨fs', r1, r2, r3, r4, r5, r6⟩ := older_run rest qs (delN F.n (nmB N) fs) hseg hsy (del_sorted _ hs) (fun j fs' hj => hg (j + 1) fs' (by rw [List.length_cons]; omega))
    refine ⟨fs', ?_, r2, r3, fun n hn => ?_, ⟨Nat.le_trans r5.used (usedF_delN _ _), r5.sorted⟩, fun p hp => ?_⟩
    · rw [List.map_cons, hN]
      exact .cons (hg 0 fs (Nat.zero_le _) h1 h2) (op_remove (nmB_named N) hf) r1
    · rw [r4 n hn, hfd, if_neg (hn N)]
    · rw [r6 p hp, hfd, if_neg ?_]
      intro h
      have h3 := h1.1
      rw [List.cons_append, List.map_cons] at h3
      have h4 := (List.pairwise_cons.1 h3).1 p.n (List.mem_map.2 ⟨p, List.mem_append.2 (.inr hp), rfl⟩)
      obtain ⟨K, _, e2, k1, k2, _⟩ := h1.2.1 p (by simp [hp])
      rw [e2] at h h4
      have := nmB_inj k2 g2 h
      omega
end Go.Proofs.YtmiepigieajpcaaGreat

/- Opening a log, a crash, and opening it again, as plain data: the records stay. -/
namespace Go.Proofs.YtmiepigieajpcaaGreat
open Go.RowKit Go.Maps

theorem mem_le_sum : ∀ (l : List Nat) (x : Nat), x ∈ l → x ≤ l.sum
  | [], _, h => by cases h
  | y :: l, x, h => by
    rw [List.sum_cons]
    rcases List.mem_cons.1 h with rfl | h
    · omega
    · have := mem_le_sum l x h
      omega

theorem lastP_eq {ps : List PS} (h : 0 < ps.length) : ps = ps.take (ps.length - 1) ++ [lastP ps h] := by
  have h1 : ps.length - 1 < ps.length := by omega
  have h2 := List.take_append_drop (ps.length - 1) ps
  rw [List.drop_eq_getElem_cons h1, List.drop_of_length_le (by omega)] at h2
  exact h2.symm

theorem lastP_snoc (qs : List PS) (p : PS) (h : 0 < (qs ++ [p]).length) : lastP (qs ++ [p]) h = p := by
  unfold lastP
  rw [List.getElem_append_right (by simp)]
  simp

/-- What repairing leaves. -/
structure Final (N size : Nat) (recs : List (List Nat)) (fs : List F) (ps : List PS) : Prop where
  sync : SegSync fs
  cut : findN F.n cutB fs = none
  new : findN F.n newB fs = none
  segs : SegsC fs ps
  log : LogK ps 0 recs
  last : ∃ h : 0 < ps.length, (lastP ps h).n = (N : Int) ∧ (lastP ps h).t = [] ∧ (joinL (lastP ps h).ls).length = size

theorem segsC_find {fs : List F} {ps : List PS} (h : SegsC fs ps) {p : PS} (hp : p ∈ ps) {N : Nat} (hN : p.n = (N : Int)) : ∃ f, findN F.n (nmB N) fs = some f ∧ 1 ≤ N ∧ N ≤ 99999999 ∧ Splits f.b p.ls p.t := by
  obtain ⟨K, b, e, g1, g2, g3, g4⟩ := h.2.1 p hp
  obtain rfl : K = N := by rw [hN] at e; omega
  obtain ⟨f, hf, rfl⟩ := segC_some g3
  exact ⟨f, hf, g1, g2, g4⟩

theorem sync_run {recs : List (List Nat)} {room : Nat} {fs : List F} (hG : GL recs fs) {N : Nat} {f : F} (h1 : 1 ≤ N) (h2 : N ≤ 99999999) (hf : findN F.n (nmB N) fs = some f) : ∃ fs', Run (GL recs) room [⟨3, nmB N, [], []⟩] fs fs' ∧ ∀ n, findN F.n n fs' = findN F.n n fs := by
  have hd := hG.1 N f h1 h2 hf
  have hn := (findN_some hf).2
  have e : (⟨nmB N, f.b, f.b.length⟩ : F) = f := by
    obtain ⟨a, b, c⟩ := f
    simp only at hd hn
    rw [hn, hd]
  have hsame : ∀ n, findN F.n n (setN F.n ⟨nmB N, f.b, f.b.length⟩ fs) = findN F.n n fs := fun n => by
    rw [fd_set]
    by_cases h : n = nmB N
    · subst h
      rw [if_pos rfl, hf, e]
      rfl
    · rw [if_neg h]
  exact ⟨_, .cons hG (op_sync (nmB_named N) hf) (.nil (hG.same (fun K _ _ => hsame _))), hsame⟩

theorem rep_run {M : DM} {ps : List PS} (hs : SegsC M.fs ps) (hy : SegSync M.fs) (hso : Sorted M.fs) (hroom : 2 * usedF M.fs ≤ M.room) {ops : List SO} {N size : Nat} {recs : List (List Nat)} (h : RepOf M ps ops N size recs) :
    ∃ fs' ps', Run (GL recs) M.room ops M.fs fs' ∧ Final N size recs fs' ps' := by
  rcases h with ⟨rfl, rfl, rfl, rfl, rfl⟩ | ⟨k, hp, hk, hg, hN, rfl, rfl, rfl⟩
  · have hG : GL [] M.fs := ⟨hy, [], hs, .inl ⟨rfl, rfl⟩⟩
    obtain ⟨fs1, r1, q1, l1⟩ := clean_run (room := M.room) hG hso
    have hno : ∀ K : Nat, 1 ≤ K → K ≤ 99999999 → findN F.n (nmB K) fs1 = none := by
      intro K k1 k2
      rw [q1, if_neg (fun h => h.elim (nmB_cut K) (nmB_new K))]
      cases hf : findN F.n (nmB K) M.fs with
      | none => rfl
      | some f => exact absurd (hs.2.2 K k1 k2 (by unfold segC; rw [hf]; simp)) (by simp)
    have hfd : ∀ n, findN F.n n (putN F.n ⟨nmB 1, [], 0⟩ fs1) = if n = nmB 1 then some ⟨nmB 1, [], 0⟩ else findN F.n n fs1 := fun n => fd_put F.n n ⟨nmB 1, [], 0⟩ fs1
    have hsy : SegSync (putN F.n ⟨nmB 1, [], 0⟩ fs1) := fun K f k1 k2 hf => by
      rw [hfd] at hf
      split at hf
      · cases hf; rfl
      · rw [hno K k1 k2] at hf; cases hf
    have hse : SegsC (putN F.n ⟨nmB 1, [], 0⟩ fs1) [⟨1, [], []⟩] := by
      refine ⟨by unfold Asc; simp, fun p hp => ?_, fun K k1 k2 hK => ?_⟩
      · rw [List.mem_singleton.1 hp]
        refine ⟨1, [], rfl, Nat.le_refl _, by decide, ?_, splits_all [] (fun r hr => by cases hr)⟩
        unfold segC
        rw [hfd, if_pos rfl]
        rfl
      · unfold segC at hK
        rw [hfd] at hK
        by_cases e : nmB K = nmB 1
        · have := nmB_inj k2 (by decide) e
          subst this
          simp
        · rw [if_neg e, hno K k1 k2] at hK
          exact absurd rfl hK
    have hlog : LogK [(⟨1, [], []⟩ : PS)] 0 [] := by
      refine ⟨⟨by simp, fun i hi hlt => by simp at hi; omega, .inl rfl⟩, fun i hi => ?_, rfl⟩
      obtain rfl : i = 0 := by simpa using hi
      exact ⟨fun h => absurd h (Nat.lt_irrefl _), fun _ => rfl, by simp [PS.recs, restOf, markOf]⟩
    have hGe : GL [] (putN F.n ⟨nmB 1, [], 0⟩ fs1) := ⟨hsy, _, hse, .inr ⟨0, hlog⟩⟩
    refine ⟨_, _, r1.append (.cons r1.last (op_create (nmB_named 1) (hno 1 (Nat.le_refl _) (by decide))) (.nil hGe)), hsy, ?_, ?_, hse, hlog, by simp, rfl, rfl, rfl⟩
    · rw [hfd, if_neg (nmB_cut 1).symm, q1, if_pos (.inl rfl)]
    · rw [hfd, if_neg (nmB_new 1).symm, q1, if_pos (.inr rfl)]
  · have hlog : LogK ps k (recsL (ps.drop k)) := ⟨hk, hg, rfl⟩
    have hG : GL (recsL (ps.drop k)) M.fs := ⟨hy, ps, hs, .inr ⟨k, hlog⟩⟩
    obtain ⟨fs1, r1, q1, l1⟩ := clean_run (room := M.room) hG hso
    have hsame1 : ∀ K : Nat, 1 ≤ K → K ≤ 99999999 → findN F.n (nmB K) fs1 = findN F.n (nmB K) M.fs := fun K _ _ => by rw [q1, if_neg (fun h => h.elim (nmB_cut K) (nmB_new K))]
    have hs1 : SegsC fs1 ps := hs.same (fun K k1 k2 => segC_same hsame1 k1 k2)
    have hy1 := segSync_same hy hsame1
    have hc1 : findN F.n cutB fs1 = none := by rw [q1, if_pos (.inl rfl)]
    have hn1 : findN F.n newB fs1 = none := by rw [q1, if_pos (.inr rfl)]
    have hps := lastP_eq hp
    generalize hqs : ps.take (ps.length - 1) = qs at hps
    generalize hlp : lastP ps hp = p at hps hN
    have hpm : p ∈ ps := by rw [hps]; simp
    have hkq : k ≤ qs.length := by
      have h1 := hk.1
      rw [hps, List.length_append] at h1
      simp at h1
      omega
    obtain ⟨fl, hfl, n1, n2, hsp⟩ := segsC_find hs1 hpm hN
    -- cut
    have key2 : ∃ fs2, Run (GL (recsL (ps.drop k))) M.room (if p.t.length = 0 then [] else cutOps (nmB N) (joinL p.ls)) fs1 fs2 ∧ SegsC fs2 (qs ++ [⟨p.n, p.ls, []⟩]) ∧ SegSync fs2 ∧ Sorted fs2 ∧ findN F.n cutB fs2 = none ∧ findN F.n newB fs2 = none := by
      by_cases hT : p.t.length = 0
      · rw [if_pos hT]
        have ht : p.t = [] := List.length_eq_zero_iff.1 hT
        have e : qs ++ [(⟨p.n, p.ls, []⟩ : PS)] = ps := by
          rw [hps]
          congr 2
          rw [← ht]
        exact ⟨fs1, .nil r1.last, by rw [e]; exact hs1, hy1, l1.sorted, hc1, hn1⟩
      · rw [if_neg hT]
        have hlen := congrArg List.length hsp.eq
        rw [List.length_append] at hlen
        have hle : fl.b.length ≤ usedF fs1 := by
          unfold usedF
          exact mem_le_sum (fs1.map fun f => f.b.length) _ (List.mem_map.2 ⟨fl, (findN_some hfl).1, rfl⟩)
        have hu := l1.used
        have hspec : ∀ fs' : List F, (∀ n, findN F.n n fs' = if n = nmB N then some ⟨nmB N, joinL p.ls, (joinL p.ls).length⟩ else findN F.n n fs1) → SegsC fs' (qs ++ [⟨p.n, p.ls, []⟩]) ∧ SegSync fs' := by
          intro fs' hq
          refine ⟨SegsC.cut (p := p) (by rw [← hps]; exact hs1) (fun K k1 k2 => ?_), fun K f k1 k2 hf => ?_⟩
          · unfold segC
            rw [hq]
            by_cases e : K = N
            · subst e; rw [if_pos rfl, if_pos hN.symm]; rfl
            · rw [if_neg (fun h => e (nmB_inj k2 n2 h)), if_neg (by rw [hN]; omega)]
          · rw [hq] at hf
            split at hf
            · cases hf; rfl
            · exact hy1 K f k1 k2 hf
        have hlogc : LogK (qs ++ [⟨p.n, p.ls, []⟩]) k (recsL (ps.drop k)) := LogK.cut (by rw [← hps]; exact hlog)
        obtain ⟨fs2, r2, q2, s2, u2⟩ := cut_run (room := M.room) r1.last l1.sorted hc1 N (joinL p.ls) (by omega) (fun fs' hq => ⟨(hspec fs' hq).2, _, (hspec fs' hq).1, .inr ⟨k, hlogc⟩⟩)
        exact ⟨fs2, r2, (hspec fs2 q2).1, (hspec fs2 q2).2, s2, by rw [q2, if_neg (nmB_cut N).symm, hc1], by rw [q2, if_neg (nmB_new N).symm, hn1]⟩
    obtain ⟨fs2, r2, hs2, hy2, so2, hc2, hn2⟩ := key2
    have hlog2 : LogK (qs ++ [⟨p.n, p.ls, []⟩]) k (recsL (ps.drop k)) := LogK.cut (by rw [← hps]; exact hlog)
    generalize hps2 : qs ++ [(⟨p.n, p.ls, []⟩ : PS)] = ps2 at hs2 hlog2
    have hl2 : ps2.length = qs.length + 1 := by rw [← hps2]; simp
    -- older
    obtain ⟨fs3, r3, hs3, hy3, hk3, l3, hm3⟩ := older_run (recs := recsL (ps.drop k)) (room := M.room) (ps2.drop k) (ps2.take k) fs2 (by rw [List.take_append_drop]; exact hs2) hy2 so2 (fun j fs' hj hsj hyj => by
      rw [List.length_take] at hj
      have e : (ps2.take k).drop j ++ ps2.drop k = ps2.drop j := by
        conv => rhs; rw [← List.take_append_drop k ps2]
        rw [List.drop_append_of_le_length (by rw [List.length_take]; omega)]
      rw [e] at hsj
      exact ⟨hyj, _, hsj, .inr ⟨_, hlog2.drop (j := j) (by omega)⟩⟩)
    have hlog3 : LogK (ps2.drop k) 0 (recsL (ps.drop k)) := by
      have := hlog2.drop (j := k) (Nat.le_refl _)
      rwa [Nat.sub_self] at this
    have hlast3 : (⟨p.n, p.ls, []⟩ : PS) ∈ ps2.drop k := by
      rw [← hps2, List.drop_append_of_le_length hkq]
      simp
    obtain ⟨f3, hf3, _, _, hsp3⟩ := segsC_find hs3 hlast3 (N := N) hN
    -- sync
    obtain ⟨fs4, r4, q4⟩ := sync_run (room := M.room) r3.last n1 n2 hf3
    have hnum : (ps2.take k).map (fun p => (⟨5, nmB p.n.toNat, [], []⟩ : SO)) = ((ps.take k).map PS.n).map fun n => ⟨5, nmB n.toNat, [], []⟩ := by
      rw [List.map_map, ← hps2, hps, List.take_append_of_le_length hkq, List.take_append_of_le_length hkq]
      rfl
    have hrun := ((r1.append r2).append r3).append r4
    rw [hnum] at hrun
    refine ⟨fs4, ps2.drop k, hrun, segSync_same hy3 (fun K _ _ => q4 _), ?_, ?_, hs3.same (fun K k1 k2 => segC_same (fun K _ _ => q4 _) k1 k2), hlog3, ?_⟩
    · rw [q4, hk3 cutB (fun K => (nmB_cut K).symm), hc2]
    · rw [q4, hk3 newB (fun K => (nmB_new K).symm), hn2]
    · have hd : ps2.drop k = qs.drop k ++ [⟨p.n, p.ls, []⟩] := by rw [← hps2, List.drop_append_of_le_length hkq]
      rw [hd]
      refine ⟨by simp, ?_⟩
      rw [lastP_snoc]
      exact ⟨hN, rfl, rfl⟩
end Go.Proofs.YtmiepigieajpcaaGreat

/- Opening a log that has crashed while it was opened: the same records, and nothing torn then. -/
namespace Go.Proofs.YtmiepigieajpcaaGreat
open Go.RowKit Go.Maps

theorem stepsM_neat' : ∀ (ops : List SO) {M : DM} {N U : Nat}, Neat M N U → Neat (stepsM ops M).1 (N + ops.length) (U + (ops.map fun x => x.bs.length).sum)
  | [], _, _, _, h => h
  | x :: ops, M, N, U, h => by
    have h1 := stepM_neat h x.k x.nm x.tt x.bs
    have e : stepsM (x :: ops) M = if (soM x M).2 = 0 then stepsM ops (soM x M).1 else soM x M := rfl
    rw [e, List.map_cons, List.sum_cons, List.length_cons]
    split
    · exact (stepsM_neat' ops h1).mono (by omega) (by omega)
    · exact h1.mono (by omega) (by omega)

theorem rep_sum {M : DM} {ps : List PS} {ops : List SO} {N size : Nat} {recs : List (List Nat)} (h : RepOf M ps ops N size recs) : (ops.map fun x => x.bs.length).sum ≤ size ∧ ((∀ hp : 0 < ps.length, (lastP ps hp).t = []) → (ops.map fun x => x.bs.length).sum = 0) := by
  have z : ∀ l : List SO, (∀ x ∈ l, x.bs = []) → (l.map fun x => x.bs.length).sum = 0 := by
    intro l hl
    induction l with
    | nil => rfl
    | cons x l ih =>
      rw [List.map_cons, List.sum_cons, ih (fun y hy => hl y (List.mem_cons_of_mem _ hy)), hl x (List.mem_cons_self ..)]
      rfl
  have hc : ∀ x ∈ cleanM [cutB, newB] M, x.bs = [] := by
    intro x hx
    unfold cleanM at hx
    obtain ⟨n, _, rfl⟩ := List.mem_map.1 hx
    rfl
  rcases h with ⟨rfl, rfl, rfl, rfl, rfl⟩ | ⟨k, hp, _, _, _, rfl, _, rfl⟩
  · have := z (repNone M) (fun x hx => by
      unfold repNone at hx
      rcases List.mem_append.1 hx with h | h
      · exact hc x h
      · rw [List.mem_singleton.1 h])
    exact ⟨by omega, fun _ => this⟩
  · have hold : ∀ x ∈ ((ps.take k).map PS.n).map (fun n => (⟨5, nmB n.toNat, [], []⟩ : SO)), x.bs = [] := by
      intro x hx
      obtain ⟨n, _, rfl⟩ := List.mem_map.1 hx
      rfl
    have e : ((repOps M ((ps.take k).map PS.n) N (joinL (lastP ps hp).ls) (lastP ps hp).t.length).map fun x => x.bs.length).sum = ((if (lastP ps hp).t.length = 0 then [] else cutOps (nmB N) (joinL (lastP ps hp).ls)).map fun x => x.bs.length).sum := by
      unfold repOps
      simp only [List.map_append, List.sum_append]
      have h1 := z _ hc
      have h2 := z _ hold
      rw [h1, h2]
      simp
    rw [e]
    constructor
    · split
      · simp
      · simp [cutOps]
    · intro ht
      rw [if_pos (by rw [ht hp]; rfl)]
      rfl

theorem rep_len {M : DM} {ps : List PS} {ops : List SO} {N size : Nat} {recs : List (List Nat)} (h : RepOf M ps ops N size recs) : ops.length ≤ ps.length + 7 := by
  rcases h with ⟨rfl, rfl, _⟩ | ⟨k, hp, _, _, _, _, _, rfl⟩
  · have := cleanM_len [cutB, newB] M
    unfold repNone
    rw [List.length_append]
    simp only [List.length_cons, List.length_nil] at *
    omega
  · have := repOps_len M ((ps.take k).map PS.n) N (joinL (lastP ps hp).ls) (lastP ps hp).t.length
    rw [List.length_map, List.length_take] at this
    omega

theorem asc_sub' : ∀ (xs ys : List Int), xs.Pairwise (· < ·) → (∀ x ∈ xs, x ∈ ys) → xs.length ≤ ys.length
  | [], _, _, _ => Nat.zero_le _
  | x :: xs, ys, hp, hs => by
    obtain ⟨h1, h2⟩ := List.pairwise_cons.1 hp
    have hx := hs x (List.mem_cons_self ..)
    have ih := asc_sub' xs (ys.erase x) h2 (fun y hy => by
      have hne : y ≠ x := fun e => by have := h1 y hy; omega
      exact (List.mem_erase_of_ne hne).2 (hs y (List.mem_cons_of_mem _ hy)))
    rw [List.length_erase_of_mem hx] at ih
    have : 0 < ys.length := List.length_pos_of_mem hx
    rw [List.length_cons]
    omega

theorem segs_many {M : DM} {ps : List PS} (hA : AllOf M ps) : ps.length ≤ M.fs.length := by
  have h1 := asc_sub' (ps.map PS.n) (M.fs.map fun f => ((segNum (nmL f.n) : Nat) : Int)) (allOf_asc hA) (fun x hx => by
    obtain ⟨l, hl, _, rfl⟩ := (hA.1.2 x).1 hx
    obtain ⟨f, hf, rfl⟩ := List.mem_map.1 hl
    exact List.mem_map.2 ⟨f, hf, rfl⟩)
  rw [List.length_map, List.length_map] at h1
  exact h1

theorem last_small {M : DM} {ps : List PS} (hA : AllOf M ps) (hp : 0 < ps.length) : (joinL (lastP ps hp).ls).length ≤ usedF M.fs := by
  have hsp := congrArg List.length (hA.2 _ (List.getElem_mem (by omega : ps.length - 1 < ps.length))).eq
  rw [List.length_append] at hsp
  have := readM_len (nmB (ps[ps.length - 1]'(by omega)).n.toNat) M
  unfold lastP
  omega

theorem rep_size {M : DM} {ps : List PS} (hA : AllOf M ps) {ops : List SO} {N size : Nat} {recs : List (List Nat)} (h : RepOf M ps ops N size recs) : size ≤ usedF M.fs := by
  rcases h with ⟨_, _, _, rfl, _⟩ | ⟨k, hp, _, _, _, rfl, _, _⟩
  · exact Nat.zero_le _
  · exact last_small hA hp

/-- A disk as an opened log leaves it. -/
structure Opened (M : DM) (N size : Nat) (recs : List (List Nat)) (ps : List PS) : Prop where
  up : Up M
  all : AllOf M ps
  fin : Final N size recs M.fs ps

/-- Opening a log whose segments are durable, on a disk on which no failure is planned. -/
theorem open_up {recs : List (List Nat)} {M : DM} {ps : List PS} (hu : Up M) (hA : AllOf M ps) (hG : GL recs M.fs) (hso : Sorted M.fs) (hroom : 2 * usedF M.fs ≤ M.room) {r : OR} (h : IsOpen M ps r) : r.z = 0 ∧ r.recs = recs ∧ r.M.room = M.room ∧ ∃ ps', Opened r.M r.N r.size recs ps' := by
  have hs := (allOf_segs hu.1).1 hA
  obtain ⟨hy, qs, hq, hl⟩ := hG
  have hqA := (allOf_segs hu.1).2 hq
  obtain rfl := allOf_uniq hA hqA
  rcases h with ⟨⟨k, hk, hb⟩, rfl⟩ | ⟨ops, N, size, recs', hr, rfl⟩
  · rcases hl with ⟨rfl, _⟩ | ⟨k', hk', hg, _⟩
    · obtain ⟨h1, _⟩ := hk
      exact absurd h1 (by simp)
    · obtain rfl := firstAt_uniq hk hk'
      exact absurd hg hb
  · have e : recs' = recs := by
      rcases hr with ⟨rfl, _, _, _, rfl⟩ | ⟨k, hp, hk, hg, _, _, rfl, _⟩
      · rcases hl with ⟨_, rfl⟩ | ⟨k', ⟨h1, _⟩, _⟩
        · rfl
        · exact absurd h1 (by simp)
      · rcases hl with ⟨rfl, _⟩ | ⟨k', hk', _, rfl⟩
        · exact absurd hp (by simp)
        · obtain rfl := firstAt_uniq hk hk'
          rfl
    subst e
    obtain ⟨fs', ps', hrun, hfin⟩ := rep_run hs hy hso hroom hr
    obtain ⟨_, g2, g3, g4⟩ := hrun.steps M rfl rfl hu.1
    rcases g3 with ⟨h1, h2, h3⟩ | ⟨_, h2, _⟩
    · have hup : Up (stepsM ops M).1 := ⟨h3, g4 hu.2⟩
      exact ⟨h1, rfl, g2, ps', hup, (allOf_segs h3).2 (by rw [h2]; exact hfin.segs), by rw [h2]; exact hfin⟩
    · exact absurd hu.2 h2

/-- Opening it again finds the same. -/
theorem open_same {M : DM} {N size : Nat} {recs : List (List Nat)} {ps : List PS} (h : Opened M N size recs ps) {r : OR} (hr : IsOpen M ps r) : r.N = N ∧ r.size = size ∧ ∃ ops, r.M = (stepsM ops M).1 ∧ ops.length ≤ ps.length + 7 ∧ (ops.map fun x => x.bs.length).sum = 0 := by
  obtain ⟨hp, h1, h2, h3⟩ := h.fin.last
  rcases hr with ⟨⟨k, hk, hb⟩, rfl⟩ | ⟨ops, N', size', recs', hr, rfl⟩
  · obtain rfl := firstAt_uniq hk h.fin.log.1
    exact absurd h.fin.log.2.1 hb
  · have hsm := (rep_sum hr).2 (fun _ => h2)
    have hln := rep_len hr
    rcases hr with ⟨rfl, _⟩ | ⟨k, hp', hk, hg, hN, hsz, _, _⟩
    · exact absurd hp (by simp)
    · exact ⟨by show N' = N; have : (N' : Int) = (N : Int) := hN.symm.trans h1; omega, by show size' = size; rw [hsz, ← h3], ops, rfl, hln, hsm⟩

theorem opened_gl {M : DM} {N size : Nat} {recs : List (List Nat)} {ps : List PS} (h : Opened M N size recs ps) : GL recs M.fs := ⟨h.fin.sync, ps, h.fin.segs, .inr ⟨0, h.fin.log⟩⟩

theorem opened_log {M : DM} {N size : Nat} {recs : List (List Nat)} {ps : List PS} (h : Opened M N size recs ps) : IsLog ps ⟨0, recs, 0⟩ := by
  obtain ⟨hp, h1, h2, h3⟩ := h.fin.last
  refine .inr ⟨0, hp, h.fin.log.1, .inr ⟨h.fin.log.2.1, ?_⟩⟩
  rw [h.fin.log.2.2]
  congr 1
  unfold lastP at h2
  rw [h2]
  rfl

/-- What a crash leaves of a log that was being opened. -/
theorem open_crash {M : DM} {ps : List PS} {y : LR} (hd : M.down = false) (hA : AllOf M ps) (hlog : IsLog ps y) (hy : SegSync M.fs) (hso : Sorted M.fs) (hroom : 2 * usedF M.fs ≤ M.room) (p : Int) (ks : List Int) {r : OR} (h : IsOpen (armM p M) ps r) :
    ∃ ps2, AllOf (crashM ks r.M) ps2 ∧ r.M.room = M.room ∧ ((y.z = 11 ∧ BrokenAt ps2) ∨ (y.z = 0 ∧ GL y.recs (crashM ks r.M).fs)) := by
  have hs := (allOf_segs hd).1 hA
  have hs' : SegsC (armM p M).fs ps := hs
  rcases h with ⟨hb, rfl⟩ | ⟨ops, N, size, recs, hr, rfl⟩
  · refine ⟨ps, (allOf_segs rfl).2 (hs.same (fun K k1 k2 => segs_crash (M := armM p M) hy ks K k1 k2)), rfl, .inl ⟨?_, hb⟩⟩
    obtain ⟨k, hk, hg⟩ := hb
    rcases hlog with ⟨rfl, _⟩ | ⟨k', _, hk', ⟨_, rfl⟩ | ⟨hg', _⟩⟩
    · obtain ⟨h1, _⟩ := hk
      exact absurd h1 (by simp)
    · rfl
    · obtain rfl := firstAt_uniq hk hk'
      exact absurd hg' hg
  · obtain ⟨fs', ps', hrun, _⟩ := rep_run (M := armM p M) hs' hy hso hroom hr
    obtain ⟨g1, g2, _, _⟩ := hrun.steps (armM p M) rfl rfl hd
    have hyr : y.z = 0 ∧ y.recs = recs := by
      rcases hr with ⟨rfl, _, _, _, rfl⟩ | ⟨k, hp, hk, hg, _, _, rfl, _⟩
      · rcases hlog with ⟨_, rfl⟩ | ⟨k', hp', _⟩
        · exact ⟨rfl, rfl⟩
        · exact absurd hp' (by simp)
      · rcases hlog with ⟨rfl, _⟩ | ⟨k', _, hk', ⟨hg', _⟩ | ⟨_, rfl⟩⟩
        · exact absurd hp (by simp)
        · obtain rfl := firstAt_uniq hk hk'
          exact absurd hg hg'
        · obtain rfl := firstAt_uniq hk hk'
          exact ⟨rfl, rfl⟩
    obtain ⟨h1, h2⟩ := hyr
    obtain ⟨gy, ps2, gs, gl⟩ := g1
    have hcr : SegsC (crashM ks (stepsM ops (armM p M)).1).fs ps2 := gs.same (fun K k1 k2 => segs_crash gy ks K k1 k2)
    exact ⟨ps2, (allOf_segs rfl).2 hcr, g2, .inr ⟨h1, segSync_crash gy ks, ps2, hcr, by rw [h2]; exact gl⟩⟩

/-- The names of files are short. -/
def Named (M : DM) : Prop := ∀ f ∈ M.fs, f.n.length ≤ 9223372036854775807

theorem mem_setN' {x y : F} {fs : List F} (h : y ∈ setN F.n x fs) : y = x ∨ y ∈ fs := by
  unfold setN at h
  obtain ⟨z, hz, rfl⟩ := List.mem_map.1 h
  by_cases e : (F.n z == F.n x) = true
  · rw [if_pos e]; exact .inl rfl
  · rw [if_neg e]; exact .inr hz

theorem named_step {M : DM} (h : Named M) (k : Int) {nm tt : List UInt8} (bs : List Nat) (h1 : nm.length ≤ 9223372036854775807) (h2 : tt.length ≤ 9223372036854775807) : Named (stepM k nm tt bs M).1 := by
  have chg : ∀ {act : DM → DM × Int}, (∀ M', M'.fs = M.fs → Named (act M').1) → Named (chgM M nm act).1 := by
    intro act ha
    have hf : Named (failM M) := by unfold Named; rw [failM_fs' M]; exact h
    unfold chgM
    split
    · exact hf
    · split
      · exact ha _ (failM_fs' M)
      · exact hf
  have on : ∀ {M' : DM} {act : F → DM → DM × Int}, M'.fs = M.fs → (∀ f, Named (act f M').1) → Named (onM nm act M').1 := by
    intro M' act he ha
    unfold onM
    split
    · unfold Named; rw [he]; exact h
    · exact ha _
  have put : ∀ {x : F} {fs : List F}, x.n.length ≤ 9223372036854775807 → (∀ f ∈ fs, f.n.length ≤ 9223372036854775807) → ∀ f ∈ putN F.n x fs, f.n.length ≤ 9223372036854775807 := by
    intro x fs hx hfs f hf
    unfold putN at hf
    rcases (mem_insN F.n _ _ _).1 hf with rfl | hf
    · exact hx
    · unfold delN at hf
      exact hfs f (List.mem_filter.1 hf).1
  have set : ∀ {x : F} {fs : List F}, x.n.length ≤ 9223372036854775807 → (∀ f ∈ fs, f.n.length ≤ 9223372036854775807) → ∀ f ∈ setN F.n x fs, f.n.length ≤ 9223372036854775807 := by
    intro x fs hx hfs f hf
    rcases mem_setN' hf with rfl | hf
    · exact hx
    · exact hfs f hf
  have del : ∀ {fs : List F}, (∀ f ∈ fs, f.n.length ≤ 9223372036854775807) → ∀ f ∈ delN F.n nm fs, f.n.length ≤ 9223372036854775807 := by
    intro fs hfs f hf
    unfold delN at hf
    exact hfs f (List.mem_filter.1 hf).1
  unfold stepM
  split
  · exact chg fun M' e => by
      have hM : Named M' := by unfold Named; rw [e]; exact h
      split
      · exact hM
      · exact put h1 hM
  · split
    · exact chg fun M' e => on e fun f => by
        have hM : Named M' := by unfold Named; rw [e]; exact h
        split
        · exact set h1 hM
        · exact hM
    · split
      · exact chg fun M' e => on e fun f => by
          have hM : Named M' := by unfold Named; rw [e]; exact h
          exact set h1 hM
      · split
        · exact chg fun M' e => on e fun f => by
            have hM : Named M' := by unfold Named; rw [e]; exact h
            split
            · exact put h2 (del hM)
            · exact hM
        · exact chg fun M' e => on e fun f => by
            have hM : Named M' := by unfold Named; rw [e]; exact h
            exact del hM

theorem named_steps : ∀ (ops : List SO) {M : DM}, Named M → (∀ x ∈ ops, x.nm.length ≤ 9223372036854775807 ∧ x.tt.length ≤ 9223372036854775807) → Named (stepsM ops M).1
  | [], _, h, _ => h
  | x :: ops, M, h, ho => by
    have h1 := named_step h x.k x.bs (ho x (List.mem_cons_self ..)).1 (ho x (List.mem_cons_self ..)).2
    have e : stepsM (x :: ops) M = if (soM x M).2 = 0 then stepsM ops (soM x M).1 else soM x M := rfl
    rw [e]
    split
    · exact named_steps ops h1 (fun y hy => ho y (List.mem_cons_of_mem _ hy))
    · exact h1

theorem rep_named {M : DM} {ps : List PS} {ops : List SO} {N size : Nat} {recs : List (List Nat)} (h : RepOf M ps ops N size recs) : ∀ x ∈ ops, x.nm.length ≤ 9223372036854775807 ∧ x.tt.length ≤ 9223372036854775807 := by
  have hc : ∀ x ∈ cleanM [cutB, newB] M, x.nm.length ≤ 9223372036854775807 ∧ x.tt.length ≤ 9223372036854775807 := by
    intro x hx
    unfold cleanM at hx
    obtain ⟨n, hn, rfl⟩ := List.mem_map.1 hx
    have := (List.mem_filter.1 hn).1
    simp only [List.mem_cons, List.not_mem_nil, or_false] at this
    rcases this with rfl | rfl <;> exact ⟨by decide, by decide⟩
  have hcb : cutB.length ≤ 9223372036854775807 := by decide
  have hb : ∀ N : Nat, (nmB N).length ≤ 9223372036854775807 := fun N => by rw [nmB_length]; decide
  rcases h with ⟨_, rfl, _⟩ | ⟨k, hp, _, _, _, _, _, rfl⟩
  · intro x hx
    unfold repNone at hx
    rcases List.mem_append.1 hx with h | h
    · exact hc x h
    · rw [List.mem_singleton.1 h]; exact ⟨hb 1, Nat.zero_le _⟩
  · intro x hx
    unfold repOps at hx
    rcases List.mem_append.1 hx with h | h
    · rcases List.mem_append.1 h with h | h
      · rcases List.mem_append.1 h with h | h
        · exact hc x h
        · split at h
          · cases h
          · unfold cutOps at h
            simp only [List.mem_cons, List.not_mem_nil, or_false] at h
            rcases h with rfl | rfl | rfl | rfl
            · exact ⟨hcb, Nat.zero_le _⟩
            · exact ⟨hcb, Nat.zero_le _⟩
            · exact ⟨hcb, Nat.zero_le _⟩
            · exact ⟨hcb, hb N⟩
      · obtain ⟨n, _, rfl⟩ := List.mem_map.1 h
        exact ⟨hb _, Nat.zero_le _⟩
    · rw [List.mem_singleton.1 h]; exact ⟨hb N, Nat.zero_le _⟩

/-- What Open leaves, in size. -/
theorem open_neat {M : DM} {ps : List PS} {N U : Nat} (hnt : Neat M N U) (hA : AllOf M ps) (hnm : Named M) {r : OR} (h : IsOpen M ps r) : Neat r.M (N + M.fs.length + 7) (U + usedF M.fs) ∧ Named r.M := by
  have hsm := hnt.small
  rcases h with ⟨_, rfl⟩ | ⟨ops, K, size, recs, hr, rfl⟩
  · exact ⟨hnt.mono (by omega) (by omega), hnm⟩
  · have h1 := (rep_sum hr).1
    have h2 := rep_len hr
    have h3 := segs_many hA
    have h4 := rep_size hA hr
    exact ⟨(stepsM_neat' ops hnt).mono (by omega) (by omega), named_steps ops hnm (rep_named hr)⟩

theorem named_crash {M : DM} (h : Named M) (ks : List Int) : Named (crashM ks M) := crashM_names h
end Go.Proofs.YtmiepigieajpcaaGreat

/- The walk of scan's Open, whatever lies on a disk that is up. -/
namespace Go.Proofs.YtmiepigieajpcaaGreat
open Go.RowKit Go.Maps Go.Shelf

attribute [local go_sem ↓] Go.wp_at_zero Go.wp_at_succ

/-- What is found where Open goes on. -/
structure FoundOk (M : DM) (B : Nat) (w : World) (x : FD) (ops : List SO) (N size : Nat) (recs : List (List Nat)) : Prop where
  n : x.n = (N : Int)
  n1 : 1 ≤ N
  n2 : N ≤ 99999999
  data : ∃ old l T, Ints w x.oa x.on x.oc old ∧ (∀ y ∈ old, 1 ≤ y ∧ y ≤ 99999999) ∧ old.length ≤ 900 ∧ Bytes w x.wa x.wn x.wc l ∧ (0 < x.wn → ∀ a, x.wa = some a → B ≤ a.block) ∧ l.length ≤ 9000 ∧ x.tn = ((T : Nat) : Int) ∧ ops = if x.no = true then cleanM [cutB, newB] M ++ [⟨1, nmB N, [], []⟩] else repOps M old N l T
  size : x.wn = size
  recs : PartsZ (fun b => B ≤ b) w B (.slice x.ra x.rn x.rc) recs

theorem FoundOk.grow {M : DM} {B : Nat} {w w' : World} {x : FD} {ops : List SO} {N size : Nat} {recs : List (List Nat)} (h : FoundOk M B w x ops N size recs) (hb : Below w.heap.size w w') : FoundOk M B w' x ops N size recs := by
  obtain ⟨h1, h2, h3, ⟨old, l, T, d1, d2, d3, d4, d5, d6, d7, d8⟩, h4, h5⟩ := h
  exact ⟨h1, h2, h3, ⟨old, l, T, d1.grow hb, d2, d3, d4.grow hb, d5, d6, d7, d8⟩, h4, h5.grow hb⟩

theorem rep_bounds {M : DM} {old : List Int} {N T : Nat} {l : List Nat} {no : Bool} (ho : old.length ≤ 900) (hl : l.length ≤ 9000) : (if no = true then cleanM [cutB, newB] M ++ [⟨1, nmB N, [], []⟩] else repOps M old N l T).length ≤ 1000 ∧ ∀ x ∈ (if no = true then cleanM [cutB, newB] M ++ [⟨1, nmB N, [], []⟩] else repOps M old N l T), x.bs.length ≤ 9000 := by
  have hc := cleanM_len [cutB, newB] M
  have hcb : ∀ x ∈ cleanM [cutB, newB] M, x.bs.length ≤ 9000 := by
    intro x hx
    unfold cleanM at hx
    obtain ⟨n, _, rfl⟩ := List.mem_map.1 hx
    exact Nat.zero_le _
  simp only [List.length_cons, List.length_nil] at hc
  split
  · refine ⟨by simp only [List.length_append, List.length_cons, List.length_nil]; omega, fun x hx => ?_⟩
    rcases List.mem_append.1 hx with h | h
    · exact hcb x h
    · rw [List.mem_singleton.1 h]; exact Nat.zero_le _
  · refine ⟨by have := repOps_len M old N l T; omega, fun x hx => ?_⟩
    unfold repOps at hx
    rcases List.mem_append.1 hx with h | h
    · rcases List.mem_append.1 h with h | h
      · rcases List.mem_append.1 h with h | h
        · exact hcb x h
        · split at h
          · cases h
          · unfold cutOps at h
            simp only [List.mem_cons, List.not_mem_nil, or_false] at h
            rcases h with rfl | rfl | rfl | rfl
            · exact Nat.zero_le _
            · exact hl
            · exact Nat.zero_le _
            · exact Nat.zero_le _
      · obtain ⟨n, _, rfl⟩ := List.mem_map.1 h
        exact Nat.zero_le _
    · rw [List.mem_singleton.1 h]; exact Nat.zero_le _

/-- The parts that lie in blocks of Z. -/
def KeptParts (Z : Nat → Prop) (w : World) (a : Option Addr) (n c : Nat) (ls : List (List Nat)) : Prop := ∀ W : World, (∀ b, Z b → W.heap[b]? = w.heap[b]?) → Parts W a n c ls

/-- What Open answers and leaves, when it goes on. -/
def SOEnd (w0 : World) (X : Nat → Prop) (w : World) (d : Nat) (most : Int) (r : OR) (e : Ending) (w' : World) : Prop :=
  (r.z ≠ 0 ∧ e = .returned (.tuple #[.pointer none, .slice none 0 0, .int .i64 r.z]) ∧ OwnEnd w0 X w d r.M w') ∨
  (r.z = 0 ∧ ∃ g ra rc, ∃ Z : Nat → Prop, e = .returned (.tuple #[.pointer (some ⟨g, 0, none⟩), .slice ra r.recs.length rc, .int .i64 0]) ∧ (∀ b, Z b → w.heap.size ≤ b) ∧ w.heap.size ≤ g ∧ ¬ Z g ∧ LogAt w0 (fun b => X b ∨ Z b ∨ b = g) w' g d ⟨r.M, most, r.N, r.size, 0⟩ ∧ (∀ b, X b → w'.heap[b]? = w.heap[b]?) ∧ KeptParts Z w' ra r.recs.length rc r.recs)

theorem partsZ_kept {Z Z' : Nat → Prop} {w w' : World} {B : Nat} {a : Option Addr} {n c : Nat} {ls : List (List Nat)} (h : PartsZ Z w B (.slice a n c) ls) (hk : ∀ b, B ≤ b → b < w.heap.size → w'.heap[b]? = w.heap[b]?) (hZ : ∀ b, Z b → B ≤ b) (hZ' : ∀ b, B ≤ b → b < w.heap.size → Z' b) : n = ls.length ∧ KeptParts Z' w' a n c ls := by
  obtain ⟨a2, c2, e2⟩ := h.form
  injection e2 with e3 e4 e5
  refine ⟨e4, fun W hW => ?_⟩
  have key : ∀ b, B ≤ b → b < w.heap.size → W.heap[b]? = w.heap[b]? := fun b h1 h2 => (hW b (hZ' b h1 h2)).trans (hk b h1 h2)
  obtain ⟨vs, h1, h2, h3⟩ := h
  have hO : OwnParts W B (.slice a n c) ls := ⟨vs, h1, own_same5 h2 (fun k e => key k (own_ge5 h2 k e) (own_lt5 h2 k e)), fun i hi => by
    obtain ⟨a', n', c', g1, g2, g3⟩ := h3 i hi
    exact ⟨a', n', c', g1, g2.moved (fun h0 x hx => key _ (hZ _ (g3 h0 x hx).2) (bytes_lt g2 h0 x hx)), fun h0 x hx => (g3 h0 x hx).1⟩⟩
  obtain ⟨a6, c6, e6, hp⟩ := hO.parts
  injection e6 with e7 e8 e9
  rw [e7, e8, e9]
  exact hp

theorem srow_row {B G d : Nat} {w : World} {v : Value} {ops : List SO} (h : SRow B G d w v ops) : ∃ a c, ∃ Ks : List SK, v = .slice a ops.length c ∧ Ks.length = ops.length ∧ (0 < ops.length → ∃ b o, a = some ⟨b, o, none⟩ ∧ G ≤ b ∧ b < w.heap.size ∧ ∀ j (hj : j < Ks.length), w.cell? ⟨b, o + j, none⟩ = some (skV Ks[j])) ∧
    ∀ i (h : i < Ks.length) (h' : i < ops.length), StepAt (fun b => B ≤ b ∧ v.ownBlock ≠ some b) d w Ks[i] ops[i] := by
  obtain ⟨Ks, h1, h2, h3⟩ := h
  rcases h2.2 with ⟨rfl, h0⟩ | ⟨g, cap, cur, rfl, hb, hg, hle, hcm, hsz, htake⟩
  · exact ⟨none, 0, Ks, by rw [h0], h1, fun h => by omega, h3⟩
  · refine ⟨_, cap, Ks, rfl, h1, fun _ => ⟨g, 0, rfl, hb, (Array.getElem?_eq_some_iff.1 hg).1, fun j hj => ?_⟩, h3⟩
    rw [cell_of_row w g (0 + j) cur _ (0, 0) hg, Nat.zero_add]
    have e : cur[j]? = (Ks.map skV)[j]? := by
      rw [← htake, List.getElem?_take, if_pos (by omega), Array.getElem?_toList]
    rw [e, List.getElem?_map, List.getElem?_eq_getElem hj]
    rfl

set_option maxRecDepth 100000 in
set_option maxHeartbeats 6400000 in
theorem sopen_steps {w0 : World} {X : Nat → Prop} {w : World} {d : Nat} {M : DM} (hO : Own w0 X w d M) (hl : M.fs.length ≤ 900) {U : Nat} (hnt : Neat M 900 U) (hU : U ≤ 10000) {Q : FD → Int → World → Prop} (hf : Calls Tryz.prog 57 #[.pointer (some ⟨d, 0, none⟩)] w (FoundEnd Q w))
    (ops : List SO) (N size : Nat) (recs : List (List Nat)) (hQ : ∀ x z w1, Q x z w1 → z = 0 ∧ FoundOk M w.heap.size w1 x ops N size recs) (most : Int) :
    Calls Tryz.prog 21 #[.pointer (some ⟨d, 0, none⟩), .int .i64 most] w (SOEnd w0 X w d most ⟨(stepsM ops M).2, (stepsM ops M).1, N, size, recs⟩) := by
  have HF := Lib.hid hf
  have HQ := Lib.hid hQ
  have hR : ∀ (w1 : World) (_ : Below w.heap.size w w1) (x : FD) (_ : FoundOk M w.heap.size w1 x ops N size recs), (Calls Tryz.prog 66 #[foundV x, .pointer (some ⟨d, 0, none⟩)] w1 fun e w' => ∃ v, e = .returned v ∧ SRow w.heap.size w1.heap.size d w' v ops ∧ Below w1.heap.size w1 w') ∧ ops.length ≤ 1000 ∧ ∀ x ∈ ops, x.bs.length ≤ 9000 := by
    intro w1 hb x hx
    obtain ⟨old, l, T, d1, d2, d3, d4, d5, d6, d7, d8⟩ := hx.data
    have := repairs_any (hO.below hb) (by omega) x N hx.n1 hx.n2 hx.n w.heap.size hb.size old d1 d2 (by omega) l d4 d5 (by omega) T d7
    rw [← d8] at this
    exact And.intro this (by rw [d8]; exact rep_bounds d3 d6)
  have HR := Lib.hid hR
  clear hR
  have HT := Lib.hid (fun w1 (hb : Below w.heap.size w w1) (a : Option Addr) (n c : Nat) (L : List SK) h1 h2 h3 h4 h5 h6 => take_does (hO.more hb (Y := fun b => X b ∨ (w.heap.size ≤ b ∧ b < w1.heap.size)) (fun _ h => h)) a n c L ops h1 h2 h3 hnt (T := 9000) h4 (by omega) (by omega) h5 h6)
  have HW := Lib.hid (fun n size W => wnew_any d n size most W)
  have Hsz := Lib.hid hO.base.size
  have HX := Lib.hid (show ∀ b, X b → b < w.heap.size by obtain ⟨_, _, _, h, _⟩ := hO; exact h)
  clear hO hf hQ hl hnt hU
  go_enter Tryz.func21, Tryz.ntmps21
  go_wp2_with fail
  refine HF.out.mono ?_
  rintro e w1 ⟨x, z, rfl, hq, hb⟩
  obtain ⟨rfl, hx⟩ := HQ.out _ _ _ hq
  unfold foundV
  obtain ⟨w2, hw2⟩ : ∃ w2, w2 = w1.alloc (.cells #[.slice x.ra x.rn x.rc, .slice x.oa x.on x.oc, .int .i64 x.n, .bool x.mark, .slice x.pa x.pn x.pc, .slice x.wa x.wn x.wc, .int .i64 x.tn, .bool x.no] 107) := ⟨_, rfl⟩
  have hb12 : Below w1.heap.size w1 w2 := by rw [hw2]; exact (Below.refl _ _).alloc (Nat.le_refl _) _
  have hb2 : Below w.heap.size w w2 := hb.trans (hb12.mono hb.size)
  have hB2 : w2.heap[w1.heap.size]? = some (.cells #[.slice x.ra x.rn x.rc, .slice x.oa x.on x.oc, .int .i64 x.n, .bool x.mark, .slice x.pa x.pn x.pc, .slice x.wa x.wn x.wc, .int .i64 x.tn, .bool x.no] 107 (0, 0)) := by rw [hw2]; exact heap_alloc_new _ _
  have Hx2 := Lib.hid (hx.grow hb12)
  have Hb2 := Lib.hid hb2
  have HB2 := Lib.hid hB2
  have hz := hb.size
  obtain ⟨hR2, hl1, hl2⟩ := HR.out w2 hb2 x (hx.grow hb12)
  unfold foundV at hR2
  have HR2 := Lib.hid hR2
  have Hl1 := Lib.hid hl1
  have Hl2 := Lib.hid hl2
  clear hb hb12 hb2 hB2 hx hq hR2 hl1 hl2
  go_wp2_with fail
  rw [← hw2]
  refine HR2.out.mono ?_
  rintro e w3 ⟨v, rfl, hS, hb3⟩
  obtain ⟨a, c, Ks, rfl, hKl, hrow, hst⟩ := srow_row hS
  have Hb3 := Lib.hid (Hb2.out.trans (hb3.mono Hb2.out.size))
  have hw23 := Hb2.out.size
  have HT3 := Lib.hid (HT.out w3 Hb3.out a ops.length c Ks hKl rfl Hl1.out Hl2.out (fun h0 => by
      obtain ⟨b, o, e1, e2, e3, e4⟩ := hrow h0
      exact ⟨b, o, e1, .inr ⟨by omega, e3⟩, e4⟩) (fun j h h' => hst j h h' w0 _ w3 (fun _ _ _ => rfl) (fun b hb hlt => .inr ⟨hb.1, hlt⟩)))
  have HB3 := Lib.hid ((hb3.block _ (Array.getElem?_eq_some_iff.1 HB2.out).1).trans HB2.out)
  have Hx3 := Lib.hid (Hx2.out.grow hb3)
  clear hS hrow hst hb3 hw2
  generalize stepsM ops M = rr at *
  go_wp2_with fail
  refine HT3.out.mono ?_
  rintro e w4 ⟨rfl, ho4, hx4, hb4, hz4⟩
  by_cases hr : rr.2 = 0
  · rw [hr]
    obtain rfl := Hx3.out.size
    have hB4 := (hx4 w1.heap.size (.inr ⟨hz, (Array.getElem?_eq_some_iff.1 HB3.out).1⟩)).trans HB3.out
    rw [Hx3.out.n] at hB4
    obtain ⟨c0, c1, c2, c3, c4, c5, c6, c7, cf⟩ := box8 hB4
    have Ho4 := Lib.hid ho4
    have Hx4 := Lib.hid hx4
    have Hz4 := Lib.hid hz4
    have Hr := Lib.hid hr
    have hlt4 := (Array.getElem?_eq_some_iff.1 hB4).1
    have HK := Lib.hid (fun W (h : Below w4.heap.size w4 W) => And.intro ((h.cell (p := ⟨w1.heap.size, 0, none⟩) hlt4).trans c0) (And.intro ((h.cell (p := ⟨w1.heap.size, 2, none⟩) hlt4).trans c2) ((h.cell (p := ⟨w1.heap.size, 5, none⟩) hlt4).trans c5)))
    have HWN := Lib.hid (HW.out N x.wn)
    clear ho4 hx4 hb4 hB4 hz4 hr
    obtain ⟨ra, rn, rc, oa, on, oc, xn, mk, pa, pn, pc, wa, wn, wc, tn, no⟩ := x
    simp only at *
    go_upto_region 6 with fail
    go_cut [4, 5, 6] (fun p q z wx => ∃ g, p = .pointer (some ⟨g, 0, none⟩) ∧ q = .slice ra rn rc ∧ z = .int .i64 0 ∧ w4.heap.size ≤ g ∧ wx.heap[g]? = some (.cells #[.int .i64 (N : Int), .int .i64 (wn : Int), .int .i64 0, .pointer (some ⟨d, 0, none⟩), .int .i64 most] 129 (0, 0)) ∧ Below w4.heap.size w4 wx)
    case first =>
      go_region_held3 (fun w' => w'.cell? ⟨w1.heap.size, 0, none⟩ = some (.slice ra rn rc) ∧ w'.cell? ⟨w1.heap.size, 2, none⟩ = some (.int .i64 (N : Int)) ∧ w'.cell? ⟨w1.heap.size, 5, none⟩ = some (.slice wa wn wc))
        (first | exact HK.out _ (by (repeat (first | assumption | exact Below.refl _ _ | refine Below.drew ?_ | refine Below.alloc ?_ (by (first | exact Nat.le_refl _ | (simp; done) | (simp; omega) | omega)) _))))
        (first
          | (go_at_call 67; (with_reducible refine (HWN.out _).mono ?_); rintro e w5 ⟨rfl, rfl⟩))
      all_goals go_wp2_with fail
      all_goals go_meet
      all_goals exact ⟨_, rfl, rfl, rfl, Nat.le_refl _, heap_alloc_new _ _, by (repeat (first | assumption | exact Below.refl _ _ | refine Below.drew ?_ | refine Below.alloc ?_ (by (first | exact Nat.le_refl _ | (simp; done) | (simp; omega) | omega)) _))⟩
    case rest =>
      obtain ⟨g, rfl, rfl, rfl, hg, hG, hb5⟩ := hcut
      have Hb5 := Lib.hid hb5
      have HG := Lib.hid hG
      have hw3 := Hb3.out.size
      have hz4 := Hz4.out
      have HP := Lib.hid (partsZ_kept (Z' := fun b => w.heap.size ≤ b ∧ b < w3.heap.size) Hx3.out.recs (w' := wc) (fun b h1 h2 => (Hb5.out.block b (Nat.lt_of_lt_of_le h2 hz4)).trans (Hx4.out b (.inr ⟨h1, h2⟩))) (fun _ h => h) (fun b h1 h2 => ⟨h1, h2⟩))
      clear hb5 hG
      obtain ⟨hrl, hkp⟩ := HP.out
      subst hrl
      have Hkp := Lib.hid hkp
      clear hkp HP
      go_wp2
      refine bodyPost_ret (results_tmp3 rfl _ _ _) rfl (.inr ⟨Hr.out, g, ra, rc, fun b => w.heap.size ≤ b ∧ b < w3.heap.size, rfl, fun b h => h.1, by omega, fun h => by omega, ⟨?_, .inr (.inr rfl), ?_, ?_⟩, ?_, Hkp.out⟩)
      · exact (Ho4.out.sub (fun b hb => hb)).more Hb5.out (fun b hb => by
          rcases hb with h | h | h
          · exact .inl (.inl h)
          · exact .inl (.inr h)
          · exact .inr ⟨by omega, by have := (Array.getElem?_eq_some_iff.1 HG.out).1; omega⟩)
      · have := Hsz.out
        show w0.heap.size ≤ g
        omega
      · exact HG.out
      · intro b hb
        have h1 := HX.out b hb
        exact (Hb5.out.block b (by omega)).trans ((Hx4.out b (.inl hb)).trans (Hb3.out.block b h1))
  · have hr1 : (rr.2 != 0) = true := by simp [hr]
    have hr2 : (rr.2 == 0) = false := by simp [hr]
    have Ho4 := Lib.hid ho4
    have Hx4 := Lib.hid hx4
    have Hb4 := Lib.hid hb4
    have Hz4 := Lib.hid hz4
    have Hr := Lib.hid hr
    clear ho4 hx4 hb4 hz4 hr
    go_wp2
    refine bodyPost_ret (results_tmp3 rfl _ _ _) rfl (.inl ⟨Hr.out, rfl, Ho4.out.sub (fun b hb => Or.inl hb), fun b hb => ?_, ?_, ?_⟩)
    · exact (Hx4.out b (.inl hb)).trans (Hb3.out.block b (HX.out b hb))
    · exact (Hb3.out.mono Hsz.out).trans Hb4.out
    · exact Nat.le_trans Hb3.out.size Hz4.out

theorem asc_sub : ∀ (xs ys : List Int), xs.Pairwise (· < ·) → (∀ x ∈ xs, x ∈ ys) → xs.length ≤ ys.length
  | [], _, _, _ => Nat.zero_le _
  | x :: xs, ys, hp, hs => by
    obtain ⟨h1, h2⟩ := List.pairwise_cons.1 hp
    have hx := hs x (List.mem_cons_self ..)
    have ih := asc_sub xs (ys.erase x) h2 (fun y hy => by
      have hne : y ≠ x := fun e => by have := h1 y hy; omega
      exact (List.mem_erase_of_ne hne).2 (hs y (List.mem_cons_of_mem _ hy)))
    rw [List.length_erase_of_mem hx] at ih
    have : 0 < ys.length := List.length_pos_of_mem hx
    rw [List.length_cons]
    omega

set_option maxHeartbeats 1600000 in
theorem sopen_any {w0 : World} {X : Nat → Prop} {w : World} {d : Nat} {M : DM} (hO : Own w0 X w d M) (hd : M.down = false) (hl : M.fs.length ≤ 900) {U : Nat} (hnt : Neat M 900 U) (hU : U ≤ 9000) (hnm : ∀ f ∈ M.fs, f.n.length ≤ 9223372036854775807) (ps : List PS) (hA : AllOf M ps) (most : Int) :
    Calls Tryz.prog 21 #[.pointer (some ⟨d, 0, none⟩), .int .i64 most] w fun e w' => ∃ r, IsOpen M ps r ∧ SOEnd w0 X w d most r e w' := by
  have hus := hnt.small.used
  have hfind := find_up hO hd (by omega) (by omega) hnm ps hA
  have hX : ∀ b, X b → b < w.heap.size := by obtain ⟨_, _, _, h, _⟩ := hO; exact h
  by_cases h0 : ps = []
  · subst h0
    refine (sopen_steps hO hl hnt (by omega) hfind (repNone M) 1 0 [] (fun x z w1 hq => ?_) most).mono fun e w' h => ⟨_, .inr ⟨_, _, _, _, .inl ⟨rfl, rfl, rfl, rfl, rfl⟩, rfl⟩, h⟩
    rcases hq with ⟨_, rfl, rfl⟩ | ⟨k, ⟨hk, _⟩, _⟩
    · refine ⟨rfl, rfl, Nat.le_refl _, by decide, ⟨[], [], 0, ⟨rfl, Nat.le_refl _, by decide, fun _ => rfl, fun h => absurd h (Nat.lt_irrefl _)⟩, (fun _ h => by cases h), Nat.zero_le _, ⟨rfl, Nat.le_refl _, by decide, (fun _ h => by cases h), fun _ => rfl, fun h => absurd h (Nat.lt_irrefl _)⟩, fun h => absurd h (Nat.lt_irrefl _), Nat.zero_le _, rfl, rfl⟩, rfl, PartsZ.nil _ _ _⟩
    · exact absurd hk (by simp)
  · have hp : 0 < ps.length := List.length_pos_iff.2 h0
    obtain ⟨k, hk⟩ := first_ex ps hp
    by_cases hg : Good (ps.drop k)
    · have hlast : lastP ps hp ∈ ps := List.getElem_mem _
      obtain ⟨hN0, hN1⟩ := allOf_pos hA (lastP ps hp).n (List.mem_map.2 ⟨_, hlast, rfl⟩)
      obtain ⟨N, hN⟩ : ∃ N : Nat, (lastP ps hp).n = (N : Int) := ⟨(lastP ps hp).n.toNat, by omega⟩
      have hrd := readM_len (nmB (lastP ps hp).n.toNat) M
      have hsp := congrArg List.length (hA.2 _ hlast).eq
      rw [List.length_append] at hsp
      have hpl : ps.length ≤ M.fs.length := by
        have h1 := asc_sub (ps.map PS.n) (M.fs.map fun f => ((segNum (nmL f.n) : Nat) : Int)) (allOf_asc hA) (fun x hx => by
          obtain ⟨l, hl, _, rfl⟩ := (hA.1.2 x).1 hx
          obtain ⟨f, hf, rfl⟩ := List.mem_map.1 hl
          exact List.mem_map.2 ⟨f, hf, rfl⟩)
        rw [List.length_map, List.length_map] at h1
        exact h1
      refine (sopen_steps hO hl hnt (by omega) hfind (repOps M ((ps.take k).map PS.n) N (joinL (lastP ps hp).ls) (lastP ps hp).t.length) N (joinL (lastP ps hp).ls).length (recsL (ps.drop k)) (fun x z w1 hq => ?_) most).mono fun e w' h => ⟨_, .inr ⟨_, _, _, _, .inr ⟨k, hp, hk, hg, hN, rfl, rfl, rfl⟩, rfl⟩, h⟩
      rcases hq with ⟨h, _⟩ | ⟨k', hk', h⟩
      · exact absurd h h0
      obtain rfl := firstAt_uniq hk hk'
      rcases h with ⟨h, _⟩ | ⟨_, rfl, h1, h2, ⟨h3, h4, h5, h6, h7⟩, h8⟩
      · exact absurd hg h
      · refine ⟨rfl, h4.trans hN, by omega, by omega, ⟨(ps.take k).map PS.n, joinL (lastP ps hp).ls, (lastP ps hp).t.length, h2, fun y hy => ?_, ?_, h5, fun h0 a ha => h6 a ha h0, by omega, h7, by rw [h8]; rfl⟩, h5.len.symm, h1⟩
        · obtain ⟨p, hp', rfl⟩ := List.mem_map.1 hy
          have := allOf_pos hA p.n (List.mem_map.2 ⟨p, List.mem_of_mem_take hp', rfl⟩)
          omega
        · rw [List.length_map, List.length_take]
          omega
    · have hbr : BrokenAt ps := ⟨k, hk, hg⟩
      refine (sopen_code (z0 := 11) (by decide) (fun x z w1 hq => ?_) hfind).mono fun e w' h => ⟨_, .inl ⟨hbr, rfl⟩, .inl ⟨(by show (11 : Int) ≠ 0; decide), h.1, ?_⟩⟩
      · rcases hq with ⟨h, _⟩ | ⟨k', hk', h⟩
        · exact absurd h h0
        obtain rfl := firstAt_uniq hk hk'
        rcases h with ⟨_, _, h⟩ | ⟨h, _⟩
        · exact h
        · exact absurd h hg
      · exact ⟨hO.below h.2, fun b hb => h.2.block b (hX b hb), h.2.mono hO.base.size, h.2.size⟩
end Go.Proofs.YtmiepigieajpcaaGreat

