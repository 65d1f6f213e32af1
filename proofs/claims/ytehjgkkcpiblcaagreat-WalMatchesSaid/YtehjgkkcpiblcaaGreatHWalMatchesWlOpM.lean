/- Operations on a log as plain data: puts, syncs, planned failures; how a log's numbers grow. -/
import Derived.Test.YtehjgkkcpiblcaaGreatMB34
namespace Go.Proofs.YtehjgkkcpiblcaaGreat
open Go.RowKit Go.Maps

/-- An operation. -/
structure OM where
  k : Int
  r : List Nat
  n : Int

def stepO (W : WM) (x : OM) : WM × Int :=
  if x.k = 0 then putW W x.r else if x.k = 1 then syncW W else ({ W with D := armM x.n W.D }, 0)

def runO (W : WM) (l : List OM) : WM := l.foldl (fun W x => (stepO W x).1) W

theorem runO_next {W : WM} {l : List OM} {j : Nat} (hj : j < l.length) : runO W (l.take (j + 1)) = (stepO (runO W (l.take j)) l[j]).1 := by
  unfold runO
  rw [List.take_succ_eq_append_getElem hj, List.foldl_append]
  rfl

theorem appendM_rm (n : List UInt8) (b : List Nat) (M : DM) : (appendM n b M).1.room = M.room ∧ (appendM n b M).1.fs.length = M.fs.length := by
  have hf := failM_rm M
  have hs : ∀ x : F, (setN F.n x (failM M).fs).length = M.fs.length := fun x => by
    rw [hf.2]
    exact List.length_map _
  unfold appendM chgM onM
  split
  · exact ⟨hf.1, by rw [hf.2]⟩
  · split
    · split
      · exact ⟨hf.1, by rw [hf.2]⟩
      · dsimp only
        split
        · exact ⟨hf.1, hs _⟩
        · exact ⟨hf.1, by rw [hf.2]⟩
    · exact ⟨hf.1, by rw [hf.2]⟩

/-- How a log's numbers grow. -/
structure Grows (W W' : WM) (b : Nat) : Prop where
  n1 : W.n ≤ W'.n
  n2 : W'.n ≤ W.n + 1
  size : W'.size ≤ W.size + b
  wait : W'.wait ≤ W.wait + 1
  most : W'.most = W.most
  room : W'.D.room = W.D.room
  len : W'.D.fs.length ≤ W.D.fs.length + 1

theorem Grows.same (W : WM) (b : Nat) : Grows W W b := ⟨Nat.le_refl _, Nat.le_succ _, Nat.le_add_right _ _, Nat.le_succ _, rfl, rfl, Nat.le_succ _⟩

theorem appW_grows (W : WM) (l : List Nat) : Grows W (appW W l).1 (l.length + 8) ∧ (appW W l).1.n = W.n ∧ (appW W l).1.D.fs.length = W.D.fs.length := by
  obtain ⟨h1, h2⟩ := appendM_rm (nmB W.n) (frameL l) W.D
  rw [appW_eq]
  split
  · exact ⟨⟨Nat.le_refl _, Nat.le_succ _, Nat.le_refl _, Nat.le_refl _, rfl, h1, by show (appendM (nmB W.n) (frameL l) W.D).1.fs.length ≤ _; omega⟩, rfl, h2⟩
  · exact ⟨⟨Nat.le_refl _, Nat.le_succ _, Nat.le_add_right _ _, Nat.le_succ _, rfl, h1, by show (appendM (nmB W.n) (frameL l) W.D).1.fs.length ≤ _; omega⟩, rfl, h2⟩

theorem putW_grows (W : WM) (l : List Nat) : Grows W (putW W l).1 (l.length + 8) := by
  unfold putW
  split
  · exact Grows.same _ _
  · split
    · exact Grows.same _ _
    · split
      · obtain ⟨r1, r2, r3, r4, r5⟩ := rotW_facts W
        split
        · rename_i h
          obtain ⟨s1, s2, s3⟩ := r5 h
          exact ⟨by omega, by omega, by omega, by omega, r1, r2, r3⟩
        · rename_i h
          obtain ⟨s1, s2, s3, s4⟩ := r4 (by simpa using h)
          obtain ⟨g, g1, g2⟩ := appW_grows (rotW W).1 l
          exact ⟨by omega, by omega, by have := g.size; omega, by have := g.wait; omega, by rw [g.most, r1], by rw [g.room, r2], by omega⟩
      · exact (appW_grows W l).1

theorem syncW_grows (W : WM) (b : Nat) : Grows W (syncW W).1 b := by
  have h1 := syncM_rm (nmB W.n) W.D
  have h2 := syncM_count (nmB W.n) W.D
  rw [syncW_eq]
  split
  · exact ⟨Nat.le_refl _, Nat.le_succ _, Nat.le_add_right _ _, Nat.zero_le _, rfl, h1, by show (syncM (nmB W.n) W.D).1.fs.length ≤ _; omega⟩
  · exact ⟨Nat.le_refl _, Nat.le_succ _, Nat.le_add_right _ _, Nat.le_succ _, rfl, h1, by show (syncM (nmB W.n) W.D).1.fs.length ≤ _; omega⟩

theorem stepO_grows (W : WM) (x : OM) : Grows W (stepO W x).1 (x.r.length + 8) := by
  unfold stepO
  split
  · exact putW_grows W x.r
  · split
    · exact syncW_grows W _
    · exact ⟨Nat.le_refl _, Nat.le_succ _, Nat.le_add_right _ _, Nat.le_succ _, rfl, rfl, Nat.le_succ _⟩

def recsO (l : List OM) : List (List Nat) := l.map OM.r

theorem recsO_take (l : List OM) (j : Nat) : recsO (l.take j) = (recsO l).take j := List.map_take

theorem recsO_len (l : List OM) : (recsO l).length = l.length := List.length_map _

/-- A log behind some of the operations. -/
structure OpOk (W0 : WM) (l : List OM) (j : Nat) : Prop where
  n1 : W0.n ≤ (runO W0 (l.take j)).n
  n2 : (runO W0 (l.take j)).n ≤ W0.n + j
  size : (runO W0 (l.take j)).size ≤ W0.size + sizeL (recsO (l.take j))
  wait : (runO W0 (l.take j)).wait ≤ W0.wait + j
  same : (runO W0 (l.take j)).most = W0.most
  rm : (runO W0 (l.take j)).D.room = W0.D.room
  len : (runO W0 (l.take j)).D.fs.length ≤ W0.D.fs.length + j

theorem op_ok (W0 : WM) (l : List OM) : ∀ j, j ≤ l.length → OpOk W0 l j
  | 0, _ => by
    have e : runO W0 (l.take 0) = W0 := rfl
    exact ⟨by rw [e]; exact Nat.le_refl _, by rw [e]; exact Nat.le_refl _, by rw [e]; exact Nat.le_add_right _ _, by rw [e]; exact Nat.le_refl _, by rw [e], by rw [e], by rw [e]; exact Nat.le_refl _⟩
  | j + 1, hj => by
    have ih := op_ok W0 l j (by omega)
    have hg := stepO_grows (runO W0 (l.take j)) l[j]
    have hn := runO_next (W := W0) (l := l) (j := j) (by omega)
    rw [← hn] at hg
    have hs : sizeL (recsO (l.take (j + 1))) = sizeL (recsO (l.take j)) + (l[j].r.length + 8) := by
      rw [List.take_succ_eq_append_getElem (by omega)]
      unfold recsO
      rw [List.map_append]
      exact sizeL_snoc _ _
    exact ⟨Nat.le_trans ih.n1 hg.n1, by have := ih.n2; have := hg.n2; omega, by have := ih.size; have := hg.size; omega, by have := ih.wait; have := hg.wait; omega, by rw [hg.most, ih.same], by rw [hg.room, ih.rm], by have := ih.len; have := hg.len; omega⟩

end Go.Proofs.YtehjgkkcpiblcaaGreat
