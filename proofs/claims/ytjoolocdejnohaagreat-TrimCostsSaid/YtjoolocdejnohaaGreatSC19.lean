import Derived.Test.YtjoolocdejnohaaGreatSC17
import Derived.Test.YtjoolocdejnohaaGreatSC18
import Derived.Test.YtjoolocdejnohaaGreatSC11
import Derived.Test.YtjoolocdejnohaaGreatSC5
/- The walk of the reference's Do, whatever the change is: it answers what the plain disk answers. -/
namespace Go.Proofs.YtjoolocdejnohaaGreat
open Go.RowKit Go.Maps Go.Shelf

/-- Files in the order of their names. -/
def Sorted (l : List F) : Prop := l.Pairwise fun x y => x.n < y.n

theorem lt_ne {a b : List UInt8} (h : a < b) : a ≠ b := fun e => by
  subst e
  exact List.lt_irrefl _ h

theorem before_no {a b : List UInt8} (h : a < b) : bytesBefore b a = false := by
  cases e : bytesBefore b a with
  | false => rfl
  | true => exact absurd (List.lt_trans ((before_lt b a).1 e) h) (List.lt_irrefl _)

theorem setN_putN (x : F) : ∀ l : List F, Sorted l → findN F.n x.n l ≠ none → setN F.n x l = putN F.n x l
  | [], _, h => absurd rfl h
  | y :: r, hs, h => by
    obtain ⟨hy, hr⟩ := List.pairwise_cons.1 hs
    by_cases e : y.n = x.n
    · have hne : ∀ z ∈ r, z.n ≠ x.n := fun z hz e2 => lt_ne (hy z hz) (e.trans e2.symm)
      have h1 : delN F.n x.n (y :: r) = r := by
        unfold delN
        rw [List.filter_cons, if_neg (by simp [e]), List.filter_eq_self]
        intro z hz
        simpa using hne z hz
      have h2 : setN F.n x (y :: r) = x :: r := by
        unfold setN
        rw [List.map_cons, if_pos (by simp [e])]
        congr 1
        conv => rhs; rw [← List.map_id r]
        refine List.map_congr_left fun z hz => ?_
        rw [if_neg (by simpa using hne z hz)]
        rfl
      unfold putN
      rw [h1, h2]
      cases r with
      | nil => rfl
      | cons z r' =>
        unfold insN
        rw [if_pos ((before_lt _ _).2 (by rw [← e]; exact hy z (by simp)))]
    · have hin : findN F.n x.n r ≠ none := by
        unfold findN at h ⊢
        rwa [List.find?_cons_of_neg (by simpa using e)] at h
      obtain ⟨z, hz⟩ := Option.ne_none_iff_exists'.1 hin
      obtain ⟨hzr, hzn⟩ := findN_some hz
      have ih := setN_putN x r hr hin
      have hlt : y.n < x.n := by rw [← hzn]; exact hy z hzr
      unfold putN at ih ⊢
      unfold delN at ih ⊢
      rw [List.filter_cons, if_pos (by simpa using e)]
      show setN F.n x (y :: r) = if bytesBefore x.n y.n = true then _ else y :: insN F.n x _
      rw [if_neg (by rw [before_no hlt]; decide), ← ih]
      unfold setN
      rw [List.map_cons, if_neg (by simpa using e)]

/-- What a change does to a plain disk: Create, Append, Sync, Rename, Remove. -/
def stepM (k : Int) (nm to : List UInt8) (bs : List Nat) (M : DM) : DM × Int :=
  if k = 1 then createM nm M else if k = 2 then appendM nm bs M else if k = 3 then syncM nm M else if k = 4 then renameM nm to M else removeM nm M

theorem rdo_all {X : Nat → Prop} {w : World} {v : Value} {M : DM} (h : RefAt X w v M) (hX : ∀ b, X b → b < w.heap.size) (hle : M.plan ≤ 9223372036854775807) (hs : Sorted M.fs) (k : Int) (hk : 1 ≤ k ∧ k ≤ 5) (nm to : List UInt8)
    (hnml : nm.length ≤ 9223372036854775807) (htol : to.length ≤ 9223372036854775807) (p : Option Addr) (l c2 : Nat) (bs : List Nat) (hBy : ∀ W, Below w.heap.size w W → Bytes W p l c2 bs) (hub : usedF M.fs ≤ 100000000) (hl : l ≤ 100000000) :
    Calls Tryz.prog 74 #[v, opV k nm to p l c2] w (DoEnd X w (stepM k nm to bs M)) := by
  have hbl : bs.length = l := (hBy w (Below.refl _ _)).len
  by_cases hd : (failM M).down = true
  · have e : stepM k nm to bs M = (failM M, 10) := by
      unfold stepM createM appendM syncM renameM removeM chgM
      simp only [hd, if_true]
      split
      · rfl
      · split
        · rfl
        · split
          · rfl
          · split <;> rfl
    rw [e]
    exact rdo_dead h hX hd k nm to p l c2
  · have hA : Alive M := by
      unfold failM at hd
      by_cases h1 : M.down = true
      · rw [if_pos h1] at hd
        exact absurd h1 hd
      · rw [if_neg h1] at hd
        by_cases h2 : M.plan = 1
        · rw [if_pos h2] at hd
          exact absurd rfl hd
        · exact ⟨by simpa using h1, h2, hle⟩
    have hfs := failM_fs' M
    have hro := failM_room' M
    by_cases hnm : named nm = true
    · have hch : ∀ act : DM → DM × Int, chgM M nm act = act (failM M) := fun act => by unfold chgM; rw [if_neg hd, if_pos hnm]
      rcases (show k = 1 ∨ k = 2 ∨ k = 3 ∨ k = 4 ∨ k = 5 by omega) with rfl | rfl | rfl | rfl | rfl
      · show Calls _ _ _ _ (DoEnd X w (createM nm M))
        unfold createM
        rw [hch]
        cases hf : findN F.n nm M.fs with
        | none =>
          simp only [hfs, hf]
          exact rdo_create h hX hA nm to p l c2 hnml hnm hf
        | some f =>
          simp only [hfs, hf]
          exact rdo_there h hX hA nm to p l c2 hnml hnm f hf
      · show Calls _ _ _ _ (DoEnd X w (appendM nm bs M))
        unfold appendM onM
        rw [hch]
        cases hf : findN F.n nm M.fs with
        | none =>
          simp only [hfs, hf]
          exact rdo_no2 h hX hA nm to p l c2 hnml hnm hf
        | some f =>
          simp only [hfs, hf, hbl]
          by_cases hfit : usedF M.fs + l ≤ (failM M).room
          · rw [if_pos hfit, setN_putN _ _ hs (by show findN F.n nm M.fs ≠ none; rw [hf]; simp)]
            exact rdo_append h hX hA nm to p l c2 hnml hnm f hf (by omega) (by omega) bs hBy (by rw [← hro]; exact hfit)
          · rw [if_neg hfit]
            exact rdo_full h hX hA nm to p l c2 hnml hnm f hf (by omega) (by omega) (by rw [← hro]; omega)
      · show Calls _ _ _ _ (DoEnd X w (syncM nm M))
        unfold syncM onM
        rw [hch]
        cases hf : findN F.n nm M.fs with
        | none =>
          simp only [hfs, hf]
          exact rdo_no3 h hX hA nm to p l c2 hnml hnm hf
        | some f =>
          simp only [hfs, hf]
          rw [setN_putN _ _ hs (by show findN F.n nm M.fs ≠ none; rw [hf]; simp)]
          exact rdo_sync h hX hA nm to p l c2 hnml hnm f hf
      · show Calls _ _ _ _ (DoEnd X w (renameM nm to M))
        unfold renameM onM
        rw [hch]
        by_cases hto : named to = true
        · cases hf : findN F.n nm M.fs with
          | none =>
            simp only [hfs, hf]
            exact rdo_no4 h hX hA nm to p l c2 hnml hnm htol hto hf
          | some f =>
            simp only [hfs, hf, hto, if_true]
            exact rdo_rename h hX hA nm to p l c2 hnml hnm f hf htol hto
        · have hto2 : named to = false := by simpa using hto
          have key := rdo_to h hX hA nm to p l c2 hnml hnm htol hto2
          cases findN F.n nm (failM M).fs with
          | none => exact key
          | some f =>
            simp only [hto2]
            exact key
      · show Calls _ _ _ _ (DoEnd X w (removeM nm M))
        unfold removeM onM
        rw [hch]
        cases hf : findN F.n nm M.fs with
        | none =>
          simp only [hfs, hf]
          exact rdo_no5 h hX hA nm to p l c2 hnml hnm hf
        | some f =>
          simp only [hfs, hf]
          exact rdo_remove h hX hA nm to p l c2 hnml hnm f hf
    · have hnm2 : named nm = false := by simpa using hnm
      have e : stepM k nm to bs M = (failM M, 6) := by
        have hch : ∀ act : DM → DM × Int, chgM M nm act = (failM M, 6) := fun act => by unfold chgM; rw [if_neg hd, if_neg hnm]
        unfold stepM createM appendM syncM renameM removeM
        simp only [hch]
        split
        · rfl
        · split
          · rfl
          · split
            · rfl
            · split <;> rfl
      rw [e]
      exact rdo_name h hX hA k nm to p l c2 hnml hnm2
end Go.Proofs.YtjoolocdejnohaaGreat

/- Logs as plain data: Sync, the change of segments and appending, as a log and a code. -/
namespace Go.Proofs.YtjoolocdejnohaaGreat
open Go.RowKit Go.Maps

theorem rotW_eq (W : WM) (hN : W.n < 99999999) : rotW W = ((if (syncM (nmB W.n) W.D).2 = 0 then (if (createM (nmB (W.n + 1)) (syncM (nmB W.n) W.D).1).2 = 0 then { W with D := (createM (nmB (W.n + 1)) (syncM (nmB W.n) W.D).1).1, n := W.n + 1, size := 0, wait := 0 } else { W with D := (createM (nmB (W.n + 1)) (syncM (nmB W.n) W.D).1).1 }) else { W with D := (syncM (nmB W.n) W.D).1 }),
    (if (syncM (nmB W.n) W.D).2 = 0 then (createM (nmB (W.n + 1)) (syncM (nmB W.n) W.D).1).2 else (syncM (nmB W.n) W.D).2)) := by
  unfold rotW
  rw [if_neg (by omega)]
  by_cases h1 : (syncM (nmB W.n) W.D).2 = 0
  · rw [if_neg (by simpa using h1), if_pos h1, if_pos h1]
    by_cases h2 : (createM (nmB (W.n + 1)) (syncM (nmB W.n) W.D).1).2 = 0
    · rw [if_neg (by simpa using h2), if_pos h2, h2]
    · rw [if_pos h2, if_neg h2]
  · rw [if_pos h1, if_neg h1, if_neg h1]

theorem syncM_count (n : List UInt8) (M : DM) : (syncM n M).1.fs.length = M.fs.length := by
  have hf : (failM M).fs = M.fs := by unfold failM; split <;> (try split) <;> rfl
  unfold syncM chgM onM
  split
  · rw [hf]
  · split
    · split
      · rw [hf]
      · show (setN F.n _ (failM M).fs).length = _
        rw [hf]
        exact List.length_map _
    · rw [hf]

theorem appW_eq (W : WM) (l : List Nat) : appW W l = ((if (appendM (nmB W.n) (frameL l) W.D).2 = 0 then { W with D := (appendM (nmB W.n) (frameL l) W.D).1, size := W.size + (l.length + 8), wait := W.wait + 1 } else { W with D := (appendM (nmB W.n) (frameL l) W.D).1 }), (appendM (nmB W.n) (frameL l) W.D).2) := by
  unfold appW
  by_cases h : (appendM (nmB W.n) (frameL l) W.D).2 = 0
  · rw [if_pos h, if_pos h, h]
  · rw [if_neg h, if_neg h]

theorem failM_rm (M : DM) : (failM M).room = M.room ∧ (failM M).fs = M.fs := by
  unfold failM; split
  · exact ⟨rfl, rfl⟩
  · split <;> exact ⟨rfl, rfl⟩

theorem syncM_rm (n : List UInt8) (M : DM) : (syncM n M).1.room = M.room := by
  unfold syncM chgM onM
  split
  · exact (failM_rm M).1
  · split
    · split
      · exact (failM_rm M).1
      · exact (failM_rm M).1
    · exact (failM_rm M).1

theorem insN_len {α : Type} (f : α → List UInt8) (x : α) (l : List α) : (insN f x l).length = l.length + 1 := (perm_insN f x l).length_eq

theorem putN_len {α : Type} (f : α → List UInt8) (x : α) (l : List α) : (putN f x l).length ≤ l.length + 1 := by
  unfold putN
  rw [insN_len]
  unfold delN
  have := List.length_filter_le (fun y => !(f y == f x)) l
  omega

theorem createM_rm (n : List UInt8) (M : DM) : (createM n M).1.room = M.room ∧ (createM n M).1.fs.length ≤ M.fs.length + 1 := by
  unfold createM chgM
  split
  · exact ⟨(failM_rm M).1, by rw [(failM_rm M).2]; omega⟩
  · split
    · dsimp only
      split
      · exact ⟨(failM_rm M).1, by rw [(failM_rm M).2]; omega⟩
      · refine ⟨(failM_rm M).1, ?_⟩
        have := putN_len F.n ⟨n, [], 0⟩ (failM M).fs
        rw [(failM_rm M).2] at this ⊢
        exact this
    · exact ⟨(failM_rm M).1, by rw [(failM_rm M).2]; omega⟩

theorem rotW_facts (W : WM) : (rotW W).1.most = W.most ∧ (rotW W).1.D.room = W.D.room ∧ (rotW W).1.D.fs.length ≤ W.D.fs.length + 1 ∧ ((rotW W).2 = 0 → (rotW W).1.n = W.n + 1 ∧ W.n < 99999999 ∧ (rotW W).1.size = 0 ∧ (rotW W).1.wait = 0) ∧ ((rotW W).2 ≠ 0 → (rotW W).1.n = W.n ∧ (rotW W).1.size = W.size ∧ (rotW W).1.wait = W.wait) := by
  by_cases hN : W.n < 99999999
  · rw [rotW_eq W hN]
    have h1 := syncM_rm (nmB W.n) W.D
    have h2 := createM_rm (nmB (W.n + 1)) (syncM (nmB W.n) W.D).1
    have h3 := syncM_count (nmB W.n) W.D
    rw [h1, h3] at h2
    split
    · split
      · exact ⟨rfl, h2.1, h2.2, fun _ => ⟨rfl, hN, rfl, rfl⟩, fun h => absurd (by assumption) h⟩
      · exact ⟨rfl, h2.1, h2.2, fun h => absurd h (by assumption), fun _ => ⟨rfl, rfl, rfl⟩⟩
    · exact ⟨rfl, h1, by show (syncM (nmB W.n) W.D).1.fs.length ≤ _; omega, fun h => absurd h (by assumption), fun _ => ⟨rfl, rfl, rfl⟩⟩
  · have e : rotW W = (W, 2) := by unfold rotW; rw [if_pos (by omega)]
    rw [e]
    exact ⟨rfl, rfl, by show W.D.fs.length ≤ _; omega, fun h => absurd (show (2 : Int) = 0 from h) (by decide), fun _ => ⟨rfl, rfl, rfl⟩⟩

end Go.Proofs.YtjoolocdejnohaaGreat

