/- The walk of the reference's Do, whatever the change is: it answers what the plain disk answers. -/
import Derived.Test.YtdnbjpfapfnpaaaRfV
import Derived.Test.YtdnbjpfapfnpaaaRfW
import Derived.Test.YtdnbjpfapfnpaaaRfX
import Derived.Test.YtdnbjpfapfnpaaaRfY
import Derived.Test.YtdnbjpfapfnpaaaRfZ
import Derived.Test.YtdnbjpfapfnpaaaRfT
import Derived.Test.YtdnbjpfapfnpaaaDkL
namespace Go.Proofs.Ytdnbjpfapfnpaaa
open Go.RowKit Go.Maps Go.Shelf

/-- Files in the order of their names. -/
def Sorted (l : List F) : Prop := l.Pairwise fun x y => x.n < y.n

theorem lt_ne {a b : List UInt8} (h : a < b) : a ≠ b := fun e => by
  subst e
  exact List.lt_irrefl _ h

theorem before_no {a b : List UInt8} (h : a < b) : bytesBefore b a = false := by
  cases e : bytesBefore b a with
  | false => rfl
  | true => exact absurd (List.lt_trans ((before_lt b a).1 e) h) (List.lt_irrefl _)

theorem setN_putN (x : F) : ∀ l : List F, Sorted l → findN F.n x.n l ≠ none → setN F.n x l = putN F.n x l
  | [], _, h => absurd rfl h
  | y :: r, hs, h => by
    obtain ⟨hy, hr⟩ := List.pairwise_cons.1 hs
    by_cases e : y.n = x.n
    · have hne : ∀ z ∈ r, z.n ≠ x.n := fun z hz e2 => lt_ne (hy z hz) (e.trans e2.symm)
      have h1 : delN F.n x.n (y :: r) = r := by
        unfold delN
        rw [List.filter_cons, if_neg (by simp [e]), List.filter_eq_self]
        intro z hz
        simpa using hne z hz
      have h2 : setN F.n x (y :: r) = x :: r := by
        unfold setN
        rw [List.map_cons, if_pos (by simp [e])]
        congr 1
        conv => rhs; rw [← List.map_id r]
        refine List.map_congr_left fun z hz => ?_
        rw [if_neg (by simpa using hne z hz)]
        rfl
      unfold putN
      rw [h1, h2]
      cases r with
      | nil => rfl
      | cons z r' =>
        unfold insN
        rw [if_pos ((before_lt _ _).2 (by rw [← e]; exact hy z (by simp)))]
    · have hin : findN F.n x.n r ≠ none := by
        unfold findN at h ⊢
        rwa [List.find?_cons_of_neg (by simpa using e)] at h
      obtain ⟨z, hz⟩ := Option.ne_none_iff_exists'.1 hin
      obtain ⟨hzr, hzn⟩ := findN_some hz
      have ih := setN_putN x r hr hin
      have hlt : y.n < x.n := by rw [← hzn]; exact hy z hzr
      unfold putN at ih ⊢
      unfold delN at ih ⊢
      rw [List.filter_cons, if_pos (by simpa using e)]
      show setN F.n x (y :: r) = if bytesBefore x.n y.n = true then _ else y :: insN F.n x _
      rw [if_neg (by rw [before_no hlt]; decide), ← ih]
      unfold setN
      rw [List.map_cons, if_neg (by simpa using e)]

/-- What a change does to a plain disk: Create, Append, Sync, Rename, Remove. -/
def stepM (k : Int) (nm to : List UInt8) (bs : List Nat) (M : DM) : DM × Int :=
  if k = 1 then createM nm M else if k = 2 then appendM nm bs M else if k = 3 then syncM nm M else if k = 4 then renameM nm to M else removeM nm M

theorem rdo_all {X : Nat → Prop} {w : World} {v : Value} {M : DM} (h : RefAt X w v M) (hX : ∀ b, X b → b < w.heap.size) (hle : M.plan ≤ 9223372036854775807) (hs : Sorted M.fs) (k : Int) (hk : 1 ≤ k ∧ k ≤ 5) (nm to : List UInt8)
    (hnml : nm.length ≤ 9223372036854775807) (htol : to.length ≤ 9223372036854775807) (p : Option Addr) (l c2 : Nat) (bs : List Nat) (hBy : ∀ W, Below w.heap.size w W → Bytes W p l c2 bs) (hub : usedF M.fs ≤ 100000000) (hl : l ≤ 100000000) :
    Calls Try.prog 22 #[v, opV k nm to p l c2] w (DoEnd X w (stepM k nm to bs M)) := by
  have hbl : bs.length = l := (hBy w (Below.refl _ _)).len
  by_cases hd : (failM M).down = true
  · have e : stepM k nm to bs M = (failM M, 10) := by
      unfold stepM createM appendM syncM renameM removeM chgM
      simp only [hd, if_true]
      split
      · rfl
      · split
        · rfl
        · split
          · rfl
          · split <;> rfl
    rw [e]
    exact rdo_dead h hX hd k nm to p l c2
  · have hA : Alive M := by
      unfold failM at hd
      by_cases h1 : M.down = true
      · rw [if_pos h1] at hd
        exact absurd h1 hd
      · rw [if_neg h1] at hd
        by_cases h2 : M.plan = 1
        · rw [if_pos h2] at hd
          exact absurd rfl hd
        · exact ⟨by simpa using h1, h2, hle⟩
    have hfs := failM_fs' M
    have hro := failM_room' M
    by_cases hnm : named nm = true
    · have hch : ∀ act : DM → DM × Int, chgM M nm act = act (failM M) := fun act => by unfold chgM; rw [if_neg hd, if_pos hnm]
      rcases (show k = 1 ∨ k = 2 ∨ k = 3 ∨ k = 4 ∨ k = 5 by omega) with rfl | rfl | rfl | rfl | rfl
      · show Calls _ _ _ _ (DoEnd X w (createM nm M))
        unfold createM
        rw [hch]
        cases hf : findN F.n nm M.fs with
        | none =>
          simp only [hfs, hf]
          exact rdo_create h hX hA nm to p l c2 hnml hnm hf
        | some f =>
          simp only [hfs, hf]
          exact rdo_there h hX hA nm to p l c2 hnml hnm f hf
      · show Calls _ _ _ _ (DoEnd X w (appendM nm bs M))
        unfold appendM onM
        rw [hch]
        cases hf : findN F.n nm M.fs with
        | none =>
          simp only [hfs, hf]
          exact rdo_no2 h hX hA nm to p l c2 hnml hnm hf
        | some f =>
          simp only [hfs, hf, hbl]
          by_cases hfit : usedF M.fs + l ≤ (failM M).room
          · rw [if_pos hfit, setN_putN _ _ hs (by show findN F.n nm M.fs ≠ none; rw [hf]; simp)]
            exact rdo_append h hX hA nm to p l c2 hnml hnm f hf (by omega) (by omega) bs hBy (by rw [← hro]; exact hfit)
          · rw [if_neg hfit]
            exact rdo_full h hX hA nm to p l c2 hnml hnm f hf (by omega) (by omega) (by rw [← hro]; omega)
      · show Calls _ _ _ _ (DoEnd X w (syncM nm M))
        unfold syncM onM
        rw [hch]
        cases hf : findN F.n nm M.fs with
        | none =>
          simp only [hfs, hf]
          exact rdo_no3 h hX hA nm to p l c2 hnml hnm hf
        | some f =>
          simp only [hfs, hf]
          rw [setN_putN _ _ hs (by show findN F.n nm M.fs ≠ none; rw [hf]; simp)]
          exact rdo_sync h hX hA nm to p l c2 hnml hnm f hf
      · show Calls _ _ _ _ (DoEnd X w (renameM nm to M))
        unfold renameM onM
        rw [hch]
        by_cases hto : named to = true
        · cases hf : findN F.n nm M.fs with
          | none =>
            simp only [hfs, hf]
            exact rdo_no4 h hX hA nm to p l c2 hnml hnm htol hto hf
          | some f =>
            simp only [hfs, hf, hto, if_true]
            exact rdo_rename h hX hA nm to p l c2 hnml hnm f hf htol hto
        · have hto2 : named to = false := by simpa using hto
          have key := rdo_to h hX hA nm to p l c2 hnml hnm htol hto2
          cases findN F.n nm (failM M).fs with
          | none => exact key
          | some f =>
            simp only [hto2]
            exact key
      · show Calls _ _ _ _ (DoEnd X w (removeM nm M))
        unfold removeM onM
        rw [hch]
        cases hf : findN F.n nm M.fs with
        | none =>
          simp only [hfs, hf]
          exact rdo_no5 h hX hA nm to p l c2 hnml hnm hf
        | some f =>
          simp only [hfs, hf]
          exact rdo_remove h hX hA nm to p l c2 hnml hnm f hf
    · have hnm2 : named nm = false := by simpa using hnm
      have e : stepM k nm to bs M = (failM M, 6) := by
        have hch : ∀ act : DM → DM × Int, chgM M nm act = (failM M, 6) := fun act => by unfold chgM; rw [if_neg hd, if_neg hnm]
        unfold stepM createM appendM syncM renameM removeM
        simp only [hch]
        split
        · rfl
        · split
          · rfl
          · split
            · rfl
            · split <;> rfl
      rw [e]
      exact rdo_name h hX hA k nm to p l c2 hnml hnm2
end Go.Proofs.Ytdnbjpfapfnpaaa
