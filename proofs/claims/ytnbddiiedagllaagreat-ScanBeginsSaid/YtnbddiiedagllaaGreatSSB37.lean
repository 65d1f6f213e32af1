import Derived.Test.YtnbddiiedagllaaGreatSSB36
import Derived.Test.YtnbddiiedagllaaGreatSSB28
/- Logs while records are put into them, whatever fails: how small they stay. -/
namespace Go.Proofs.YtnbddiiedagllaaGreat
open Go.RowKit Go.Maps

structure Tidy (W : WM) (N U n s k : Nat) (room : Nat) (most : Int) : Prop where
 neat : Neat W.D N U
 named : Named W.D
 n1 : 1 ≤ W.n
 n2 : W.n ≤ n
 size : W.size ≤ s
 wait : W.wait ≤ k
 rm : W.D.room = room
 most : W.most = most

theorem Tidy.mono {W : WM} {N U n s k N' U' n' s' k' : Nat} {room : Nat} {most : Int} (h : Tidy W N U n s k room most) (h1 : N ≤ N') (h2 : U ≤ U') (h3 : n ≤ n') (h4 : s ≤ s') (h5 : k ≤ k') : Tidy W N' U' n' s' k' room most :=
 ⟨h.neat.mono h1 h2, h.named, h.n1, Nat.le_trans h.n2 h3, Nat.le_trans h.size h4, Nat.le_trans h.wait h5, h.rm, h.most⟩

theorem nmB_short (N : Nat) : (nmB N).length ≤ 9223372036854775807 := by rw [nmB_length]; decide

theorem appendM_rm (n : List UInt8) (b : List Nat) (M : DM) : (appendM n b M).1.room = M.room := by
 unfold appendM chgM onM
 split
 ·exact (failM_rm M).1
 ·split
  ·split
   ·exact (failM_rm M).1
   ·dsimp only
    split <;> exact (failM_rm M).1
  ·exact (failM_rm M).1

section
variable {W : WM} {N U n s k room : Nat} {most : Int}

theorem tidy_sync (h : Tidy W N U n s k room most) : Tidy (syncW W).1 (N + 1) U n s k room most := by
 have h1 := stepM_neat h.neat 3 (nmB W.n) [] []
 have h2 := named_step h.named 3 (tt := []) [] (nmB_short W.n) (Nat.zero_le _)
 refine ⟨h1.mono (Nat.le_refl _) (by simp), h2, h.n1, h.n2, h.size, ?_, (syncM_rm _ _).trans h.rm, h.most⟩
 show (if (syncM (nmB W.n) W.D).2 = 0 then 0 else W.wait) ≤ k
 split
 ·exact Nat.zero_le _
 ·exact h.wait

theorem tidy_rot (h : Tidy W N U n s k room most) : Tidy (rotW W).1 (N + 2) U (n + 1) s k room most := by
 by_cases hN : W.n < 99999999
 ·have h1 := stepM_neat h.neat 3 (nmB W.n) [] []
  have h2 := named_step h.named 3 (tt := []) [] (nmB_short W.n) (Nat.zero_le _)
  have h3 := stepM_neat h1 1 (nmB (W.n + 1)) [] []
  have h4 := named_step h2 1 (tt := []) [] (nmB_short (W.n + 1)) (Nat.zero_le _)
  have e1 : stepM 3 (nmB W.n) [] [] W.D = syncM (nmB W.n) W.D := rfl
  have e2 : stepM 1 (nmB (W.n + 1)) [] [] (syncM (nmB W.n) W.D).1 = createM (nmB (W.n + 1)) (syncM (nmB W.n) W.D).1 := rfl
  rw [e1] at h1 h2 h3 h4
  rw [e2] at h3 h4
  have hu : U + ([] : List Nat).length + ([] : List Nat).length ≤ U := by simp
  have hu1 : U + ([] : List Nat).length ≤ U := by simp
  have r1 := (syncM_rm (nmB W.n) W.D).trans h.rm
  have r2 := (createM_rm (nmB (W.n + 1)) (syncM (nmB W.n) W.D).1).1.trans r1
  have n1 := h.n1
  have n2 := h.n2
  rw [rotW_eq W hN]
  dsimp only
  split
  ·split
   ·exact ⟨h3.mono (by omega) hu, h4, by show 1 ≤ W.n + 1; omega, by show W.n + 1 ≤ n + 1; omega, Nat.zero_le _, Nat.zero_le _, r2, h.most⟩
   ·exact ⟨h3.mono (by omega) hu, h4, n1, by show W.n ≤ n + 1; omega, h.size, h.wait, r2, h.most⟩
  ·exact ⟨h1.mono (by omega) hu1, h2, n1, by show W.n ≤ n + 1; omega, h.size, h.wait, r1, h.most⟩
 ·have e : rotW W = (W, 2) := by unfold rotW; rw [if_pos (by omega)]
  rw [e]
  exact h.mono (by omega) (Nat.le_refl _) (by omega) (Nat.le_refl _) (Nat.le_refl _)

theorem tidy_app (h : Tidy W N U n s k room most) (l : List Nat) : Tidy (appW W l).1 (N + 1) (U + (l.length + 8)) n (s + (l.length + 8)) (k + 1) room most := by
 have h1 := stepM_neat h.neat 2 (nmB W.n) [] (frameL l)
 have h2 := named_step h.named 2 (tt := []) (frameL l) (nmB_short W.n) (Nat.zero_le _)
 rw [frameL_len] at h1
 have r1 := (appendM_rm (nmB W.n) (frameL l) W.D).trans h.rm
 have n5 := h.size
 have n6 := h.wait
 rw [appW_eq]
 dsimp only
 split
 ·exact ⟨h1, h2, h.n1, h.n2, by show W.size + _ ≤ _; omega, by show W.wait + 1 ≤ _; omega, r1, h.most⟩
 ·exact ⟨h1, h2, h.n1, h.n2, by show W.size ≤ _; omega, by show W.wait ≤ _; omega, r1, h.most⟩

theorem tidy_put (h : Tidy W N U n s k room most) (l : List Nat) : Tidy (putW W l).1 (N + 3) (U + (l.length + 8)) (n + 1) (s + (l.length + 8)) (k + 1) room most := by
 have h0 : Tidy W (N + 3) (U + (l.length + 8)) (n + 1) (s + (l.length + 8)) (k + 1) room most := h.mono (by omega) (by omega) (by omega) (by omega) (by omega)
 have hr := tidy_rot h
 unfold putW
 split
 ·exact h0
 ·split
  ·exact h0
  ·split
   ·split
    ·exact hr.mono (by omega) (by omega) (by omega) (by omega) (by omega)
    ·exact (tidy_app hr l).mono (by omega) (by omega) (by omega) (by omega) (by omega)
   ·exact (tidy_app h l).mono (by omega) (by omega) (by omega) (by omega) (by omega)
end

theorem tidy_start (room most : Int) : Tidy (startW room most) 1 0 1 0 0 room.toNat most := by
 obtain ⟨h1, h2⟩ := start_inv room most
 obtain ⟨s1, s2, s3⟩ := h1.small
 have hpl : (startW room most).D.plan = 0 := h1.plan
 refine ⟨⟨by rw [hpl]; decide, h1.sorted, ⟨by rw [s1]; exact Nat.le_refl _, by rw [s2]; exact Nat.le_refl _⟩⟩, s3, Nat.le_refl _, Nat.le_refl _, Nat.le_refl _, Nat.le_refl _, h2, rfl⟩

theorem allOf_new (room : Int) : AllOf (newM room) [] := by
 refine ⟨⟨List.Pairwise.nil, fun x => ⟨fun h => by simp at h, ?_⟩⟩, fun p hp => by simp at hp⟩
 rintro ⟨l, hl, _⟩
 cases hl

theorem neat_new (room : Int) : Neat (newM room) 0 0 := ⟨Nat.zero_le _, List.Pairwise.nil, ⟨Nat.le_refl _, Nat.le_refl _⟩⟩

theorem open_new {room : Int} {r : OR} (h : IsOpen (newM room) [] r) : r = ⟨0, (startW room 0).D, 1, 0, []⟩ := by
 have hc : cleanM [cutB, newB] (newM room) = [] := by
  unfold cleanM
  rw [List.filter_eq_nil_iff.2]
  ·rfl
  ·intro n _
   simp [newM]
 rcases h with ⟨⟨k, ⟨h1, _⟩, _⟩, _⟩ | ⟨ops, N, size, recs, hr, rfl⟩
 ·exact absurd h1 (by simp)
 ·rcases hr with ⟨_, rfl, rfl, rfl, rfl⟩ | ⟨k, hp, _⟩
  ·have e : repNone (newM room) = [⟨1, nmB 1, [], []⟩] := by
    unfold repNone
    rw [hc]
    rfl
   have e2 : stepsM (repNone (newM room)) (newM room) = ((createM (nmB 1) (newM room)).1, 0) := by
    rw [e]
    have e3 : createM (nmB 1) (newM room) = ({ newM room with fs := [⟨nmB 1, [], 0⟩] }, 0) := by
     unfold createM chgM
     rw [show failM (newM room) = newM room from rfl, nmB_named]
     rfl
    show (if (createM (nmB 1) (newM room)).2 = 0 then ((createM (nmB 1) (newM room)).1, (0 : Int)) else createM (nmB 1) (newM room)) = _
    rw [if_pos (by rw [e3])]
   rw [e2]
   rfl
  ·exact absurd hp (by simp)
end Go.Proofs.YtnbddiiedagllaaGreat

