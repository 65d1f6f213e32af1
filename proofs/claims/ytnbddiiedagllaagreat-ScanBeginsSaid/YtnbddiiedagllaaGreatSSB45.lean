import Derived.Test.YtnbddiiedagllaaGreatSSB44
import Derived.Test.YtnbddiiedagllaaGreatSSB43
import Derived.Test.YtnbddiiedagllaaGreatSSB25
import Derived.Test.YtnbddiiedagllaaGreatSSB31
import Derived.Test.YtnbddiiedagllaaGreatSSB33
import Derived.Test.YtnbddiiedagllaaGreatSSB36
import Derived.Test.YtnbddiiedagllaaGreatSSB37
import Derived.Test.YtnbddiiedagllaaGreatSSB28
/- The bytes of a log's segments, number by number, are the bytes of its disk. -/
namespace Go.Proofs.YtnbddiiedagllaaGreat
open Go.RowKit Go.Maps Go.Shelf

theorem find_sorted : ∀ {l : List F} (_ : Sorted l) {f : F} (_ : f ∈ l), findN F.n f.n l = some f
 | x :: l, h, f, hf => by
  unfold findN
  rw [List.find?_cons]
  obtain ⟨h1, h2⟩ := List.pairwise_cons.1 h
  rcases List.mem_cons.1 hf with rfl | hm
  ·simp
  ·have hne := lt_ne (h1 f hm)
   have : (x.n == f.n) = false := by simpa using hne
   rw [this]
   exact find_sorted h2 hm

end Go.Proofs.YtnbddiiedagllaaGreat

/- A log whose records are durable, as segments. -/
namespace Go.Proofs.YtnbddiiedagllaaGreat
open Go.RowKit Go.Maps

def psL (L : List (List (List Nat))) : List PS := L.mapIdx fun i b => ⟨((i + 1 : Nat) : Int), b, []⟩

theorem psL_len (L : List (List (List Nat))) : (psL L).length = L.length := by unfold psL; rw [List.length_mapIdx]
theorem psL_at (L : List (List (List Nat))) (i : Nat) (h : i < (psL L).length) : (psL L)[i] = ⟨((i + 1 : Nat) : Int), L[i]'(by rw [← psL_len]; exact h), []⟩ :=
 List.getElem_mapIdx (f := fun i b => (⟨((i + 1 : Nat) : Int), b, []⟩ : PS)) (h := h)

theorem LInv.len {W : WM} {B : List (List (List Nat))} {c : List (List Nat)} (h : LInv W B c) : W.D.fs.length = (B ++ [c]).length := by
 rw [h.fs]; unfold filesL; rw [List.length_append, List.length_mapIdx, List.length_append]; rfl

theorem restOf_ne {l : List (List Nat)} (h : ∀ r ∈ l, r ≠ []) : markOf l = false ∧ restOf l = l := by
 have hm : markOf l = false := by
  cases l with
  | nil => rfl
  | cons r l => exact decide_eq_false (h r (by simp))
 exact ⟨hm, by unfold restOf; rw [hm]; rfl⟩

end Go.Proofs.YtnbddiiedagllaaGreat

/- Opening a log that has crashed while it was opened: the same records, and nothing torn then. -/
namespace Go.Proofs.YtnbddiiedagllaaGreat
open Go.RowKit Go.Maps

structure Opened (M : DM) (N size : Nat) (recs : List (List Nat)) (ps : List PS) : Prop where
 up : Up M
 all : AllOf M ps
 fin : Final N size recs M.fs ps

theorem open_up {recs : List (List Nat)} {M : DM} {ps : List PS} (hu : Up M) (hA : AllOf M ps) (hG : GL recs M.fs) (hso : Sorted M.fs) (hroom : 2 * usedF M.fs ≤ M.room) {r : OR} (h : IsOpen M ps r) : r.z = 0 ∧ r.recs = recs ∧ r.M.room = M.room ∧ ∃ ps', Opened r.M r.N r.size recs ps' := by
 have hs := (allOf_segs hu.1).1 hA
 obtain ⟨hy, qs, hq, hl⟩ := hG
 have hqA := (allOf_segs hu.1).2 hq
 obtain rfl := allOf_uniq hA hqA
 rcases h with ⟨⟨k, hk, hb⟩, rfl⟩ | ⟨ops, N, size, recs', hr, rfl⟩
 ·rcases hl with ⟨rfl, _⟩ | ⟨k', hk', hg, _⟩
  ·obtain ⟨h1, _⟩ := hk
   exact absurd h1 (by simp)
  ·obtain rfl := firstAt_uniq hk hk'
   exact absurd hg hb
 ·have e : recs' = recs := by
   rcases hr with ⟨rfl, _, _, _, rfl⟩ | ⟨k, hp, hk, hg, _, _, rfl, _⟩
   ·rcases hl with ⟨_, rfl⟩ | ⟨k', ⟨h1, _⟩, _⟩
    ·rfl
    ·exact absurd h1 (by simp)
   ·rcases hl with ⟨rfl, _⟩ | ⟨k', hk', _, rfl⟩
    ·exact absurd hp (by simp)
    ·obtain rfl := firstAt_uniq hk hk'
     rfl
  subst e
  obtain ⟨fs', ps', hrun, hfin⟩ := rep_run hs hy hso hroom hr
  obtain ⟨_, g2, g3, g4⟩ := hrun.steps M rfl rfl hu.1
  rcases g3 with ⟨h1, h2, h3⟩ | ⟨_, h2, _⟩
  ·have hup : Up (stepsM ops M).1 := ⟨h3, g4 hu.2⟩
   exact ⟨h1, rfl, g2, ps', hup, (allOf_segs h3).2 (by rw [h2]; exact hfin.segs), by rw [h2]; exact hfin⟩
  ·exact absurd hu.2 h2

end Go.Proofs.YtnbddiiedagllaaGreat

/- What a crash leaves of a log, as segments; what opening it and putting a record into it make. -/
namespace Go.Proofs.YtnbddiiedagllaaGreat
open Go.RowKit Go.Maps

theorem segs_row {fs : List F} {ps : List PS} (hl : fs.length = ps.length) (hmax : fs.length ≤ 99999999) (hs : Sorted fs) (h : ∀ i (h1 : i < fs.length) (h2 : i < ps.length), fs[i].n = nmB (i + 1) ∧ ps[i].n = ((i + 1 : Nat) : Int) ∧ Splits fs[i].b ps[i].ls ps[i].t) : SegsC fs ps := by
 refine ⟨?_, fun p hp => ?_, fun N h1 h2 h3 => ?_⟩
 ·show List.Pairwise (· < ·) _
  rw [List.pairwise_iff_getElem]
  intro i j hi hj hij
  rw [List.length_map] at hi hj
  rw [List.getElem_map, List.getElem_map, (h i (by omega) hi).2.1, (h j (by omega) hj).2.1]
  omega
 ·obtain ⟨i, hi, rfl⟩ := List.getElem_of_mem hp
  have hi2 : i < fs.length := by omega
  obtain ⟨g1, g2, g3⟩ := h i hi2 hi
  refine ⟨i + 1, fs[i].b, g2, by omega, by omega, ?_, g3⟩
  unfold segC
  rw [← g1, find_sorted hs (List.getElem_mem hi2)]
  rfl
 ·obtain ⟨b, hb⟩ := Option.ne_none_iff_exists'.1 h3
  obtain ⟨f, hf, _⟩ := segC_some hb
  obtain ⟨m1, m2⟩ := findN_some hf
  obtain ⟨i, hi, rfl⟩ := List.getElem_of_mem m1
  obtain ⟨g1, g2, _⟩ := h i hi (by omega)
  rw [g1] at m2
  have e := nmB_inj (by omega) h2 m2
  subst e
  exact List.mem_map.2 ⟨ps[i]'(by omega), List.getElem_mem _, g2⟩

theorem logK_row {ps : List PS} (hl : 0 < ps.length) (hn : ∀ i (h : i < ps.length), ps[i].n = ((i + 1 : Nat) : Int)) (hr : ∀ p ∈ ps, ∀ r ∈ p.ls, r ≠ []) (ht : ∀ i (h : i < ps.length), i + 1 < ps.length → ps[i].t = []) : LogK ps 0 ((ps.map PS.ls).flatten) := by
 refine ⟨⟨hl, fun i hi _ => (restOf_ne (hr _ (List.getElem_mem hi))).1, .inl rfl⟩, ?_, ?_⟩
 ·rw [List.drop_zero]
  intro i hi
  refine ⟨fun h0 => by rw [hn, hn]; omega, fun h => ht i hi h, ?_⟩
  show [] ∉ restOf _
  rw [(restOf_ne (hr _ (List.getElem_mem hi))).2]
  exact fun hm => hr _ (List.getElem_mem hi) _ hm rfl
 ·rw [List.drop_zero]
  unfold recsL
  congr 1
  refine List.map_congr_left fun p hp => ?_
  exact (restOf_ne (hr p hp)).2.symm

theorem sorted_crash {M : DM} (h : Sorted M.fs) (ks : List Int) : Sorted (crashM ks M).fs := by
 obtain ⟨_, h2, _⟩ := crashM_small ks M
 unfold Sorted at h ⊢
 have key : ∀ l : List F, l.Pairwise (fun a b => a.n < b.n) ↔ (l.map F.n).Pairwise (· < ·) := fun l => by rw [List.pairwise_map]
 rw [key, h2, ← key]
 exact h

theorem neat_crashB {M : DM} {N U : Nat} (h : Neat M N U) (ks : List Int) : Neat (crashM ks M) N U := by
 obtain ⟨h1, _, h3, _, _⟩ := crashM_small ks M
 exact ⟨Nat.zero_le _, sorted_crash h.sorted ks, ⟨by rw [h1]; exact h.small.files, Nat.le_trans h3 h.small.used⟩⟩

theorem LInv.crash_gl {W : WM} {B : List (List (List Nat))} {c : List (List Nat)} (h : LInv W B c) (ks : List Int) :
  ∃ i ps, c.length - W.wait ≤ i ∧ i ≤ c.length ∧ AllOf (crashM ks W.D) ps ∧ GL (B.flatten ++ c.take i) (crashM ks W.D).fs ∧ ∃ hp : 0 < ps.length, (lastP ps hp).n = (W.n : Int) := by
 have hw := h.wait
 obtain ⟨kk, hkk⟩ : ∃ kk : Nat, kk = sizeL (c.take (c.length - W.wait)) + min (max (ks.getD B.length 0) 0).toNat ((joinL c).length - sizeL (c.take (c.length - W.wait))) := ⟨_, rfl⟩
 have hfs : (crashM ks W.D).fs = B.mapIdx fullF ++ [⟨nmB (B.length + 1), (joinL c).take kk, kk⟩] := by
  unfold crashM
  simp only
  rw [h.fs]
  unfold filesL
  rw [List.mapIdx_append]
  congr 1
  ·rw [List.mapIdx_mapIdx]
   congr 1
   funext i b
   exact cutF_full i b _
  ·show [cutF (lastF B.length c W.wait) (ks.getD (0 + (B.mapIdx fullF).length) 0)] = _
   rw [List.length_mapIdx, Nat.zero_add, hkk]
   rfl
 have hkl : kk ≤ (joinL c).length := by
  have := sizeL_mono c (show c.length - W.wait ≤ c.length by omega)
  rw [List.take_length] at this
  have := joinL_len c
  omega
 obtain ⟨i, h1, h2, h3, h4⟩ := cut_at c kk (c.length - W.wait) (by omega) (by omega)
 obtain ⟨t, ht⟩ := splits_cut c h.short.2 i kk h2 h3 h4
 have hnmax := h.nmax
 have hn := h.n
 have hlen : (crashM ks W.D).fs.length = B.length + 1 := by rw [hfs]; simp
 have hlp : (psL B ++ [(⟨((B.length + 1 : Nat) : Int), c.take i, t⟩ : PS)]).length = B.length + 1 := by rw [List.length_append, psL_len]; rfl
 have hat : ∀ j (hj : j < B.length + 1), (psL B ++ [(⟨((B.length + 1 : Nat) : Int), c.take i, t⟩ : PS)])[j]'(by omega) = if hb : j < B.length then ⟨((j + 1 : Nat) : Int), B[j], []⟩ else ⟨((B.length + 1 : Nat) : Int), c.take i, t⟩ := fun j hj => by
  by_cases hb : j < B.length
  ·rw [dif_pos hb, List.getElem_append_left (by rw [psL_len]; exact hb), psL_at]
  ·rw [dif_neg hb, List.getElem_append_right (by rw [psL_len]; omega)]
   simp
 have hfat : ∀ j (hj : j < B.length + 1), (crashM ks W.D).fs[j]'(by omega) = if hb : j < B.length then fullF j B[j] else ⟨nmB (B.length + 1), (joinL c).take kk, kk⟩ := fun j hj => by
  have e : (crashM ks W.D).fs[j]'(by omega) = (B.mapIdx fullF ++ [(⟨nmB (B.length + 1), (joinL c).take kk, kk⟩ : F)])[j]'(by simp; omega) := by congr 1
  rw [e]
  by_cases hb : j < B.length
  ·rw [dif_pos hb, List.getElem_append_left (by rw [List.length_mapIdx]; exact hb), List.getElem_mapIdx]
  ·rw [dif_neg hb, List.getElem_append_right (by rw [List.length_mapIdx]; omega)]
   simp
 have hso := sorted_crash h.sorted ks
 have hseg : SegsC (crashM ks W.D).fs (psL B ++ [⟨((B.length + 1 : Nat) : Int), c.take i, t⟩]) := segs_row (by omega) (by omega) hso (fun j g1 g2 => by
  rw [hfat j (by omega), hat j (by omega)]
  by_cases hb : j < B.length
  ·rw [dif_pos hb, dif_pos hb]
   exact ⟨rfl, rfl, splits_all _ (fun r hr => h.short.1 _ (List.getElem_mem hb) r hr)⟩
  ·rw [dif_neg hb, dif_neg hb]
   obtain rfl : j = B.length := by omega
   exact ⟨rfl, rfl, ht⟩)
 have hrec : ∀ r ∈ B.flatten ++ c, r ≠ [] := fun r hr => (h.recs r hr).1
 have hlog := logK_row (ps := psL B ++ [⟨((B.length + 1 : Nat) : Int), c.take i, t⟩]) (by omega) (fun j hj => by
   rw [hat j (by omega)]
   by_cases hb : j < B.length
   ·rw [dif_pos hb]
   ·rw [dif_neg hb]
    show ((B.length + 1 : Nat) : Int) = _
    omega) (fun p hp r hr => by
   obtain ⟨j, hj, rfl⟩ := List.getElem_of_mem hp
   rw [hat j (by omega)] at hr
   by_cases hb : j < B.length
   ·rw [dif_pos hb] at hr
    exact hrec r (List.mem_append.2 (.inl (List.mem_flatten.2 ⟨_, List.getElem_mem hb, hr⟩)))
   ·rw [dif_neg hb] at hr
    exact hrec r (List.mem_append.2 (.inr (List.mem_of_mem_take hr)))) (fun j hj hlt => by
   rw [hat j (by omega), dif_pos (by omega)])
 have hfl : ((psL B ++ [(⟨((B.length + 1 : Nat) : Int), c.take i, t⟩ : PS)]).map PS.ls).flatten = B.flatten ++ c.take i := by
  have e : (psL B).map PS.ls = B := by
   refine List.ext_getElem (by rw [List.length_map, psL_len]) fun j h1 h2 => ?_
   rw [List.getElem_map, psL_at]
  rw [List.map_append, e, List.flatten_append]
  simp
 rw [hfl] at hlog
 refine ⟨i, _, h1, h2, (allOf_segs rfl).2 hseg, ⟨fun N f _ _ hf => ?_, _, hseg, .inr ⟨0, hlog⟩⟩, by omega, ?_⟩
 ·obtain ⟨m1, _⟩ := findN_some hf
  obtain ⟨j, hj, rfl⟩ := List.getElem_of_mem m1
  rw [hfat j (by omega)]
  by_cases hb : j < B.length
  ·rw [dif_pos hb]; rfl
  ·rw [dif_neg hb]
   show kk = ((joinL c).take kk).length
   rw [List.length_take]
   omega
 ·unfold lastP
  rw [hat _ (by omega), dif_neg (by omega), hn]

theorem open_crashed {W : WM} {B : List (List (List Nat))} {c : List (List Nat)} (h : LInv W B c) (ks : List Int) (hroom : 2 * usedF W.D.fs ≤ W.D.room) :
  ∃ i ps, c.length - W.wait ≤ i ∧ i ≤ c.length ∧ AllOf (crashM ks W.D) ps ∧ ∀ r, IsOpen (crashM ks W.D) ps r → r.z = 0 ∧ r.recs = B.flatten ++ c.take i ∧ r.N = W.n ∧ r.M.room = W.D.room ∧ ∃ ps', Opened r.M r.N r.size r.recs ps' := by
 obtain ⟨i, ps, h1, h2, hA, hG, hp, hl⟩ := h.crash_gl ks
 obtain ⟨c1, c2, c3, c4, c5⟩ := crashM_small ks W.D
 refine ⟨i, ps, h1, h2, hA, fun r hr => ?_⟩
 obtain ⟨g1, g2, g3, g4⟩ := open_up (M := crashM ks W.D) ⟨rfl, rfl⟩ hA hG (sorted_crash h.sorted ks) (by rw [c5]; omega) hr
 refine ⟨g1, g2, ?_, by rw [g3, c5], by rw [g2]; exact g4⟩
 rcases hr with ⟨_, rfl⟩ | ⟨ops, N, size, recs, hrep, rfl⟩
 ·exact absurd (show (11 : Int) = 0 from g1) (by decide)
 ·rcases hrep with ⟨rfl, _⟩ | ⟨k, hp', _, _, hN, _⟩
  ·exact absurd hp (by simp)
  ·show N = W.n
   have e := hN.symm.trans hl
   omega

def stB (W : WM) (s : Nat) (ls : List (List Nat)) : Nat → WM
 | 0 => W
 | j + 1 => if j = s then (syncW (putW (stB W s ls j) (ls.getD j [])).1).1 else (putW (stB W s ls j) (ls.getD j [])).1

def duB (most : Int) (s : Nat) (ls : List (List Nat)) (j : Nat) : Nat := if s < j then (takeP most (ls.take (s + 1))).length else 0

theorem stB_next (W : WM) (s : Nat) (ls : List (List Nat)) {j : Nat} (hk : j < ls.length) : stB W s ls (j + 1) = if j = s then (syncW (putW (stB W s ls j) ls[j]).1).1 else (putW (stB W s ls j) ls[j]).1 := by
 have hgd : ls.getD j [] = ls[j] := by rw [List.getD_eq_getElem?_getD, List.getElem?_eq_getElem hk]; rfl
 show (if j = s then (syncW (putW (stB W s ls j) (ls.getD j [])).1).1 else (putW (stB W s ls j) (ls.getD j [])).1) = _
 rw [hgd]

theorem duB_next (most : Int) (s : Nat) (ls : List (List Nat)) (j : Nat) : duB most s ls (j + 1) = if j = s then (takeP most (ls.take (j + 1))).length else duB most s ls j := by
 unfold duB
 by_cases e : j = s
 ·subst e
  rw [if_pos (by omega), if_pos rfl]
 ·rw [if_neg e]
  by_cases e2 : s < j
  ·rw [if_pos (by omega), if_pos e2]
  ·rw [if_neg (by omega), if_neg e2]

structure BegOk (most : Int) (s : Nat) (ls : List (List Nat)) (j : Nat) : Prop where
 inv : ∃ B c, LInv (stB (startW 100000 most) s ls j) B c ∧ B.flatten ++ c = takeP most (ls.take j)
 dur : (stB (startW 100000 most) s ls j).wait + duB most s ls j ≤ (takeP most (ls.take j)).length
 tidy : Tidy (stB (startW 100000 most) s ls j) (1 + 4 * j) (sizeL (ls.take j)) (1 + j) (sizeL (ls.take j)) j 100000 most

theorem beg_ok (most : Int) (s : Nat) (ls : List (List Nat)) (h1 : sizeL ls ≤ 2000) (h2 : ls.length ≤ 60) : ∀ j, j ≤ ls.length → BegOk most s ls j ∧ ∀ (hk : j < ls.length),
  ((putW (stB (startW 100000 most) s ls j) ls[j]).2 ≠ 0 ∧ takeP most (ls.take (j + 1)) = takeP most (ls.take j)) ∨ ((putW (stB (startW 100000 most) s ls j) ls[j]).2 = 0 ∧ takeP most (ls.take (j + 1)) = takeP most (ls.take j) ++ [ls[j]]) := by
 have step : ∀ j, BegOk most s ls j → ∀ (hk : j < ls.length),
   ((putW (stB (startW 100000 most) s ls j) ls[j]).2 ≠ 0 ∧ takeP most (ls.take (j + 1)) = takeP most (ls.take j) ∧ (putW (stB (startW 100000 most) s ls j) ls[j]).1 = stB (startW 100000 most) s ls j) ∨
   ((putW (stB (startW 100000 most) s ls j) ls[j]).2 = 0 ∧ takeP most (ls.take (j + 1)) = takeP most (ls.take j) ++ [ls[j]] ∧ ∃ B c, LInv (putW (stB (startW 100000 most) s ls j) ls[j]).1 B c ∧ B.flatten ++ c = takeP most (ls.take (j + 1)) ∧ (putW (stB (startW 100000 most) s ls j) ls[j]).1.wait ≤ (stB (startW 100000 most) s ls j).wait + 1) := by
  intro j hB hk
  obtain ⟨B, c, hinv, hBc⟩ := hB.inv
  have hnx := takeP_next (most := most) hk
  have ht := sizeL_takes ls (j + 1)
  rw [List.take_succ_eq_append_getElem hk, sizeL_snoc] at ht
  have hsz : sizeL (B.flatten ++ c) + (ls[j].length + 8) ≤ (stB (startW 100000 most) s ls j).D.room := by
   rw [hBc, hB.tidy.rm]
   have h3 := sizeL_filter (okR most) (ls.take j)
   unfold takeP
   omega
  have hm := hB.tidy.most
  rcases hinv.put ls[j] hsz (by have := hB.tidy.n2; omega) with ⟨p1, p2, p3⟩ | ⟨p1, p2, B', c', q1, q2, q3, q4, q5, q6⟩
  ·rw [hm] at p1
   rw [p1] at hnx
   exact .inl ⟨p2, by rw [hnx]; simp, p3⟩
  ·rw [hm] at p1
   rw [p1] at hnx
   refine .inr ⟨p2, by rw [hnx]; simp, B', c', q1, by rw [q2, hBc, hnx]; simp, ?_⟩
   rcases q6 with ⟨_, _, q⟩ | ⟨_, _, q⟩ <;> omega
 have all : ∀ j, j ≤ ls.length → BegOk most s ls j := by
  intro j
  induction j with
  | zero =>
   intro _
   obtain ⟨h3, _⟩ := start_inv 100000 most
   refine ⟨⟨[], [], h3, rfl⟩, ?_, (tidy_start 100000 most).mono (Nat.le_refl _) (Nat.zero_le _) (Nat.le_refl _) (Nat.zero_le _) (Nat.le_refl _)⟩
   show 0 + duB most s ls 0 ≤ _
   unfold duB
   rw [if_neg (by omega)]
   omega
  | succ j ih =>
   intro hj
   have hk : j < ls.length := by omega
   have hB := ih (by omega)
   have htk : sizeL (ls.take (j + 1)) = sizeL (ls.take j) + (ls[j].length + 8) := by rw [List.take_succ_eq_append_getElem hk, sizeL_snoc]
   have htd := (tidy_put hB.tidy ls[j]).mono (N' := 1 + 4 * j + 3) (U' := sizeL (ls.take (j + 1))) (n' := 1 + (j + 1)) (s' := sizeL (ls.take (j + 1))) (k' := j + 1) (Nat.le_refl _) (by omega) (by omega) (by omega) (Nat.le_refl _)
   have hdu := duB_next most s ls j
   have key : (∃ B c, LInv (putW (stB (startW 100000 most) s ls j) ls[j]).1 B c ∧ B.flatten ++ c = takeP most (ls.take (j + 1))) ∧ (putW (stB (startW 100000 most) s ls j) ls[j]).1.wait + duB most s ls j ≤ (takeP most (ls.take (j + 1))).length := by
    have hd := hB.dur
    rcases step j hB hk with ⟨_, e2, e3⟩ | ⟨_, e2, B, c, e3, e4, e5⟩
    ·rw [e3, e2]
     exact ⟨hB.inv, hd⟩
    ·refine ⟨⟨B, c, e3, e4⟩, ?_⟩
     rw [e2, List.length_append, List.length_singleton]
     omega
   obtain ⟨⟨B, c, k1, k2⟩, k3⟩ := key
   have est := stB_next (startW 100000 most) s ls hk
   by_cases e : j = s
   ·obtain ⟨s1, s2, s3, s4, s5⟩ := k1.sync
    rw [if_pos e] at est hdu
    refine ⟨⟨B, c, by rw [est]; exact s2, k2⟩, by rw [est, s3, hdu]; omega, ?_⟩
    rw [est]
    exact (tidy_sync htd).mono (by omega) (Nat.le_refl _) (Nat.le_refl _) (Nat.le_refl _) (Nat.le_refl _)
   ·rw [if_neg e] at est hdu
    refine ⟨⟨B, c, by rw [est]; exact k1, k2⟩, by rw [est, hdu]; exact k3, ?_⟩
    rw [est]
    exact htd.mono (by omega) (Nat.le_refl _) (Nat.le_refl _) (Nat.le_refl _) (Nat.le_refl _)
 intro j hj
 refine ⟨all j hj, fun hk => ?_⟩
 rcases step j (all j hj) hk with ⟨e1, e2, _⟩ | ⟨e1, e2, _⟩
 ·exact .inl ⟨e1, e2⟩
 ·exact .inr ⟨e1, e2⟩
end Go.Proofs.YtnbddiiedagllaaGreat

/- A log beside the reference's while a statement keeps a slice of records of its own. -/
namespace Go.Proofs.YtnbddiiedagllaaGreat
open Go.RowKit Go.Maps Go.Shelf

section
variable {w0 : World} {T V : Nat → Prop} {wT : World} {g d B : Nat} {W Wb : WM} {wr : World}

theorem BothV.anew (h : BothV w0 T T wT g d B W Wb wr) : BothV w0 T T wr g d B W Wb wr := by
 obtain ⟨Y, h1, h2, h3, X, h4, h5⟩ := h.log
 exact ⟨⟨Y, h1, h2, h3, X, h4, h5⟩, h.ne, fun b ht => h1.own.blocks b (h3 b ht), fun _ _ => rfl, Nat.le_refl _, fun _ h => h⟩

theorem BothV.wantMore {v v' : Value} {w4 : World} (h : BothV w0 (fun b => v.ownBlock = some b) (fun b => v.ownBlock = some b) wT g d B W Wb wr) (hg : wr.grownBy w4 v.ownBlock) (hlo : ∀ k, v.ownBlock = some k → w0.heap.size ≤ k) (hblk : v'.ownBlock = v.ownBlock ∨ v'.ownBlock = some wr.heap.size) (hlt : ∀ k, v'.ownBlock = some k → k < w4.heap.size) :
  BothV w0 (fun b => v'.ownBlock = some b) (fun b => v'.ownBlock = some b) w4 g d B W Wb w4 := by
 obtain ⟨Y, h1, h2, h3, X, h4, h5⟩ := h.log
 obtain ⟨n1, n2, n3, n4⟩ := h.ne
 have hgl := h1.lt
 have hBl := h1.own.blocks B h2
 have hL := h1.turned (Chg.grown (S := fun b => some b = v.ownBlock) hg (fun k hk => .inl hk.symm)) (fun b hb => ⟨h3 b hb.symm, fun e => n4 (by show v.ownBlock = some g; rw [← e]; exact hb.symm), hlo b hb.symm⟩)
 have hC := Chg.grown (S := fun b => some b = v.ownBlock) hg (fun k hk => .inl hk.symm)
 refine ⟨⟨_, hL, .inl h2, fun b hb => ?_, X, h4.shift (fun b hx => ?_) hC.size, fun b hx => ⟨.inl (h5 b hx).1, (h5 b hx).2.1, fun hb => ?_⟩⟩, ⟨n1, n2, fun hb => ?_, fun hb => ?_⟩, fun b hb => hlt b hb, fun _ _ => rfl, Nat.le_refl _, fun _ h => h⟩
 ·rcases hblk with e | e
  ·exact .inl (h3 b (by show v.ownBlock = some b; rw [← e]; exact hb))
  ·have e2 : wr.heap.size = b := Option.some.inj (e.symm.trans hb)
   exact .inr ⟨by omega, hlt b hb⟩
 ·rcases hx with hx | rfl
  ·exact hC.block b (h1.own.blocks b (h5 b hx).1) (fun e => (h5 b hx).2.2 e.symm)
  ·exact hC.block _ hBl (fun e => n3 e.symm)
 ·have hb : v'.ownBlock = some b := hb
  rcases hblk with e | e
  ·exact (h5 b hx).2.2 (by show v.ownBlock = some b; rw [← e]; exact hb)
  ·have e2 : wr.heap.size = b := Option.some.inj (e.symm.trans hb)
   have := h1.own.blocks b (h5 b hx).1
   omega
 ·have hb : v'.ownBlock = some B := hb
  rcases hblk with e | e
  ·exact n3 (by show v.ownBlock = some B; rw [← e]; exact hb)
  ·have e2 : wr.heap.size = B := Option.some.inj (e.symm.trans hb)
   omega
 ·have hb : v'.ownBlock = some g := hb
  rcases hblk with e | e
  ·exact n4 (by show v.ownBlock = some g; rw [← e]; exact hb)
  ·have e2 : wr.heap.size = g := Option.some.inj (e.symm.trans hb)
   omega

theorem BothV.wantStays {v : Value} {ms : List (List Nat)} (h : BothV w0 (fun b => v.ownBlock = some b) (fun b => v.ownBlock = some b) wT g d B W Wb wr) (hP : PartsZ (fun b => b < w0.heap.size) wT w0.heap.size v ms) (hb0 : Below w0.heap.size w0 wT) : PartsZ (fun b => b < w0.heap.size) wr w0.heap.size v ms :=
 hP.moved (fun b hb _ => (h.base.block b hb).trans (hb0.block b hb).symm) (fun k hk => h.keep k hk)
end
end Go.Proofs.YtnbddiiedagllaaGreat

