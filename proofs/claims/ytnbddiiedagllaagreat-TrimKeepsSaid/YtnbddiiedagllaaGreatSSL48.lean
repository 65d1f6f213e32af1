import Derived.Test.YtnbddiiedagllaaGreatSSL47
import Derived.Test.YtnbddiiedagllaaGreatSSL15
import Derived.Test.YtnbddiiedagllaaGreatSSL44
import Derived.Test.YtnbddiiedagllaaGreatSSL28
import Derived.Test.YtnbddiiedagllaaGreatSSL37
import Derived.Test.YtnbddiiedagllaaGreatSSL7
/- What Put makes of a log whose segments are durable, whichever number its first one has. -/
namespace Go.Proofs.YtnbddiiedagllaaGreat
open Go.RowKit Go.Maps

theorem sizeL_memC : ∀ {ls : List (List Nat)} {r : List Nat}, r ∈ ls → r.length ≤ sizeL ls
 | l :: ls, r, h => by
  rw [sizeL_cons]
  rcases List.mem_cons.1 h with rfl | h
  ·omega
  ·have := sizeL_memC h
   omega

theorem SegsC.more {fs fs' : List F} {ps : List PS} (h : SegsC fs ps) {N : Nat} {ls : List (List Nat)} {b : List Nat} (h1 : 1 ≤ N) (h2 : N ≤ 99999999) (hlt : ∀ p ∈ ps, p.n < (N : Int)) (hsp : Splits b ls [])
  (he : ∀ K : Nat, 1 ≤ K → K ≤ 99999999 → segC fs' K = if K = N then some b else segC fs K) : SegsC fs' (ps ++ [⟨N, ls, []⟩]) := by
 obtain ⟨g1, g2, g3⟩ := h
 refine ⟨?_, fun p hp => ?_, fun K k1 k2 k3 => ?_⟩
 ·rw [List.map_append]
  refine List.pairwise_append.2 ⟨g1, List.pairwise_singleton _ _, fun x hx y hy => ?_⟩
  obtain ⟨p, hp, rfl⟩ := List.mem_map.1 hx
  rw [List.map_cons, List.map_nil, List.mem_singleton] at hy
  subst hy
  exact hlt p hp
 ·rcases List.mem_append.1 hp with hp | hp
  ·obtain ⟨K, b', e, k1, k2, k3, k4⟩ := g2 p hp
   have := hlt p hp
   exact ⟨K, b', e, k1, k2, by rw [he K k1 k2, if_neg (by omega)]; exact k3, k4⟩
  ·rw [List.mem_singleton] at hp
   subst hp
   exact ⟨N, b, rfl, h1, h2, by rw [he N h1 h2, if_pos rfl], hsp⟩
 ·rw [List.map_append, List.mem_append]
  by_cases hk : K = N
  ·subst hk
   exact .inr (by simp)
  ·exact .inl (g3 K k1 k2 (by rwa [he K k1 k2, if_neg hk] at k3))

theorem SegsC.last {fs fs' : List F} {p : PS} {qs : List PS} (h : SegsC fs (qs ++ [p])) {ls : List (List Nat)} (hls : ∀ r ∈ ls, r.length ≤ 1048576) (he : ∀ N : Nat, 1 ≤ N → N ≤ 99999999 → segC fs' N = if (N : Int) = p.n then some (joinL ls) else segC fs N) : SegsC fs' (qs ++ [⟨p.n, ls, []⟩]) := by
 obtain ⟨h1, h2, h3⟩ := h
 have hm : (qs ++ [(⟨p.n, ls, []⟩ : PS)]).map PS.n = (qs ++ [p]).map PS.n := by simp
 refine ⟨by rw [hm]; exact h1, fun q hq => ?_, fun N g1 g2 g3 => ?_⟩
 ·rcases List.mem_append.1 hq with hq | hq
  ·obtain ⟨N, b, e, g1, g2, g3, g4⟩ := h2 q (List.mem_append.2 (.inl hq))
   refine ⟨N, b, e, g1, g2, ?_, g4⟩
   rw [he N g1 g2, if_neg ?_]
   ·exact g3
   ·intro h
    unfold Asc at h1
    rw [List.map_append, List.pairwise_append] at h1
    have := h1.2.2 q.n (List.mem_map.2 ⟨q, hq, rfl⟩) p.n (by simp)
    omega
  ·obtain rfl := List.mem_singleton.1 hq
   obtain ⟨N, b, e, g1, g2, g3, g4⟩ := h2 p (by simp)
   refine ⟨N, joinL ls, e, g1, g2, ?_, splits_all _ hls⟩
   rw [he N g1 g2, if_pos e.symm]
 ·rw [hm]
  rw [he N g1 g2] at g3
  by_cases hN : (N : Int) = p.n
  ·rw [hN]; simp
  ·rw [if_neg hN] at g3
   exact h3 N g1 g2 g3

theorem restOf_snoc (ls : List (List Nat)) {l : List Nat} (hl : l ≠ []) : markOf (ls ++ [l]) = markOf ls ∧ restOf (ls ++ [l]) = restOf ls ++ [l] := by
 cases ls with
 | nil =>
  have hm : markOf [l] = false := decide_eq_false hl
  exact ⟨hm, by show restOf [l] = _; unfold restOf; rw [hm]; rfl⟩
 | cons r ls =>
  refine ⟨rfl, ?_⟩
  have e : markOf (r :: ls ++ [l]) = markOf (r :: ls) := rfl
  unfold restOf
  rw [e]
  split <;> rfl

theorem LogK.more {qs : List PS} {p : PS} {recs : List (List Nat)} (h : LogK (qs ++ [p]) 0 recs) (ht : p.t = []) {l : List Nat} (hl : l ≠ []) {N : Nat} (hN : (N : Int) = p.n + 1) : LogK (qs ++ [p] ++ [⟨N, [l], []⟩]) 0 (recs ++ [l]) := by
 have hr := restOf_snoc [] hl
 obtain ⟨⟨h1, h2, h3⟩, h4, h5⟩ := h
 rw [List.drop_zero] at h4 h5
 have hlen : (qs ++ [p] ++ [(⟨N, [l], []⟩ : PS)]).length = (qs ++ [p]).length + 1 := by simp
 have hat : ∀ i (hi : i < (qs ++ [p]).length), (qs ++ [p] ++ [(⟨N, [l], []⟩ : PS)])[i]'(by omega) = (qs ++ [p])[i] := fun i hi => List.getElem_append_left hi
 have hlast : (qs ++ [p] ++ [(⟨N, [l], []⟩ : PS)])[(qs ++ [p]).length]'(by omega) = ⟨N, [l], []⟩ := by simp
 have hp : (qs ++ [p])[(qs ++ [p]).length - 1]'(by simp) = p := by simp
 refine ⟨⟨by omega, fun i hi hlt => ?_, .inl rfl⟩, ?_, ?_⟩
 ·by_cases hc : i < (qs ++ [p]).length
  ·rw [hat i hc]; exact h2 i hc hlt
  ·obtain rfl : i = (qs ++ [p]).length := by omega
   rw [hlast]
   exact hr.1
 ·rw [List.drop_zero]
  intro i hi
  by_cases hc : i < (qs ++ [p]).length
  ·obtain ⟨k1, k2, k3⟩ := h4 i hc
   refine ⟨fun h0 => ?_, fun _ => ?_, ?_⟩
   ·rw [hat i hc, hat (i - 1) (by omega)]; exact k1 h0
   ·rw [hat i hc]
    by_cases hc2 : i + 1 < (qs ++ [p]).length
    ·exact k2 hc2
    ·obtain rfl : i = (qs ++ [p]).length - 1 := by omega
     rw [hp]; exact ht
   ·rw [hat i hc]; exact k3
  ·obtain rfl : i = (qs ++ [p]).length := by omega
   refine ⟨fun h0 => ?_, fun hx => by omega, ?_⟩
   ·rw [hlast, hat _ (by omega), hp]; exact hN
   ·rw [hlast]
    show [] ∉ restOf [l]
    have e : restOf [l] = [l] := hr.2
    rw [e]
    simpa using hl
 ·rw [List.drop_zero, recsL_snoc, ← h5]
  show recs ++ [l] = recs ++ restOf [l]
  have e : restOf [l] = [l] := hr.2
  rw [e]

theorem LogK.last {qs : List PS} {p : PS} {recs : List (List Nat)} (h : LogK (qs ++ [p]) 0 recs) {l : List Nat} (hl : l ≠ []) : LogK (qs ++ [⟨p.n, p.ls ++ [l], []⟩]) 0 (recs ++ [l]) := by
 obtain ⟨hm, hr⟩ := restOf_snoc p.ls hl
 obtain ⟨⟨h1, h2, h3⟩, h4, h5⟩ := h
 rw [List.drop_zero] at h4 h5
 have hlen : (qs ++ [(⟨p.n, p.ls ++ [l], []⟩ : PS)]).length = (qs ++ [p]).length := by simp
 have hq : (qs ++ [p]).length = qs.length + 1 := by simp
 have hat : ∀ i (hi : i < qs.length), (qs ++ [(⟨p.n, p.ls ++ [l], []⟩ : PS)])[i]'(by omega) = (qs ++ [p])[i]'(by omega) := fun i hi => by
  rw [List.getElem_append_left hi, List.getElem_append_left hi]
 have hl1 : (qs ++ [(⟨p.n, p.ls ++ [l], []⟩ : PS)])[qs.length]'(by omega) = ⟨p.n, p.ls ++ [l], []⟩ := by simp
 have hl2 : (qs ++ [p])[qs.length]'(by omega) = p := by simp
 refine ⟨⟨by omega, fun i hi hlt => ?_, .inl rfl⟩, ?_, ?_⟩
 ·by_cases hc : i < qs.length
  ·rw [hat i hc]; exact h2 i (by omega) hlt
  ·obtain rfl : i = qs.length := by omega
   rw [hl1]
   show markOf (p.ls ++ [l]) = false
   rw [hm]
   have := h2 qs.length (by omega) hlt
   rw [hl2] at this
   exact this
 ·rw [List.drop_zero]
  intro i hi
  by_cases hc : i < qs.length
  ·obtain ⟨k1, k2, k3⟩ := h4 i (by omega)
   refine ⟨fun h0 => ?_, fun h0 => ?_, ?_⟩
   ·rw [hat i hc, hat (i - 1) (by omega)]; exact k1 h0
   ·rw [hat i hc]; exact k2 (by omega)
   ·rw [hat i hc]; exact k3
  ·obtain rfl : i = qs.length := by omega
   obtain ⟨k1, k2, k3⟩ := h4 qs.length (by omega)
   refine ⟨fun h0 => ?_, fun hx => by omega, ?_⟩
   ·have := k1 h0
    rw [hl2] at this
    rw [hl1, hat (qs.length - 1) (by omega)]; exact this
   ·rw [hl1]
    show [] ∉ restOf (p.ls ++ [l])
    rw [hr]
    rw [hl2] at k3
    intro hx
    rcases List.mem_append.1 hx with hx | hx
    ·exact k3 hx
    ·exact hl (List.mem_singleton.1 hx).symm
 ·rw [List.drop_zero, recsL_snoc]
  rw [recsL_snoc] at h5
  show recs ++ [l] = recsL qs ++ restOf (p.ls ++ [l])
  rw [hr, h5, List.append_assoc]
  rfl

set_option maxHeartbeats 1600000 in
theorem put_final {W : WM} {recs : List (List Nat)} {ps : List PS} (hF : Final W.n W.size recs W.D.fs ps) (hd : W.D.down = false) (hpl : W.D.plan = 0) (hs : Sorted W.D.fs) (hn : W.n < 99999999) (l : List Nat) (hroom : usedF W.D.fs + (l.length + 8) ≤ W.D.room) :
  ((putW W l).2 ≠ 0 ∧ (putW W l).1 = W) ∨ ((putW W l).2 = 0 ∧ (putW W l).1.D.down = false ∧ ∃ ps', SegsC (putW W l).1.D.fs ps' ∧ LogK ps' 0 (recs ++ [l])) := by
 obtain ⟨⟨room, fs, down, plan⟩, most, n, size, wait⟩ := W
 simp only at *
 subst hd hpl
 obtain ⟨hp, h1, h2, h3⟩ := hF.last
 obtain ⟨qs, p, rfl⟩ : ∃ qs p, ps = qs ++ [p] := ⟨ps.dropLast, ps.getLast (by intro e; rw [e] at hp; exact absurd hp (by simp)), (List.dropLast_concat_getLast _).symm⟩
 have hlp : lastP (qs ++ [p]) hp = p := by unfold lastP; simp
 rw [hlp] at h1 h2 h3
 obtain ⟨f, hf, g1, g2, g3⟩ := segsC_find hF.segs (p := p) (by simp) h1
 rw [h2] at g3
 have hfb : f.b = joinL p.ls := by have := g3.eq; rwa [List.append_nil] at this
 have hfd := hF.sync n f g1 g2 hf
 have hlt : ∀ q ∈ qs ++ [p], q.n < ((n + 1 : Nat) : Int) := fun q hq => by
  have hA := hF.segs.1
  unfold Asc at hA
  rcases List.mem_append.1 hq with hq | hq
  ·rw [List.map_append, List.pairwise_append] at hA
   have := hA.2.2 q.n (List.mem_map.2 ⟨q, hq, rfl⟩) p.n (by simp)
   omega
  ·rw [List.mem_singleton] at hq
   subst hq
   omega
 unfold putW
 by_cases hl : l = []
 ·rw [if_pos hl]; exact .inl ⟨by show (2 : Int) ≠ 0; decide, rfl⟩
 rw [if_neg hl]
 dsimp only
 by_cases hbig : 1048576 < l.length ∨ most < ((l.length + 8 : Nat) : Int)
 ·rw [if_pos hbig]; exact .inl ⟨by show (4 : Int) ≠ 0; decide, rfl⟩
 rw [if_neg hbig]
 have hl2 : l.length ≤ 1048576 := by omega
 right
 by_cases hrot : 0 < size ∧ most < ((size + (l.length + 8) : Nat) : Int)
 ·rw [if_pos hrot]
  have e1 : syncM (nmB n) ⟨room, fs, false, 0⟩ = (⟨room, setN F.n ⟨nmB n, f.b, f.b.length⟩ fs, false, 0⟩, 0) := op_sync (room := room) (nmB_named n) hf
  have s1 : ∀ k, findN F.n k (setN F.n ⟨nmB n, f.b, f.b.length⟩ fs) = findN F.n k fs := fun k => by
   rw [fd_set]
   split
   ·next e =>
    have e' : k = nmB n := e
    rw [e', hf, Option.map_some, ← hfd]
    have hfn := (findN_some hf).2
    show some (⟨nmB n, f.b, f.d⟩ : F) = some f
    rw [← hfn]
   ·rfl
  have u1 : usedF (setN F.n ⟨nmB n, f.b, f.b.length⟩ fs) ≤ usedF fs := by
   rw [setN_putN _ _ hs (by show findN F.n (nmB n) fs ≠ none; rw [hf]; simp)]
   unfold putN
   rw [usedF_insN]
   obtain ⟨m1, m2⟩ := findN_some hf
   have := usedF_delN_mem m1 m2
   simp only at this ⊢
   omega
  generalize hfs1 : setN F.n ⟨nmB n, f.b, f.b.length⟩ fs = fs1 at *
  have hno : findN F.n (nmB (n + 1)) fs1 = none := by
   rw [s1]
   cases hx : findN F.n (nmB (n + 1)) fs with
   | none => rfl
   | some y =>
    have := hF.segs.2.2 (n + 1) (by omega) (by omega) (by unfold segC; rw [hx]; simp)
    obtain ⟨q, hq, e⟩ := List.mem_map.1 this
    have := hlt q hq
    omega
  have e2 : createM (nmB (n + 1)) ⟨room, fs1, false, 0⟩ = (⟨room, putN F.n ⟨nmB (n + 1), [], 0⟩ fs1, false, 0⟩, 0) := op_create (room := room) (nmB_named (n + 1)) hno
  have s2 : ∀ k, findN F.n k (putN F.n ⟨nmB (n + 1), [], 0⟩ fs1) = if k = nmB (n + 1) then some ⟨nmB (n + 1), [], 0⟩ else findN F.n k fs := fun k => by rw [fd_put, s1]
  have u2 : usedF (putN F.n ⟨nmB (n + 1), [], 0⟩ fs1) ≤ usedF fs := by have := used_put_le ⟨nmB (n + 1), [], 0⟩ fs1; simp only [List.length_nil] at this; omega
  generalize hfs2 : putN F.n ⟨nmB (n + 1), [], 0⟩ fs1 = fs2 at *
  have hf2 : findN F.n (nmB (n + 1)) fs2 = some ⟨nmB (n + 1), [], 0⟩ := by rw [s2, if_pos rfl]
  have e3 : appendM (nmB (n + 1)) (frameL l) ⟨room, fs2, false, 0⟩ = (⟨room, setN F.n ⟨nmB (n + 1), frameL l, 0⟩ fs2, false, 0⟩, 0) := by
   have h := op_append (room := room) (nmB_named (n + 1)) hf2 (frameL l) (by rw [frameL_len]; omega)
   rw [List.nil_append] at h
   exact h
  have er : rotW ⟨⟨room, fs, false, 0⟩, most, n, size, wait⟩ = (⟨⟨room, fs2, false, 0⟩, most, n + 1, 0, 0⟩, 0) := by
   unfold rotW
   rw [if_neg (by show ¬ 99999999 ≤ n; omega)]
   dsimp only
   rw [e1]
   dsimp only
   rw [if_neg (by decide), e2]
   dsimp only
   rw [if_neg (by decide)]
  rw [er, if_neg (by show ¬ ((0 : Int) ≠ 0); decide)]
  have ea : appW ⟨⟨room, fs2, false, 0⟩, most, n + 1, 0, 0⟩ l = (⟨⟨room, setN F.n ⟨nmB (n + 1), frameL l, 0⟩ fs2, false, 0⟩, most, n + 1, 0 + (l.length + 8), 0 + 1⟩, 0) := by
   unfold appW
   dsimp only
   rw [e3, if_pos rfl]
  rw [ea]
  refine ⟨rfl, rfl, _, SegsC.more hF.segs (N := n + 1) (ls := [l]) (b := joinL [l]) (by omega) (by omega) hlt (splits_all _ (fun r hr => by rw [List.mem_singleton] at hr; rw [hr]; exact hl2)) (fun K k1 k2 => ?_), LogK.more hF.log h2 hl (by rw [h1]; omega)⟩
  unfold segC
  rw [fd_set, s2]
  by_cases hk : K = n + 1
  ·subst hk
   simp [joinL_cons, joinL_nil]
  ·have : nmB K ≠ nmB (n + 1) := fun e => hk (nmB_inj k2 (by omega) e)
   simp [this, hk]
 ·rw [if_neg hrot]
  have e3 : appendM (nmB n) (frameL l) ⟨room, fs, false, 0⟩ = (⟨room, setN F.n ⟨nmB n, f.b ++ frameL l, f.d⟩ fs, false, 0⟩, 0) := op_append (room := room) (nmB_named n) hf (frameL l) (by rw [frameL_len]; omega)
  have ea : appW ⟨⟨room, fs, false, 0⟩, most, n, size, wait⟩ l = (⟨⟨room, setN F.n ⟨nmB n, f.b ++ frameL l, f.d⟩ fs, false, 0⟩, most, n, size + (l.length + 8), wait + 1⟩, 0) := by
   unfold appW
   dsimp only
   rw [e3, if_pos rfl]
  rw [ea]
  refine ⟨rfl, rfl, _, SegsC.last hF.segs (ls := p.ls ++ [l]) (fun r hr => ?_) (fun K k1 k2 => ?_), LogK.last hF.log hl⟩
  ·rcases List.mem_append.1 hr with hr | hr
   ·exact g3.recs r hr
   ·rw [List.mem_singleton] at hr; rw [hr]; exact hl2
  ·unfold segC
   rw [fd_set, joinL_snoc, ← hfb]
   by_cases hk : K = n
   ·subst hk
    rw [h1]
    simp [hf]
   ·have : nmB K ≠ nmB n := fun e => hk (nmB_inj k2 g2 e)
    have h' : ¬ (K : Int) = p.n := by omega
    simp [this, h']
end Go.Proofs.YtnbddiiedagllaaGreat

/- What compacting leaves where nothing fails: the new segment alone. -/
namespace Go.Proofs.YtnbddiiedagllaaGreat
open Go.RowKit Go.Maps

theorem remove_run {room : Nat} : ∀ (out : List Int) (fs : List F), Sorted fs → (out.map fun x => nmB x.toNat).Nodup → (∀ x ∈ out, findN F.n (nmB x.toNat) fs ≠ none) →
  ∃ fs', Run (fun _ => True) room (out.map fun x => ⟨5, nmB x.toNat, [], []⟩) fs fs' ∧ Sorted fs' ∧ ∀ n, findN F.n n fs' = if n ∈ out.map (fun x => nmB x.toNat) then none else findN F.n n fs
 | [], fs, hs, _, _ => ⟨fs, .nil trivial, hs, fun n => by simp⟩
 | x :: out, fs, hs, hnd, hf => by
  rw [List.map_cons, List.nodup_cons] at hnd
  obtain ⟨f, hfx⟩ := Option.ne_none_iff_exists'.1 (hf x (by simp))
  have hfd : ∀ n, findN F.n n (delN F.n (nmB x.toNat) fs) = if n = nmB x.toNat then none else findN F.n n fs := fun n => fd_del F.n n _ fs
  obtain ⟨fs', h1, h2, h3⟩ := remove_run out (delN F.n (nmB x.toNat) fs) (del_sorted _ hs) hnd.2 (fun y hy => by
   rw [hfd, if_neg (fun e => hnd.1 (List.mem_map.2 ⟨y, hy, e⟩))]
   exact hf y (List.mem_cons_of_mem _ hy))
  refine ⟨fs', .cons trivial (op_remove (nmB_named _) hfx) h1, h2, fun n => ?_⟩
  rw [h3, hfd, List.map_cons]
  by_cases e1 : n ∈ out.map (fun x => nmB x.toNat)
  ·rw [if_pos e1, if_pos (List.mem_cons_of_mem _ e1)]
  ·rw [if_neg e1]
   by_cases e2 : n = nmB x.toNat
   ·rw [if_pos e2, if_pos (by rw [e2]; exact List.mem_cons_self ..)]
   ·rw [if_neg e2, if_neg (fun h => (List.mem_cons.1 h).elim e2 e1)]

theorem sorted_one {fs : List F} (hs : Sorted fs) {x : F} (h : ∀ n, findN F.n n fs = if n = x.n then some x else none) : fs = [x] := by
 have hall : ∀ f ∈ fs, f = x := fun f hf => by
  have h1 := find_sorted hs hf
  rw [h] at h1
  split at h1
  ·exact (Option.some.inj h1).symm
  ·cases h1
 have hx := h x.n
 rw [if_pos rfl] at hx
 obtain ⟨hm, _⟩ := findN_some hx
 match fs, hs, hall, hm with
 | [], _, _, hm => cases hm
 | [y], _, hall, _ => rw [hall y (by simp)]
 | y :: z :: r, hs, hall, _ =>
  have h1 := hall y (by simp)
  have h2 := hall z (by simp)
  subst h1
  subst h2
  unfold Sorted at hs
  have := (List.pairwise_cons.1 hs).1 z (by simp)
  exact absurd this (by first | exact lt_irrefl _ | exact List.lt_irrefl _ | simp)

def keepF (N : Nat) (ms : List (List Nat)) : F := ⟨nmB N, joinL ([] :: ms), (joinL ([] :: ms)).length⟩

theorem comp_keeps {W : WM} {B : List (List (List Nat))} {c : List (List Nat)} (h : LInv W B c) {ms : List (List Nat)} (hroom : usedF W.D.fs + sizeL ms + 8 ≤ W.D.room) {r : DM × Int} (hC : CompOf W ms r) (hz : r.2 = 0) :
  r.1 = ⟨W.D.room, [keepF (W.n + 1) ms], false, 0⟩ ∧ W.n < 99999999 ∧ [] ∉ ms := by
 rcases hC with ⟨_, rfl⟩ | ⟨⟨hm, hn⟩, out, ho, rfl⟩
 ·exact absurd (show (2 : Int) = 0 from hz) (by decide)
 ·obtain rfl := segsOf_uniq ho h.records.2
  refine ⟨?_, hn, hm⟩
  have hn' : W.n < 99999999 := hn
  have hl := h.len
  rw [List.length_append, List.length_singleton, ← h.n] at hl
  have hnames : ∀ f ∈ W.D.fs, ∃ i, i < W.n ∧ f.n = nmB (i + 1) := fun f hf => by
   obtain ⟨i, hi, rfl⟩ := List.getElem_of_mem hf
   exact ⟨i, by omega, h.name_at i hi⟩
  have hnew : findN F.n newB W.D.fs = none := by
   cases hx : findN F.n newB W.D.fs with
   | none => rfl
   | some f =>
    obtain ⟨m1, m2⟩ := findN_some hx
    obtain ⟨i, _, e⟩ := hnames f m1
    exact absurd (e.symm.trans m2) (nmB_new _)
  have hcl : cleanM [newB] W.D = [] := by
   have e2 : cleanM [newB] W.D = if newB ∈ W.D.fs.map F.n then [⟨5, newB, [], []⟩] else [] := cleanM_snoc [] newB W.D
   rw [e2, if_neg]
   intro hin
   obtain ⟨f, hf, e⟩ := List.mem_map.1 hin
   obtain ⟨i, _, e'⟩ := hnames f hf
   exact nmB_new _ (e'.symm.trans e)
  have hsz : (joinL ([] :: ms)).length = sizeL ms + 8 := by rw [joinL_len, sizeL_cons]; simp; omega
  obtain ⟨fs1, r1, f1, s1, _⟩ := fill_run (G := fun _ => True) (room := W.D.room) h.sorted hnew (W.n + 1) (joinL ([] :: ms)) (by omega) (fun _ _ => trivial) (fun _ _ => trivial)
  have hmem : ∀ x, x ∈ upTo W.n ↔ ∃ i, i < W.n ∧ x = ((i + 1 : Nat) : Int) := fun x => by
   unfold upTo
   simp [eq_comm]
  have hfind : ∀ i, i < W.n → ∃ f, findN F.n (nmB (i + 1)) W.D.fs = some f := fun i hi => by
   have hi2 : i < W.D.fs.length := by omega
   exact ⟨_, by rw [← h.name_at i hi2]; exact find_sorted h.sorted (List.getElem_mem hi2)⟩
  have hnd : ((upTo W.n).map fun x => nmB x.toNat).Nodup := by
   unfold upTo
   rw [List.map_map]
   rw [List.nodup_iff_pairwise_ne, List.pairwise_map]
   refine List.Pairwise.imp_of_mem ?_ List.pairwise_lt_range
   intro x y hx hy hxy e
   have hy' := List.mem_range.1 hy
   have hx' := List.mem_range.1 hx
   have e' : nmB (x + 1) = nmB (y + 1) := by
    have h1 : (((x : Int) + 1)).toNat = x + 1 := by omega
    have h2 : (((y : Int) + 1)).toNat = y + 1 := by omega
    simpa [h1, h2] using e
   have := nmB_inj (by omega) (by omega) e'
   omega
  obtain ⟨fs2, r2, s2, f2⟩ := remove_run (room := W.D.room) (upTo W.n) fs1 s1 hnd (fun x hx => by
   obtain ⟨i, hi, rfl⟩ := (hmem x).1 hx
   rw [Int.toNat_natCast, f1, if_neg (fun e => by have := nmB_inj (by omega) (by omega) e; omega)]
   obtain ⟨f, hf⟩ := hfind i hi
   rw [hf]; simp)
  have hold : oldOps (upTo W.n) (W.n + 1) = (upTo W.n).map fun x => ⟨5, nmB x.toNat, [], []⟩ := by
   unfold oldOps
   rw [List.filter_eq_self.2 (fun x hx => by obtain ⟨i, hi, rfl⟩ := (hmem x).1 hx; simp; omega)]
  have hrun : Run (fun _ => True) W.D.room (compOps W.D (upTo W.n) (W.n + 1) (joinL ([] :: ms))) W.D.fs fs2 := by
   unfold compOps
   rw [hcl, hold]
   exact r1.append r2
  obtain ⟨_, g2, g3, g4⟩ := hrun.steps W.D rfl rfl h.down
  have hfs2 : fs2 = [keepF (W.n + 1) ms] := sorted_one s2 (fun n => by
   rw [f2]
   by_cases e1 : n = nmB (W.n + 1)
   ·subst e1
    rw [if_neg, f1, if_pos rfl]
    ·exact (if_pos rfl).symm
    ·intro hin
     obtain ⟨x, hx, e⟩ := List.mem_map.1 hin
     obtain ⟨i, hi, rfl⟩ := (hmem x).1 hx
     have := nmB_inj (by rw [Int.toNat_natCast]; omega) (by omega) e
     rw [Int.toNat_natCast] at this
     omega
   ·have e1' : ¬ n = (keepF (W.n + 1) ms).n := e1
    rw [if_neg e1']
    split
    ·rfl
    ·next hin =>
     rw [f1, if_neg e1]
     cases hx : findN F.n n W.D.fs with
     | none => rfl
     | some f =>
      obtain ⟨m1, m2⟩ := findN_some hx
      obtain ⟨i, hi, e⟩ := hnames f m1
      exact absurd (List.mem_map.2 ⟨((i + 1 : Nat) : Int), (hmem _).2 ⟨i, hi, rfl⟩, by rw [Int.toNat_natCast, ← e, m2]⟩) hin)
  rcases g3 with ⟨_, g5, g6⟩ | ⟨_, g5, _⟩
  ·have g7 := g4 h.plan
   generalize stepsM (compOps W.D (upTo W.n) (W.n + 1) (joinL ([] :: ms))) W.D = rr at *
   obtain ⟨⟨room, fs, down, plan⟩, z⟩ := rr
   simp only at g2 g5 g6 g7 ⊢
   rw [g2, g5, g6, g7, hfs2]
  ·exact absurd h.plan g5

theorem keep_crash (room N : Nat) (ms : List (List Nat)) : crashM [] ⟨room, [keepF N ms], false, 0⟩ = ⟨room, [keepF N ms], false, 0⟩ := by
 unfold crashM keepF cutF
 simp

theorem keep_final {N : Nat} {ms : List (List Nat)} (h1 : 1 ≤ N) (h2 : N ≤ 99999999) (hm : [] ∉ ms) (hml : ∀ r ∈ ms, r.length ≤ 1048576) : Final N (sizeL ms + 8) ms [keepF N ms] [⟨N, [] :: ms, []⟩] := by
 have hfd : ∀ n, findN F.n n [keepF N ms] = if n = nmB N then some (keepF N ms) else none := fun n => by
  unfold findN
  rw [List.find?_cons]
  by_cases e : n = nmB N
  ·subst e
   rw [if_pos rfl]
   simp [keepF]
  ·rw [if_neg e]
   have : ((keepF N ms).n == n) = false := by simpa [keepF] using fun h => e h.symm
   rw [this]
   rfl
 have hsp : Splits (joinL ([] :: ms)) ([] :: ms) [] := splits_all _ (fun r hr => by
  rcases List.mem_cons.1 hr with rfl | hr
  ·exact Nat.zero_le _
  ·exact hml r hr)
 have hse : SegsC [keepF N ms] [⟨N, [] :: ms, []⟩] := by
  refine ⟨List.pairwise_singleton _ _, fun p hp => ?_, fun K k1 k2 k3 => ?_⟩
  ·rw [List.mem_singleton] at hp
   subst hp
   exact ⟨N, _, rfl, h1, h2, by unfold segC; rw [hfd, if_pos rfl]; rfl, hsp⟩
  ·unfold segC at k3
   rw [hfd] at k3
   by_cases e : nmB K = nmB N
   ·have := nmB_inj k2 h2 e
    subst this
    simp
   ·rw [if_neg e] at k3
    exact absurd rfl k3
 refine ⟨fun K f k1 k2 hf => ?_, ?_, ?_, hse, ⟨⟨by simp, fun i hi hlt => ?_, .inl rfl⟩, ?_, ?_⟩, by simp, rfl, rfl, ?_⟩
 ·rw [hfd] at hf
  split at hf
  ·cases hf; rfl
  ·cases hf
 ·rw [hfd, if_neg (fun e => nmB_cut N e.symm)]
 ·rw [hfd, if_neg (fun e => nmB_new N e.symm)]
 ·simp at hi; omega
 ·rw [List.drop_zero]
  intro i hi
  obtain rfl : i = 0 := by simpa using hi
  exact ⟨fun h => absurd h (Nat.lt_irrefl _), fun h => absurd h (by simp), by simpa [PS.recs, restOf, markOf] using hm⟩
 ·rw [List.drop_zero]
  simp [recsL, PS.recs, restOf, markOf]
 ·show (joinL ([] :: ms)).length = _
  rw [joinL_len, sizeL_cons]
  simp
  omega
end Go.Proofs.YtnbddiiedagllaaGreat

/- The walks of the reference's Same, of bytes and of lists of bytes: true where they are the same. -/
namespace Go.Proofs.YtnbddiiedagllaaGreat
open Go.RowKit Crc

set_option maxRecDepth 100000 in
theorem rsame_yes (a a' : Option Addr) (n cap n' cap' : Nat) (l : List Nat) (w : World) (hl : Bytes w a n cap l) (hl' : Bytes w a' n' cap' l) :
  Calls Tryz.prog 62 #[.slice a n cap, .slice a' n' cap'] w fun e w' => e = .returned (.bool true) ∧ w' = w := by
 have h1 := convert_bytes (P := Tryz.prog) hl 58 5 9 Tryz.underlying58 Tryz.underlying5 Tryz.underlying9
 have h2 := convert_bytes (P := Tryz.prog) hl' 58 5 9 Tryz.underlying58 Tryz.underlying5 Tryz.underlying9
 have he := str_eq l
 clear hl hl'
 generalize str l = s at *
 go_enter Tryz.func62, Tryz.ntmps62
 go_wp2
 go_ret
 exact ⟨rfl, rfl⟩

set_option maxHeartbeats 800000 in
set_option maxRecDepth 100000 in
theorem same_yes (a a' : Option Addr) (n cap cap' : Nat) (ls : List (List Nat)) (w : World) (hl : Parts w a n cap ls) (hl' : Parts w a' n cap' ls) :
  Calls Tryz.prog 17 #[.slice a n cap, .slice a' n cap'] w fun e w' => e = .returned (.bool true) ∧ ∃ q, w' = w.drewN q := by
 have hnb := hl.max
 have hP := Lib.hid hl
 have hP' := Lib.hid hl'
 clear hl hl'
 go_enter Tryz.func17, Tryz.ntmps17
 go_wp2
 go_loopw [5] (fun i wr => ∃ k q : Nat, k ≤ n ∧ i = .int .i64 k ∧ wr = w.drewN q) (fun i _ => n - (intOf i).toNat)
 case atStart => exact ⟨0, 0, Nat.zero_le _, rfl, rfl⟩
 case round =>
  obtain ⟨k, q, hk, rfl, rfl⟩ := hrel
  by_cases hlt : k < n
  ·obtain ⟨b, o, a1, n1, c1, rfl, hc, hB⟩ := bytes_get_all hP.out hlt
   obtain ⟨b', o', a2, n2, c2, rfl, hc', hB'⟩ := bytes_get_all hP'.out hlt
   have hc := fun q => (show (w.drewN q).cell? ⟨b, o + k, none⟩ = _ from hc)
   have hc' := fun q => (show (w.drewN q).cell? ⟨b', o' + k, none⟩ = _ from hc')
   have hc := hc q
   have hc' := hc' q
   have hB := hB.grow (below_drewN (Below.refl w.heap.size w) q)
   have hB' := hB'.grow (below_drewN (Below.refl w.heap.size w) q)
   have hq : ∀ m, (w.drewN q).drewN m = w.drewN (q + m) := fun m => by simp [World.drewN, Nat.add_assoc]
   generalize w.drewN q = wr at *
   have HS := Lib.hid (fun m => (rsame_yes a1 a2 n1 c1 n2 c2 (ls.getD k []) (wr.drewN m) (hB.grow (below_drewN (Below.refl _ _) m)) (hB'.grow (below_drewN (Below.refl _ _) m))).mono (R' := fun e w' => e = .returned (.bool true) ∧ ∃ k, w' = (wr.drewN m).drewN k) (by rintro e w' ⟨h1, rfl⟩; exact ⟨h1, 0, rfl⟩))
   have Hq := Lib.hid hq
   clear hB hB' hq
   go_wp2_with fail
   go_quiet (first | (go_at_call 62; exact Calls.quiet_of (HS.out _)))
   rw [Hq.out]
   go_wp2
   go_roundw
   case rel => exact ⟨k + 1, _, by omega, by go_num, rfl⟩
   case measure => simp [intOf]; omega
  ·obtain rfl : k = n := by omega
   go_wp2
   go_ret
   exact ⟨rfl, q, rfl⟩
end Go.Proofs.YtnbddiiedagllaaGreat

/- The walk of slices.Clone of byte slices: the bytes lie where they lay. -/
namespace Go.Proofs.YtnbddiiedagllaaGreat
open Go.RowKit

section
variable {P : Program}

theorem wpList_append_rowsZ {w1 w : World} {ops : Array Oper} {rest : List Oper} {o : Oper} {a : Act} {Q : Exit → Act → World → Prop} (hgd : o.guard = none) (s x : Operand) (t : TypeId)
  (ho : o.op = .call { callee := .builtin .append, args := #[s, x], argTypes := #[t, t] })
  (ht : P.underlying t = some (.slice 58)) (hinfo : (P.info? 58).map (fun i => (i.zero, i.size, i.bytes)) = some (some (.slice none 0 0), 1, 24))
  {base : Nat} {v : Value} {ls ms : List (List Nat)} (hs : a.eval s = v) (hown : PartsZ (fun b => b < w1.heap.size) w base v ls)
  {p : Option Addr} {m c : Nat} (hx : a.eval x = .slice p m c) (hP : Parts w1 p m c ms) (hb : Below w1.heap.size w1 w) (hbase : w1.heap.size ≤ base) (hbase2 : base ≤ w.heap.size) (hn : ls.length + m ≤ 1000000000)
  (h : ∀ v' w', PartsZ (fun b => b < w1.heap.size) w' base v' (ls ++ ms) → w.grownBy w' v.ownBlock → wpList P ops Q rest (a.put o.dst v') w') : wpList P ops Q (o :: rest) a w := by
 obtain ⟨i, hi, hz, hsz, hby⟩ := info_parts hinfo
 rcases Nat.eq_zero_or_pos m with rfl | hm
 ·have hm0 : ms = [] := List.length_eq_zero_iff.1 hP.len
  obtain ⟨q, k, rfl, hq⟩ := hown.own.parts
  have hr : (Builtin.append_ #[t, t] o.type #[.slice q ls.length k, .slice p 0 c]).run P w = .ok (.slice q ls.length k) w := by
   refine run_append_nothing w t t o.type 58 i ht hi q ls.length k hq.le (.slice p 0 c) ?_
   cases p with
   | none => exact Src.ofNil w ht c
   | some ad => exact Src.ofSlice w ht ad 0 c [] (by simp) (fun j u h => by simp at h) (fun u h => by simp at h)
  refine wpList_plain hgd fun K hK => ?_
  unfold Oper.wp execOp
  simp only [ho, resolve, invoke, builtin, Sem.run_bind, Sem.run_pure, Result.andThen_ok, List.map_toArray, List.map_cons, List.map_nil, hs, hx, hr]
  refine hK _ _ (h _ w ?_ ⟨rfl, rfl, rfl, Nat.le_refl _, fun _ _ _ => rfl⟩)
  rw [hm0, List.append_nil]
  exact hown
 ·obtain ⟨b, off, rfl, hblt, hc⟩ := hP.cell hm
  obtain ⟨vs, hlen, hrow, hel⟩ := hown
  have hadd : ∀ (x y j : Nat), (⟨x, y, none⟩ : Addr).add j = ⟨x, y + j, none⟩ := fun x y j => by unfold Addr.add; split <;> simp_all
  obtain ⟨us, hus⟩ : ∃ us : List Value, us = (List.range m).map fun i => (w1.cell? ⟨b, off + i, none⟩).getD undef := ⟨_, rfl⟩
  have hul : us.length = m := by rw [hus]; simp
  have hu : ∀ i, i < m → ∃ a' n' c', us[i]? = some (.slice a' n' c') ∧ w.cell? ⟨b, off + i, none⟩ = some (.slice a' n' c') ∧ Bytes w1 a' n' c' (ms.getD i []) := by
   intro i hi
   obtain ⟨a', n', c', h1, h2⟩ := hc i hi
   refine ⟨a', n', c', ?_, by rw [hb.cell (p := ⟨b, off + i, none⟩) hblt]; exact h1, h2⟩
   rw [hus, List.getElem?_map, List.getElem?_range hi]
   simp [h1]
  refine wpList_append_own_at w hgd s x t ho base 58 i (.slice none 0 0) 1 24 ht hi hz hsz hby rfl (by decide) v ls.length vs hs hrow ⟨b, off, none⟩ m c us hx (by rw [hul]; omega) ?_ ?_ (by rw [maxLen_nat]; omega) (by omega) hbase2 ?_
  ·intro j u hj
   have hjm : j < m := by rw [← hul]; exact (List.getElem?_eq_some_iff.1 hj).1
   obtain ⟨a', n', c', h1, h2, _⟩ := hu j hjm
   rw [hadd, h2, ← h1, hj]
  ·intro u huu
   obtain ⟨j, hj, rfl⟩ := List.getElem_of_mem huu
   obtain ⟨a', n', c', h1, _, _⟩ := hu j (by rw [← hul]; exact hj)
   rw [List.getElem?_eq_getElem hj] at h1
   rw [Option.some.inj h1]
   rfl
  ·intro v' w' g1 g2 _ g4
   refine h v' w' (PartsZ.app hlen hel (by rw [hul]; exact hP.len.symm) (fun i hi => ?_) (by rw [hP.len]; exact g1) g2 g4) g2
   obtain ⟨a', n', c', h1, _, h3⟩ := hu i (by rw [← hP.len]; exact hi)
   refine ⟨a', n', c', h1, h3.grow hb, fun hn' y hy => ?_⟩
   obtain ⟨b', o', e2, hc'⟩ := h3.cell hn'
   have h5 := World.block_lt_of_cell? _ _ (hc' 0 hn')
   rw [hy] at e2
   cases e2
   simp only at h5
   refine ⟨fun e => ?_, h5⟩
   have h4 := (hrow.lt _ e.symm).1
   simp only at h4
   omega
end

set_option maxRecDepth 100000 in
theorem cloneRows_any {w1 : World} (a : Option Addr) (n cap : Nat) (ls : List (List Nat)) (w : World) (hl : Parts w1 a n cap ls) (hb : Below w1.heap.size w1 w) (hn : n ≤ 1000000) :
  Calls Tryz.prog 34 #[.slice a n cap] w fun e w' => ∃ v, e = .returned v ∧ PartsZ (fun b => b < w1.heap.size) w' w.heap.size v ls ∧ Below w.heap.size w w' := by
 have hq := fun (w : World) (a : Option Addr) (n c : Nat) => Lib.run_eql_slice_nil (P := Tryz.prog) w 29 58 a n c 0 0 Tryz.underlying29
 cases a with
 | none =>
  have h0 : n = 0 := by
   rcases Nat.eq_zero_or_pos n with h | h
   ·exact h
   ·obtain ⟨b, o, e, _⟩ := hl.cell h
    cases e
  subst h0
  have h1 : ls = [] := List.length_eq_zero_iff.1 hl.len
  subst h1
  clear hl
  go_enter Tryz.func34, Tryz.ntmps34
  go_wp2
  go_ret
  exact ⟨_, rfl, PartsZ.nil _ _ _, Below.refl _ _⟩
 | some ad =>
  have hown : PartsZ (fun b => b < w1.heap.size) (w.alloc (.cells #[] 58)) w.heap.size (.slice (some ⟨w.heap.size, 0, none⟩) 0 0) [] :=
   ⟨[], rfl, World.ownsRow_made w #[] 0 (Nat.le_refl _) (Nat.zero_le _) rfl, fun _ h => absurd h (Nat.not_lt_zero _)⟩
  have hbel : Below w.heap.size w (w.alloc (.cells #[] 58)) := (Below.refl _ _).alloc (Nat.le_refl _) _
  have Hl := Lib.hid hl
  have Hown := Lib.hid hown
  have Hbel := Lib.hid hbel
  have Hb := Lib.hid hb
  clear hl hown hbel hb
  go_enter Tryz.func34, Tryz.ntmps34
  go_wp2_with (at_builtin; refine wpList_append_rowsZ rfl _ _ 29 rfl Tryz.underlying29 info_rows rfl Hown.out rfl Hl.out (Hb.out.trans (Hbel.out.mono Hb.out.size)) Hb.out.size Hbel.out.size (by simp; omega) ?_; intro v' w2 g1 g2)
  go_ret
  exact ⟨_, rfl, g1, Hbel.out.grown g2 Hbel.out.size (fun k hk => by
   have := Hown.out.lt k hk
   exact this.1)⟩
end Go.Proofs.YtnbddiiedagllaaGreat

/- A byte that came in. -/
namespace Go.Proofs.YtnbddiiedagllaaGreat
open Go.ChangeShapes Go.WideShapes Go.ChangeAt Go.RowKit Go.Deep

theorem nat_u8 {n : Int} (h : (Lit.int .u8 n).wf = true) : ∃ x : Nat, x < 256 ∧ n = (x : Int) := by
 have := wf_u8 h
 exact ⟨n.toNat, by omega, by omega⟩
end Go.Proofs.YtnbddiiedagllaaGreat

