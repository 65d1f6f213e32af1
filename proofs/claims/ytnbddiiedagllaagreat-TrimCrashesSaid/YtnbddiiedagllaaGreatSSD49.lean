import Derived.Test.YtnbddiiedagllaaGreatSSD48
import Derived.Test.YtnbddiiedagllaaGreatSSD25
import Derived.Test.YtnbddiiedagllaaGreatSSD36
import Derived.Test.YtnbddiiedagllaaGreatSSD37
import Derived.Test.YtnbddiiedagllaaGreatSSD39
import Derived.Test.YtnbddiiedagllaaGreatSSD45
/- Opening a log, a crash, and opening it again, as plain data: the records stay. -/
namespace Go.Proofs.YtnbddiiedagllaaGreat
open Go.RowKit Go.Maps

theorem mem_le_sum : ∀ (l : List Nat) (x : Nat), x ∈ l → x ≤ l.sum
 | [], _, h => by cases h
 | y :: l, x, h => by
  rw [List.sum_cons]
  rcases List.mem_cons.1 h with rfl | h
  ·omega
  ·have := mem_le_sum l x h
   omega

theorem lastP_eq {ps : List PS} (h : 0 < ps.length) : ps = ps.take (ps.length - 1) ++ [lastP ps h] := by
 have h1 : ps.length - 1 < ps.length := by omega
 have h2 := List.take_append_drop (ps.length - 1) ps
 rw [List.drop_eq_getElem_cons h1, List.drop_of_length_le (by omega)] at h2
 exact h2.symm

theorem lastP_snoc (qs : List PS) (p : PS) (h : 0 < (qs ++ [p]).length) : lastP (qs ++ [p]) h = p := by
 unfold lastP
 rw [List.getElem_append_right (by simp)]
 simp

structure Final (N size : Nat) (recs : List (List Nat)) (fs : List F) (ps : List PS) : Prop where
 sync : SegSync fs
 cut : findN F.n cutB fs = none
 new : findN F.n newB fs = none
 segs : SegsC fs ps
 log : LogK ps 0 recs
 last : ∃ h : 0 < ps.length, (lastP ps h).n = (N : Int) ∧ (lastP ps h).t = [] ∧ (joinL (lastP ps h).ls).length = size

theorem segsC_find {fs : List F} {ps : List PS} (h : SegsC fs ps) {p : PS} (hp : p ∈ ps) {N : Nat} (hN : p.n = (N : Int)) : ∃ f, findN F.n (nmB N) fs = some f ∧ 1 ≤ N ∧ N ≤ 99999999 ∧ Splits f.b p.ls p.t := by
 obtain ⟨K, b, e, g1, g2, g3, g4⟩ := h.2.1 p hp
 obtain rfl : K = N := by rw [hN] at e; omega
 obtain ⟨f, hf, rfl⟩ := segC_some g3
 exact ⟨f, hf, g1, g2, g4⟩

theorem sync_run {recs : List (List Nat)} {room : Nat} {fs : List F} (hG : GL recs fs) {N : Nat} {f : F} (h1 : 1 ≤ N) (h2 : N ≤ 99999999) (hf : findN F.n (nmB N) fs = some f) : ∃ fs', Run (GL recs) room [⟨3, nmB N, [], []⟩] fs fs' ∧ ∀ n, findN F.n n fs' = findN F.n n fs := by
 have hd := hG.1 N f h1 h2 hf
 have hn := (findN_some hf).2
 have e : (⟨nmB N, f.b, f.b.length⟩ : F) = f := by
  obtain ⟨a, b, c⟩ := f
  simp only at hd hn
  rw [hn, hd]
 have hsame : ∀ n, findN F.n n (setN F.n ⟨nmB N, f.b, f.b.length⟩ fs) = findN F.n n fs := fun n => by
  rw [fd_set]
  by_cases h : n = nmB N
  ·subst h
   rw [if_pos rfl, hf, e]
   rfl
  ·rw [if_neg h]
 exact ⟨_, .cons hG (op_sync (nmB_named N) hf) (.nil (hG.same (fun K _ _ => hsame _))), hsame⟩

theorem rep_run {M : DM} {ps : List PS} (hs : SegsC M.fs ps) (hy : SegSync M.fs) (hso : Sorted M.fs) (hroom : 2 * usedF M.fs ≤ M.room) {ops : List SO} {N size : Nat} {recs : List (List Nat)} (h : RepOf M ps ops N size recs) :
  ∃ fs' ps', Run (GL recs) M.room ops M.fs fs' ∧ Final N size recs fs' ps' := by
 rcases h with ⟨rfl, rfl, rfl, rfl, rfl⟩ | ⟨k, hp, hk, hg, hN, rfl, rfl, rfl⟩
 ·have hG : GL [] M.fs := ⟨hy, [], hs, .inl ⟨rfl, rfl⟩⟩
  obtain ⟨fs1, r1, q1, l1⟩ := clean_run (room := M.room) hG hso
  have hno : ∀ K : Nat, 1 ≤ K → K ≤ 99999999 → findN F.n (nmB K) fs1 = none := by
   intro K k1 k2
   rw [q1, if_neg (fun h => h.elim (nmB_cut K) (nmB_new K))]
   cases hf : findN F.n (nmB K) M.fs with
   | none => rfl
   | some f => exact absurd (hs.2.2 K k1 k2 (by unfold segC; rw [hf]; simp)) (by simp)
  have hfd : ∀ n, findN F.n n (putN F.n ⟨nmB 1, [], 0⟩ fs1) = if n = nmB 1 then some ⟨nmB 1, [], 0⟩ else findN F.n n fs1 := fun n => fd_put F.n n ⟨nmB 1, [], 0⟩ fs1
  have hsy : SegSync (putN F.n ⟨nmB 1, [], 0⟩ fs1) := fun K f k1 k2 hf => by
   rw [hfd] at hf
   split at hf
   ·cases hf; rfl
   ·rw [hno K k1 k2] at hf; cases hf
  have hse : SegsC (putN F.n ⟨nmB 1, [], 0⟩ fs1) [⟨1, [], []⟩] := by
   refine ⟨by unfold Asc; simp, fun p hp => ?_, fun K k1 k2 hK => ?_⟩
   ·rw [List.mem_singleton.1 hp]
    refine ⟨1, [], rfl, Nat.le_refl _, by decide, ?_, splits_all [] (fun r hr => by cases hr)⟩
    unfold segC
    rw [hfd, if_pos rfl]
    rfl
   ·unfold segC at hK
    rw [hfd] at hK
    by_cases e : nmB K = nmB 1
    ·have := nmB_inj k2 (by decide) e
     subst this
     simp
    ·rw [if_neg e, hno K k1 k2] at hK
     exact absurd rfl hK
  have hlog : LogK [(⟨1, [], []⟩ : PS)] 0 [] := by
   refine ⟨⟨by simp, fun i hi hlt => by simp at hi; omega, .inl rfl⟩, fun i hi => ?_, rfl⟩
   obtain rfl : i = 0 := by simpa using hi
   exact ⟨fun h => absurd h (Nat.lt_irrefl _), fun _ => rfl, by simp [PS.recs, restOf, markOf]⟩
  have hGe : GL [] (putN F.n ⟨nmB 1, [], 0⟩ fs1) := ⟨hsy, _, hse, .inr ⟨0, hlog⟩⟩
  refine ⟨_, _, r1.append (.cons r1.last (op_create (nmB_named 1) (hno 1 (Nat.le_refl _) (by decide))) (.nil hGe)), hsy, ?_, ?_, hse, hlog, by simp, rfl, rfl, rfl⟩
  ·rw [hfd, if_neg (nmB_cut 1).symm, q1, if_pos (.inl rfl)]
  ·rw [hfd, if_neg (nmB_new 1).symm, q1, if_pos (.inr rfl)]
 ·have hlog : LogK ps k (recsL (ps.drop k)) := ⟨hk, hg, rfl⟩
  have hG : GL (recsL (ps.drop k)) M.fs := ⟨hy, ps, hs, .inr ⟨k, hlog⟩⟩
  obtain ⟨fs1, r1, q1, l1⟩ := clean_run (room := M.room) hG hso
  have hsame1 : ∀ K : Nat, 1 ≤ K → K ≤ 99999999 → findN F.n (nmB K) fs1 = findN F.n (nmB K) M.fs := fun K _ _ => by rw [q1, if_neg (fun h => h.elim (nmB_cut K) (nmB_new K))]
  have hs1 : SegsC fs1 ps := hs.same (fun K k1 k2 => segC_same hsame1 k1 k2)
  have hy1 := segSync_same hy hsame1
  have hc1 : findN F.n cutB fs1 = none := by rw [q1, if_pos (.inl rfl)]
  have hn1 : findN F.n newB fs1 = none := by rw [q1, if_pos (.inr rfl)]
  have hps := lastP_eq hp
  generalize hqs : ps.take (ps.length - 1) = qs at hps
  generalize hlp : lastP ps hp = p at hps hN
  have hpm : p ∈ ps := by rw [hps]; simp
  have hkq : k ≤ qs.length := by
   have h1 := hk.1
   rw [hps, List.length_append] at h1
   simp at h1
   omega
  obtain ⟨fl, hfl, n1, n2, hsp⟩ := segsC_find hs1 hpm hN
  -- cut
  have key2 : ∃ fs2, Run (GL (recsL (ps.drop k))) M.room (if p.t.length = 0 then [] else cutOps (nmB N) (joinL p.ls)) fs1 fs2 ∧ SegsC fs2 (qs ++ [⟨p.n, p.ls, []⟩]) ∧ SegSync fs2 ∧ Sorted fs2 ∧ findN F.n cutB fs2 = none ∧ findN F.n newB fs2 = none := by
   by_cases hT : p.t.length = 0
   ·rw [if_pos hT]
    have ht : p.t = [] := List.length_eq_zero_iff.1 hT
    have e : qs ++ [(⟨p.n, p.ls, []⟩ : PS)] = ps := by
     rw [hps]
     congr 2
     rw [← ht]
    exact ⟨fs1, .nil r1.last, by rw [e]; exact hs1, hy1, l1.sorted, hc1, hn1⟩
   ·rw [if_neg hT]
    have hlen := congrArg List.length hsp.eq
    rw [List.length_append] at hlen
    have hle : fl.b.length ≤ usedF fs1 := by
     unfold usedF
     exact mem_le_sum (fs1.map fun f => f.b.length) _ (List.mem_map.2 ⟨fl, (findN_some hfl).1, rfl⟩)
    have hu := l1.used
    have hspec : ∀ fs' : List F, (∀ n, findN F.n n fs' = if n = nmB N then some ⟨nmB N, joinL p.ls, (joinL p.ls).length⟩ else findN F.n n fs1) → SegsC fs' (qs ++ [⟨p.n, p.ls, []⟩]) ∧ SegSync fs' := by
     intro fs' hq
     refine ⟨SegsC.cut (p := p) (by rw [← hps]; exact hs1) (fun K k1 k2 => ?_), fun K f k1 k2 hf => ?_⟩
     ·unfold segC
      rw [hq]
      by_cases e : K = N
      ·subst e; rw [if_pos rfl, if_pos hN.symm]; rfl
      ·rw [if_neg (fun h => e (nmB_inj k2 n2 h)), if_neg (by rw [hN]; omega)]
     ·rw [hq] at hf
      split at hf
      ·cases hf; rfl
      ·exact hy1 K f k1 k2 hf
    have hlogc : LogK (qs ++ [⟨p.n, p.ls, []⟩]) k (recsL (ps.drop k)) := LogK.cut (by rw [← hps]; exact hlog)
    obtain ⟨fs2, r2, q2, s2, u2⟩ := cut_run (room := M.room) r1.last l1.sorted hc1 N (joinL p.ls) (by omega) (fun fs' hq => ⟨(hspec fs' hq).2, _, (hspec fs' hq).1, .inr ⟨k, hlogc⟩⟩)
    exact ⟨fs2, r2, (hspec fs2 q2).1, (hspec fs2 q2).2, s2, by rw [q2, if_neg (nmB_cut N).symm, hc1], by rw [q2, if_neg (nmB_new N).symm, hn1]⟩
  obtain ⟨fs2, r2, hs2, hy2, so2, hc2, hn2⟩ := key2
  have hlog2 : LogK (qs ++ [⟨p.n, p.ls, []⟩]) k (recsL (ps.drop k)) := LogK.cut (by rw [← hps]; exact hlog)
  generalize hps2 : qs ++ [(⟨p.n, p.ls, []⟩ : PS)] = ps2 at hs2 hlog2
  have hl2 : ps2.length = qs.length + 1 := by rw [← hps2]; simp
  -- older
  obtain ⟨fs3, r3, hs3, hy3, hk3, l3, hm3⟩ := older_run (recs := recsL (ps.drop k)) (room := M.room) (ps2.drop k) (ps2.take k) fs2 (by rw [List.take_append_drop]; exact hs2) hy2 so2 (fun j fs' hj hsj hyj => by
   rw [List.length_take] at hj
   have e : (ps2.take k).drop j ++ ps2.drop k = ps2.drop j := by
    conv => rhs; rw [← List.take_append_drop k ps2]
    rw [List.drop_append_of_le_length (by rw [List.length_take]; omega)]
   rw [e] at hsj
   exact ⟨hyj, _, hsj, .inr ⟨_, hlog2.drop (j := j) (by omega)⟩⟩)
  have hlog3 : LogK (ps2.drop k) 0 (recsL (ps.drop k)) := by
   have := hlog2.drop (j := k) (Nat.le_refl _)
   rwa [Nat.sub_self] at this
  have hlast3 : (⟨p.n, p.ls, []⟩ : PS) ∈ ps2.drop k := by
   rw [← hps2, List.drop_append_of_le_length hkq]
   simp
  obtain ⟨f3, hf3, _, _, hsp3⟩ := segsC_find hs3 hlast3 (N := N) hN
  -- sync
  obtain ⟨fs4, r4, q4⟩ := sync_run (room := M.room) r3.last n1 n2 hf3
  have hnum : (ps2.take k).map (fun p => (⟨5, nmB p.n.toNat, [], []⟩ : SO)) = ((ps.take k).map PS.n).map fun n => ⟨5, nmB n.toNat, [], []⟩ := by
   rw [List.map_map, ← hps2, hps, List.take_append_of_le_length hkq, List.take_append_of_le_length hkq]
   rfl
  have hrun := ((r1.append r2).append r3).append r4
  rw [hnum] at hrun
  refine ⟨fs4, ps2.drop k, hrun, segSync_same hy3 (fun K _ _ => q4 _), ?_, ?_, hs3.same (fun K k1 k2 => segC_same (fun K _ _ => q4 _) k1 k2), hlog3, ?_⟩
  ·rw [q4, hk3 cutB (fun K => (nmB_cut K).symm), hc2]
  ·rw [q4, hk3 newB (fun K => (nmB_new K).symm), hn2]
  ·have hd : ps2.drop k = qs.drop k ++ [⟨p.n, p.ls, []⟩] := by rw [← hps2, List.drop_append_of_le_length hkq]
   rw [hd]
   refine ⟨by simp, ?_⟩
   rw [lastP_snoc]
   exact ⟨hN, rfl, rfl⟩
end Go.Proofs.YtnbddiiedagllaaGreat

/- Opening a log that has crashed while it was opened: the same records, and nothing torn then. -/
namespace Go.Proofs.YtnbddiiedagllaaGreat
open Go.RowKit Go.Maps

structure Opened (M : DM) (N size : Nat) (recs : List (List Nat)) (ps : List PS) : Prop where
 up : Up M
 all : AllOf M ps
 fin : Final N size recs M.fs ps

theorem open_up {recs : List (List Nat)} {M : DM} {ps : List PS} (hu : Up M) (hA : AllOf M ps) (hG : GL recs M.fs) (hso : Sorted M.fs) (hroom : 2 * usedF M.fs ≤ M.room) {r : OR} (h : IsOpen M ps r) : r.z = 0 ∧ r.recs = recs ∧ r.M.room = M.room ∧ ∃ ps', Opened r.M r.N r.size recs ps' := by
 have hs := (allOf_segs hu.1).1 hA
 obtain ⟨hy, qs, hq, hl⟩ := hG
 have hqA := (allOf_segs hu.1).2 hq
 obtain rfl := allOf_uniq hA hqA
 rcases h with ⟨⟨k, hk, hb⟩, rfl⟩ | ⟨ops, N, size, recs', hr, rfl⟩
 ·rcases hl with ⟨rfl, _⟩ | ⟨k', hk', hg, _⟩
  ·obtain ⟨h1, _⟩ := hk
   exact absurd h1 (by simp)
  ·obtain rfl := firstAt_uniq hk hk'
   exact absurd hg hb
 ·have e : recs' = recs := by
   rcases hr with ⟨rfl, _, _, _, rfl⟩ | ⟨k, hp, hk, hg, _, _, rfl, _⟩
   ·rcases hl with ⟨_, rfl⟩ | ⟨k', ⟨h1, _⟩, _⟩
    ·rfl
    ·exact absurd h1 (by simp)
   ·rcases hl with ⟨rfl, _⟩ | ⟨k', hk', _, rfl⟩
    ·exact absurd hp (by simp)
    ·obtain rfl := firstAt_uniq hk hk'
     rfl
  subst e
  obtain ⟨fs', ps', hrun, hfin⟩ := rep_run hs hy hso hroom hr
  obtain ⟨_, g2, g3, g4⟩ := hrun.steps M rfl rfl hu.1
  rcases g3 with ⟨h1, h2, h3⟩ | ⟨_, h2, _⟩
  ·have hup : Up (stepsM ops M).1 := ⟨h3, g4 hu.2⟩
   exact ⟨h1, rfl, g2, ps', hup, (allOf_segs h3).2 (by rw [h2]; exact hfin.segs), by rw [h2]; exact hfin⟩
  ·exact absurd hu.2 h2

end Go.Proofs.YtnbddiiedagllaaGreat

/- What a crash leaves of a log that was being compacted. -/
namespace Go.Proofs.YtnbddiiedagllaaGreat
open Go.RowKit Go.Maps

theorem gl_log {recs : List (List Nat)} {M : DM} {ps : List PS} {y : LR} (hd : M.down = false) (hG : GL recs M.fs) (hA : AllOf M ps) (hy : IsLog ps y) : y.z = 0 ∧ y.recs = recs := by
 obtain ⟨_, qs, hq, hl⟩ := hG
 obtain rfl := allOf_uniq hA ((allOf_segs hd).2 hq)
 rcases hl with ⟨rfl, rfl⟩ | ⟨k, hk, hg, rfl⟩
 ·obtain rfl := isLog_uniq hy (.inl ⟨rfl, rfl⟩)
  exact ⟨rfl, rfl⟩
 ·have h0 : 0 < ps.length := by obtain ⟨h, _⟩ := hk; omega
  obtain rfl := isLog_uniq hy (.inr ⟨k, h0, hk, .inr ⟨hg, rfl⟩⟩)
  exact ⟨rfl, rfl⟩

theorem gl_crash {recs : List (List Nat)} {M : DM} (hG : GL recs M.fs) (ks : List Int) : GL recs (crashM ks M).fs :=
 hG.same fun N h1 h2 => fd_crash_sync ks (fun f hf => hG.1 N f h1 h2 hf)

theorem crash_got {W : WM} {B : List (List (List Nat))} {c : List (List Nat)} (h : LInv W B c) (hw : W.wait = 0) (p : Int) {ms : List (List Nat)} (hml : ∀ r ∈ ms, r.length ≤ 1048576) (hroom : usedF W.D.fs + sizeL ms + 8 ≤ W.D.room) {WA : WM} (hWA : WA = { W with D := armM p W.D }) {r : DM × Int} (hC : CompOf WA ms r) (ks : List Int) :
  ∃ recs, GL recs (crashM ks r.1).fs ∧ (recs = B.flatten ++ c ∨ recs = ms) ∧ (r.2 = 0 → recs = ms) ∧ Up (crashM ks r.1) ∧ (crashM ks r.1).room = W.D.room := by
 have hgl := h.gl hw
 have hup : Up (crashM ks r.1) := ⟨rfl, rfl⟩
 subst hWA
 rcases hC with ⟨_, rfl⟩ | ⟨⟨hm, hn⟩, out, ho, rfl⟩
 ·exact ⟨_, gl_crash (M := armM p W.D) hgl ks, .inl rfl, (fun h => absurd (show (2 : Int) = 0 from h) (by decide)), hup, rfl⟩
 ·have ho' : SegsOf W.D out := ho
  obtain rfl := segsOf_uniq ho' h.records.2
  have hsz : (joinL ([] :: ms)).length = sizeL ms + 8 := by rw [joinL_len, sizeL_cons]; simp; omega
  obtain ⟨fs', hrun, hfin, _⟩ := comp_run (M := armM p W.D) (recs := B.flatten ++ c) (ms := ms) (N := W.n + 1) hgl h.sorted h.down ho (fun x hx => by
   unfold upTo at hx
   obtain ⟨i, hi, rfl⟩ := List.mem_map.1 hx
   have := List.mem_range.1 hi
   omega) (by omega) (by have : W.n < 99999999 := hn; omega) hm hml (by rw [hsz]; show usedF W.D.fs + _ ≤ W.D.room; omega)
  obtain ⟨g1, g2, g3, _⟩ := hrun.steps (armM p W.D) rfl rfl h.down
  by_cases hz : (stepsM (compOps (armM p W.D) (upTo W.n) (W.n + 1) (joinL ([] :: ms))) (armM p W.D)).2 = 0
  ·rcases g3 with ⟨_, e, _⟩ | ⟨e, _⟩
   ·exact ⟨ms, gl_crash (by rw [e]; exact hfin) ks, .inr rfl, fun _ => rfl, hup, g2⟩
   ·rw [hz] at e; cases e
  ·rcases g1 with g1 | g1
   ·exact ⟨_, gl_crash g1 ks, .inl rfl, fun e => absurd e hz, hup, g2⟩
   ·exact ⟨_, gl_crash g1 ks, .inr rfl, fun _ => rfl, hup, g2⟩
end Go.Proofs.YtnbddiiedagllaaGreat

/- The walks of the reference's Same, of bytes and of lists of bytes: true where they are the same. -/
namespace Go.Proofs.YtnbddiiedagllaaGreat
open Go.RowKit Crc

set_option maxRecDepth 100000 in
theorem rsame_yes (a a' : Option Addr) (n cap n' cap' : Nat) (l : List Nat) (w : World) (hl : Bytes w a n cap l) (hl' : Bytes w a' n' cap' l) :
  Calls Tryz.prog 62 #[.slice a n cap, .slice a' n' cap'] w fun e w' => e = .returned (.bool true) ∧ w' = w := by
 have h1 := convert_bytes (P := Tryz.prog) hl 58 5 9 Tryz.underlying58 Tryz.underlying5 Tryz.underlying9
 have h2 := convert_bytes (P := Tryz.prog) hl' 58 5 9 Tryz.underlying58 Tryz.underlying5 Tryz.underlying9
 have he := str_eq l
 clear hl hl'
 generalize str l = s at *
 go_enter Tryz.func62, Tryz.ntmps62
 go_wp2
 go_ret
 exact ⟨rfl, rfl⟩

set_option maxHeartbeats 800000 in
set_option maxRecDepth 100000 in
theorem same_yes (a a' : Option Addr) (n cap cap' : Nat) (ls : List (List Nat)) (w : World) (hl : Parts w a n cap ls) (hl' : Parts w a' n cap' ls) :
  Calls Tryz.prog 17 #[.slice a n cap, .slice a' n cap'] w fun e w' => e = .returned (.bool true) ∧ ∃ q, w' = w.drewN q := by
 have hnb := hl.max
 have hP := Lib.hid hl
 have hP' := Lib.hid hl'
 clear hl hl'
 go_enter Tryz.func17, Tryz.ntmps17
 go_wp2
 go_loopw [5] (fun i wr => ∃ k q : Nat, k ≤ n ∧ i = .int .i64 k ∧ wr = w.drewN q) (fun i _ => n - (intOf i).toNat)
 case atStart => exact ⟨0, 0, Nat.zero_le _, rfl, rfl⟩
 case round =>
  obtain ⟨k, q, hk, rfl, rfl⟩ := hrel
  by_cases hlt : k < n
  ·obtain ⟨b, o, a1, n1, c1, rfl, hc, hB⟩ := bytes_get_all hP.out hlt
   obtain ⟨b', o', a2, n2, c2, rfl, hc', hB'⟩ := bytes_get_all hP'.out hlt
   have hc := fun q => (show (w.drewN q).cell? ⟨b, o + k, none⟩ = _ from hc)
   have hc' := fun q => (show (w.drewN q).cell? ⟨b', o' + k, none⟩ = _ from hc')
   have hc := hc q
   have hc' := hc' q
   have hB := hB.grow (below_drewN (Below.refl w.heap.size w) q)
   have hB' := hB'.grow (below_drewN (Below.refl w.heap.size w) q)
   have hq : ∀ m, (w.drewN q).drewN m = w.drewN (q + m) := fun m => by simp [World.drewN, Nat.add_assoc]
   generalize w.drewN q = wr at *
   have HS := Lib.hid (fun m => (rsame_yes a1 a2 n1 c1 n2 c2 (ls.getD k []) (wr.drewN m) (hB.grow (below_drewN (Below.refl _ _) m)) (hB'.grow (below_drewN (Below.refl _ _) m))).mono (R' := fun e w' => e = .returned (.bool true) ∧ ∃ k, w' = (wr.drewN m).drewN k) (by rintro e w' ⟨h1, rfl⟩; exact ⟨h1, 0, rfl⟩))
   have Hq := Lib.hid hq
   clear hB hB' hq
   go_wp2_with fail
   go_quiet (first | (go_at_call 62; exact Calls.quiet_of (HS.out _)))
   rw [Hq.out]
   go_wp2
   go_roundw
   case rel => exact ⟨k + 1, _, by omega, by go_num, rfl⟩
   case measure => simp [intOf]; omega
  ·obtain rfl : k = n := by omega
   go_wp2
   go_ret
   exact ⟨rfl, q, rfl⟩
end Go.Proofs.YtnbddiiedagllaaGreat

/- The reference's Same of any two lists of bytes: it answers, and true where they are the same. -/
namespace Go.Proofs.YtnbddiiedagllaaGreat
open Go.RowKit Crc

set_option maxRecDepth 100000 in
theorem rsame_dec (a a' : Option Addr) (n cap n' cap' : Nat) (l l' : List Nat) (w : World) (hl : Bytes w a n cap l) (hl' : Bytes w a' n' cap' l') :
  Calls Tryz.prog 62 #[.slice a n cap, .slice a' n' cap'] w fun e w' => e = .returned (.bool ((str l).toList == (str l').toList)) ∧ w' = w := by
 have h1 := convert_bytes (P := Tryz.prog) hl 58 5 9 Tryz.underlying58 Tryz.underlying5 Tryz.underlying9
 have h2 := convert_bytes (P := Tryz.prog) hl' 58 5 9 Tryz.underlying58 Tryz.underlying5 Tryz.underlying9
 clear hl hl'
 generalize str l = s at *
 generalize str l' = s' at *
 go_enter Tryz.func62, Tryz.ntmps62
 go_wp2
 go_ret
 exact ⟨rfl, rfl⟩

set_option maxHeartbeats 800000 in
set_option maxRecDepth 100000 in
theorem same_bool (a a' : Option Addr) (n cap n' cap' : Nat) (ls ls' : List (List Nat)) (w : World) (hl : Parts w a n cap ls) (hl' : Parts w a' n' cap' ls') :
  Calls Tryz.prog 17 #[.slice a n cap, .slice a' n' cap'] w fun e w' => (∃ b, e = .returned (.bool b)) ∧ ∃ q, w' = w.drewN q := by
 by_cases hnn : n = n'
 ·subst hnn
  have hnb := hl.max
  have hP := Lib.hid hl
  have hP' := Lib.hid hl'
  clear hl hl'
  go_enter Tryz.func17, Tryz.ntmps17
  go_wp2
  go_loopw [5] (fun i wr => ∃ k q : Nat, k ≤ n ∧ i = .int .i64 k ∧ wr = w.drewN q) (fun i _ => n - (intOf i).toNat)
  case atStart => exact ⟨0, 0, Nat.zero_le _, rfl, rfl⟩
  case round =>
   obtain ⟨k, q, hk, rfl, rfl⟩ := hrel
   by_cases hlt : k < n
   ·obtain ⟨b, o, a1, n1, c1, rfl, hc, hB⟩ := bytes_get_all hP.out hlt
    obtain ⟨b', o', a2, n2, c2, rfl, hc', hB'⟩ := bytes_get_all hP'.out hlt
    have hc := fun q => (show (w.drewN q).cell? ⟨b, o + k, none⟩ = _ from hc)
    have hc' := fun q => (show (w.drewN q).cell? ⟨b', o' + k, none⟩ = _ from hc')
    have hc := hc q
    have hc' := hc' q
    have hB := hB.grow (below_drewN (Below.refl w.heap.size w) q)
    have hB' := hB'.grow (below_drewN (Below.refl w.heap.size w) q)
    have hq : ∀ m, (w.drewN q).drewN m = w.drewN (q + m) := fun m => by simp [World.drewN, Nat.add_assoc]
    generalize w.drewN q = wr at *
    have HS := Lib.hid (fun m => (rsame_dec a1 a2 n1 c1 n2 c2 (ls.getD k []) (ls'.getD k []) (wr.drewN m) (hB.grow (below_drewN (Below.refl _ _) m)) (hB'.grow (below_drewN (Below.refl _ _) m))).mono (R' := fun e w' => e = .returned (.bool ((str (ls.getD k [])).toList == (str (ls'.getD k [])).toList)) ∧ ∃ k, w' = (wr.drewN m).drewN k) (by rintro e w' ⟨h1, rfl⟩; exact ⟨h1, 0, rfl⟩))
    have Hq := Lib.hid hq
    clear hB hB' hq
    generalize ((str (ls.getD k [])).toList == (str (ls'.getD k [])).toList) = bb at *
    go_wp2_with fail
    go_quiet (first | (go_at_call 62; exact Calls.quiet_of (HS.out _)))
    rw [Hq.out]
    cases bb with
    | true =>
     go_wp2
     go_roundw
     case rel => exact ⟨k + 1, _, by omega, by go_num, rfl⟩
     case measure => simp [intOf]; omega
    | false =>
     go_wp2
     go_ret
     exact ⟨⟨_, rfl⟩, _, rfl⟩
   ·obtain rfl : k = n := by omega
    go_wp2
    go_ret
    exact ⟨⟨_, rfl⟩, q, rfl⟩
 ·have hne : ((n : Int) != (n' : Int)) = true := by simp; omega
  go_enter Tryz.func17, Tryz.ntmps17
  go_wp2
  go_ret
  exact ⟨⟨_, rfl⟩, 0, rfl⟩

theorem same_some (a a' : Option Addr) (n cap n' cap' : Nat) (ls ls' : List (List Nat)) (w : World) (hl : Parts w a n cap ls) (hl' : Parts w a' n' cap' ls') :
  Calls Tryz.prog 17 #[.slice a n cap, .slice a' n' cap'] w fun e w' => ∃ b, e = .returned (.bool b) ∧ (ls = ls' → b = true) ∧ Below w.heap.size w w' := by
 by_cases h : ls = ls'
 ·subst h
  obtain rfl : n = n' := hl.len.symm.trans hl'.len
  exact (same_yes a a' n cap cap' ls w hl hl').mono (by rintro e w' ⟨rfl, q, rfl⟩; exact ⟨_, rfl, fun _ => rfl, below_drewN (Below.refl _ _) q⟩)
 ·exact (same_bool a a' n cap n' cap' ls ls' w hl hl').mono (by rintro e w' ⟨⟨b, rfl⟩, q, rfl⟩; exact ⟨_, rfl, fun e => absurd e h, below_drewN (Below.refl _ _) q⟩)
end Go.Proofs.YtnbddiiedagllaaGreat

