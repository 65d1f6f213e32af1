import Derived.Test.YtnbddiiedagllaaGreatSSL45
import Derived.Test.YtnbddiiedagllaaGreatSSL39
import Derived.Test.YtnbddiiedagllaaGreatSSL36
import Derived.Test.YtnbddiiedagllaaGreatSSL38
import Derived.Test.YtnbddiiedagllaaGreatSSL8
import Derived.Test.YtnbddiiedagllaaGreatSSL25
import Derived.Test.YtnbddiiedagllaaGreatSSL30
import Derived.Test.YtnbddiiedagllaaGreatSSL33
/- What the statements of trim share: what compacting leaves in size, Look and Find of a disk, how small few records are. -/
namespace Go.Proofs.YtnbddiiedagllaaGreat
open Go.RowKit Go.Maps Go.Shelf

theorem few_size {ls : List (List Nat)} (h : minsF ls ≤ 1500 ∧ ls.length ≤ 60) : sizeL ls ≤ 1980 ∧ ls.length ≤ 60 := by
 have := (minsF_bound ls h.1).1
 exact ⟨by omega, h.2⟩

theorem chgM_rm {M : DM} {nm : List UInt8} {act : DM → DM × Int} (ha : ∀ M', M'.room = M.room → (act M').1.room = M.room) : (chgM M nm act).1.room = M.room := by
 unfold chgM
 split
 ·exact (failM_rm M).1
 ·split
  ·exact ha _ (failM_rm M).1
  ·exact (failM_rm M).1

theorem onM_rm {M M' : DM} (he : M'.room = M.room) {nm : List UInt8} {act : F → DM → DM × Int} (ha : ∀ f, (act f M').1.room = M.room) : (onM nm act M').1.room = M.room := by
 unfold onM
 split
 ·exact he
 ·exact ha _

theorem step_rm (M : DM) (k : Int) (nm tt : List UInt8) (bs : List Nat) : (stepM k nm tt bs M).1.room = M.room := by
 unfold stepM
 split
 ·refine chgM_rm fun M' e => ?_
  split <;> exact e
 ·split
  ·refine chgM_rm fun M' e => onM_rm e fun f => ?_
   split <;> exact e
  ·split
   ·exact chgM_rm fun M' e => onM_rm e fun f => e
   ·split
    ·refine chgM_rm fun M' e => onM_rm e fun f => ?_
     split <;> exact e
    ·exact chgM_rm fun M' e => onM_rm e fun f => e

theorem steps_rm : ∀ (ops : List SO) (M : DM), (stepsM ops M).1.room = M.room
 | [], _ => rfl
 | x :: ops, M => by
  have e : stepsM (x :: ops) M = if (stepM x.k x.nm x.tt x.bs M).2 = 0 then stepsM ops (stepM x.k x.nm x.tt x.bs M).1 else stepM x.k x.nm x.tt x.bs M := rfl
  rw [e]
  split
  ·rw [steps_rm ops, step_rm]
  ·rw [step_rm]

theorem comp_sum (M : DM) (out : List Int) (n : Nat) (b : List Nat) : ((compOps M out n b).map fun x => x.bs.length).sum ≤ b.length ∧ ∀ x ∈ compOps M out n b, x.nm.length ≤ 9223372036854775807 ∧ x.tt.length ≤ 9223372036854775807 := by
 have hs := stOps_sum M n b 5 (by omega)
 have e5 : stOps M n b 5 = cleanM [newB] M ++ fillOps n b := by
  unfold stOps
  rw [if_neg (by omega)]
  congr 1
 rw [e5] at hs
 have hz : ∀ l : List Int, (((l.map fun x => (⟨5, nmB x.toNat, [], []⟩ : SO))).map fun x => x.bs.length).sum = 0 := by
  intro l
  induction l with
  | nil => rfl
  | cons x l ih => rw [List.map_cons, List.map_cons, List.sum_cons, ih]; rfl
 unfold compOps oldOps
 refine ⟨?_, fun x hx => ?_⟩
 ·rw [List.map_append, List.sum_append, hz]
  exact hs.1
 ·rcases List.mem_append.1 hx with h | h
  ·exact hs.2.2 x h
  ·obtain ⟨y, _, rfl⟩ := List.mem_map.1 h
   exact ⟨nmB_short _, Nat.zero_le _⟩

theorem comp_neat {M : DM} {N U : Nat} (hnt : Neat M N U) (hnm : Named M) {n : Nat} {b : List Nat} {r : DM × Int} (h : IsComp M n b r) : Neat r.1 (N + M.fs.length + 5) (U + b.length) ∧ Named r.1 ∧ (Up M → Up r.1) ∧ r.1.room = M.room := by
 obtain ⟨out, ho, rfl⟩ := h
 obtain ⟨ps, h1, hA⟩ := allOf_ex ho
 have h2 := segs_many hA
 have h3 : out.length = ps.length := by rw [← h1, List.length_map]
 have h4 := compOps_len M out n b
 obtain ⟨h5, h6⟩ := comp_sum M out n b
 exact ⟨(stepsM_neat' _ hnt).mono (by omega) (by omega), named_steps _ hnm h6, fun hu => up_steps _ hu, steps_rm _ _⟩

theorem compOf_neat {W : WM} {N U : Nat} (hnt : Neat W.D N U) (hnm : Named W.D) {recs : List (List Nat)} {r : DM × Int} (h : CompOf W recs r) : Neat r.1 (N + W.D.fs.length + 5) (U + (sizeL recs + 8)) ∧ Named r.1 ∧ (Up W.D → Up r.1) ∧ r.1.room = W.D.room := by
 rcases h with ⟨_, rfl⟩ | ⟨_, h⟩
 ·exact ⟨hnt.mono (by omega) (by omega), hnm, fun h => h, rfl⟩
 ·have h1 := comp_neat hnt hnm h
  rw [joinL_len, sizeL_mark] at h1
  exact h1

theorem compR_yes {W : WM} {most : Int} {recs : List (List Nat)} {r : DM × Int} (h : r.2 = 0) : compR W most recs r = compW W most recs r.1 := if_pos h
theorem compR_D (W : WM) (most : Int) (recs : List (List Nat)) (r : DM × Int) : (compR W most recs r).D = r.1 := by
 unfold compR
 split <;> rfl

section
variable {w0 : World} {T V : Nat → Prop} {wT : World} {g d B : Nat} {W Wb : WM} {wr : World}

theorem BothV.comp (h : BothV w0 T V wT g d B W Wb wr) {wa : World} (hb : Below wr.heap.size wr wa) {U : Nat} (hnt : Neat W.D 900 U) (hU : U ≤ 10000000) (hnm : Named W.D) (h1 : 1 ≤ W.n) (hN : W.n ≤ 99999999) (most : Int) (p : Option Addr) (m c : Nat) (recs : List (List Nat)) (hP : Parts wa p m c recs) (hm : m ≤ 1000) (hs : sizeL recs ≤ 1000000) :
  Calls Tryz.prog 38 #[.pointer (some ⟨d, 0, none⟩), .pointer (some ⟨g, 0, none⟩), .int .i64 most, .slice p m c] wa fun e w3 => ∃ r, CompOf W recs r ∧
   ((r.2 ≠ 0 ∧ e = .returned (.tuple #[.pointer none, .int .i64 r.2]) ∧ BothV w0 T V wT g d B { W with D := r.1 } Wb w3) ∨
   (r.2 = 0 ∧ ∃ g2, e = .returned (.tuple #[.pointer (some ⟨g2, 0, none⟩), .int .i64 0]) ∧ BothV w0 T V wT g2 d B (compW W most recs r.1) Wb w3)) := by
 obtain ⟨Y', hL, _, hn1, hn2⟩ := h.stepLog hb
 refine (compact_any hL hnt hU hnm h1 hN most p m c recs hP hm hs).mono ?_
 rintro e w3 ⟨r, hC, ⟨hz, rfl, hE⟩ | ⟨hz, g2, rfl, hg, hL2, hk, hb3, hs3⟩⟩
 ·exact ⟨r, hC, .inl ⟨hz, rfl, hn1 _ w3 ⟨⟨hE.1, hL.inY, hL.new, (hE.2.1 g hL.inY).trans hL.cells⟩, fun b hb _ => hE.2.1 b hb, hE.2.2.1, hE.2.2.2⟩⟩⟩
 ·exact ⟨r, hC, .inr ⟨hz, g2, rfl, hn2 g2 _ w3 hg hL2 hk hs3⟩⟩

theorem BothV.rcomp (h : BothV w0 T V wT g d B W Wb wr) {U : Nat} (hnt : Neat Wb.D 900 U) (hU : U ≤ 1000000) (hnm : Named Wb.D) (h1 : 1 ≤ Wb.n) (hN : Wb.n ≤ 99999999) (most : Int) (p : Option Addr) (m k : Nat) (recs : List (List Nat)) (hP : Parts wr p m k recs) (hm : m ≤ 1000) (hs : sizeL recs ≤ 5000) (hl : Wb.D.fs.length + 905 ≤ 1000000) :
  ∃ a n c, wr.heap[B]? = some (logO (Wb.D.room : Int) a n c (Wb.D.plan : Int) Wb.D.down Wb.most (Wb.n : Int) (Wb.size : Int) (Wb.wait : Int)) ∧
   Calls Tryz.prog 39 #[logV (Wb.D.room : Int) a n c (Wb.D.plan : Int) Wb.D.down Wb.most (Wb.n : Int) (Wb.size : Int) (Wb.wait : Int), .int .i64 most, .slice p m k] wr fun e w4 => ∃ r a' n' c' W', CompOf Wb recs r ∧ W' = compR Wb most recs r ∧
    e = .returned (.tuple #[logV (W'.D.room : Int) a' n' c' (W'.D.plan : Int) W'.D.down W'.most (W'.n : Int) (W'.size : Int) (W'.wait : Int), .int .i64 r.2]) ∧
    BothV w0 T V wT g d w4.heap.size W W' (w4.alloc (logO (W'.D.room : Int) a' n' c' (W'.D.plan : Int) W'.D.down W'.most (W'.n : Int) (W'.size : Int) (W'.wait : Int))) := by
 obtain ⟨X, a, n, c, hc, hrl, _, hX, hnext⟩ := h.newBox
 refine ⟨a, n, c, hc, (rcompact_any hrl hX hnt hU hnm h1 hN most p m k recs hP hm hs).mono ?_⟩
 rintro e w4 ⟨r, hC, a', n', c', R', rfl, hR', hf, hb⟩
 refine ⟨r, a', n', c', _, hC, rfl, rfl, hnext _ w4 a' n' c' R' hb hR' hf ?_⟩
 have h1 := (compOf_neat hnt hnm hC).1.small.files
 have h2 := hnt.small.files
 have e : (compR Wb most recs r, r.2).1.D = r.1 := compR_D Wb most recs r
 rw [e]
 omega
end

section
variable {w0 : World} {X : Nat → Prop} {w : World} {d : Nat} {M : DM}

theorem tlook_any (hO : Own w0 X w d M) (hd : M.down = false) (hl : M.fs.length ≤ 1000) (hu : usedF M.fs ≤ 10000) (hnm : Named M) (ps : List PS) (hA : AllOf M ps) :
  Calls Tryz.prog 15 #[.pointer (some ⟨d, 0, none⟩)] w fun e w' => ∃ y a c, IsLog ps y ∧ e = .returned (.tuple #[.slice a y.recs.length c, .int .i64 y.z]) ∧ Parts w' a y.recs.length c y.recs ∧ Below w.heap.size w w' := by
 refine (look_of findQ_grow (find_up hO hd hl hu hnm ps hA)).mono ?_
 rintro e w3 ⟨x, z, rfl, hq, hb3⟩
 obtain ⟨y, hy, rfl, _, hxr, hP⟩ := findQ_log hq
 rw [hxr] at hP ⊢
 exact ⟨y, _, _, hy, rfl, hP, hb3⟩

end
end Go.Proofs.YtnbddiiedagllaaGreat

/- Worth: the bytes of the segments of a disk against the cost. -/
namespace Go.Proofs.YtnbddiiedagllaaGreat
open Go.RowKit Go.Maps Go.Shelf

def bytesM (M : DM) (out : List Int) : Nat := (out.map fun x => (readM (nmB x.toNat) M).1.length).sum

end Go.Proofs.YtnbddiiedagllaaGreat

/- The reference's number of bytes of all segments. -/
namespace Go.Proofs.YtnbddiiedagllaaGreat
open Go.RowKit Go.Maps Go.Shelf

def segLen (f : F) : Nat := if 0 < segNum (nmL f.n) then f.b.length else 0
def segF (fs : List F) : Nat := (fs.map segLen).sum
end Go.Proofs.YtnbddiiedagllaaGreat

/- The bytes of a log's segments, number by number, are the bytes of its disk. -/
namespace Go.Proofs.YtnbddiiedagllaaGreat
open Go.RowKit Go.Maps Go.Shelf

theorem LInv.name_at {W : WM} {B : List (List (List Nat))} {c : List (List Nat)} (h : LInv W B c) (i : Nat) (hi : i < W.D.fs.length) : W.D.fs[i].n = nmB (i + 1) := by
 have hfs := h.fs
 have hl : W.D.fs.length = B.length + 1 := by rw [hfs]; unfold filesL; rw [List.length_append, List.length_mapIdx]; rfl
 have he : W.D.fs[i] = (filesL B c W.wait)[i]'(by rw [← hfs]; exact hi) := by
  congr 1
 rw [he]
 unfold filesL
 by_cases hb : i < B.length
 ·rw [List.getElem_append_left (by rw [List.length_mapIdx]; exact hb), List.getElem_mapIdx]
  rfl
 ·have e : i = B.length := by omega
  subst e
  rw [List.getElem_append_right (by rw [List.length_mapIdx]; exact Nat.le_refl _)]
  simp [lastF]

theorem find_sorted : ∀ {l : List F} (_ : Sorted l) {f : F} (_ : f ∈ l), findN F.n f.n l = some f
 | x :: l, h, f, hf => by
  unfold findN
  rw [List.find?_cons]
  obtain ⟨h1, h2⟩ := List.pairwise_cons.1 h
  rcases List.mem_cons.1 hf with rfl | hm
  ·simp
  ·have hne := lt_ne (h1 f hm)
   have : (x.n == f.n) = false := by simpa using hne
   rw [this]
   exact find_sorted h2 hm

theorem LInv.bytes {W : WM} {B : List (List (List Nat))} {c : List (List Nat)} (h : LInv W B c) {out : List Int} (ho : SegsOf W.D out) : bytesM W.D out = segF W.D.fs ∧ segF W.D.fs = usedF W.D.fs := by
 obtain rfl := segsOf_uniq ho h.records.2
 have hl := h.small.1
 have hmax := h.nmax
 have hnum : ∀ (i : Nat) (hi : i < W.D.fs.length), segLen W.D.fs[i] = W.D.fs[i].b.length := fun i hi => by
  unfold segLen
  rw [h.name_at i hi, nmL_nmB, segNum_name (by omega), if_pos (by omega)]
 have e1 : W.D.fs.map segLen = W.D.fs.map fun f => f.b.length := List.map_congr_left fun f hf => by
  obtain ⟨i, hi, rfl⟩ := List.getElem_of_mem hf
  exact hnum i hi
 have e2 : segF W.D.fs = usedF W.D.fs := by
  unfold segF
  rw [e1]
  rfl
 refine ⟨?_, e2⟩
 rw [e2]
 unfold bytesM
 show _ = (W.D.fs.map fun f => f.b.length).sum
 congr 1
 refine List.ext_getElem (by unfold upTo; simp [hl]) fun i h1 h2 => ?_
 rw [List.getElem_map, List.getElem_map]
 have hi : i < W.D.fs.length := by simpa using h2
 have ex : (upTo W.n)[i]'(by simpa using h1) = ((i + 1 : Nat) : Int) := by unfold upTo; simp
 rw [ex, Int.toNat_natCast]
 unfold readM
 rw [h.down, ← h.name_at i hi, find_sorted h.sorted (List.getElem_mem hi)]
 rfl

end Go.Proofs.YtnbddiiedagllaaGreat

/- Runs of changes that succeed: whatever failure is planned, what is left is what some of them have made. -/
namespace Go.Proofs.YtnbddiiedagllaaGreat
open Go.RowKit Go.Maps

inductive Run (G : List F → Prop) (room : Nat) : List SO → List F → List F → Prop
 | nil {fs : List F} : G fs → Run G room [] fs fs
 | cons {x : SO} {ops : List SO} {fs fs1 fs2 : List F} : G fs → soM x ⟨room, fs, false, 0⟩ = (⟨room, fs1, false, 0⟩, 0) → Run G room ops fs1 fs2 → Run G room (x :: ops) fs fs2

theorem Run.first {G : List F → Prop} {room : Nat} {ops : List SO} {fs fs2 : List F} (h : Run G room ops fs fs2) : G fs := by
 cases h with
 | nil h => exact h
 | cons h _ _ => exact h

theorem Run.last {G : List F → Prop} {room : Nat} {ops : List SO} {fs fs2 : List F} (h : Run G room ops fs fs2) : G fs2 := by
 induction h with
 | nil h => exact h
 | cons _ _ _ ih => exact ih

theorem Run.append {G : List F → Prop} {room : Nat} {a b : List SO} {fs fs1 fs2 : List F} (h : Run G room a fs fs1) (k : Run G room b fs1 fs2) : Run G room (a ++ b) fs fs2 := by
 induction h with
 | nil _ => exact k
 | cons hg hs _ ih => exact .cons hg hs (ih k)

theorem soM_plan (x : SO) {M : DM} {fs1 : List F} (hd : M.down = false) (h : soM x ⟨M.room, M.fs, false, 0⟩ = (⟨M.room, fs1, false, 0⟩, 0)) :
  (M.plan = 1 ∧ (soM x M).2 = 10 ∧ (soM x M).1.fs = M.fs ∧ (soM x M).1.down = true ∧ (soM x M).1.room = M.room) ∨ (M.plan ≠ 1 ∧ soM x M = (⟨M.room, fs1, false, M.plan - 1⟩, 0)) := by
 obtain ⟨room, fs, down, plan⟩ := M
 simp only at *
 subst hd
 by_cases hp : plan = 1
 ·subst hp
  refine .inl ⟨rfl, ?_⟩
  have hf : failM ⟨room, fs, false, 1⟩ = ⟨room, fs, true, 0⟩ := rfl
  unfold soM stepM createM appendM syncM renameM removeM chgM
  rw [hf]
  simp only [if_true]
  split
  ·exact ⟨rfl, rfl, rfl, rfl⟩
  ·split
   ·exact ⟨rfl, rfl, rfl, rfl⟩
   ·split
    ·exact ⟨rfl, rfl, rfl, rfl⟩
    ·split <;> exact ⟨rfl, rfl, rfl, rfl⟩
 ·refine .inr ⟨hp, ?_⟩
  have hf : failM ⟨room, fs, false, plan⟩ = ⟨room, fs, false, plan - 1⟩ := by
   unfold failM
   simp only [Bool.false_eq_true, if_false, if_neg hp]
  have hf0 : failM ⟨room, fs, false, 0⟩ = ⟨room, fs, false, 0⟩ := rfl
  have key : ∀ q : Nat, chgM ⟨room, fs, false, q⟩ = chgM ⟨room, fs, false, q⟩ := fun _ => rfl
  clear key
  unfold soM stepM createM appendM syncM renameM removeM chgM onM at h ⊢
  rw [hf]
  rw [hf0] at h
  simp only [Bool.false_eq_true, if_false] at h ⊢
  by_cases hn : named x.nm = true
  ·simp only [hn, if_true] at h ⊢
   cases hfd : findN F.n x.nm fs with
   | none => simp only [hfd] at h ⊢; (split at h <;> (try split at h) <;> (try split at h) <;> (try split at h) <;> simp_all)
   | some f => simp only [hfd] at h ⊢; (split at h <;> (try split at h) <;> (try split at h) <;> (try split at h) <;> (try split at h) <;> simp_all)
  ·simp only [hn] at h ⊢
   (split at h <;> (try split at h) <;> (try split at h) <;> (try split at h) <;> simp_all)

theorem Run.steps {G : List F → Prop} {room : Nat} {ops : List SO} {fs fs2 : List F} (h : Run G room ops fs fs2) : ∀ M : DM, M.room = room → M.fs = fs → M.down = false →
  G (stepsM ops M).1.fs ∧ (stepsM ops M).1.room = room ∧ (((stepsM ops M).2 = 0 ∧ (stepsM ops M).1.fs = fs2 ∧ (stepsM ops M).1.down = false) ∨ ((stepsM ops M).2 = 10 ∧ M.plan ≠ 0 ∧ (stepsM ops M).1.down = true)) ∧ (M.plan = 0 → (stepsM ops M).1.plan = 0) := by
 induction h with
 | nil h => rintro M rfl rfl hd; exact ⟨h, rfl, .inl ⟨rfl, rfl, hd⟩, fun h => h⟩
 | @cons x ops fs fs1 fs2 hg hs hr ih =>
  rintro M rfl rfl hd
  have e : stepsM (x :: ops) M = if (soM x M).2 = 0 then stepsM ops (soM x M).1 else soM x M := rfl
  rcases soM_plan x hd hs with ⟨h1, h2, h3, h4, h5⟩ | ⟨h1, h2⟩
  ·rw [e, if_neg (by rw [h2]; decide)]
   exact ⟨by rw [h3]; exact hg, h5, .inr ⟨h2, by rw [h1]; decide, h4⟩, fun h => by rw [h1] at h; cases h⟩
  ·rw [e, h2, if_pos rfl]
   obtain ⟨g1, g2, g3, g4⟩ := ih ⟨M.room, fs1, false, M.plan - 1⟩ rfl rfl rfl
   refine ⟨g1, g2, g3.imp id (fun ⟨a, b, c⟩ => ⟨a, fun h => b (by show M.plan - 1 = 0; omega), c⟩), fun h => g4 (by show M.plan - 1 = 0; omega)⟩
end Go.Proofs.YtnbddiiedagllaaGreat

