import Derived.Test.YtmiepigieajpcaaGreatHScanOpensJ5
import Derived.Test.YtmiepigieajpcaaGreatHScanOpensJ3
import Derived.Test.YtmiepigieajpcaaGreatHScanOpensJ4
import Derived.Test.YtmiepigieajpcaaGreatHScanOpensJ2
import Derived.Deep.RegionHeld3
import Derived.Deep.DeepCutAuto
import Derived.Deep.CutBlock
import Derived.Test.YtmiepigieajpcaaGreatMB28
import Derived.Test.YtmiepigieajpcaaGreatMB34
/- What Open makes of a log, as plain data. -/
namespace Go.Proofs.YtmiepigieajpcaaGreat
open Go.RowKit Go.Maps

def lastP (ps : List PS) (h : 0 < ps.length) : PS := ps[ps.length - 1]'(by omega)

/-- The log on a disk is broken. -/
def BrokenAt (ps : List PS) : Prop := ∃ k, FirstAt ps k ∧ ¬ Good (ps.drop k)

/-- The changes that repair a log, its last segment, what this has, its records. -/
def RepOf (M : DM) (ps : List PS) (ops : List SO) (N size : Nat) (recs : List (List Nat)) : Prop :=
  (ps = [] ∧ ops = repNone M ∧ N = 1 ∧ size = 0 ∧ recs = []) ∨
  ∃ (k : Nat) (h : 0 < ps.length), FirstAt ps k ∧ Good (ps.drop k) ∧ (lastP ps h).n = (N : Int) ∧ size = (joinL (lastP ps h).ls).length ∧ recs = recsL (ps.drop k) ∧ ops = repOps M ((ps.take k).map PS.n) N (joinL (lastP ps h).ls) (lastP ps h).t.length

theorem repOf_uniq {M : DM} {ps : List PS} {ops ops' : List SO} {N N' size size' : Nat} {recs recs' : List (List Nat)} (h : RepOf M ps ops N size recs) (h' : RepOf M ps ops' N' size' recs') : ops = ops' ∧ N = N' ∧ size = size' ∧ recs = recs' := by
  rcases h with ⟨h0, rfl, rfl, rfl, rfl⟩ | ⟨k, hp, hk, hg, hn, rfl, rfl, rfl⟩
  · rcases h' with ⟨_, rfl, rfl, rfl, rfl⟩ | ⟨k', hp', _⟩
    · exact ⟨rfl, rfl, rfl, rfl⟩
    · rw [h0] at hp'; exact absurd hp' (Nat.lt_irrefl _)
  · rcases h' with ⟨h0, _⟩ | ⟨k', hp', hk', hg', hn', rfl, rfl, rfl⟩
    · rw [h0] at hp; exact absurd hp (Nat.lt_irrefl _)
    · obtain rfl := firstAt_uniq hk hk'
      obtain rfl : N = N' := by rw [hn] at hn'; omega
      exact ⟨rfl, rfl, rfl, rfl⟩

theorem broken_rep {M : DM} {ps : List PS} {ops : List SO} {N size : Nat} {recs : List (List Nat)} (h : BrokenAt ps) (h' : RepOf M ps ops N size recs) : False := by
  obtain ⟨k, hk, hg⟩ := h
  rcases h' with ⟨h0, _⟩ | ⟨k', _, hk', hg', _⟩
  · subst h0
    obtain ⟨h, _⟩ := hk
    exact absurd h (by simp)
  · obtain rfl := firstAt_uniq hk hk'
    exact hg hg'

/-- Where a change failed, or none: what Open answers and leaves. -/
structure OR where
  z : Int
  M : DM
  N : Nat
  size : Nat
  recs : List (List Nat)

def IsOpen (M : DM) (ps : List PS) (r : OR) : Prop := (BrokenAt ps ∧ r = ⟨11, M, 0, 0, []⟩) ∨ ∃ ops N size recs, RepOf M ps ops N size recs ∧ r = ⟨(stepsM ops M).2, (stepsM ops M).1, N, size, recs⟩

theorem isOpen_uniq {M : DM} {ps : List PS} {r r' : OR} (h : IsOpen M ps r) (h' : IsOpen M ps r') : r = r' := by
  rcases h with ⟨hb, rfl⟩ | ⟨ops, N, size, recs, hr, rfl⟩
  · rcases h' with ⟨_, rfl⟩ | ⟨ops, N, size, recs, hr, rfl⟩
    · rfl
    · exact (broken_rep hb hr).elim
  · rcases h' with ⟨hb, rfl⟩ | ⟨ops', N', size', recs', hr', rfl⟩
    · exact (broken_rep hb hr).elim
    · obtain ⟨rfl, rfl, rfl, rfl⟩ := repOf_uniq hr hr'
      rfl

theorem first_ex (ps : List PS) (h : 0 < ps.length) : ∃ k, FirstAt ps k := by
  have key : ∀ j, j ≤ ps.length → (∃ k, FirstAt ps k) ∨ ∀ i (h : i < ps.length), ps.length - j ≤ i → ps[i].mark = false := by
    intro j
    induction j with
    | zero => exact fun _ => .inr fun i hi h => by omega
    | succ j ih =>
      intro hj
      rcases ih (by omega) with h1 | h1
      · exact .inl h1
      · have hx : ps.length - (j + 1) < ps.length := by omega
        by_cases hm : ps[ps.length - (j + 1)].mark = true
        · exact .inl ⟨_, hx, fun i hi hlt => h1 i hi (by omega), .inr hm⟩
        · refine .inr fun i hi hle => ?_
          by_cases e : i = ps.length - (j + 1)
          · subst e
            simpa using hm
          · exact h1 i hi (by omega)
  rcases key ps.length (Nat.le_refl _) with h1 | h1
  · exact h1
  · exact ⟨0, h, fun i hi _ => h1 i hi (by omega), .inl rfl⟩
end Go.Proofs.YtmiepigieajpcaaGreat

/- The walk of scan's Open, whatever lies on a disk that is up. -/
namespace Go.Proofs.YtmiepigieajpcaaGreat
open Go.RowKit Go.Maps Go.Shelf

attribute [local go_sem ↓] Go.wp_at_zero Go.wp_at_succ

/-- What is found where Open goes on. -/
structure FoundOk (M : DM) (B : Nat) (w : World) (x : FD) (ops : List SO) (N size : Nat) (recs : List (List Nat)) : Prop where
  n : x.n = (N : Int)
  n1 : 1 ≤ N
  n2 : N ≤ 99999999
  data : ∃ old l T, Ints w x.oa x.on x.oc old ∧ (∀ y ∈ old, 1 ≤ y ∧ y ≤ 99999999) ∧ old.length ≤ 900 ∧ Bytes w x.wa x.wn x.wc l ∧ (0 < x.wn → ∀ a, x.wa = some a → B ≤ a.block) ∧ l.length ≤ 9000 ∧ x.tn = ((T : Nat) : Int) ∧ ops = if x.no = true then cleanM [cutB, newB] M ++ [⟨1, nmB N, [], []⟩] else repOps M old N l T
  size : x.wn = size
  recs : PartsZ (fun b => B ≤ b) w B (.slice x.ra x.rn x.rc) recs

theorem FoundOk.grow {M : DM} {B : Nat} {w w' : World} {x : FD} {ops : List SO} {N size : Nat} {recs : List (List Nat)} (h : FoundOk M B w x ops N size recs) (hb : Below w.heap.size w w') : FoundOk M B w' x ops N size recs := by
  obtain ⟨h1, h2, h3, ⟨old, l, T, d1, d2, d3, d4, d5, d6, d7, d8⟩, h4, h5⟩ := h
  exact ⟨h1, h2, h3, ⟨old, l, T, d1.grow hb, d2, d3, d4.grow hb, d5, d6, d7, d8⟩, h4, h5.grow hb⟩

theorem rep_bounds {M : DM} {old : List Int} {N T : Nat} {l : List Nat} {no : Bool} (ho : old.length ≤ 900) (hl : l.length ≤ 9000) : (if no = true then cleanM [cutB, newB] M ++ [⟨1, nmB N, [], []⟩] else repOps M old N l T).length ≤ 1000 ∧ ∀ x ∈ (if no = true then cleanM [cutB, newB] M ++ [⟨1, nmB N, [], []⟩] else repOps M old N l T), x.bs.length ≤ 9000 := by
  have hc := cleanM_len [cutB, newB] M
  have hcb : ∀ x ∈ cleanM [cutB, newB] M, x.bs.length ≤ 9000 := by
    intro x hx
    unfold cleanM at hx
    obtain ⟨n, _, rfl⟩ := List.mem_map.1 hx
    exact Nat.zero_le _
  simp only [List.length_cons, List.length_nil] at hc
  split
  · refine ⟨by simp only [List.length_append, List.length_cons, List.length_nil]; omega, fun x hx => ?_⟩
    rcases List.mem_append.1 hx with h | h
    · exact hcb x h
    · rw [List.mem_singleton.1 h]; exact Nat.zero_le _
  · refine ⟨by have := repOps_len M old N l T; omega, fun x hx => ?_⟩
    unfold repOps at hx
    rcases List.mem_append.1 hx with h | h
    · rcases List.mem_append.1 h with h | h
      · rcases List.mem_append.1 h with h | h
        · exact hcb x h
        · split at h
          · cases h
          · unfold cutOps at h
            simp only [List.mem_cons, List.not_mem_nil, or_false] at h
            rcases h with rfl | rfl | rfl | rfl
            · exact Nat.zero_le _
            · exact hl
            · exact Nat.zero_le _
            · exact Nat.zero_le _
      · obtain ⟨n, _, rfl⟩ := List.mem_map.1 h
        exact Nat.zero_le _
    · rw [List.mem_singleton.1 h]; exact Nat.zero_le _

/-- The parts that lie in blocks of Z. -/
def KeptParts (Z : Nat → Prop) (w : World) (a : Option Addr) (n c : Nat) (ls : List (List Nat)) : Prop := ∀ W : World, (∀ b, Z b → W.heap[b]? = w.heap[b]?) → Parts W a n c ls

/-- What Open answers and leaves, when it goes on. -/
def SOEnd (w0 : World) (X : Nat → Prop) (w : World) (d : Nat) (most : Int) (r : OR) (e : Ending) (w' : World) : Prop :=
  (r.z ≠ 0 ∧ e = .returned (.tuple #[.pointer none, .slice none 0 0, .int .i64 r.z]) ∧ OwnEnd w0 X w d r.M w') ∨
  (r.z = 0 ∧ ∃ g ra rc, ∃ Z : Nat → Prop, e = .returned (.tuple #[.pointer (some ⟨g, 0, none⟩), .slice ra r.recs.length rc, .int .i64 0]) ∧ (∀ b, Z b → w.heap.size ≤ b) ∧ w.heap.size ≤ g ∧ ¬ Z g ∧ LogAt w0 (fun b => X b ∨ Z b ∨ b = g) w' g d ⟨r.M, most, r.N, r.size, 0⟩ ∧ (∀ b, X b → w'.heap[b]? = w.heap[b]?) ∧ KeptParts Z w' ra r.recs.length rc r.recs)

theorem partsZ_kept {Z Z' : Nat → Prop} {w w' : World} {B : Nat} {a : Option Addr} {n c : Nat} {ls : List (List Nat)} (h : PartsZ Z w B (.slice a n c) ls) (hk : ∀ b, B ≤ b → b < w.heap.size → w'.heap[b]? = w.heap[b]?) (hZ : ∀ b, Z b → B ≤ b) (hZ' : ∀ b, B ≤ b → b < w.heap.size → Z' b) : n = ls.length ∧ KeptParts Z' w' a n c ls := by
  obtain ⟨a2, c2, e2⟩ := h.form
  injection e2 with e3 e4 e5
  refine ⟨e4, fun W hW => ?_⟩
  have key : ∀ b, B ≤ b → b < w.heap.size → W.heap[b]? = w.heap[b]? := fun b h1 h2 => (hW b (hZ' b h1 h2)).trans (hk b h1 h2)
  obtain ⟨vs, h1, h2, h3⟩ := h
  have hO : OwnParts W B (.slice a n c) ls := ⟨vs, h1, own_same5 h2 (fun k e => key k (own_ge5 h2 k e) (own_lt5 h2 k e)), fun i hi => by
    obtain ⟨a', n', c', g1, g2, g3⟩ := h3 i hi
    exact ⟨a', n', c', g1, g2.moved (fun h0 x hx => key _ (hZ _ (g3 h0 x hx).2) (bytes_lt g2 h0 x hx)), fun h0 x hx => (g3 h0 x hx).1⟩⟩
  obtain ⟨a6, c6, e6, hp⟩ := hO.parts
  injection e6 with e7 e8 e9
  rw [e7, e8, e9]
  exact hp

theorem srow_row {B G d : Nat} {w : World} {v : Value} {ops : List SO} (h : SRow B G d w v ops) : ∃ a c, ∃ Ks : List SK, v = .slice a ops.length c ∧ Ks.length = ops.length ∧ (0 < ops.length → ∃ b o, a = some ⟨b, o, none⟩ ∧ G ≤ b ∧ b < w.heap.size ∧ ∀ j (hj : j < Ks.length), w.cell? ⟨b, o + j, none⟩ = some (skV Ks[j])) ∧
    ∀ i (h : i < Ks.length) (h' : i < ops.length), StepAt (fun b => B ≤ b ∧ v.ownBlock ≠ some b) d w Ks[i] ops[i] := by
  obtain ⟨Ks, h1, h2, h3⟩ := h
  rcases h2.2 with ⟨rfl, h0⟩ | ⟨g, cap, cur, rfl, hb, hg, hle, hcm, hsz, htake⟩
  · exact ⟨none, 0, Ks, by rw [h0], h1, fun h => by omega, h3⟩
  · refine ⟨_, cap, Ks, rfl, h1, fun _ => ⟨g, 0, rfl, hb, (Array.getElem?_eq_some_iff.1 hg).1, fun j hj => ?_⟩, h3⟩
    rw [cell_of_row w g (0 + j) cur _ (0, 0) hg, Nat.zero_add]
    have e : cur[j]? = (Ks.map skV)[j]? := by
      rw [← htake, List.getElem?_take, if_pos (by omega), Array.getElem?_toList]
    rw [e, List.getElem?_map, List.getElem?_eq_getElem hj]
    rfl

set_option maxRecDepth 100000 in
set_option maxHeartbeats 6400000 in
theorem sopen_steps {w0 : World} {X : Nat → Prop} {w : World} {d : Nat} {M : DM} (hO : Own w0 X w d M) (hl : M.fs.length ≤ 900) {U : Nat} (hnt : Neat M 900 U) (hU : U ≤ 10000) {Q : FD → Int → World → Prop} (hf : Calls Tryz.prog 57 #[.pointer (some ⟨d, 0, none⟩)] w (FoundEnd Q w))
    (ops : List SO) (N size : Nat) (recs : List (List Nat)) (hQ : ∀ x z w1, Q x z w1 → z = 0 ∧ FoundOk M w.heap.size w1 x ops N size recs) (most : Int) :
    Calls Tryz.prog 21 #[.pointer (some ⟨d, 0, none⟩), .int .i64 most] w (SOEnd w0 X w d most ⟨(stepsM ops M).2, (stepsM ops M).1, N, size, recs⟩) := by
  have HF := Lib.hid hf
  have HQ := Lib.hid hQ
  have hR : ∀ (w1 : World) (_ : Below w.heap.size w w1) (x : FD) (_ : FoundOk M w.heap.size w1 x ops N size recs), (Calls Tryz.prog 66 #[foundV x, .pointer (some ⟨d, 0, none⟩)] w1 fun e w' => ∃ v, e = .returned v ∧ SRow w.heap.size w1.heap.size d w' v ops ∧ Below w1.heap.size w1 w') ∧ ops.length ≤ 1000 ∧ ∀ x ∈ ops, x.bs.length ≤ 9000 := by
    intro w1 hb x hx
    obtain ⟨old, l, T, d1, d2, d3, d4, d5, d6, d7, d8⟩ := hx.data
    have := repairs_any (hO.below hb) (by omega) x N hx.n1 hx.n2 hx.n w.heap.size hb.size old d1 d2 (by omega) l d4 d5 (by omega) T d7
    rw [← d8] at this
    exact And.intro this (by rw [d8]; exact rep_bounds d3 d6)
  have HR := Lib.hid hR
  clear hR
  have HT := Lib.hid (fun w1 (hb : Below w.heap.size w w1) (a : Option Addr) (n c : Nat) (L : List SK) h1 h2 h3 h4 h5 h6 => take_does (hO.more hb (Y := fun b => X b ∨ (w.heap.size ≤ b ∧ b < w1.heap.size)) (fun _ h => h)) a n c L ops h1 h2 h3 hnt (T := 9000) h4 (by omega) (by omega) h5 h6)
  have HW := Lib.hid (fun n size W => wnew_any d n size most W)
  have Hsz := Lib.hid hO.base.size
  have HX := Lib.hid (show ∀ b, X b → b < w.heap.size by obtain ⟨_, _, _, h, _⟩ := hO; exact h)
  clear hO hf hQ hl hnt hU
  go_enter Tryz.func21, Tryz.ntmps21
  go_wp2_with fail
  refine HF.out.mono ?_
  rintro e w1 ⟨x, z, rfl, hq, hb⟩
  obtain ⟨rfl, hx⟩ := HQ.out _ _ _ hq
  unfold foundV
  obtain ⟨w2, hw2⟩ : ∃ w2, w2 = w1.alloc (.cells #[.slice x.ra x.rn x.rc, .slice x.oa x.on x.oc, .int .i64 x.n, .bool x.mark, .slice x.pa x.pn x.pc, .slice x.wa x.wn x.wc, .int .i64 x.tn, .bool x.no] 107) := ⟨_, rfl⟩
  have hb12 : Below w1.heap.size w1 w2 := by rw [hw2]; exact (Below.refl _ _).alloc (Nat.le_refl _) _
  have hb2 : Below w.heap.size w w2 := hb.trans (hb12.mono hb.size)
  have hB2 : w2.heap[w1.heap.size]? = some (.cells #[.slice x.ra x.rn x.rc, .slice x.oa x.on x.oc, .int .i64 x.n, .bool x.mark, .slice x.pa x.pn x.pc, .slice x.wa x.wn x.wc, .int .i64 x.tn, .bool x.no] 107 (0, 0)) := by rw [hw2]; exact heap_alloc_new _ _
  have Hx2 := Lib.hid (hx.grow hb12)
  have Hb2 := Lib.hid hb2
  have HB2 := Lib.hid hB2
  have hz := hb.size
  obtain ⟨hR2, hl1, hl2⟩ := HR.out w2 hb2 x (hx.grow hb12)
  unfold foundV at hR2
  have HR2 := Lib.hid hR2
  have Hl1 := Lib.hid hl1
  have Hl2 := Lib.hid hl2
  clear hb hb12 hb2 hB2 hx hq hR2 hl1 hl2
  go_wp2_with fail
  rw [← hw2]
  refine HR2.out.mono ?_
  rintro e w3 ⟨v, rfl, hS, hb3⟩
  obtain ⟨a, c, Ks, rfl, hKl, hrow, hst⟩ := srow_row hS
  have Hb3 := Lib.hid (Hb2.out.trans (hb3.mono Hb2.out.size))
  have hw23 := Hb2.out.size
  have HT3 := Lib.hid (HT.out w3 Hb3.out a ops.length c Ks hKl rfl Hl1.out Hl2.out (fun h0 => by
      obtain ⟨b, o, e1, e2, e3, e4⟩ := hrow h0
      exact ⟨b, o, e1, .inr ⟨by omega, e3⟩, e4⟩) (fun j h h' => hst j h h' w0 _ w3 (fun _ _ _ => rfl) (fun b hb hlt => .inr ⟨hb.1, hlt⟩)))
  have HB3 := Lib.hid ((hb3.block _ (Array.getElem?_eq_some_iff.1 HB2.out).1).trans HB2.out)
  have Hx3 := Lib.hid (Hx2.out.grow hb3)
  clear hS hrow hst hb3 hw2
  generalize stepsM ops M = rr at *
  go_wp2_with fail
  refine HT3.out.mono ?_
  rintro e w4 ⟨rfl, ho4, hx4, hb4, hz4⟩
  by_cases hr : rr.2 = 0
  · rw [hr]
    obtain rfl := Hx3.out.size
    have hB4 := (hx4 w1.heap.size (.inr ⟨hz, (Array.getElem?_eq_some_iff.1 HB3.out).1⟩)).trans HB3.out
    rw [Hx3.out.n] at hB4
    obtain ⟨c0, c1, c2, c3, c4, c5, c6, c7, cf⟩ := box8 hB4
    have Ho4 := Lib.hid ho4
    have Hx4 := Lib.hid hx4
    have Hz4 := Lib.hid hz4
    have Hr := Lib.hid hr
    have hlt4 := (Array.getElem?_eq_some_iff.1 hB4).1
    have HK := Lib.hid (fun W (h : Below w4.heap.size w4 W) => And.intro ((h.cell (p := ⟨w1.heap.size, 0, none⟩) hlt4).trans c0) (And.intro ((h.cell (p := ⟨w1.heap.size, 2, none⟩) hlt4).trans c2) ((h.cell (p := ⟨w1.heap.size, 5, none⟩) hlt4).trans c5)))
    have HWN := Lib.hid (HW.out N x.wn)
    clear ho4 hx4 hb4 hB4 hz4 hr
    obtain ⟨ra, rn, rc, oa, on, oc, xn, mk, pa, pn, pc, wa, wn, wc, tn, no⟩ := x
    simp only at *
    go_upto_region 6 with fail
    go_cut [4, 5, 6] (fun p q z wx => ∃ g, p = .pointer (some ⟨g, 0, none⟩) ∧ q = .slice ra rn rc ∧ z = .int .i64 0 ∧ w4.heap.size ≤ g ∧ wx.heap[g]? = some (.cells #[.int .i64 (N : Int), .int .i64 (wn : Int), .int .i64 0, .pointer (some ⟨d, 0, none⟩), .int .i64 most] 129 (0, 0)) ∧ Below w4.heap.size w4 wx)
    case first =>
      go_region_held3 (fun w' => w'.cell? ⟨w1.heap.size, 0, none⟩ = some (.slice ra rn rc) ∧ w'.cell? ⟨w1.heap.size, 2, none⟩ = some (.int .i64 (N : Int)) ∧ w'.cell? ⟨w1.heap.size, 5, none⟩ = some (.slice wa wn wc))
        (first | exact HK.out _ (by (repeat (first | assumption | exact Below.refl _ _ | refine Below.drew ?_ | refine Below.alloc ?_ (by (first | exact Nat.le_refl _ | (simp; done) | (simp; omega) | omega)) _))))
        (first
          | (go_at_call 67; (with_reducible refine (HWN.out _).mono ?_); rintro e w5 ⟨rfl, rfl⟩))
      all_goals go_wp2_with fail
      all_goals go_meet
      all_goals exact ⟨_, rfl, rfl, rfl, Nat.le_refl _, heap_alloc_new _ _, by (repeat (first | assumption | exact Below.refl _ _ | refine Below.drew ?_ | refine Below.alloc ?_ (by (first | exact Nat.le_refl _ | (simp; done) | (simp; omega) | omega)) _))⟩
    case rest =>
      obtain ⟨g, rfl, rfl, rfl, hg, hG, hb5⟩ := hcut
      have Hb5 := Lib.hid hb5
      have HG := Lib.hid hG
      have hw3 := Hb3.out.size
      have hz4 := Hz4.out
      have HP := Lib.hid (partsZ_kept (Z' := fun b => w.heap.size ≤ b ∧ b < w3.heap.size) Hx3.out.recs (w' := wc) (fun b h1 h2 => (Hb5.out.block b (Nat.lt_of_lt_of_le h2 hz4)).trans (Hx4.out b (.inr ⟨h1, h2⟩))) (fun _ h => h) (fun b h1 h2 => ⟨h1, h2⟩))
      clear hb5 hG
      obtain ⟨hrl, hkp⟩ := HP.out
      subst hrl
      have Hkp := Lib.hid hkp
      clear hkp HP
      go_wp2
      refine bodyPost_ret (results_tmp3 rfl _ _ _) rfl (.inr ⟨Hr.out, g, ra, rc, fun b => w.heap.size ≤ b ∧ b < w3.heap.size, rfl, fun b h => h.1, by omega, fun h => by omega, ⟨?_, .inr (.inr rfl), ?_, ?_⟩, ?_, Hkp.out⟩)
      · exact (Ho4.out.sub (fun b hb => hb)).more Hb5.out (fun b hb => by
          rcases hb with h | h | h
          · exact .inl (.inl h)
          · exact .inl (.inr h)
          · exact .inr ⟨by omega, by have := (Array.getElem?_eq_some_iff.1 HG.out).1; omega⟩)
      · have := Hsz.out
        show w0.heap.size ≤ g
        omega
      · exact HG.out
      · intro b hb
        have h1 := HX.out b hb
        exact (Hb5.out.block b (by omega)).trans ((Hx4.out b (.inl hb)).trans (Hb3.out.block b h1))
  · have hr1 : (rr.2 != 0) = true := by simp [hr]
    have hr2 : (rr.2 == 0) = false := by simp [hr]
    have Ho4 := Lib.hid ho4
    have Hx4 := Lib.hid hx4
    have Hb4 := Lib.hid hb4
    have Hz4 := Lib.hid hz4
    have Hr := Lib.hid hr
    clear ho4 hx4 hb4 hz4 hr
    go_wp2
    refine bodyPost_ret (results_tmp3 rfl _ _ _) rfl (.inl ⟨Hr.out, rfl, Ho4.out.sub (fun b hb => Or.inl hb), fun b hb => ?_, ?_, ?_⟩)
    · exact (Hx4.out b (.inl hb)).trans (Hb3.out.block b (HX.out b hb))
    · exact (Hb3.out.mono Hsz.out).trans Hb4.out
    · exact Nat.le_trans Hb3.out.size Hz4.out

theorem asc_sub : ∀ (xs ys : List Int), xs.Pairwise (· < ·) → (∀ x ∈ xs, x ∈ ys) → xs.length ≤ ys.length
  | [], _, _, _ => Nat.zero_le _
  | x :: xs, ys, hp, hs => by
    obtain ⟨h1, h2⟩ := List.pairwise_cons.1 hp
    have hx := hs x (List.mem_cons_self ..)
    have ih := asc_sub xs (ys.erase x) h2 (fun y hy => by
      have hne : y ≠ x := fun e => by have := h1 y hy; omega
      exact (List.mem_erase_of_ne hne).2 (hs y (List.mem_cons_of_mem _ hy)))
    rw [List.length_erase_of_mem hx] at ih
    have : 0 < ys.length := List.length_pos_of_mem hx
    rw [List.length_cons]
    omega

set_option maxHeartbeats 1600000 in
theorem sopen_any {w0 : World} {X : Nat → Prop} {w : World} {d : Nat} {M : DM} (hO : Own w0 X w d M) (hd : M.down = false) (hl : M.fs.length ≤ 900) {U : Nat} (hnt : Neat M 900 U) (hU : U ≤ 9000) (hnm : ∀ f ∈ M.fs, f.n.length ≤ 9223372036854775807) (ps : List PS) (hA : AllOf M ps) (most : Int) :
    Calls Tryz.prog 21 #[.pointer (some ⟨d, 0, none⟩), .int .i64 most] w fun e w' => ∃ r, IsOpen M ps r ∧ SOEnd w0 X w d most r e w' := by
  have hus := hnt.small.used
  have hfind := find_up hO hd (by omega) (by omega) hnm ps hA
  have hX : ∀ b, X b → b < w.heap.size := by obtain ⟨_, _, _, h, _⟩ := hO; exact h
  by_cases h0 : ps = []
  · subst h0
    refine (sopen_steps hO hl hnt (by omega) hfind (repNone M) 1 0 [] (fun x z w1 hq => ?_) most).mono fun e w' h => ⟨_, .inr ⟨_, _, _, _, .inl ⟨rfl, rfl, rfl, rfl, rfl⟩, rfl⟩, h⟩
    rcases hq with ⟨_, rfl, rfl⟩ | ⟨k, ⟨hk, _⟩, _⟩
    · refine ⟨rfl, rfl, Nat.le_refl _, by decide, ⟨[], [], 0, ⟨rfl, Nat.le_refl _, by decide, fun _ => rfl, fun h => absurd h (Nat.lt_irrefl _)⟩, (fun _ h => by cases h), Nat.zero_le _, ⟨rfl, Nat.le_refl _, by decide, (fun _ h => by cases h), fun _ => rfl, fun h => absurd h (Nat.lt_irrefl _)⟩, fun h => absurd h (Nat.lt_irrefl _), Nat.zero_le _, rfl, rfl⟩, rfl, PartsZ.nil _ _ _⟩
    · exact absurd hk (by simp)
  · have hp : 0 < ps.length := List.length_pos_iff.2 h0
    obtain ⟨k, hk⟩ := first_ex ps hp
    by_cases hg : Good (ps.drop k)
    · have hlast : lastP ps hp ∈ ps := List.getElem_mem _
      obtain ⟨hN0, hN1⟩ := allOf_pos hA (lastP ps hp).n (List.mem_map.2 ⟨_, hlast, rfl⟩)
      obtain ⟨N, hN⟩ : ∃ N : Nat, (lastP ps hp).n = (N : Int) := ⟨(lastP ps hp).n.toNat, by omega⟩
      have hrd := readM_len (nmB (lastP ps hp).n.toNat) M
      have hsp := congrArg List.length (hA.2 _ hlast).eq
      rw [List.length_append] at hsp
      have hpl : ps.length ≤ M.fs.length := by
        have h1 := asc_sub (ps.map PS.n) (M.fs.map fun f => ((segNum (nmL f.n) : Nat) : Int)) (allOf_asc hA) (fun x hx => by
          obtain ⟨l, hl, _, rfl⟩ := (hA.1.2 x).1 hx
          obtain ⟨f, hf, rfl⟩ := List.mem_map.1 hl
          exact List.mem_map.2 ⟨f, hf, rfl⟩)
        rw [List.length_map, List.length_map] at h1
        exact h1
      refine (sopen_steps hO hl hnt (by omega) hfind (repOps M ((ps.take k).map PS.n) N (joinL (lastP ps hp).ls) (lastP ps hp).t.length) N (joinL (lastP ps hp).ls).length (recsL (ps.drop k)) (fun x z w1 hq => ?_) most).mono fun e w' h => ⟨_, .inr ⟨_, _, _, _, .inr ⟨k, hp, hk, hg, hN, rfl, rfl, rfl⟩, rfl⟩, h⟩
      rcases hq with ⟨h, _⟩ | ⟨k', hk', h⟩
      · exact absurd h h0
      obtain rfl := firstAt_uniq hk hk'
      rcases h with ⟨h, _⟩ | ⟨_, rfl, h1, h2, ⟨h3, h4, h5, h6, h7⟩, h8⟩
      · exact absurd hg h
      · refine ⟨rfl, h4.trans hN, by omega, by omega, ⟨(ps.take k).map PS.n, joinL (lastP ps hp).ls, (lastP ps hp).t.length, h2, fun y hy => ?_, ?_, h5, fun h0 a ha => h6 a ha h0, by omega, h7, by rw [h8]; rfl⟩, h5.len.symm, h1⟩
        · obtain ⟨p, hp', rfl⟩ := List.mem_map.1 hy
          have := allOf_pos hA p.n (List.mem_map.2 ⟨p, List.mem_of_mem_take hp', rfl⟩)
          omega
        · rw [List.length_map, List.length_take]
          omega
    · have hbr : BrokenAt ps := ⟨k, hk, hg⟩
      refine (sopen_code (z0 := 11) (by decide) (fun x z w1 hq => ?_) hfind).mono fun e w' h => ⟨_, .inl ⟨hbr, rfl⟩, .inl ⟨(by show (11 : Int) ≠ 0; decide), h.1, ?_⟩⟩
      · rcases hq with ⟨h, _⟩ | ⟨k', hk', h⟩
        · exact absurd h h0
        obtain rfl := firstAt_uniq hk hk'
        rcases h with ⟨_, _, h⟩ | ⟨h, _⟩
        · exact h
        · exact absurd h hg
      · exact ⟨hO.below h.2, fun b hb => h.2.block b (hX b hb), h.2.mono hO.base.size, h.2.size⟩
end Go.Proofs.YtmiepigieajpcaaGreat

/- Files found by their names: after a removal, a change, a crash. -/
namespace Go.Proofs.YtmiepigieajpcaaGreat
open Go.RowKit Go.Maps

section
variable {α : Type}

theorem fd_del (f : α → List UInt8) (n m : List UInt8) (l : List α) : findN f n (delN f m l) = if n = m then none else findN f n l := by
  unfold findN delN
  rw [List.find?_filter]
  split
  · next h =>
    subst h
    rw [List.find?_eq_none]
    intro x _ hx
    have hx := of_decide_eq_true hx
    simp only [Bool.not_eq_true'] at hx
    rw [hx.2] at hx
    exact absurd hx.1 (by simp)
  · next h =>
    congr 1
    funext x
    by_cases e : f x = n
    · simp [e, h]
    · simp [e]

theorem fd_ins (f : α → List UInt8) (n : List UInt8) (x : α) : ∀ l : List α, (∀ y ∈ l, f y ≠ f x) → findN f n (insN f x l) = if n = f x then some x else findN f n l
  | [], _ => by
    unfold insN findN
    by_cases e : n = f x
    · simp [e]
    · simp [e, Ne.symm e]
  | y :: l, h => by
    have hy := h y (List.mem_cons_self ..)
    have ih := fd_ins f n x l (fun z hz => h z (List.mem_cons_of_mem _ hz))
    unfold insN
    split
    · unfold findN
      by_cases e : n = f x
      · simp [e]
      · simp [e, Ne.symm e]
    · unfold findN at ih ⊢
      by_cases e : f y = n
      · have : n ≠ f x := fun e2 => hy (e.trans e2)
        simp [e, this]
      · rw [List.find?_cons_of_neg (by simpa using e), List.find?_cons_of_neg (by simpa using e)]
        exact ih

theorem fd_put (f : α → List UInt8) (n : List UInt8) (x : α) (l : List α) : findN f n (putN f x l) = if n = f x then some x else findN f n l := by
  unfold putN
  rw [fd_ins f n x _ (fun y hy => by
    unfold delN at hy
    have := (List.mem_filter.1 hy).2
    simpa using this), fd_del]
  split
  · rfl
  · rfl

theorem fd_set (f : α → List UInt8) (n : List UInt8) (x : α) : ∀ l : List α, findN f n (setN f x l) = if n = f x then (findN f n l).map (fun _ => x) else findN f n l
  | [] => by unfold setN findN; simp
  | y :: l => by
    have ih := fd_set f n x l
    unfold setN findN at ih ⊢
    rw [List.map_cons]
    by_cases e : f y = f x
    · rw [if_pos (by simpa using e)]
      by_cases e2 : n = f x
      · subst e2
        simp [e]
      · rw [if_neg e2] at ih ⊢
        rw [List.find?_cons_of_neg (by simpa using fun h => e2 h.symm), List.find?_cons_of_neg (by simpa [e] using fun h => e2 h.symm)]
        exact ih
    · rw [if_neg (by simpa using e)]
      by_cases e3 : f y = n
      · have : n ≠ f x := fun h => e (e3.trans h)
        rw [if_neg this, List.find?_cons_of_pos (by simpa using e3), List.find?_cons_of_pos (by simpa using e3)]
      · rw [List.find?_cons_of_neg (by simpa using e3), List.find?_cons_of_neg (by simpa using e3)]
        exact ih
end

/-- A segment's bytes. -/
def segC (fs : List F) (N : Nat) : Option (List Nat) := (findN F.n (nmB N) fs).map F.b

theorem fd_crash (n : List UInt8) (ks : List Int) : ∀ (fs : List F) (o : Nat), (findN F.n n fs = none ∧ findN F.n n (fs.mapIdx fun i f => cutF f (ks.getD (o + i) 0)) = none) ∨ ∃ f k, findN F.n n fs = some f ∧ findN F.n n (fs.mapIdx fun i f => cutF f (ks.getD (o + i) 0)) = some (cutF f k)
  | [], _ => .inl ⟨rfl, rfl⟩
  | y :: fs, o => by
    rw [List.mapIdx_cons]
    have ih := fd_crash n ks fs (o + 1)
    have e0 : (fun i f => cutF f (ks.getD (o + (i + 1)) 0)) = fun i f => cutF f (ks.getD (o + 1 + i) 0) := by
      funext i f
      rw [show o + (i + 1) = o + 1 + i by omega]
    rw [e0]
    unfold findN at ih ⊢
    by_cases e : y.n = n
    · exact .inr ⟨y, ks.getD (o + 0) 0, List.find?_cons_of_pos (by simpa using e), List.find?_cons_of_pos (by simpa [cutF] using e)⟩
    · rw [List.find?_cons_of_neg (by simpa using e), List.find?_cons_of_neg (by simpa [cutF] using e)]
      exact ih

theorem cutF_sync {f : F} (h : f.d = f.b.length) (k : Int) : cutF f k = f := by
  unfold cutF
  rw [h, Nat.sub_self, Nat.min_zero, Nat.add_zero, List.take_length, ← h]

/-- A crash leaves files whose bytes are all durable. -/
theorem fd_crash_sync {n : List UInt8} (ks : List Int) {M : DM} (h : ∀ f, findN F.n n M.fs = some f → f.d = f.b.length) : findN F.n n (crashM ks M).fs = findN F.n n M.fs := by
  have e : (crashM ks M).fs = M.fs.mapIdx fun i f => cutF f (ks.getD (0 + i) 0) := by
    unfold crashM
    simp
  rw [e]
  rcases fd_crash n ks M.fs 0 with ⟨h1, h2⟩ | ⟨f, k, h1, h2⟩
  · rw [h1, h2]
  · rw [h1, h2, cutF_sync (h f h1)]
end Go.Proofs.YtmiepigieajpcaaGreat

/- The segments of a disk by what each number's file has; what removals and cuts make of them. -/
namespace Go.Proofs.YtmiepigieajpcaaGreat
open Go.RowKit Go.Maps

/-- The segments, by their contents. -/
def SegsC (fs : List F) (ps : List PS) : Prop :=
  Asc (ps.map PS.n) ∧ (∀ p ∈ ps, ∃ (N : Nat) (b : List Nat), p.n = (N : Int) ∧ 1 ≤ N ∧ N ≤ 99999999 ∧ segC fs N = some b ∧ Splits b p.ls p.t) ∧ ∀ N : Nat, 1 ≤ N → N ≤ 99999999 → segC fs N ≠ none → (N : Int) ∈ ps.map PS.n

theorem segC_some {fs : List F} {N : Nat} {b : List Nat} (h : segC fs N = some b) : ∃ f, findN F.n (nmB N) fs = some f ∧ f.b = b := by
  unfold segC at h
  cases hf : findN F.n (nmB N) fs with
  | none => rw [hf] at h; cases h
  | some f => rw [hf] at h; exact ⟨f, rfl, Option.some.inj h⟩

theorem allOf_segs {M : DM} (hd : M.down = false) {ps : List PS} : AllOf M ps ↔ SegsC M.fs ps := by
  constructor
  · intro hA
    refine ⟨hA.1.1, fun p hp => ?_, fun N h1 h2 h3 => ?_⟩
    · obtain ⟨l, hl1, hl2, hl3⟩ := (hA.1.2 p.n).1 (List.mem_map.2 ⟨p, hp, rfl⟩)
      obtain ⟨f, hf, rfl⟩ := List.mem_map.1 hl1
      have hnb := nmB_of_num hl2
      have hle := segNum_le (nmL f.n)
      obtain ⟨f', hf'⟩ := findN_have (n := nmB (segNum (nmL f.n))) ⟨f, hf, hnb.symm⟩
      have hs := hA.2 p hp
      rw [hl3, Int.toNat_natCast, readM_up hd hf'] at hs
      exact ⟨_, f'.b, hl3, hl2, hle, by unfold segC; rw [hf']; rfl, hs⟩
    · cases hs : segC M.fs N with
      | none => exact absurd hs h3
      | some b =>
        obtain ⟨f, hf, _⟩ := segC_some hs
        obtain ⟨hm, hn⟩ := findN_some hf
        refine (hA.1.2 _).2 ⟨nmL f.n, List.mem_map.2 ⟨f, hm, rfl⟩, ?_, ?_⟩ <;> rw [hn, nmL_nmB, segNum_name h2]
        omega
  · rintro ⟨h1, h2, h3⟩
    refine ⟨⟨h1, fun x => ⟨fun hx => ?_, fun hx => ?_⟩⟩, fun p hp => ?_⟩
    · obtain ⟨p, hp, rfl⟩ := List.mem_map.1 hx
      obtain ⟨N, b, e, g1, g2, g3, _⟩ := h2 p hp
      obtain ⟨f, hf, _⟩ := segC_some g3
      obtain ⟨hm, hn⟩ := findN_some hf
      refine ⟨nmL f.n, List.mem_map.2 ⟨f, hm, rfl⟩, ?_, ?_⟩ <;> rw [hn, nmL_nmB, segNum_name g2]
      · omega
      · exact e
    · obtain ⟨l, hl1, hl2, rfl⟩ := hx
      obtain ⟨f, hf, rfl⟩ := List.mem_map.1 hl1
      have hnb := nmB_of_num hl2
      obtain ⟨f', hf'⟩ := findN_have (n := nmB (segNum (nmL f.n))) ⟨f, hf, hnb.symm⟩
      refine h3 _ hl2 (segNum_le _) ?_
      unfold segC
      rw [hf']
      simp
    · obtain ⟨N, b, e, g1, g2, g3, g4⟩ := h2 p hp
      obtain ⟨f, hf, hb⟩ := segC_some g3
      rw [e, Int.toNat_natCast, readM_up hd hf, hb]
      exact g4

theorem SegsC.same {fs fs' : List F} {ps : List PS} (h : SegsC fs ps) (he : ∀ N : Nat, 1 ≤ N → N ≤ 99999999 → segC fs' N = segC fs N) : SegsC fs' ps := by
  obtain ⟨h1, h2, h3⟩ := h
  refine ⟨h1, fun p hp => ?_, fun N g1 g2 g3 => h3 N g1 g2 (by rwa [he N g1 g2] at g3)⟩
  obtain ⟨N, b, e, g1, g2, g3, g4⟩ := h2 p hp
  exact ⟨N, b, e, g1, g2, by rw [he N g1 g2]; exact g3, g4⟩

/-- The first segment is removed. -/
theorem SegsC.tail {fs fs' : List F} {p : PS} {ps : List PS} (h : SegsC fs (p :: ps)) (he : ∀ N : Nat, 1 ≤ N → N ≤ 99999999 → segC fs' N = if (N : Int) = p.n then none else segC fs N) : SegsC fs' ps := by
  obtain ⟨h1, h2, h3⟩ := h
  rw [List.map_cons] at h1
  have hlt := (List.pairwise_cons.1 h1).1
  refine ⟨(List.pairwise_cons.1 h1).2, fun q hq => ?_, fun N g1 g2 g3 => ?_⟩
  · obtain ⟨N, b, e, g1, g2, g3, g4⟩ := h2 q (List.mem_cons_of_mem _ hq)
    refine ⟨N, b, e, g1, g2, ?_, g4⟩
    rw [he N g1 g2, if_neg ?_]
    · exact g3
    · intro h
      have := hlt q.n (List.mem_map.2 ⟨q, hq, rfl⟩)
      omega
  · rw [he N g1 g2] at g3
    by_cases hN : (N : Int) = p.n
    · rw [if_pos hN] at g3
      exact absurd rfl g3
    · rw [if_neg hN] at g3
      have := h3 N g1 g2 g3
      rw [List.map_cons] at this
      rcases List.mem_cons.1 this with h | h
      · exact absurd h hN
      · exact h

/-- What is torn of the last segment is cut. -/
theorem SegsC.cut {fs fs' : List F} {p : PS} {qs : List PS} (h : SegsC fs (qs ++ [p])) (he : ∀ N : Nat, 1 ≤ N → N ≤ 99999999 → segC fs' N = if (N : Int) = p.n then some (joinL p.ls) else segC fs N) : SegsC fs' (qs ++ [⟨p.n, p.ls, []⟩]) := by
  obtain ⟨h1, h2, h3⟩ := h
  have hm : (qs ++ [(⟨p.n, p.ls, []⟩ : PS)]).map PS.n = (qs ++ [p]).map PS.n := by simp
  refine ⟨by rw [hm]; exact h1, fun q hq => ?_, fun N g1 g2 g3 => ?_⟩
  · rcases List.mem_append.1 hq with hq | hq
    · obtain ⟨N, b, e, g1, g2, g3, g4⟩ := h2 q (List.mem_append.2 (.inl hq))
      refine ⟨N, b, e, g1, g2, ?_, g4⟩
      rw [he N g1 g2, if_neg ?_]
      · exact g3
      · intro h
        unfold Asc at h1
        rw [List.map_append, List.pairwise_append] at h1
        have := h1.2.2 q.n (List.mem_map.2 ⟨q, hq, rfl⟩) p.n (by simp)
        omega
    · obtain rfl := List.mem_singleton.1 hq
      obtain ⟨N, b, e, g1, g2, g3, g4⟩ := h2 p (by simp)
      refine ⟨N, joinL p.ls, e, g1, g2, ?_, splits_all _ g4.recs⟩
      rw [he N g1 g2, if_pos e.symm]
  · rw [hm]
    rw [he N g1 g2] at g3
    by_cases hN : (N : Int) = p.n
    · rw [hN]; simp
    · rw [if_neg hN] at g3
      exact h3 N g1 g2 g3

/-- Every segment is durable. -/
def SegSync (fs : List F) : Prop := ∀ (N : Nat) (f : F), 1 ≤ N → N ≤ 99999999 → findN F.n (nmB N) fs = some f → f.d = f.b.length

theorem segs_crash {M : DM} (h : SegSync M.fs) (ks : List Int) (N : Nat) (h1 : 1 ≤ N) (h2 : N ≤ 99999999) : segC (crashM ks M).fs N = segC M.fs N := by
  unfold segC
  rw [fd_crash_sync ks (fun f hf => h N f h1 h2 hf)]

theorem segSync_crash {M : DM} (h : SegSync M.fs) (ks : List Int) : SegSync (crashM ks M).fs := by
  intro N f h1 h2 hf
  rw [fd_crash_sync ks (fun f hf => h N f h1 h2 hf)] at hf
  exact h N f h1 h2 hf
end Go.Proofs.YtmiepigieajpcaaGreat

/- What Open leaves of a disk, in size and names. -/
namespace Go.Proofs.YtmiepigieajpcaaGreat
open Go.RowKit Go.Maps

theorem stepsM_neat' : ∀ (ops : List SO) {M : DM} {N U : Nat}, Neat M N U → Neat (stepsM ops M).1 (N + ops.length) (U + (ops.map fun x => x.bs.length).sum)
  | [], _, _, _, h => h
  | x :: ops, M, N, U, h => by
    have h1 := stepM_neat h x.k x.nm x.tt x.bs
    have e : stepsM (x :: ops) M = if (soM x M).2 = 0 then stepsM ops (soM x M).1 else soM x M := rfl
    rw [e, List.map_cons, List.sum_cons, List.length_cons]
    split
    · exact (stepsM_neat' ops h1).mono (by omega) (by omega)
    · exact h1.mono (by omega) (by omega)

theorem rep_sum {M : DM} {ps : List PS} {ops : List SO} {N size : Nat} {recs : List (List Nat)} (h : RepOf M ps ops N size recs) : (ops.map fun x => x.bs.length).sum ≤ size ∧ ((∀ hp : 0 < ps.length, (lastP ps hp).t = []) → (ops.map fun x => x.bs.length).sum = 0) := by
  have z : ∀ l : List SO, (∀ x ∈ l, x.bs = []) → (l.map fun x => x.bs.length).sum = 0 := by
    intro l hl
    induction l with
    | nil => rfl
    | cons x l ih =>
      rw [List.map_cons, List.sum_cons, ih (fun y hy => hl y (List.mem_cons_of_mem _ hy)), hl x (List.mem_cons_self ..)]
      rfl
  have hc : ∀ x ∈ cleanM [cutB, newB] M, x.bs = [] := by
    intro x hx
    unfold cleanM at hx
    obtain ⟨n, _, rfl⟩ := List.mem_map.1 hx
    rfl
  rcases h with ⟨rfl, rfl, rfl, rfl, rfl⟩ | ⟨k, hp, _, _, _, rfl, _, rfl⟩
  · have := z (repNone M) (fun x hx => by
      unfold repNone at hx
      rcases List.mem_append.1 hx with h | h
      · exact hc x h
      · rw [List.mem_singleton.1 h])
    exact ⟨by omega, fun _ => this⟩
  · have hold : ∀ x ∈ ((ps.take k).map PS.n).map (fun n => (⟨5, nmB n.toNat, [], []⟩ : SO)), x.bs = [] := by
      intro x hx
      obtain ⟨n, _, rfl⟩ := List.mem_map.1 hx
      rfl
    have e : ((repOps M ((ps.take k).map PS.n) N (joinL (lastP ps hp).ls) (lastP ps hp).t.length).map fun x => x.bs.length).sum = ((if (lastP ps hp).t.length = 0 then [] else cutOps (nmB N) (joinL (lastP ps hp).ls)).map fun x => x.bs.length).sum := by
      unfold repOps
      simp only [List.map_append, List.sum_append]
      have h1 := z _ hc
      have h2 := z _ hold
      rw [h1, h2]
      simp
    rw [e]
    constructor
    · split
      · simp
      · simp [cutOps]
    · intro ht
      rw [if_pos (by rw [ht hp]; rfl)]
      rfl

theorem rep_len {M : DM} {ps : List PS} {ops : List SO} {N size : Nat} {recs : List (List Nat)} (h : RepOf M ps ops N size recs) : ops.length ≤ ps.length + 7 := by
  rcases h with ⟨rfl, rfl, _⟩ | ⟨k, hp, _, _, _, _, _, rfl⟩
  · have := cleanM_len [cutB, newB] M
    unfold repNone
    rw [List.length_append]
    simp only [List.length_cons, List.length_nil] at *
    omega
  · have := repOps_len M ((ps.take k).map PS.n) N (joinL (lastP ps hp).ls) (lastP ps hp).t.length
    rw [List.length_map, List.length_take] at this
    omega

theorem asc_sub' : ∀ (xs ys : List Int), xs.Pairwise (· < ·) → (∀ x ∈ xs, x ∈ ys) → xs.length ≤ ys.length
  | [], _, _, _ => Nat.zero_le _
  | x :: xs, ys, hp, hs => by
    obtain ⟨h1, h2⟩ := List.pairwise_cons.1 hp
    have hx := hs x (List.mem_cons_self ..)
    have ih := asc_sub' xs (ys.erase x) h2 (fun y hy => by
      have hne : y ≠ x := fun e => by have := h1 y hy; omega
      exact (List.mem_erase_of_ne hne).2 (hs y (List.mem_cons_of_mem _ hy)))
    rw [List.length_erase_of_mem hx] at ih
    have : 0 < ys.length := List.length_pos_of_mem hx
    rw [List.length_cons]
    omega

theorem segs_many {M : DM} {ps : List PS} (hA : AllOf M ps) : ps.length ≤ M.fs.length := by
  have h1 := asc_sub' (ps.map PS.n) (M.fs.map fun f => ((segNum (nmL f.n) : Nat) : Int)) (allOf_asc hA) (fun x hx => by
    obtain ⟨l, hl, _, rfl⟩ := (hA.1.2 x).1 hx
    obtain ⟨f, hf, rfl⟩ := List.mem_map.1 hl
    exact List.mem_map.2 ⟨f, hf, rfl⟩)
  rw [List.length_map, List.length_map] at h1
  exact h1

theorem last_small {M : DM} {ps : List PS} (hA : AllOf M ps) (hp : 0 < ps.length) : (joinL (lastP ps hp).ls).length ≤ usedF M.fs := by
  have hsp := congrArg List.length (hA.2 _ (List.getElem_mem (by omega : ps.length - 1 < ps.length))).eq
  rw [List.length_append] at hsp
  have := readM_len (nmB (ps[ps.length - 1]'(by omega)).n.toNat) M
  unfold lastP
  omega

theorem rep_size {M : DM} {ps : List PS} (hA : AllOf M ps) {ops : List SO} {N size : Nat} {recs : List (List Nat)} (h : RepOf M ps ops N size recs) : size ≤ usedF M.fs := by
  rcases h with ⟨_, _, _, rfl, _⟩ | ⟨k, hp, _, _, _, rfl, _, _⟩
  · exact Nat.zero_le _
  · exact last_small hA hp

/-- The names of files are short. -/
def Named (M : DM) : Prop := ∀ f ∈ M.fs, f.n.length ≤ 9223372036854775807

theorem mem_setN' {x y : F} {fs : List F} (h : y ∈ setN F.n x fs) : y = x ∨ y ∈ fs := by
  unfold setN at h
  obtain ⟨z, hz, rfl⟩ := List.mem_map.1 h
  by_cases e : (F.n z == F.n x) = true
  · rw [if_pos e]; exact .inl rfl
  · rw [if_neg e]; exact .inr hz

theorem named_step {M : DM} (h : Named M) (k : Int) {nm tt : List UInt8} (bs : List Nat) (h1 : nm.length ≤ 9223372036854775807) (h2 : tt.length ≤ 9223372036854775807) : Named (stepM k nm tt bs M).1 := by
  have chg : ∀ {act : DM → DM × Int}, (∀ M', M'.fs = M.fs → Named (act M').1) → Named (chgM M nm act).1 := by
    intro act ha
    have hf : Named (failM M) := by unfold Named; rw [failM_fs' M]; exact h
    unfold chgM
    split
    · exact hf
    · split
      · exact ha _ (failM_fs' M)
      · exact hf
  have on : ∀ {M' : DM} {act : F → DM → DM × Int}, M'.fs = M.fs → (∀ f, Named (act f M').1) → Named (onM nm act M').1 := by
    intro M' act he ha
    unfold onM
    split
    · unfold Named; rw [he]; exact h
    · exact ha _
  have put : ∀ {x : F} {fs : List F}, x.n.length ≤ 9223372036854775807 → (∀ f ∈ fs, f.n.length ≤ 9223372036854775807) → ∀ f ∈ putN F.n x fs, f.n.length ≤ 9223372036854775807 := by
    intro x fs hx hfs f hf
    unfold putN at hf
    rcases (mem_insN F.n _ _ _).1 hf with rfl | hf
    · exact hx
    · unfold delN at hf
      exact hfs f (List.mem_filter.1 hf).1
  have set : ∀ {x : F} {fs : List F}, x.n.length ≤ 9223372036854775807 → (∀ f ∈ fs, f.n.length ≤ 9223372036854775807) → ∀ f ∈ setN F.n x fs, f.n.length ≤ 9223372036854775807 := by
    intro x fs hx hfs f hf
    rcases mem_setN' hf with rfl | hf
    · exact hx
    · exact hfs f hf
  have del : ∀ {fs : List F}, (∀ f ∈ fs, f.n.length ≤ 9223372036854775807) → ∀ f ∈ delN F.n nm fs, f.n.length ≤ 9223372036854775807 := by
    intro fs hfs f hf
    unfold delN at hf
    exact hfs f (List.mem_filter.1 hf).1
  unfold stepM
  split
  · exact chg fun M' e => by
      have hM : Named M' := by unfold Named; rw [e]; exact h
      split
      · exact hM
      · exact put h1 hM
  · split
    · exact chg fun M' e => on e fun f => by
        have hM : Named M' := by unfold Named; rw [e]; exact h
        split
        · exact set h1 hM
        · exact hM
    · split
      · exact chg fun M' e => on e fun f => by
          have hM : Named M' := by unfold Named; rw [e]; exact h
          exact set h1 hM
      · split
        · exact chg fun M' e => on e fun f => by
            have hM : Named M' := by unfold Named; rw [e]; exact h
            split
            · exact put h2 (del hM)
            · exact hM
        · exact chg fun M' e => on e fun f => by
            have hM : Named M' := by unfold Named; rw [e]; exact h
            exact del hM

theorem named_steps : ∀ (ops : List SO) {M : DM}, Named M → (∀ x ∈ ops, x.nm.length ≤ 9223372036854775807 ∧ x.tt.length ≤ 9223372036854775807) → Named (stepsM ops M).1
  | [], _, h, _ => h
  | x :: ops, M, h, ho => by
    have h1 := named_step h x.k x.bs (ho x (List.mem_cons_self ..)).1 (ho x (List.mem_cons_self ..)).2
    have e : stepsM (x :: ops) M = if (soM x M).2 = 0 then stepsM ops (soM x M).1 else soM x M := rfl
    rw [e]
    split
    · exact named_steps ops h1 (fun y hy => ho y (List.mem_cons_of_mem _ hy))
    · exact h1

theorem rep_named {M : DM} {ps : List PS} {ops : List SO} {N size : Nat} {recs : List (List Nat)} (h : RepOf M ps ops N size recs) : ∀ x ∈ ops, x.nm.length ≤ 9223372036854775807 ∧ x.tt.length ≤ 9223372036854775807 := by
  have hc : ∀ x ∈ cleanM [cutB, newB] M, x.nm.length ≤ 9223372036854775807 ∧ x.tt.length ≤ 9223372036854775807 := by
    intro x hx
    unfold cleanM at hx
    obtain ⟨n, hn, rfl⟩ := List.mem_map.1 hx
    have := (List.mem_filter.1 hn).1
    simp only [List.mem_cons, List.not_mem_nil, or_false] at this
    rcases this with rfl | rfl <;> exact ⟨by decide, by decide⟩
  have hcb : cutB.length ≤ 9223372036854775807 := by decide
  have hb : ∀ N : Nat, (nmB N).length ≤ 9223372036854775807 := fun N => by rw [nmB_length]; decide
  rcases h with ⟨_, rfl, _⟩ | ⟨k, hp, _, _, _, _, _, rfl⟩
  · intro x hx
    unfold repNone at hx
    rcases List.mem_append.1 hx with h | h
    · exact hc x h
    · rw [List.mem_singleton.1 h]; exact ⟨hb 1, Nat.zero_le _⟩
  · intro x hx
    unfold repOps at hx
    rcases List.mem_append.1 hx with h | h
    · rcases List.mem_append.1 h with h | h
      · rcases List.mem_append.1 h with h | h
        · exact hc x h
        · split at h
          · cases h
          · unfold cutOps at h
            simp only [List.mem_cons, List.not_mem_nil, or_false] at h
            rcases h with rfl | rfl | rfl | rfl
            · exact ⟨hcb, Nat.zero_le _⟩
            · exact ⟨hcb, Nat.zero_le _⟩
            · exact ⟨hcb, Nat.zero_le _⟩
            · exact ⟨hcb, hb N⟩
      · obtain ⟨n, _, rfl⟩ := List.mem_map.1 h
        exact ⟨hb _, Nat.zero_le _⟩
    · rw [List.mem_singleton.1 h]; exact ⟨hb N, Nat.zero_le _⟩

/-- What Open leaves, in size. -/
theorem open_neat {M : DM} {ps : List PS} {N U : Nat} (hnt : Neat M N U) (hA : AllOf M ps) (hnm : Named M) {r : OR} (h : IsOpen M ps r) : Neat r.M (N + M.fs.length + 7) (U + usedF M.fs) ∧ Named r.M := by
  have hsm := hnt.small
  rcases h with ⟨_, rfl⟩ | ⟨ops, K, size, recs, hr, rfl⟩
  · exact ⟨hnt.mono (by omega) (by omega), hnm⟩
  · have h1 := (rep_sum hr).1
    have h2 := rep_len hr
    have h3 := segs_many hA
    have h4 := rep_size hA hr
    exact ⟨(stepsM_neat' ops hnt).mono (by omega) (by omega), named_steps ops hnm (rep_named hr)⟩

theorem named_crash {M : DM} (h : Named M) (ks : List Int) : Named (crashM ks M) := crashM_names h

theorem neat_arm {M : DM} {N U : Nat} (h : Neat M N U) (p : Int) (hp : p < 9223372036854775808) : Neat (armM p M) N U := ⟨by show p.toNat ≤ _; omega, h.sorted, ⟨h.small.files, h.small.used⟩⟩
end Go.Proofs.YtmiepigieajpcaaGreat

