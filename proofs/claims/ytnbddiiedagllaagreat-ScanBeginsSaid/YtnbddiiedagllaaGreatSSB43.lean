import Derived.Test.YtnbddiiedagllaaGreatSSB42
import Derived.Test.YtnbddiiedagllaaGreatSSB34
import Derived.Test.YtnbddiiedagllaaGreatSSB36
import Derived.Deep.RegionHeld3
import Derived.Deep.DeepCutAuto
import Derived.Deep.CutBlock
import Derived.Test.YtnbddiiedagllaaGreatSSB37
import Derived.Test.YtnbddiiedagllaaGreatSSB41
import Derived.Test.YtnbddiiedagllaaGreatSSB17
import Derived.Test.YtnbddiiedagllaaGreatSSB13
import Derived.BigQuiet
import Derived.Test.YtnbddiiedagllaaGreatSSB26
import Derived.Maps.AppendAt
import Derived.Lib.AppendZeros
import Derived.Test.YtnbddiiedagllaaGreatSSB30
import Derived.IntWalk
import Derived.Test.YtnbddiiedagllaaGreatSSB38
import Derived.Test.YtnbddiiedagllaaGreatSSB31
/- The walk of scan's Open, whatever lies on a disk that is up. -/
namespace Go.Proofs.YtnbddiiedagllaaGreat
open Go.RowKit Go.Maps Go.Shelf

attribute [local go_sem ↓] Go.wp_at_zero Go.wp_at_succ

structure FoundOk (M : DM) (B : Nat) (w : World) (x : FD) (ops : List SO) (N size : Nat) (recs : List (List Nat)) : Prop where
 n : x.n = (N : Int)
 n1 : 1 ≤ N
 n2 : N ≤ 99999999
 data : ∃ old l T, Ints w x.oa x.on x.oc old ∧ (∀ y ∈ old, 1 ≤ y ∧ y ≤ 99999999) ∧ old.length ≤ 900 ∧ Bytes w x.wa x.wn x.wc l ∧ (0 < x.wn → ∀ a, x.wa = some a → B ≤ a.block) ∧ l.length ≤ 9000 ∧ x.tn = ((T : Nat) : Int) ∧ ops = if x.no = true then cleanM [cutB, newB] M ++ [⟨1, nmB N, [], []⟩] else repOps M old N l T
 size : x.wn = size
 recs : PartsZ (fun b => B ≤ b) w B (.slice x.ra x.rn x.rc) recs

theorem FoundOk.grow {M : DM} {B : Nat} {w w' : World} {x : FD} {ops : List SO} {N size : Nat} {recs : List (List Nat)} (h : FoundOk M B w x ops N size recs) (hb : Below w.heap.size w w') : FoundOk M B w' x ops N size recs := by
 obtain ⟨h1, h2, h3, ⟨old, l, T, d1, d2, d3, d4, d5, d6, d7, d8⟩, h4, h5⟩ := h
 exact ⟨h1, h2, h3, ⟨old, l, T, d1.grow hb, d2, d3, d4.grow hb, d5, d6, d7, d8⟩, h4, h5.grow hb⟩

theorem rep_bounds {M : DM} {old : List Int} {N T : Nat} {l : List Nat} {no : Bool} (ho : old.length ≤ 900) (hl : l.length ≤ 9000) : (if no = true then cleanM [cutB, newB] M ++ [⟨1, nmB N, [], []⟩] else repOps M old N l T).length ≤ 1000 ∧ ∀ x ∈ (if no = true then cleanM [cutB, newB] M ++ [⟨1, nmB N, [], []⟩] else repOps M old N l T), x.bs.length ≤ 9000 := by
 have hc := cleanM_len [cutB, newB] M
 have hcb : ∀ x ∈ cleanM [cutB, newB] M, x.bs.length ≤ 9000 := by
  intro x hx
  unfold cleanM at hx
  obtain ⟨n, _, rfl⟩ := List.mem_map.1 hx
  exact Nat.zero_le _
 simp only [List.length_cons, List.length_nil] at hc
 split
 ·refine ⟨by simp only [List.length_append, List.length_cons, List.length_nil]; omega, fun x hx => ?_⟩
  rcases List.mem_append.1 hx with h | h
  ·exact hcb x h
  ·rw [List.mem_singleton.1 h]; exact Nat.zero_le _
 ·refine ⟨by have := repOps_len M old N l T; omega, fun x hx => ?_⟩
  unfold repOps at hx
  rcases List.mem_append.1 hx with h | h
  ·rcases List.mem_append.1 h with h | h
   ·rcases List.mem_append.1 h with h | h
    ·exact hcb x h
    ·split at h
     ·cases h
     ·unfold cutOps at h
      simp only [List.mem_cons, List.not_mem_nil, or_false] at h
      rcases h with rfl | rfl | rfl | rfl
      ·exact Nat.zero_le _
      ·exact hl
      ·exact Nat.zero_le _
      ·exact Nat.zero_le _
   ·obtain ⟨n, _, rfl⟩ := List.mem_map.1 h
    exact Nat.zero_le _
  ·rw [List.mem_singleton.1 h]; exact Nat.zero_le _

def KeptParts (Z : Nat → Prop) (w : World) (a : Option Addr) (n c : Nat) (ls : List (List Nat)) : Prop := ∀ W : World, (∀ b, Z b → W.heap[b]? = w.heap[b]?) → Parts W a n c ls

def SOEnd (w0 : World) (X : Nat → Prop) (w : World) (d : Nat) (most : Int) (r : OR) (e : Ending) (w' : World) : Prop :=
 (r.z ≠ 0 ∧ e = .returned (.tuple #[.pointer none, .slice none 0 0, .int .i64 r.z]) ∧ OwnEnd w0 X w d r.M w') ∨
 (r.z = 0 ∧ ∃ g ra rc, ∃ Z : Nat → Prop, e = .returned (.tuple #[.pointer (some ⟨g, 0, none⟩), .slice ra r.recs.length rc, .int .i64 0]) ∧ (∀ b, Z b → w.heap.size ≤ b) ∧ w.heap.size ≤ g ∧ ¬ Z g ∧ LogAt w0 (fun b => X b ∨ Z b ∨ b = g) w' g d ⟨r.M, most, r.N, r.size, 0⟩ ∧ (∀ b, X b → w'.heap[b]? = w.heap[b]?) ∧ KeptParts Z w' ra r.recs.length rc r.recs)

theorem partsZ_kept {Z Z' : Nat → Prop} {w w' : World} {B : Nat} {a : Option Addr} {n c : Nat} {ls : List (List Nat)} (h : PartsZ Z w B (.slice a n c) ls) (hk : ∀ b, B ≤ b → b < w.heap.size → w'.heap[b]? = w.heap[b]?) (hZ : ∀ b, Z b → B ≤ b) (hZ' : ∀ b, B ≤ b → b < w.heap.size → Z' b) : n = ls.length ∧ KeptParts Z' w' a n c ls := by
 obtain ⟨a2, c2, e2⟩ := h.form
 injection e2 with e3 e4 e5
 refine ⟨e4, fun W hW => ?_⟩
 have key : ∀ b, B ≤ b → b < w.heap.size → W.heap[b]? = w.heap[b]? := fun b h1 h2 => (hW b (hZ' b h1 h2)).trans (hk b h1 h2)
 obtain ⟨vs, h1, h2, h3⟩ := h
 have hO : OwnParts W B (.slice a n c) ls := ⟨vs, h1, own_same5 h2 (fun k e => key k (own_ge5 h2 k e) (own_lt5 h2 k e)), fun i hi => by
  obtain ⟨a', n', c', g1, g2, g3⟩ := h3 i hi
  exact ⟨a', n', c', g1, g2.moved (fun h0 x hx => key _ (hZ _ (g3 h0 x hx).2) (bytes_lt g2 h0 x hx)), fun h0 x hx => (g3 h0 x hx).1⟩⟩
 obtain ⟨a6, c6, e6, hp⟩ := hO.parts
 injection e6 with e7 e8 e9
 rw [e7, e8, e9]
 exact hp

theorem srow_row {B G d : Nat} {w : World} {v : Value} {ops : List SO} (h : SRow B G d w v ops) : ∃ a c, ∃ Ks : List SK, v = .slice a ops.length c ∧ Ks.length = ops.length ∧ (0 < ops.length → ∃ b o, a = some ⟨b, o, none⟩ ∧ G ≤ b ∧ b < w.heap.size ∧ ∀ j (hj : j < Ks.length), w.cell? ⟨b, o + j, none⟩ = some (skV Ks[j])) ∧
  ∀ i (h : i < Ks.length) (h' : i < ops.length), StepAt (fun b => B ≤ b ∧ v.ownBlock ≠ some b) d w Ks[i] ops[i] := by
 obtain ⟨Ks, h1, h2, h3⟩ := h
 rcases h2.2 with ⟨rfl, h0⟩ | ⟨g, cap, cur, rfl, hb, hg, hle, hcm, hsz, htake⟩
 ·exact ⟨none, 0, Ks, by rw [h0], h1, fun h => by omega, h3⟩
 ·refine ⟨_, cap, Ks, rfl, h1, fun _ => ⟨g, 0, rfl, hb, (Array.getElem?_eq_some_iff.1 hg).1, fun j hj => ?_⟩, h3⟩
  rw [cell_of_row w g (0 + j) cur _ (0, 0) hg, Nat.zero_add]
  have e : cur[j]? = (Ks.map skV)[j]? := by
   rw [← htake, List.getElem?_take, if_pos (by omega), Array.getElem?_toList]
  rw [e, List.getElem?_map, List.getElem?_eq_getElem hj]
  rfl

set_option maxRecDepth 100000 in
set_option maxHeartbeats 6400000 in
theorem sopen_steps {w0 : World} {X : Nat → Prop} {w : World} {d : Nat} {M : DM} (hO : Own w0 X w d M) (hl : M.fs.length ≤ 900) {U : Nat} (hnt : Neat M 900 U) (hU : U ≤ 10000) {Q : FD → Int → World → Prop} (hf : Calls Tryz.prog 57 #[.pointer (some ⟨d, 0, none⟩)] w (FoundEnd Q w))
  (ops : List SO) (N size : Nat) (recs : List (List Nat)) (hQ : ∀ x z w1, Q x z w1 → z = 0 ∧ FoundOk M w.heap.size w1 x ops N size recs) (most : Int) :
  Calls Tryz.prog 21 #[.pointer (some ⟨d, 0, none⟩), .int .i64 most] w (SOEnd w0 X w d most ⟨(stepsM ops M).2, (stepsM ops M).1, N, size, recs⟩) := by
 have HF := Lib.hid hf
 have HQ := Lib.hid hQ
 have hR : ∀ (w1 : World) (_ : Below w.heap.size w w1) (x : FD) (_ : FoundOk M w.heap.size w1 x ops N size recs), (Calls Tryz.prog 66 #[foundV x, .pointer (some ⟨d, 0, none⟩)] w1 fun e w' => ∃ v, e = .returned v ∧ SRow w.heap.size w1.heap.size d w' v ops ∧ Below w1.heap.size w1 w') ∧ ops.length ≤ 1000 ∧ ∀ x ∈ ops, x.bs.length ≤ 9000 := by
  intro w1 hb x hx
  obtain ⟨old, l, T, d1, d2, d3, d4, d5, d6, d7, d8⟩ := hx.data
  have := repairs_any (hO.below hb) (by omega) x N hx.n1 hx.n2 hx.n w.heap.size hb.size old d1 d2 (by omega) l d4 d5 (by omega) T d7
  rw [← d8] at this
  exact And.intro this (by rw [d8]; exact rep_bounds d3 d6)
 have HR := Lib.hid hR
 clear hR
 have HT := Lib.hid (fun w1 (hb : Below w.heap.size w w1) (a : Option Addr) (n c : Nat) (L : List SK) h1 h2 h3 h4 h5 h6 => take_does (hO.more hb (Y := fun b => X b ∨ (w.heap.size ≤ b ∧ b < w1.heap.size)) (fun _ h => h)) a n c L ops h1 h2 h3 hnt (T := 9000) h4 (by omega) (by omega) h5 h6)
 have HW := Lib.hid (fun n size W => wnew_any d n size most W)
 have Hsz := Lib.hid hO.base.size
 have HX := Lib.hid (show ∀ b, X b → b < w.heap.size by obtain ⟨_, _, _, h, _⟩ := hO; exact h)
 clear hO hf hQ hl hnt hU
 go_enter Tryz.func21, Tryz.ntmps21
 go_wp2_with fail
 refine HF.out.mono ?_
 rintro e w1 ⟨x, z, rfl, hq, hb⟩
 obtain ⟨rfl, hx⟩ := HQ.out _ _ _ hq
 unfold foundV
 obtain ⟨w2, hw2⟩ : ∃ w2, w2 = w1.alloc (.cells #[.slice x.ra x.rn x.rc, .slice x.oa x.on x.oc, .int .i64 x.n, .bool x.mark, .slice x.pa x.pn x.pc, .slice x.wa x.wn x.wc, .int .i64 x.tn, .bool x.no] 107) := ⟨_, rfl⟩
 have hb12 : Below w1.heap.size w1 w2 := by rw [hw2]; exact (Below.refl _ _).alloc (Nat.le_refl _) _
 have hb2 : Below w.heap.size w w2 := hb.trans (hb12.mono hb.size)
 have hB2 : w2.heap[w1.heap.size]? = some (.cells #[.slice x.ra x.rn x.rc, .slice x.oa x.on x.oc, .int .i64 x.n, .bool x.mark, .slice x.pa x.pn x.pc, .slice x.wa x.wn x.wc, .int .i64 x.tn, .bool x.no] 107 (0, 0)) := by rw [hw2]; exact heap_alloc_new _ _
 have Hx2 := Lib.hid (hx.grow hb12)
 have Hb2 := Lib.hid hb2
 have HB2 := Lib.hid hB2
 have hz := hb.size
 obtain ⟨hR2, hl1, hl2⟩ := HR.out w2 hb2 x (hx.grow hb12)
 unfold foundV at hR2
 have HR2 := Lib.hid hR2
 have Hl1 := Lib.hid hl1
 have Hl2 := Lib.hid hl2
 clear hb hb12 hb2 hB2 hx hq hR2 hl1 hl2
 go_wp2_with fail
 rw [← hw2]
 refine HR2.out.mono ?_
 rintro e w3 ⟨v, rfl, hS, hb3⟩
 obtain ⟨a, c, Ks, rfl, hKl, hrow, hst⟩ := srow_row hS
 have Hb3 := Lib.hid (Hb2.out.trans (hb3.mono Hb2.out.size))
 have hw23 := Hb2.out.size
 have HT3 := Lib.hid (HT.out w3 Hb3.out a ops.length c Ks hKl rfl Hl1.out Hl2.out (fun h0 => by
   obtain ⟨b, o, e1, e2, e3, e4⟩ := hrow h0
   exact ⟨b, o, e1, .inr ⟨by omega, e3⟩, e4⟩) (fun j h h' => hst j h h' w0 _ w3 (fun _ _ _ => rfl) (fun b hb hlt => .inr ⟨hb.1, hlt⟩)))
 have HB3 := Lib.hid ((hb3.block _ (Array.getElem?_eq_some_iff.1 HB2.out).1).trans HB2.out)
 have Hx3 := Lib.hid (Hx2.out.grow hb3)
 clear hS hrow hst hb3 hw2
 generalize stepsM ops M = rr at *
 go_wp2_with fail
 refine HT3.out.mono ?_
 rintro e w4 ⟨rfl, ho4, hx4, hb4, hz4⟩
 by_cases hr : rr.2 = 0
 ·rw [hr]
  obtain rfl := Hx3.out.size
  have hB4 := (hx4 w1.heap.size (.inr ⟨hz, (Array.getElem?_eq_some_iff.1 HB3.out).1⟩)).trans HB3.out
  rw [Hx3.out.n] at hB4
  obtain ⟨c0, c1, c2, c3, c4, c5, c6, c7, cf⟩ := box8 hB4
  have Ho4 := Lib.hid ho4
  have Hx4 := Lib.hid hx4
  have Hz4 := Lib.hid hz4
  have Hr := Lib.hid hr
  have hlt4 := (Array.getElem?_eq_some_iff.1 hB4).1
  have HK := Lib.hid (fun W (h : Below w4.heap.size w4 W) => And.intro ((h.cell (p := ⟨w1.heap.size, 0, none⟩) hlt4).trans c0) (And.intro ((h.cell (p := ⟨w1.heap.size, 2, none⟩) hlt4).trans c2) ((h.cell (p := ⟨w1.heap.size, 5, none⟩) hlt4).trans c5)))
  have HWN := Lib.hid (HW.out N x.wn)
  clear ho4 hx4 hb4 hB4 hz4 hr
  obtain ⟨ra, rn, rc, oa, on, oc, xn, mk, pa, pn, pc, wa, wn, wc, tn, no⟩ := x
  simp only at *
  go_upto_region 6 with fail
  go_cut [4, 5, 6] (fun p q z wx => ∃ g, p = .pointer (some ⟨g, 0, none⟩) ∧ q = .slice ra rn rc ∧ z = .int .i64 0 ∧ w4.heap.size ≤ g ∧ wx.heap[g]? = some (.cells #[.int .i64 (N : Int), .int .i64 (wn : Int), .int .i64 0, .pointer (some ⟨d, 0, none⟩), .int .i64 most] 129 (0, 0)) ∧ Below w4.heap.size w4 wx)
  case first =>
   go_region_held3 (fun w' => w'.cell? ⟨w1.heap.size, 0, none⟩ = some (.slice ra rn rc) ∧ w'.cell? ⟨w1.heap.size, 2, none⟩ = some (.int .i64 (N : Int)) ∧ w'.cell? ⟨w1.heap.size, 5, none⟩ = some (.slice wa wn wc))
    (first | exact HK.out _ (by (repeat (first | assumption | exact Below.refl _ _ | refine Below.drew ?_ | refine Below.alloc ?_ (by (first | exact Nat.le_refl _ | (simp; done) | (simp; omega) | omega)) _))))
    (first
     | (go_at_call 67; (with_reducible refine (HWN.out _).mono ?_); rintro e w5 ⟨rfl, rfl⟩))
   all_goals go_wp2_with fail
   all_goals go_meet
   all_goals exact ⟨_, rfl, rfl, rfl, Nat.le_refl _, heap_alloc_new _ _, by (repeat (first | assumption | exact Below.refl _ _ | refine Below.drew ?_ | refine Below.alloc ?_ (by (first | exact Nat.le_refl _ | (simp; done) | (simp; omega) | omega)) _))⟩
  case rest =>
   obtain ⟨g, rfl, rfl, rfl, hg, hG, hb5⟩ := hcut
   have Hb5 := Lib.hid hb5
   have HG := Lib.hid hG
   have hw3 := Hb3.out.size
   have hz4 := Hz4.out
   have HP := Lib.hid (partsZ_kept (Z' := fun b => w.heap.size ≤ b ∧ b < w3.heap.size) Hx3.out.recs (w' := wc) (fun b h1 h2 => (Hb5.out.block b (Nat.lt_of_lt_of_le h2 hz4)).trans (Hx4.out b (.inr ⟨h1, h2⟩))) (fun _ h => h) (fun b h1 h2 => ⟨h1, h2⟩))
   clear hb5 hG
   obtain ⟨hrl, hkp⟩ := HP.out
   subst hrl
   have Hkp := Lib.hid hkp
   clear hkp HP
   go_wp2
   refine bodyPost_ret (results_tmp3 rfl _ _ _) rfl (.inr ⟨Hr.out, g, ra, rc, fun b => w.heap.size ≤ b ∧ b < w3.heap.size, rfl, fun b h => h.1, by omega, fun h => by omega, ⟨?_, .inr (.inr rfl), ?_, ?_⟩, ?_, Hkp.out⟩)
   ·exact (Ho4.out.sub (fun b hb => hb)).more Hb5.out (fun b hb => by
     rcases hb with h | h | h
     ·exact .inl (.inl h)
     ·exact .inl (.inr h)
     ·exact .inr ⟨by omega, by have := (Array.getElem?_eq_some_iff.1 HG.out).1; omega⟩)
   ·have := Hsz.out
    show w0.heap.size ≤ g
    omega
   ·exact HG.out
   ·intro b hb
    have h1 := HX.out b hb
    exact (Hb5.out.block b (by omega)).trans ((Hx4.out b (.inl hb)).trans (Hb3.out.block b h1))
 ·have hr1 : (rr.2 != 0) = true := by simp [hr]
  have hr2 : (rr.2 == 0) = false := by simp [hr]
  have Ho4 := Lib.hid ho4
  have Hx4 := Lib.hid hx4
  have Hb4 := Lib.hid hb4
  have Hz4 := Lib.hid hz4
  have Hr := Lib.hid hr
  clear ho4 hx4 hb4 hz4 hr
  go_wp2
  refine bodyPost_ret (results_tmp3 rfl _ _ _) rfl (.inl ⟨Hr.out, rfl, Ho4.out.sub (fun b hb => Or.inl hb), fun b hb => ?_, ?_, ?_⟩)
  ·exact (Hx4.out b (.inl hb)).trans (Hb3.out.block b (HX.out b hb))
  ·exact (Hb3.out.mono Hsz.out).trans Hb4.out
  ·exact Nat.le_trans Hb3.out.size Hz4.out

theorem asc_sub : ∀ (xs ys : List Int), xs.Pairwise (· < ·) → (∀ x ∈ xs, x ∈ ys) → xs.length ≤ ys.length
 | [], _, _, _ => Nat.zero_le _
 | x :: xs, ys, hp, hs => by
  obtain ⟨h1, h2⟩ := List.pairwise_cons.1 hp
  have hx := hs x (List.mem_cons_self ..)
  have ih := asc_sub xs (ys.erase x) h2 (fun y hy => by
   have hne : y ≠ x := fun e => by have := h1 y hy; omega
   exact (List.mem_erase_of_ne hne).2 (hs y (List.mem_cons_of_mem _ hy)))
  rw [List.length_erase_of_mem hx] at ih
  have : 0 < ys.length := List.length_pos_of_mem hx
  rw [List.length_cons]
  omega

set_option maxHeartbeats 1600000 in
theorem sopen_any {w0 : World} {X : Nat → Prop} {w : World} {d : Nat} {M : DM} (hO : Own w0 X w d M) (hd : M.down = false) (hl : M.fs.length ≤ 900) {U : Nat} (hnt : Neat M 900 U) (hU : U ≤ 9000) (hnm : ∀ f ∈ M.fs, f.n.length ≤ 9223372036854775807) (ps : List PS) (hA : AllOf M ps) (most : Int) :
  Calls Tryz.prog 21 #[.pointer (some ⟨d, 0, none⟩), .int .i64 most] w fun e w' => ∃ r, IsOpen M ps r ∧ SOEnd w0 X w d most r e w' := by
 have hus := hnt.small.used
 have hfind := find_up hO hd (by omega) (by omega) hnm ps hA
 have hX : ∀ b, X b → b < w.heap.size := by obtain ⟨_, _, _, h, _⟩ := hO; exact h
 by_cases h0 : ps = []
 ·subst h0
  refine (sopen_steps hO hl hnt (by omega) hfind (repNone M) 1 0 [] (fun x z w1 hq => ?_) most).mono fun e w' h => ⟨_, .inr ⟨_, _, _, _, .inl ⟨rfl, rfl, rfl, rfl, rfl⟩, rfl⟩, h⟩
  rcases hq with ⟨_, rfl, rfl⟩ | ⟨k, ⟨hk, _⟩, _⟩
  ·refine ⟨rfl, rfl, Nat.le_refl _, by decide, ⟨[], [], 0, ⟨rfl, Nat.le_refl _, by decide, fun _ => rfl, fun h => absurd h (Nat.lt_irrefl _)⟩, (fun _ h => by cases h), Nat.zero_le _, ⟨rfl, Nat.le_refl _, by decide, (fun _ h => by cases h), fun _ => rfl, fun h => absurd h (Nat.lt_irrefl _)⟩, fun h => absurd h (Nat.lt_irrefl _), Nat.zero_le _, rfl, rfl⟩, rfl, PartsZ.nil _ _ _⟩
  ·exact absurd hk (by simp)
 ·have hp : 0 < ps.length := List.length_pos_iff.2 h0
  obtain ⟨k, hk⟩ := first_ex ps hp
  by_cases hg : Good (ps.drop k)
  ·have hlast : lastP ps hp ∈ ps := List.getElem_mem _
   obtain ⟨hN0, hN1⟩ := allOf_pos hA (lastP ps hp).n (List.mem_map.2 ⟨_, hlast, rfl⟩)
   obtain ⟨N, hN⟩ : ∃ N : Nat, (lastP ps hp).n = (N : Int) := ⟨(lastP ps hp).n.toNat, by omega⟩
   have hrd := readM_len (nmB (lastP ps hp).n.toNat) M
   have hsp := congrArg List.length (hA.2 _ hlast).eq
   rw [List.length_append] at hsp
   have hpl : ps.length ≤ M.fs.length := by
    have h1 := asc_sub (ps.map PS.n) (M.fs.map fun f => ((segNum (nmL f.n) : Nat) : Int)) (allOf_asc hA) (fun x hx => by
     obtain ⟨l, hl, _, rfl⟩ := (hA.1.2 x).1 hx
     obtain ⟨f, hf, rfl⟩ := List.mem_map.1 hl
     exact List.mem_map.2 ⟨f, hf, rfl⟩)
    rw [List.length_map, List.length_map] at h1
    exact h1
   refine (sopen_steps hO hl hnt (by omega) hfind (repOps M ((ps.take k).map PS.n) N (joinL (lastP ps hp).ls) (lastP ps hp).t.length) N (joinL (lastP ps hp).ls).length (recsL (ps.drop k)) (fun x z w1 hq => ?_) most).mono fun e w' h => ⟨_, .inr ⟨_, _, _, _, .inr ⟨k, hp, hk, hg, hN, rfl, rfl, rfl⟩, rfl⟩, h⟩
   rcases hq with ⟨h, _⟩ | ⟨k', hk', h⟩
   ·exact absurd h h0
   obtain rfl := firstAt_uniq hk hk'
   rcases h with ⟨h, _⟩ | ⟨_, rfl, h1, h2, ⟨h3, h4, h5, h6, h7⟩, h8⟩
   ·exact absurd hg h
   ·refine ⟨rfl, h4.trans hN, by omega, by omega, ⟨(ps.take k).map PS.n, joinL (lastP ps hp).ls, (lastP ps hp).t.length, h2, fun y hy => ?_, ?_, h5, fun h0 a ha => h6 a ha h0, by omega, h7, by rw [h8]; rfl⟩, h5.len.symm, h1⟩
    ·obtain ⟨p, hp', rfl⟩ := List.mem_map.1 hy
     have := allOf_pos hA p.n (List.mem_map.2 ⟨p, List.mem_of_mem_take hp', rfl⟩)
     omega
    ·rw [List.length_map, List.length_take]
     omega
  ·have hbr : BrokenAt ps := ⟨k, hk, hg⟩
   refine (sopen_code (z0 := 11) (by decide) (fun x z w1 hq => ?_) hfind).mono fun e w' h => ⟨_, .inl ⟨hbr, rfl⟩, .inl ⟨(by show (11 : Int) ≠ 0; decide), h.1, ?_⟩⟩
   ·rcases hq with ⟨h, _⟩ | ⟨k', hk', h⟩
    ·exact absurd h h0
    obtain rfl := firstAt_uniq hk hk'
    rcases h with ⟨_, _, h⟩ | ⟨h, _⟩
    ·exact h
    ·exact absurd h hg
   ·exact ⟨hO.below h.2, fun b hb => h.2.block b (hX b hb), h.2.mono hO.base.size, h.2.size⟩
end Go.Proofs.YtnbddiiedagllaaGreat

/- The walk of the statements' start: a log with some records, and the reference's. -/
namespace Go.Proofs.YtnbddiiedagllaaGreat
open Go.RowKit Go.Maps Go.Shelf

attribute [local go_sem ↓] Go.wp_at_zero Go.wp_at_succ

def StartEnd (w : World) (W : WM) (e : Ending) (w' : World) : Prop :=
 ∃ d g a n c R, ∃ Y X : Nat → Prop, e = .returned (.tuple #[.pointer (some ⟨d, 0, none⟩), .pointer (some ⟨g, 0, none⟩), logV (W.D.room : Int) a n c (W.D.plan : Int) W.D.down W.most (W.n : Int) (W.size : Int) (W.wait : Int)]) ∧
  LogAt w Y w' g d W ∧ RowF X w' a n c R ∧ R.map FR.f = W.D.fs ∧ ∀ b, X b → Y b ∧ b ≠ g

theorem StartEnd.both {w w' : World} {T : Nat → Prop} {g d : Nat} {W : WM} {a : Option Addr} {n c : Nat} {R : List FR} {Y X : Nat → Prop} (hL : LogAt w Y w' g d W) (hR : RowF X w' a n c R) (hf : R.map FR.f = W.D.fs) (hXY : ∀ b, X b → Y b ∧ b ≠ g ∧ ¬ T b) (hn : W.D.fs.length ≤ 1000000) (hT : ∀ b, T b → Y b) (hgT : ¬ T g) :
  Both w T (w'.alloc (logO (W.D.room : Int) a n c (W.D.plan : Int) W.D.down W.most (W.n : Int) (W.size : Int) (W.wait : Int))) g d w'.heap.size W W (w'.alloc (logO (W.D.room : Int) a n c (W.D.plan : Int) W.D.down W.most (W.n : Int) (W.size : Int) (W.wait : Int))) := by
 have hb := (Below.refl w'.heap.size w').alloc (Nat.le_refl _) (logO (W.D.room : Int) a n c (W.D.plan : Int) W.D.down W.most (W.n : Int) (W.size : Int) (W.wait : Int))
 have hlt := hL.own.blocks
 have hgl := hL.lt
 have hs : (w'.alloc (logO (W.D.room : Int) a n c (W.D.plan : Int) W.D.down W.most (W.n : Int) (W.size : Int) (W.wait : Int))).heap.size = w'.heap.size + 1 := World.size_alloc _ _
 refine BothV.new (X := X) (hL.all hb) ⟨a, n, c, R, heap_alloc_new _ _, hR.below (fun b hb => hlt b (hXY b hb).1) hb, hf, ?_, fun b hx => ?_⟩ (.inr ⟨Nat.le_refl _, by omega⟩) (fun b hb => ⟨.inl (hXY b hb).1, (hXY b hb).2⟩) (by omega) hL.own.base.size (fun b ht => .inl (hT b ht)) (fun ht => by have := hlt _ (hT _ ht); omega) hgT
 ·rw [← hR.len, ← List.length_map (f := FR.f), hf]; exact hn
 ·have := hlt b (hXY b hx).1
  omega

theorem LogAt.old {wb : World} {Y : Nat → Prop} {w' : World} {g d : Nat} {W : WM} (h : LogAt wb Y w' g d W) {k : Nat} (hk : k < wb.heap.size) : LogAt wb (fun b => Y b ∨ b = k) w' g d W := by
 refine ⟨?_, .inl h.inY, h.new, h.cells⟩
 obtain ⟨S, hD, hS, hX, h0⟩ := h.own
 exact ⟨S, hD, fun b hs => ⟨(hS b hs).1, fun hy => hy.elim (hS b hs).2 (fun e => by have := (hS b hs).1; omega)⟩, fun b hy => hy.elim (hX b) (fun e => by have := h0.size; omega), h0⟩

end Go.Proofs.YtnbddiiedagllaaGreat

/- The walks of the reference's Few and Same. -/
namespace Go.Proofs.YtnbddiiedagllaaGreat
open Go.RowKit Crc

def minsF (ls : List (List Nat)) : Nat := (ls.map fun l => min l.length 2000).sum

theorem minsF_take {ls : List (List Nat)} {k : Nat} (h : k < ls.length) : minsF (ls.take (k + 1)) = minsF (ls.take k) + min (ls.getD k []).length 2000 := by
 unfold minsF
 rw [List.take_succ_eq_append_getElem h, List.getD_eq_getElem?_getD, List.getElem?_eq_getElem h, List.map_append, List.sum_append, List.map_cons, List.map_nil, List.sum_cons, List.sum_nil]
 rfl

theorem minsF_cons (l : List Nat) (ls : List (List Nat)) : minsF (l :: ls) = min l.length 2000 + minsF ls := by simp [minsF]

theorem minsF_bound : ∀ ls : List (List Nat), minsF ls ≤ 1500 → sizeL ls ≤ 1500 + 8 * ls.length ∧ ∀ r ∈ ls, r.length ≤ 1048576
 | [], _ => ⟨by simp [sizeL], fun r h => by cases h⟩
 | l :: ls, h => by
  have ih := minsF_bound ls
  rw [minsF_cons] at h
  obtain ⟨h1, h2⟩ := ih (by omega)
  have h3 : ∀ ms : List (List Nat), minsF ms ≤ 1500 → sizeL ms = minsF ms + 8 * ms.length := by
   intro ms
   induction ms with
   | nil => intro _; rfl
   | cons m ms ihm =>
    intro hm
    rw [minsF_cons] at hm ⊢
    rw [sizeL_cons, ihm (by omega), List.length_cons]
    omega
  refine ⟨?_, fun r hr => ?_⟩
  ·rw [sizeL_cons, h3 ls (by omega), List.length_cons]
   omega
  ·rcases List.mem_cons.1 hr with rfl | hr
   ·omega
   ·exact h2 r hr

def FewEndF (ls : List (List Nat)) (e : Ending) : Prop := ∃ b, e = .returned (.bool b) ∧ (b = true → minsF ls ≤ 1500 ∧ ls.length ≤ 60)

theorem fewF_le {ls : List (List Nat)} {k : Nat} : minsF (ls.take k) ≤ 2000 * k := by
 have h : ∀ ms : List (List Nat), minsF ms ≤ 2000 * ms.length := by
  intro ms
  induction ms with
  | nil => exact Nat.le_refl _
  | cons m ms ih =>
   rw [minsF_cons, List.length_cons]
   omega
 have := h (ls.take k)
 rw [List.length_take] at this
 omega

set_option maxHeartbeats 800000 in
theorem fewF_short (a : Option Addr) (n cap : Nat) (ls : List (List Nat)) (w : World) (hl : Parts w a n cap ls) (hn : n ≤ 60) :
  Calls Tryz.prog 27 #[.slice a n cap] w fun e w' => FewEndF ls e ∧ w = w' := by
 have hls := Lib.hid hl.len
 have hP := Lib.hid hl
 clear hl
 go_enter Tryz.func27, Tryz.ntmps27
 go_wp2
 go_loop [3, 4] (fun t i => ∃ k : Nat, k ≤ n ∧ i = .int .i64 k ∧ t = .int .i64 (minsF (ls.take k) : Nat)) (fun _ i => n - (intOf i).toNat)
 case atStart => exact ⟨0, Nat.zero_le _, rfl, rfl⟩
 case round =>
  obtain ⟨k, hk, rfl, rfl⟩ := hrel
  have hle := fewF_le (ls := ls) (k := k)
  by_cases hlt : k < n
  ·obtain ⟨b, o, a', n', c', rfl, hc, hB⟩ := bytes_get_all hP.out hlt
   have hs := minsF_take (ls := ls) (show k < ls.length by rw [hls.out]; exact hlt)
   rw [hB.len] at hs
   have hcm := hB.max
   have Hs := Lib.hid hs
   clear hs hB
   generalize minsF (ls.take k) = m at *
   by_cases h1 : n' ≤ 2000
   ·have h2 : (n' : Int) ≤ 2000 := by omega
    have Hs2 := Lib.hid (show minsF (ls.take (k + 1)) = m + n' by rw [Hs.out]; omega)
    go_wp2
    go_round
    case rel => exact ⟨k + 1, by omega, by go_num, by rw [Hs2.out]; go_num⟩
    case measure => simp [intOf]; omega
   ·have h2 : (2000 : Int) < n' := by omega
    have Hs2 := Lib.hid (show minsF (ls.take (k + 1)) = m + 2000 by rw [Hs.out]; omega)
    go_wp2
    go_round
    case rel => exact ⟨k + 1, by omega, by go_num, by rw [Hs2.out]; go_num⟩
    case measure => simp [intOf]; omega
  ·obtain rfl : k = n := by omega
   have ht : ls.take k = ls := by rw [← hls.out, List.take_length]
   rw [ht] at hle ⊢
   have hls' := hls.out
   generalize hm : minsF ls = m at *
   have Hm := Lib.hid hm
   clear hm ht
   have h2 : (k : Int) ≤ 60 := by omega
   go_wp2
   go_ret
   exact ⟨⟨_, rfl, fun h => ⟨by rw [Hm.out]; have := of_decide_eq_true h; omega, by omega⟩⟩, rfl⟩

set_option maxHeartbeats 800000 in
theorem fewF_long (a : Option Addr) (n cap : Nat) (ls : List (List Nat)) (w : World) (hl : Parts w a n cap ls) (hn : 60 < n) :
  Calls Tryz.prog 27 #[.slice a n cap] w fun e w' => FewEndF ls e ∧ w = w' := by
 have hls := Lib.hid hl.len
 have hnb := hl.max
 have hP := Lib.hid hl
 clear hl
 go_enter Tryz.func27, Tryz.ntmps27
 go_wp2
 go_loop [3, 4] (fun t i => ∃ (k : Nat) (z : Int), k ≤ n ∧ i = .int .i64 k ∧ t = .int .i64 z) (fun _ i => n - (intOf i).toNat)
 case atStart => exact ⟨0, 0, Nat.zero_le _, rfl, rfl⟩
 case round =>
  obtain ⟨k, z, hk, rfl, rfl⟩ := hrel
  by_cases hlt : k < n
  ·obtain ⟨b, o, a', n', c', rfl, hc, hB⟩ := bytes_get_all hP.out hlt
   have hcm := hB.max
   clear hB
   by_cases h1 : n' ≤ 2000
   ·have h2 : (n' : Int) ≤ 2000 := by omega
    go_wp2
    go_round
    case rel => exact ⟨k + 1, _, by omega, by go_num, rfl⟩
    case measure => simp [intOf]; omega
   ·have h2 : (2000 : Int) < n' := by omega
    go_wp2
    go_round
    case rel => exact ⟨k + 1, _, by omega, by go_num, rfl⟩
    case measure => simp [intOf]; omega
  ·obtain rfl : k = n := by omega
   have h2 : (60 : Int) < k := by omega
   go_wp2
   go_ret
   exact ⟨⟨false, rfl, fun h => by cases h⟩, rfl⟩

theorem fewF_any (a : Option Addr) (n cap : Nat) (ls : List (List Nat)) (w : World) (hl : Parts w a n cap ls) :
  Calls Tryz.prog 27 #[.slice a n cap] w fun e w' => FewEndF ls e ∧ w = w' := by
 by_cases hn : n ≤ 60
 ·exact fewF_short a n cap ls w hl hn
 ·exact fewF_long a n cap ls w hl (by omega)
end Go.Proofs.YtnbddiiedagllaaGreat

/- What the statements of trim share: what compacting leaves in size, Look and Find of a disk, how small few records are. -/
namespace Go.Proofs.YtnbddiiedagllaaGreat
open Go.RowKit Go.Maps Go.Shelf

theorem few_size {ls : List (List Nat)} (h : minsF ls ≤ 1500 ∧ ls.length ≤ 60) : sizeL ls ≤ 1980 ∧ ls.length ≤ 60 := by
 have := (minsF_bound ls h.1).1
 exact ⟨by omega, h.2⟩


section
variable {w0 : World} {X : Nat → Prop} {w : World} {d : Nat} {M : DM}

theorem tlook_any (hO : Own w0 X w d M) (hd : M.down = false) (hl : M.fs.length ≤ 1000) (hu : usedF M.fs ≤ 10000) (hnm : Named M) (ps : List PS) (hA : AllOf M ps) :
  Calls Tryz.prog 15 #[.pointer (some ⟨d, 0, none⟩)] w fun e w' => ∃ y a c, IsLog ps y ∧ e = .returned (.tuple #[.slice a y.recs.length c, .int .i64 y.z]) ∧ Parts w' a y.recs.length c y.recs ∧ Below w.heap.size w w' := by
 refine (look_of findQ_grow (find_up hO hd hl hu hnm ps hA)).mono ?_
 rintro e w3 ⟨x, z, rfl, hq, hb3⟩
 obtain ⟨y, hy, rfl, _, hxr, hP⟩ := findQ_log hq
 rw [hxr] at hP ⊢
 exact ⟨y, _, _, hy, rfl, hP, hb3⟩

end
end Go.Proofs.YtnbddiiedagllaaGreat

/- Runs of changes that succeed: whatever failure is planned, what is left is what some of them have made. -/
namespace Go.Proofs.YtnbddiiedagllaaGreat
open Go.RowKit Go.Maps

inductive Run (G : List F → Prop) (room : Nat) : List SO → List F → List F → Prop
 | nil {fs : List F} : G fs → Run G room [] fs fs
 | cons {x : SO} {ops : List SO} {fs fs1 fs2 : List F} : G fs → soM x ⟨room, fs, false, 0⟩ = (⟨room, fs1, false, 0⟩, 0) → Run G room ops fs1 fs2 → Run G room (x :: ops) fs fs2

theorem Run.first {G : List F → Prop} {room : Nat} {ops : List SO} {fs fs2 : List F} (h : Run G room ops fs fs2) : G fs := by
 cases h with
 | nil h => exact h
 | cons h _ _ => exact h

theorem Run.last {G : List F → Prop} {room : Nat} {ops : List SO} {fs fs2 : List F} (h : Run G room ops fs fs2) : G fs2 := by
 induction h with
 | nil h => exact h
 | cons _ _ _ ih => exact ih

theorem Run.append {G : List F → Prop} {room : Nat} {a b : List SO} {fs fs1 fs2 : List F} (h : Run G room a fs fs1) (k : Run G room b fs1 fs2) : Run G room (a ++ b) fs fs2 := by
 induction h with
 | nil _ => exact k
 | cons hg hs _ ih => exact .cons hg hs (ih k)

theorem soM_plan (x : SO) {M : DM} {fs1 : List F} (hd : M.down = false) (h : soM x ⟨M.room, M.fs, false, 0⟩ = (⟨M.room, fs1, false, 0⟩, 0)) :
  (M.plan = 1 ∧ (soM x M).2 = 10 ∧ (soM x M).1.fs = M.fs ∧ (soM x M).1.down = true ∧ (soM x M).1.room = M.room) ∨ (M.plan ≠ 1 ∧ soM x M = (⟨M.room, fs1, false, M.plan - 1⟩, 0)) := by
 obtain ⟨room, fs, down, plan⟩ := M
 simp only at *
 subst hd
 by_cases hp : plan = 1
 ·subst hp
  refine .inl ⟨rfl, ?_⟩
  have hf : failM ⟨room, fs, false, 1⟩ = ⟨room, fs, true, 0⟩ := rfl
  unfold soM stepM createM appendM syncM renameM removeM chgM
  rw [hf]
  simp only [if_true]
  split
  ·exact ⟨rfl, rfl, rfl, rfl⟩
  ·split
   ·exact ⟨rfl, rfl, rfl, rfl⟩
   ·split
    ·exact ⟨rfl, rfl, rfl, rfl⟩
    ·split <;> exact ⟨rfl, rfl, rfl, rfl⟩
 ·refine .inr ⟨hp, ?_⟩
  have hf : failM ⟨room, fs, false, plan⟩ = ⟨room, fs, false, plan - 1⟩ := by
   unfold failM
   simp only [Bool.false_eq_true, if_false, if_neg hp]
  have hf0 : failM ⟨room, fs, false, 0⟩ = ⟨room, fs, false, 0⟩ := rfl
  have key : ∀ q : Nat, chgM ⟨room, fs, false, q⟩ = chgM ⟨room, fs, false, q⟩ := fun _ => rfl
  clear key
  unfold soM stepM createM appendM syncM renameM removeM chgM onM at h ⊢
  rw [hf]
  rw [hf0] at h
  simp only [Bool.false_eq_true, if_false] at h ⊢
  by_cases hn : named x.nm = true
  ·simp only [hn, if_true] at h ⊢
   cases hfd : findN F.n x.nm fs with
   | none => simp only [hfd] at h ⊢; (split at h <;> (try split at h) <;> (try split at h) <;> (try split at h) <;> simp_all)
   | some f => simp only [hfd] at h ⊢; (split at h <;> (try split at h) <;> (try split at h) <;> (try split at h) <;> (try split at h) <;> simp_all)
  ·simp only [hn] at h ⊢
   (split at h <;> (try split at h) <;> (try split at h) <;> (try split at h) <;> simp_all)

theorem Run.steps {G : List F → Prop} {room : Nat} {ops : List SO} {fs fs2 : List F} (h : Run G room ops fs fs2) : ∀ M : DM, M.room = room → M.fs = fs → M.down = false →
  G (stepsM ops M).1.fs ∧ (stepsM ops M).1.room = room ∧ (((stepsM ops M).2 = 0 ∧ (stepsM ops M).1.fs = fs2 ∧ (stepsM ops M).1.down = false) ∨ ((stepsM ops M).2 = 10 ∧ M.plan ≠ 0 ∧ (stepsM ops M).1.down = true)) ∧ (M.plan = 0 → (stepsM ops M).1.plan = 0) := by
 induction h with
 | nil h => rintro M rfl rfl hd; exact ⟨h, rfl, .inl ⟨rfl, rfl, hd⟩, fun h => h⟩
 | @cons x ops fs fs1 fs2 hg hs hr ih =>
  rintro M rfl rfl hd
  have e : stepsM (x :: ops) M = if (soM x M).2 = 0 then stepsM ops (soM x M).1 else soM x M := rfl
  rcases soM_plan x hd hs with ⟨h1, h2, h3, h4, h5⟩ | ⟨h1, h2⟩
  ·rw [e, if_neg (by rw [h2]; decide)]
   exact ⟨by rw [h3]; exact hg, h5, .inr ⟨h2, by rw [h1]; decide, h4⟩, fun h => by rw [h1] at h; cases h⟩
  ·rw [e, h2, if_pos rfl]
   obtain ⟨g1, g2, g3, g4⟩ := ih ⟨M.room, fs1, false, M.plan - 1⟩ rfl rfl rfl
   refine ⟨g1, g2, g3.imp id (fun ⟨a, b, c⟩ => ⟨a, fun h => b (by show M.plan - 1 = 0; omega), c⟩), fun h => g4 (by show M.plan - 1 = 0; omega)⟩
end Go.Proofs.YtnbddiiedagllaaGreat

