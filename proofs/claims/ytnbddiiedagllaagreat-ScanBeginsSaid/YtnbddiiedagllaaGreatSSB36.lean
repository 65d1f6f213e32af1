import Derived.Test.YtnbddiiedagllaaGreatSSB35
import Derived.Test.YtnbddiiedagllaaGreatSSB31
import Derived.Test.YtnbddiiedagllaaGreatSSB30
import Derived.Test.YtnbddiiedagllaaGreatSSB34
import Derived.Test.YtnbddiiedagllaaGreatSSB25
import Derived.Test.YtnbddiiedagllaaGreatSSB33
import Derived.Deep.RegionHeld3
import Derived.Test.YtnbddiiedagllaaGreatSSB28
import Derived.Test.YtnbddiiedagllaaGreatSSB26
import Derived.Test.YtnbddiiedagllaaGreatSSB17
import Derived.Maps.AppendAt
import Derived.Lib.AppendZeros
import Derived.Test.YtnbddiiedagllaaGreatSSB13
/- The walk of find, whatever lies on a disk that is up. -/
namespace Go.Proofs.YtnbddiiedagllaaGreat
open Go.RowKit Go.Maps Go.Shelf

attribute [local go_sem ↓] Go.wp_at_zero Go.wp_at_succ

theorem PartsZ.form {Z : Nat → Prop} {w : World} {B : Nat} {v : Value} {ls : List (List Nat)} (h : PartsZ Z w B v ls) : ∃ a c, v = .slice a ls.length c := by
 obtain ⟨vs, _, h2, _⟩ := h
 rcases h2.2 with ⟨rfl, h0⟩ | ⟨g, cap, cur, rfl, _⟩
 ·exact ⟨none, 0, by rw [h0]⟩
 ·exact ⟨_, cap, rfl⟩

theorem own_same5 {w w' : World} {base n size : Nat} {e : TypeId} {v : Value} {xs : List Value} (h : w.ownsRow base e size v n xs) (hk : ∀ k, v.ownBlock = some k → w'.heap[k]? = w.heap[k]?) : w'.ownsRow base e size v n xs := by
 refine ⟨h.1, ?_⟩
 rcases h.2 with hn | ⟨g, cap, cur, rfl, hbg, hg, rest⟩
 ·exact .inl hn
 ·exact .inr ⟨g, cap, cur, rfl, hbg, (hk g rfl).trans hg, rest⟩

theorem PartsZ.same {Z Z' : Nat → Prop} {w w' : World} {B : Nat} {v : Value} {ls : List (List Nat)} (h : PartsZ Z w B v ls) (hk : ∀ b, B ≤ b → w'.heap[b]? = w.heap[b]?) (hZ : ∀ b, Z b → w'.heap[b]? = w.heap[b]?) (hzz : ∀ b, Z b → Z' b) : PartsZ Z' w' B v ls := by
 obtain ⟨vs, h1, h2, h3⟩ := h
 refine ⟨vs, h1, own_same5 h2 (fun k e => hk k (own_ge5 h2 k e)), fun i hi => ?_⟩
 obtain ⟨a, n, c, h4, h5, h6⟩ := h3 i hi
 exact ⟨a, n, c, h4, h5.moved (fun h0 x hx => hZ _ (h6 h0 x hx).2), fun h0 x hx => ⟨(h6 h0 x hx).1, hzz _ (h6 h0 x hx).2⟩⟩

def putF (w : World) (B : Nat) (v0 v1 v2 v3 v4 v5 v6 v7 : Value) : World :=
 ((((((((w.setCell ⟨B, 0, none⟩ v0).setCell ⟨B, 1, none⟩ v1).setCell ⟨B, 2, none⟩ v2).setCell ⟨B, 3, none⟩ v3).setCell ⟨B, 4, none⟩ v4).setCell ⟨B, 5, none⟩ v5).setCell ⟨B, 6, none⟩ v6).setCell ⟨B, 7, none⟩ v7)

theorem putF_other (w : World) {B b : Nat} (h : b ≠ B) (v0 v1 v2 v3 v4 v5 v6 v7 : Value) : (putF w B v0 v1 v2 v3 v4 v5 v6 v7).heap[b]? = w.heap[b]? := by
 unfold putF
 rw [Below.heap_setCell _ _ _ _ h, Below.heap_setCell _ _ _ _ h, Below.heap_setCell _ _ _ _ h, Below.heap_setCell _ _ _ _ h, Below.heap_setCell _ _ _ _ h, Below.heap_setCell _ _ _ _ h, Below.heap_setCell _ _ _ _ h, Below.heap_setCell _ _ _ _ h]

theorem putF_below {n : Nat} {w0 w : World} {B : Nat} (h : Below n w0 w) (hn : n ≤ B) (v0 v1 v2 v3 v4 v5 v6 v7 : Value) : Below n w0 (putF w B v0 v1 v2 v3 v4 v5 v6 v7) :=
 (((((((h.setCell hn _).setCell hn _).setCell hn _).setCell hn _).setCell hn _).setCell hn _).setCell hn _).setCell hn _

structure FoundAt (B : Nat) (w : World) (ps : List PS) (k : Nat) (x : FD) : Prop where
 recs : PartsZ (fun b => B ≤ b) w B (.slice x.ra x.rn x.rc) (recsL (ps.drop k))
 older : Ints w x.oa x.on x.oc ((ps.take k).map PS.n)
 last : ∃ h : 0 < ps.length, x.n = (ps[ps.length - 1]'(by omega)).n ∧ Bytes w x.wa x.wn x.wc (joinL (ps[ps.length - 1]'(by omega)).ls) ∧ (∀ y, x.wa = some y → 0 < x.wn → B ≤ y.block) ∧ x.tn = ((ps[ps.length - 1]'(by omega)).t.length : Int)
 no : x.no = false

def FindQ (B : Nat) (ps : List PS) (x : FD) (z : Int) (w : World) : Prop :=
 (ps = [] ∧ x = fd1 ∧ z = 0) ∨ ∃ k, FirstAt ps k ∧ ((¬ Good (ps.drop k) ∧ x = fd0 ∧ z = 11) ∨ (Good (ps.drop k) ∧ z = 0 ∧ FoundAt B w ps k x))

theorem PartsZ.upTo {Z : Nat → Prop} {w : World} {B B' : Nat} {v : Value} {ls : List (List Nat)} (h : PartsZ Z w B v ls) (hb : B' ≤ B) : PartsZ Z w B' v ls := h.base hb

theorem prow_of_row5 {Z : Nat → Prop} {w : World} {a : Option Addr} {n c : Nat} {xs : List PD} {qs : List PS} (h : Row5 Z w a n c xs qs) (hm : n ≤ 1000000) : PRow (fun b => Z b ∧ b < w.heap.size) w a n c (xs.zip (qs.map PS.recs)) := by
 have h1 := h.len
 have h2 := h.lenq
 have hzl : (xs.zip (qs.map PS.recs)).length = n := by rw [List.length_zip, List.length_map, h1, h2]; omega
 refine ⟨hzl, hm, fun hn => ?_⟩
 obtain ⟨b, o, e, _, hc⟩ := h.cell hn
 refine ⟨b, o, e, fun i hi => ?_⟩
 have hx : i < xs.length := by rw [h1]; omega
 have hq : i < qs.length := by rw [h2]; omega
 have e1 : (xs.zip (qs.map PS.recs))[i] = (xs[i], qs[i].recs) := by rw [List.getElem_zip, List.getElem_map]
 rw [e1]
 exact ⟨hc i hx, (h.part i hx hq).recs.lt⟩

theorem stands_of_row5 {Z : Nat → Prop} {w : World} {a : Option Addr} {n c : Nat} {xs : List PD} {qs : List PS} (h : Row5 Z w a n c xs qs) : ∀ i (hi : i < (xs.zip (qs.map PS.recs)).length) (h' : i < qs.length), Stands1 (xs.zip (qs.map PS.recs))[i].1 (xs.zip (qs.map PS.recs))[i].2 qs[i] := by
 intro i hi h'
 have hx : i < xs.length := by rw [h.len, ← h.lenq]; exact h'
 have e1 : (xs.zip (qs.map PS.recs))[i] = (xs[i], qs[i].recs) := by rw [List.getElem_zip, List.getElem_map]
 rw [e1]
 have hp := h.part i hx h'
 exact ⟨hp.n, hp.mark, rfl, hp.torn⟩

theorem recs_le (ls : List (List Nat)) : (restOf ls).length ≤ ls.length := by
 unfold restOf
 split
 ·rw [List.length_tail]; omega
 ·exact Nat.le_refl _

theorem allOf_many {M : DM} {ps : List PS} (hA : AllOf M ps) {U : Nat} (hu : usedF M.fs ≤ U) : ∀ p ∈ ps, p.ls.length ≤ U := by
 intro p hp
 have h1 := joinL_many p.ls
 have h2 := congrArg List.length (hA.2 p hp).eq
 rw [List.length_append] at h2
 have h3 := readM_len (nmB p.n.toNat) M
 omega

theorem sumP_le {xs : List (PD × List (List Nat))} {U : Nat} (h : ∀ x ∈ xs, x.2.length ≤ U) : sumP xs ≤ xs.length * U := by
 unfold sumP
 induction xs with
 | nil => simp
 | cons x xs ih =>
  rw [List.map_cons, List.sum_cons, List.length_cons, Nat.succ_mul]
  have h1 := h x (List.mem_cons_self ..)
  have h2 := ih (fun y hy => h y (List.mem_cons_of_mem _ hy))
  omega

set_option maxRecDepth 100000 in
set_option maxHeartbeats 6400000 in
theorem find_up {w0 : World} {X : Nat → Prop} {w : World} {d : Nat} {M : DM} (hO : Own w0 X w d M) (hd : M.down = false) (hl : M.fs.length ≤ 1000) (hu : usedF M.fs ≤ 10000) (hnm : ∀ f ∈ M.fs, f.n.length ≤ 9223372036854775807) (ps : List PS) (hA : AllOf M ps) :
  Calls Tryz.prog 57 #[.pointer (some ⟨d, 0, none⟩)] w (FoundEnd (FindQ w.heap.size ps) w) := by
 by_cases hp0 : ps = []
 ·subst hp0
  exact (find_none hO hd hl hnm hA.1).mono fun e w' h => ⟨fd1, 0, h.1, .inl ⟨rfl, rfl, rfl⟩, h.2⟩
 obtain ⟨w1, hw1⟩ : ∃ w1, w1 = w.alloc (.cells #[.slice none 0 0, .slice none 0 0, .int .i64 0, .bool false, .slice none 0 0, .slice none 0 0, .int .i64 0, .bool false] 107) := ⟨_, rfl⟩
 have hb1 : Below w.heap.size w w1 := by rw [hw1]; exact (Below.refl _ _).alloc (Nat.le_refl _) _
 have hB1 : w1.heap[w.heap.size]? = some (.cells #[.slice none 0 0, .slice none 0 0, .int .i64 0, .bool false, .slice none 0 0, .slice none 0 0, .int .i64 0, .bool false] 107 (0, 0)) := by rw [hw1]; exact heap_alloc_new _ _
 have HD := Lib.hid (own_down (hO.below hb1))
 rw [hd] at HD
 have HLi := Lib.hid (own_list (hO.below hb1) (by omega))
 have hplen : 0 < ps.length := List.length_pos_iff.2 hp0
 have HRP := Lib.hid (fun W (h : Below w.heap.size w W) p c hpn hI => readParts_any (hO.below h) (by omega) ps hA hplen hpn p c hI)
 have Hmany := Lib.hid (allOf_many hA hu)
 have Hnm := Lib.hid hnm
 have HA := Lib.hid hA
 have Hb1 := Lib.hid hb1
 have HB1 := Lib.hid hB1
 have Hw1 := Lib.hid hw1
 clear hO hd hnm hA hb1 hB1 hw1 hu hp0
 go_enter Tryz.func57, Tryz.ntmps57
 go_wp2_with fail
 rw [← Hw1.out]
 refine HD.out.mono ?_
 rintro e w2 ⟨rfl, rfl⟩
 go_wp2_with fail
 refine HLi.out.mono ?_
 rintro e w3 ⟨v3, rfl, hown, hb3⟩
 obtain ⟨p3, k3, rfl, hS3⟩ := strs_row hown (fun n hn => by obtain ⟨f, hf, rfl⟩ := List.mem_map.1 hn; exact Hnm.out f hf)
 have HSl := Lib.hid (seglist_any p3 M.fs.length k3 _ w3 hS3 hl)
 have Hb3 := Lib.hid hb3
 clear hown hS3 hb3
 go_wp2_with fail
 refine HSl.out.mono ?_
 rintro e w4 ⟨v4, out, rfl, hasc, hmem, hol, hown4, hb4⟩
 have hmap : (M.fs.map F.n).map nmL = M.fs.map fun f => nmL f.n := by rw [List.map_map]; rfl
 rw [hmap] at hmem
 obtain rfl : out = ps.map PS.n := segsOf_uniq ⟨hasc, hmem⟩ HA.out.1
 obtain ⟨p4, k4, rfl, hI4⟩ := own_ints hown4
 have hf4 := own_formed_i hown4
 have hb41 := Hb3.out.trans (hb4.mono Hb3.out.size)
 have Hb4 := Lib.hid (Hb1.out.trans (hb41.mono Hb1.out.size))
 have HB4 := Lib.hid ((hb41.block _ (Array.getElem?_eq_some_iff.1 HB1.out).1).trans HB1.out)
 rw [List.length_map] at hI4
 have hI4' := hI4
 have HI4 := Lib.hid hI4
 have Hown4 := Lib.hid hown4
 have hpn : ps.length ≤ 1000 := by simp only [List.length_map] at hol; omega
 have HR4 := Lib.hid (HRP.out w4 Hb4.out p4 k4 hpn hI4)
 have Hf4 := Lib.hid hf4
 clear hasc hmem hol hmap hown4 hb4 hI4 hf4 hb41 hI4'
 have hpz : ((ps.length : Int) == 0) = false := by rw [beq_eq_false_iff_ne]; omega
 rw [List.length_map]
 go_wp2_with fail
 refine HR4.out.mono ?_
 rintro e w5 ⟨k, a5, c5, xs, hF, rfl, hrow5, hb5⟩
 have Hb5 := Lib.hid (Hb4.out.trans (hb5.mono Hb4.out.size))
 have HB45 := Lib.hid hb5
 have HB5 := Lib.hid ((hb5.block _ (Array.getElem?_eq_some_iff.1 HB4.out).1).trans HB4.out)
 have hI5 := HI4.out.grow hb5
 have hkl : k < ps.length := hF.1
 have hle4 := hI5.le
 have hcm4 := hI5.capmax
 obtain ⟨a6, hs6, hI6⟩ := ints_to (P := Tryz.prog) (T := 33) (E := 3) Tryz.underlying33 info_int (a := p4) (n := ps.length) (c := k4) (k := k) (by omega) hle4 Hf4.out
 obtain ⟨a7, hs7, hI7⟩ := ints_from (P := Tryz.prog) (T := 33) (E := 3) Tryz.underlying33 info_int (a := p4) (n := ps.length) (c := k4) (k := k) (by omega) hle4 Hf4.out
 have hg5 := hI7 w5 _ hI5
 have hdropn : (ps.map PS.n).drop k = (ps.drop k).map PS.n := by rw [List.map_drop]
 have hascd : Asc ((ps.drop k).map PS.n) := by rw [← hdropn]; exact List.Pairwise.sublist (List.drop_sublist k _) (allOf_asc HA.out)
 have hposd : ∀ x ∈ (ps.drop k).map PS.n, 0 < x ∧ x ≤ 1000000000 := fun x hx => by
  rw [← hdropn] at hx
  have := allOf_pos HA.out x (List.mem_of_mem_drop hx)
  omega
 rw [hdropn] at hg5
 have HGap := Lib.hid (gap_any a7 (ps.length - k) (k4 - k) _ w5 hg5 (by omega) hascd hposd)
 have Hgi := Lib.hid (good_iff (qs := ps.drop k) (fun x hx => (hposd x hx).1) hascd)
 have Hold := Lib.hid (hI6)
 have hzl : (xs.zip ((ps.drop k).map PS.recs)).length = (ps.drop k).length := by
  rw [List.length_zip, List.length_map, hrow5.len, hrow5.lenq]; omega
 have Hgl := Lib.hid (gathL_good (xs.zip ((ps.drop k).map PS.recs)) (ps.drop k) [] hzl (stands_of_row5 hrow5))
 have hsumP : sumP (xs.zip ((ps.drop k).map PS.recs)) ≤ 10000000 := by
  have h1 := sumP_le (xs := xs.zip ((ps.drop k).map PS.recs)) (U := 10000) (fun x hx => by
   obtain ⟨p, hp, e⟩ := List.mem_map.1 (List.of_mem_zip hx).2
   have h1 := Hmany.out p (List.mem_of_mem_drop hp)
   have h2 := recs_le p.ls
   rw [← e]
   show (restOf p.ls).length ≤ _
   omega)
  have h2 : (xs.zip ((ps.drop k).map PS.recs)).length ≤ 1000 := by rw [hzl, List.length_drop]; omega
  have h3 := Nat.mul_le_mul_right 10000 h2
  omega
 obtain ⟨b5, o5, rfl, hbl5, hc5⟩ := hrow5.cell (by omega)
 have Hrow5 := Lib.hid hrow5
 have hlast := hc5 (ps.length - k - 1) (by rw [hrow5.len]; omega)
 have hpl := hrow5.part (ps.length - k - 1) (by rw [hrow5.len]; omega) (by rw [hrow5.lenq]; omega)
 have hpe : (ps.drop k)[ps.length - k - 1]'(by rw [hrow5.lenq]; omega) = ps[ps.length - 1]'(by omega) := by rw [List.getElem_drop]; congr 1; omega
 rw [hpe] at hpl
 generalize (xs[ps.length - k - 1]'(by rw [hrow5.len]; omega)) = xl at hlast hpl
 have Hlast := Lib.hid hlast
 have Hpl := Lib.hid hpl
 have HF := Lib.hid hF
 have hmi : (ps.length : Int) - ((ps.length - k : Nat) : Int) = (k : Int) := by omega
 have hqi : ((ps.length - k : Nat) : Int) - 1 = ((ps.length - k - 1 : Nat) : Int) := by omega
 have hqm : ((ps.length - k - 1 : Nat) : Int) < ((ps.length - k : Nat) : Int) := by omega
 have hki : (k : Int) ≤ (ps.length : Int) := by omega
 have hps : ps.length - k ≤ 1000 := by omega
 have HsumP := Lib.hid hsumP
 clear hlast hpl hpe hc5 hsumP hzl hposd hascd hdropn hg5 hI5 hI6 hI7 hrow5 hF hb5
 obtain ⟨m, hm⟩ : ∃ m, m = ps.length - k := ⟨_, rfl⟩
 obtain ⟨q, hq⟩ : ∃ q, q = ps.length - k - 1 := ⟨_, rfl⟩
 rw [← hq] at hqi hqm Hlast
 rw [← hm] at hmi hqi hqm hs7 HGap Hrow5 hps
 rw [← hm]
 have Hm := Lib.hid hm
 clear hm hq
 go_wp2_with fail
 refine HGap.out.mono ?_
 rintro e w6 ⟨rfl, hb6⟩
 have Hb6 := Lib.hid (Hb5.out.trans (hb6.mono Hb5.out.size))
 have Hb56 := Lib.hid hb6
 have hB6 := (hb6.block _ (Array.getElem?_eq_some_iff.1 HB5.out).1).trans HB5.out
 have HB6 := Lib.hid hB6
 generalize hG : gapL ((ps.drop k).map PS.n) = G at Hgi
 clear hb6
 by_cases hg0 : G = 0
 ·have HGd := Lib.hid (show Good (ps.drop k) ↔ _ from Hgi.out)
  subst hg0
  have hgb : ((0 : Int) != 0) = false := by decide
  have HGa := Lib.hid (gather_any (some ⟨b5, o5, none⟩) m c5 (xs.zip ((ps.drop k).map PS.recs)) w6 (Z := fun b => w4.heap.size ≤ b ∧ b < w6.heap.size) (fun _ h => h.2) (prow_of_row5 (Hrow5.out.grow Hb56.out) (by omega)) HsumP.out)
  clear hB6
  go_wp2_with fail
  refine HGa.out.mono ?_
  rintro e w7 ⟨hE, hb7⟩
  have Hb7 := Lib.hid (Hb6.out.trans (hb7.mono Hb6.out.size))
  have Hb67 := Lib.hid hb7
  have hB7 := (hb7.block _ (Array.getElem?_eq_some_iff.1 HB6.out).1).trans HB6.out
  obtain ⟨c0, c1, c2, c3, c4, c5', c6, c7, cf⟩ := box8 hB7
  clear hB7 hb7 HGa
  rcases hE with ⟨v, out, hga, rfl, hP⟩ | ⟨hga, rfl⟩
  ·have hgood : Good (ps.drop k) ∧ out = recsL (ps.drop k) := by
    rcases Hgl.out with ⟨h1, h2⟩ | ⟨h1, _⟩
    ·rw [hga] at h1
     exact ⟨HGd.out.2 ⟨trivial, h2⟩, by simpa using h1⟩
    ·rw [hga] at h1; cases h1
   obtain ⟨hgood, rfl⟩ := hgood
   have HGood := Lib.hid hgood
   obtain ⟨ar, cr, rfl⟩ := hP.form
   have HP := Lib.hid hP
   obtain ⟨l0, l1, l2, l3, l4⟩ := Hlast.out
   have hb57 := Hb56.out.trans (Hb67.out.mono Hb56.out.size)
   have l0 := cell_keep hb57 l0
   have l1 := cell_keep hb57 l1
   have l2 := cell_keep hb57 l2
   have l3 := cell_keep hb57 l3
   have l4 := cell_keep hb57 l4
   have Hpl7 := Lib.hid (Hpl.out.grow hb57)
   have hb47 : Below w4.heap.size w4 w7 := HB45.out.trans (hb57.mono HB45.out.size)
   have Hown7 := Lib.hid (own_below Hown4.out hb47)
   have Hs47 := Lib.hid hb47.size
   clear hga hgood hP hb57 hb47 Hlast
   obtain ⟨xn, xm, xpa, xpn, xpc, xwa, xwn, xwc, xtn⟩ := xl
   simp only at *
   go_wp2
   refine bodyPost_ret (v := .tuple #[foundV ⟨ar, (recsL (ps.drop k)).length, cr, a6, k, k4, xn, xm, xpa, xpn, xpc, xwa, xwn, xwc, xtn, false⟩, .int .i64 0]) ?_ rfl ⟨⟨ar, (recsL (ps.drop k)).length, cr, a6, k, k4, xn, xm, xpa, xpn, xpc, xwa, xwn, xwc, xtn, false⟩, 0, rfl, .inr ⟨k, HF.out, .inr ⟨HGood.out, rfl, ?_⟩⟩, putF_below Hb7.out (Nat.le_refl _) _ _ _ _ _ _ _ _⟩
   ·rw [results_cell_tmp rfl]
    go_simp
    rfl
   ·have hz3 : w.heap.size < w3.heap.size := Nat.lt_of_lt_of_le (Array.getElem?_eq_some_iff.1 HB1.out).1 Hb3.out.size
    have hz4 : w.heap.size < w4.heap.size := (Array.getElem?_eq_some_iff.1 HB4.out).1
    have hz6 : w.heap.size < w6.heap.size := (Array.getElem?_eq_some_iff.1 HB6.out).1
    have hoth := fun b (h : b ≠ w.heap.size) => putF_other w7 h (.slice ar (recsL (ps.drop k)).length cr) (.slice a6 k k4) (.int .i64 xn) (.bool xm) (.slice xpa xpn xpc) (.slice xwa xwn xwc) (.int .i64 xtn) (.bool false)
    have hsz : (putF w7 w.heap.size (.slice ar (recsL (ps.drop k)).length cr) (.slice a6 k k4) (.int .i64 xn) (.bool xm) (.slice xpa xpn xpc) (.slice xwa xwn xwc) (.int .i64 xtn) (.bool false)).heap.size = w7.heap.size := by unfold putF; simp
    have hpl := Hpl7.out.moved (w' := putF w7 w.heap.size (.slice ar (recsL (ps.drop k)).length cr) (.slice a6 k k4) (.int .i64 xn) (.bool xm) (.slice xpa xpn xpc) (.slice xwa xwn xwc) (.int .i64 xtn) (.bool false)) (Z' := fun b => w.heap.size ≤ b) (fun b hb _ => hoth b (by omega)) (by rw [hsz]; exact Nat.le_refl _) (fun b hb _ => by omega)
    refine ⟨?_, ?_, ⟨by omega, hpl.n, hpl.whole, hpl.blk, hpl.torn⟩, rfl⟩
    ·exact (HP.out.same (fun b hb => hoth b (by omega)) (fun b hb => hoth b (by have := hb.1; omega)) (fun b hb => by have := hb.1; omega)).base (by omega)
    ·have ho := own_same5 (w' := putF w7 w.heap.size (.slice ar (recsL (ps.drop k)).length cr) (.slice a6 k k4) (.int .i64 xn) (.bool xm) (.slice xpa xpn xpc) (.slice xwa xwn xwc) (.int .i64 xtn) (.bool false)) Hown7.out (fun b hb => hoth b (by have := own_ge5 Hown7.out b hb; omega))
     rw [List.length_map] at ho
     have hi := Hold.out _ _ (ints_of_own ho)
     rw [← List.map_take] at hi
     exact hi
  ·have HBad := Lib.hid (show ¬ Good (ps.drop k) from fun h => by
    rcases Hgl.out with ⟨h1, _⟩ | ⟨_, i, hi, h2⟩
    ·rw [hga] at h1; cases h1
    ·exact h2 ((HGd.out.1 h).2 i hi))
   clear hga
   go_wp2
   refine bodyPost_ret (v := .tuple #[found0, .int .i64 11]) ?_ rfl ⟨fd0, 11, rfl, .inr ⟨k, HF.out, .inl ⟨HBad.out, rfl, rfl⟩⟩, ?_⟩
   ·rw [results_cell_tmp rfl]
    go_simp
    rfl
   ·exact putF_below Hb7.out (Nat.le_refl _) _ _ _ _ _ _ _ _
 ·have HBad := Lib.hid (show ¬ Good (ps.drop k) from fun h => hg0 (Hgi.out.1 h).1)
  have hgb : (G != 0) = true := by simp [hg0]
  obtain ⟨c0, c1, c2, c3, c4, c5', c6, c7, cf⟩ := box8 hB6
  clear hB6 hg0
  go_wp2
  refine bodyPost_ret (v := .tuple #[found0, .int .i64 11]) ?_ rfl ⟨fd0, 11, rfl, .inr ⟨k, HF.out, .inl ⟨HBad.out, rfl, rfl⟩⟩, ?_⟩
  ·rw [results_cell_tmp rfl]
   go_simp
   rfl
  ·exact (((((((Hb6.out.setCell (Nat.le_refl _) _).setCell (Nat.le_refl _) _).setCell (Nat.le_refl _) _).setCell (Nat.le_refl _) _).setCell (Nat.le_refl _) _).setCell (Nat.le_refl _) _).setCell (Nat.le_refl _) _).setCell (Nat.le_refl _) _
end Go.Proofs.YtnbddiiedagllaaGreat

/- Disks on which no failure is planned stay up; the numbers of a disk's segments; what is found is found. -/
namespace Go.Proofs.YtnbddiiedagllaaGreat
open Go.RowKit Go.Maps

def Up (M : DM) : Prop := M.down = false ∧ M.plan = 0

theorem foundAt_grow {B : Nat} {w w' : World} {ps : List PS} {k : Nat} {x : FD} (h : FoundAt B w ps k x) (hb : Below w.heap.size w w') : FoundAt B w' ps k x := by
 obtain ⟨h1, h2, ⟨h0, h3, h4, h5, h6⟩, h7⟩ := h
 exact ⟨h1.grow hb, h2.grow hb, ⟨h0, h3, h4.grow hb, h5, h6⟩, h7⟩

theorem findQ_grow {B : Nat} {ps : List PS} (x : FD) (z : Int) (w1 w2 : World) (h : FindQ B ps x z w1) (hb : Below w1.heap.size w1 w2) : FindQ B ps x z w2 := by
 rcases h with h | ⟨k, hF, h | ⟨hg, hz, ha⟩⟩
 ·exact .inl h
 ·exact .inr ⟨k, hF, .inl h⟩
 ·exact .inr ⟨k, hF, .inr ⟨hg, hz, foundAt_grow ha hb⟩⟩

theorem findQ_log {B : Nat} {ps : List PS} {x : FD} {z : Int} {w : World} (h : FindQ B ps x z w) : ∃ y, IsLog ps y ∧ z = y.z ∧ x.tn = (y.torn : Int) ∧ x.rn = y.recs.length ∧ Parts w x.ra x.rn x.rc y.recs := by
 have hnil : Parts w none 0 0 ([] : List (List Nat)) := by
  obtain ⟨a, c, e, hp⟩ := (OwnParts.nil w 0).parts
  cases e
  exact hp
 rcases h with ⟨h0, rfl, rfl⟩ | ⟨k, hF, ⟨hg, rfl, rfl⟩ | ⟨hg, rfl, h1, h2, ⟨h0, h3, h4, h5, h6⟩, h7⟩⟩
 ·exact ⟨⟨0, [], 0⟩, .inl ⟨h0, rfl⟩, rfl, rfl, rfl, hnil⟩
 ·exact ⟨⟨11, [], 0⟩, .inr ⟨k, Nat.lt_of_le_of_lt (Nat.zero_le _) hF.1, hF, .inl ⟨hg, rfl⟩⟩, rfl, rfl, rfl, hnil⟩
 ·obtain ⟨a, c, e, hp⟩ := h1.own.parts
  injection e with e1 e2 e3
  refine ⟨⟨0, recsL (ps.drop k), (ps[ps.length - 1]'(by omega)).t.length⟩, .inr ⟨k, h0, hF, .inr ⟨hg, rfl⟩⟩, rfl, h6, e2, ?_⟩
  rw [e1, e2, e3]
  exact hp
end Go.Proofs.YtnbddiiedagllaaGreat

/- What Open leaves of a disk, in size and names. -/
namespace Go.Proofs.YtnbddiiedagllaaGreat
open Go.RowKit Go.Maps

theorem stepsM_neat' : ∀ (ops : List SO) {M : DM} {N U : Nat}, Neat M N U → Neat (stepsM ops M).1 (N + ops.length) (U + (ops.map fun x => x.bs.length).sum)
 | [], _, _, _, h => h
 | x :: ops, M, N, U, h => by
  have h1 := stepM_neat h x.k x.nm x.tt x.bs
  have e : stepsM (x :: ops) M = if (soM x M).2 = 0 then stepsM ops (soM x M).1 else soM x M := rfl
  rw [e, List.map_cons, List.sum_cons, List.length_cons]
  split
  ·exact (stepsM_neat' ops h1).mono (by omega) (by omega)
  ·exact h1.mono (by omega) (by omega)

theorem rep_sum {M : DM} {ps : List PS} {ops : List SO} {N size : Nat} {recs : List (List Nat)} (h : RepOf M ps ops N size recs) : (ops.map fun x => x.bs.length).sum ≤ size ∧ ((∀ hp : 0 < ps.length, (lastP ps hp).t = []) → (ops.map fun x => x.bs.length).sum = 0) := by
 have z : ∀ l : List SO, (∀ x ∈ l, x.bs = []) → (l.map fun x => x.bs.length).sum = 0 := by
  intro l hl
  induction l with
  | nil => rfl
  | cons x l ih =>
   rw [List.map_cons, List.sum_cons, ih (fun y hy => hl y (List.mem_cons_of_mem _ hy)), hl x (List.mem_cons_self ..)]
   rfl
 have hc : ∀ x ∈ cleanM [cutB, newB] M, x.bs = [] := by
  intro x hx
  unfold cleanM at hx
  obtain ⟨n, _, rfl⟩ := List.mem_map.1 hx
  rfl
 rcases h with ⟨rfl, rfl, rfl, rfl, rfl⟩ | ⟨k, hp, _, _, _, rfl, _, rfl⟩
 ·have := z (repNone M) (fun x hx => by
   unfold repNone at hx
   rcases List.mem_append.1 hx with h | h
   ·exact hc x h
   ·rw [List.mem_singleton.1 h])
  exact ⟨by omega, fun _ => this⟩
 ·have hold : ∀ x ∈ ((ps.take k).map PS.n).map (fun n => (⟨5, nmB n.toNat, [], []⟩ : SO)), x.bs = [] := by
   intro x hx
   obtain ⟨n, _, rfl⟩ := List.mem_map.1 hx
   rfl
  have e : ((repOps M ((ps.take k).map PS.n) N (joinL (lastP ps hp).ls) (lastP ps hp).t.length).map fun x => x.bs.length).sum = ((if (lastP ps hp).t.length = 0 then [] else cutOps (nmB N) (joinL (lastP ps hp).ls)).map fun x => x.bs.length).sum := by
   unfold repOps
   simp only [List.map_append, List.sum_append]
   have h1 := z _ hc
   have h2 := z _ hold
   rw [h1, h2]
   simp
  rw [e]
  constructor
  ·split
   ·simp
   ·simp [cutOps]
  ·intro ht
   rw [if_pos (by rw [ht hp]; rfl)]
   rfl

theorem rep_len {M : DM} {ps : List PS} {ops : List SO} {N size : Nat} {recs : List (List Nat)} (h : RepOf M ps ops N size recs) : ops.length ≤ ps.length + 7 := by
 rcases h with ⟨rfl, rfl, _⟩ | ⟨k, hp, _, _, _, _, _, rfl⟩
 ·have := cleanM_len [cutB, newB] M
  unfold repNone
  rw [List.length_append]
  simp only [List.length_cons, List.length_nil] at *
  omega
 ·have := repOps_len M ((ps.take k).map PS.n) N (joinL (lastP ps hp).ls) (lastP ps hp).t.length
  rw [List.length_map, List.length_take] at this
  omega

theorem asc_sub' : ∀ (xs ys : List Int), xs.Pairwise (· < ·) → (∀ x ∈ xs, x ∈ ys) → xs.length ≤ ys.length
 | [], _, _, _ => Nat.zero_le _
 | x :: xs, ys, hp, hs => by
  obtain ⟨h1, h2⟩ := List.pairwise_cons.1 hp
  have hx := hs x (List.mem_cons_self ..)
  have ih := asc_sub' xs (ys.erase x) h2 (fun y hy => by
   have hne : y ≠ x := fun e => by have := h1 y hy; omega
   exact (List.mem_erase_of_ne hne).2 (hs y (List.mem_cons_of_mem _ hy)))
  rw [List.length_erase_of_mem hx] at ih
  have : 0 < ys.length := List.length_pos_of_mem hx
  rw [List.length_cons]
  omega

theorem segs_many {M : DM} {ps : List PS} (hA : AllOf M ps) : ps.length ≤ M.fs.length := by
 have h1 := asc_sub' (ps.map PS.n) (M.fs.map fun f => ((segNum (nmL f.n) : Nat) : Int)) (allOf_asc hA) (fun x hx => by
  obtain ⟨l, hl, _, rfl⟩ := (hA.1.2 x).1 hx
  obtain ⟨f, hf, rfl⟩ := List.mem_map.1 hl
  exact List.mem_map.2 ⟨f, hf, rfl⟩)
 rw [List.length_map, List.length_map] at h1
 exact h1

theorem last_small {M : DM} {ps : List PS} (hA : AllOf M ps) (hp : 0 < ps.length) : (joinL (lastP ps hp).ls).length ≤ usedF M.fs := by
 have hsp := congrArg List.length (hA.2 _ (List.getElem_mem (by omega : ps.length - 1 < ps.length))).eq
 rw [List.length_append] at hsp
 have := readM_len (nmB (ps[ps.length - 1]'(by omega)).n.toNat) M
 unfold lastP
 omega

theorem rep_size {M : DM} {ps : List PS} (hA : AllOf M ps) {ops : List SO} {N size : Nat} {recs : List (List Nat)} (h : RepOf M ps ops N size recs) : size ≤ usedF M.fs := by
 rcases h with ⟨_, _, _, rfl, _⟩ | ⟨k, hp, _, _, _, rfl, _, _⟩
 ·exact Nat.zero_le _
 ·exact last_small hA hp

def Named (M : DM) : Prop := ∀ f ∈ M.fs, f.n.length ≤ 9223372036854775807

theorem mem_setN' {x y : F} {fs : List F} (h : y ∈ setN F.n x fs) : y = x ∨ y ∈ fs := by
 unfold setN at h
 obtain ⟨z, hz, rfl⟩ := List.mem_map.1 h
 by_cases e : (F.n z == F.n x) = true
 ·rw [if_pos e]; exact .inl rfl
 ·rw [if_neg e]; exact .inr hz

theorem named_step {M : DM} (h : Named M) (k : Int) {nm tt : List UInt8} (bs : List Nat) (h1 : nm.length ≤ 9223372036854775807) (h2 : tt.length ≤ 9223372036854775807) : Named (stepM k nm tt bs M).1 := by
 have chg : ∀ {act : DM → DM × Int}, (∀ M', M'.fs = M.fs → Named (act M').1) → Named (chgM M nm act).1 := by
  intro act ha
  have hf : Named (failM M) := by unfold Named; rw [failM_fs' M]; exact h
  unfold chgM
  split
  ·exact hf
  ·split
   ·exact ha _ (failM_fs' M)
   ·exact hf
 have on : ∀ {M' : DM} {act : F → DM → DM × Int}, M'.fs = M.fs → (∀ f, Named (act f M').1) → Named (onM nm act M').1 := by
  intro M' act he ha
  unfold onM
  split
  ·unfold Named; rw [he]; exact h
  ·exact ha _
 have put : ∀ {x : F} {fs : List F}, x.n.length ≤ 9223372036854775807 → (∀ f ∈ fs, f.n.length ≤ 9223372036854775807) → ∀ f ∈ putN F.n x fs, f.n.length ≤ 9223372036854775807 := by
  intro x fs hx hfs f hf
  unfold putN at hf
  rcases (mem_insN F.n _ _ _).1 hf with rfl | hf
  ·exact hx
  ·unfold delN at hf
   exact hfs f (List.mem_filter.1 hf).1
 have set : ∀ {x : F} {fs : List F}, x.n.length ≤ 9223372036854775807 → (∀ f ∈ fs, f.n.length ≤ 9223372036854775807) → ∀ f ∈ setN F.n x fs, f.n.length ≤ 9223372036854775807 := by
  intro x fs hx hfs f hf
  rcases mem_setN' hf with rfl | hf
  ·exact hx
  ·exact hfs f hf
 have del : ∀ {fs : List F}, (∀ f ∈ fs, f.n.length ≤ 9223372036854775807) → ∀ f ∈ delN F.n nm fs, f.n.length ≤ 9223372036854775807 := by
  intro fs hfs f hf
  unfold delN at hf
  exact hfs f (List.mem_filter.1 hf).1
 unfold stepM
 split
 ·exact chg fun M' e => by
   have hM : Named M' := by unfold Named; rw [e]; exact h
   split
   ·exact hM
   ·exact put h1 hM
 ·split
  ·exact chg fun M' e => on e fun f => by
    have hM : Named M' := by unfold Named; rw [e]; exact h
    split
    ·exact set h1 hM
    ·exact hM
  ·split
   ·exact chg fun M' e => on e fun f => by
     have hM : Named M' := by unfold Named; rw [e]; exact h
     exact set h1 hM
   ·split
    ·exact chg fun M' e => on e fun f => by
      have hM : Named M' := by unfold Named; rw [e]; exact h
      split
      ·exact put h2 (del hM)
      ·exact hM
    ·exact chg fun M' e => on e fun f => by
      have hM : Named M' := by unfold Named; rw [e]; exact h
      exact del hM

theorem named_steps : ∀ (ops : List SO) {M : DM}, Named M → (∀ x ∈ ops, x.nm.length ≤ 9223372036854775807 ∧ x.tt.length ≤ 9223372036854775807) → Named (stepsM ops M).1
 | [], _, h, _ => h
 | x :: ops, M, h, ho => by
  have h1 := named_step h x.k x.bs (ho x (List.mem_cons_self ..)).1 (ho x (List.mem_cons_self ..)).2
  have e : stepsM (x :: ops) M = if (soM x M).2 = 0 then stepsM ops (soM x M).1 else soM x M := rfl
  rw [e]
  split
  ·exact named_steps ops h1 (fun y hy => ho y (List.mem_cons_of_mem _ hy))
  ·exact h1

theorem rep_named {M : DM} {ps : List PS} {ops : List SO} {N size : Nat} {recs : List (List Nat)} (h : RepOf M ps ops N size recs) : ∀ x ∈ ops, x.nm.length ≤ 9223372036854775807 ∧ x.tt.length ≤ 9223372036854775807 := by
 have hc : ∀ x ∈ cleanM [cutB, newB] M, x.nm.length ≤ 9223372036854775807 ∧ x.tt.length ≤ 9223372036854775807 := by
  intro x hx
  unfold cleanM at hx
  obtain ⟨n, hn, rfl⟩ := List.mem_map.1 hx
  have := (List.mem_filter.1 hn).1
  simp only [List.mem_cons, List.not_mem_nil, or_false] at this
  rcases this with rfl | rfl <;> exact ⟨by decide, by decide⟩
 have hcb : cutB.length ≤ 9223372036854775807 := by decide
 have hb : ∀ N : Nat, (nmB N).length ≤ 9223372036854775807 := fun N => by rw [nmB_length]; decide
 rcases h with ⟨_, rfl, _⟩ | ⟨k, hp, _, _, _, _, _, rfl⟩
 ·intro x hx
  unfold repNone at hx
  rcases List.mem_append.1 hx with h | h
  ·exact hc x h
  ·rw [List.mem_singleton.1 h]; exact ⟨hb 1, Nat.zero_le _⟩
 ·intro x hx
  unfold repOps at hx
  rcases List.mem_append.1 hx with h | h
  ·rcases List.mem_append.1 h with h | h
   ·rcases List.mem_append.1 h with h | h
    ·exact hc x h
    ·split at h
     ·cases h
     ·unfold cutOps at h
      simp only [List.mem_cons, List.not_mem_nil, or_false] at h
      rcases h with rfl | rfl | rfl | rfl
      ·exact ⟨hcb, Nat.zero_le _⟩
      ·exact ⟨hcb, Nat.zero_le _⟩
      ·exact ⟨hcb, Nat.zero_le _⟩
      ·exact ⟨hcb, hb N⟩
   ·obtain ⟨n, _, rfl⟩ := List.mem_map.1 h
    exact ⟨hb _, Nat.zero_le _⟩
  ·rw [List.mem_singleton.1 h]; exact ⟨hb N, Nat.zero_le _⟩

theorem open_neat {M : DM} {ps : List PS} {N U : Nat} (hnt : Neat M N U) (hA : AllOf M ps) (hnm : Named M) {r : OR} (h : IsOpen M ps r) : Neat r.M (N + M.fs.length + 7) (U + usedF M.fs) ∧ Named r.M := by
 have hsm := hnt.small
 rcases h with ⟨_, rfl⟩ | ⟨ops, K, size, recs, hr, rfl⟩
 ·exact ⟨hnt.mono (by omega) (by omega), hnm⟩
 ·have h1 := (rep_sum hr).1
  have h2 := rep_len hr
  have h3 := segs_many hA
  have h4 := rep_size hA hr
  exact ⟨(stepsM_neat' ops hnt).mono (by omega) (by omega), named_steps ops hnm (rep_named hr)⟩

theorem named_crash {M : DM} (h : Named M) (ks : List Int) : Named (crashM ks M) := crashM_names h

end Go.Proofs.YtnbddiiedagllaaGreat

/- The walks of the steps of a compaction on a disk of the call's own. -/
namespace Go.Proofs.YtnbddiiedagllaaGreat
open Go.RowKit Go.Maps Go.Shelf

attribute [local go_sem ↓] Go.wp_at_zero Go.wp_at_succ

section
variable {w0 : World} {X : Nat → Prop} {w : World} {d : Nat} {M : DM}

theorem OwnEnd.then {Y : Nat → Prop} {w1 w2 : World} {M1 M2 : DM} (h1 : OwnEnd w0 Y w d M1 w1) (h2 : OwnEnd w0 Y w1 d M2 w2) : OwnEnd w0 Y w d M2 w2 :=
 ⟨h2.1, fun b hb => (h2.2.1 b hb).trans (h1.2.1 b hb), h1.2.2.1.trans h2.2.2.1, Nat.le_trans h1.2.2.2 h2.2.2.2⟩

end
end Go.Proofs.YtnbddiiedagllaaGreat

/- A log beside the reference's, while a statement runs. -/
namespace Go.Proofs.YtnbddiiedagllaaGreat
open Go.RowKit Go.Maps Go.Shelf

theorem RBox.shift {X : Nat → Prop} {w w' : World} {B : Nat} {W : WM} (h : RBox X w B W) (hk : ∀ b, X b ∨ b = B → w'.heap[b]? = w.heap[b]?) (hs : w.heap.size ≤ w'.heap.size) : RBox X w' B W := by
 obtain ⟨a, n, c, R, h1, h2, h3, h4, h5⟩ := h
 exact ⟨a, n, c, R, (hk B (.inr rfl)).trans h1, h2.mono (fun b hb => hk b (.inl hb)) (fun _ h => h), h3, h4, fun b hx => ⟨Nat.lt_of_lt_of_le (h5 b hx).1 hs, (h5 b hx).2⟩⟩

theorem RBox.plan {X : Nat → Prop} {w : World} {B : Nat} {W : WM} (h : RBox X w B W) (k : Int) (hk : 0 ≤ k) : RBox X (w.setCell ⟨B, 2, none⟩ (.int .i64 k)) B { W with D := armM k W.D } := by
 obtain ⟨a, n, c, R, h1, h2, h3, h4, h5⟩ := h
 refine ⟨a, n, c, R, ?_, h2.mono (fun b hb => Below.heap_setCell w ⟨B, 2, none⟩ _ b (h5 b hb).2) (fun _ h => h), h3, h4, fun b hx => ⟨by simp; exact (h5 b hx).1, (h5 b hx).2⟩⟩
 have h6 := set_head (i := 2) h1 (.int .i64 k)
 have e : k = ((k.toNat : Nat) : Int) := by omega
 rw [e] at h6 ⊢
 simpa [logO, armM] using h6

structure DB (w0 : World) (T : Nat → Prop) (wT : World) (d B : Nat) (M : DM) (Wb : WM) (wr : World) : Prop where
 own : ∃ Y : Nat → Prop, Own w0 Y wr d M ∧ Y B ∧ (∀ b, T b → Y b) ∧ ∃ X : Nat → Prop, RBox X wr B Wb ∧ ∀ b, X b → Y b ∧ ¬ T b
 ne : w0.heap.size ≤ B ∧ ¬ T B
 tb : ∀ b, T b → b < wT.heap.size
 keep : ∀ b, T b → wr.heap[b]? = wT.heap[b]?
 size : wT.heap.size ≤ wr.heap.size

structure BothV (w0 : World) (T V : Nat → Prop) (wT : World) (g d B : Nat) (W Wb : WM) (wr : World) : Prop where
 log : ∃ Y : Nat → Prop, LogAt w0 Y wr g d W ∧ Y B ∧ (∀ b, T b → Y b) ∧ ∃ X : Nat → Prop, RBox X wr B Wb ∧ ∀ b, X b → Y b ∧ b ≠ g ∧ ¬ V b
 ne : B ≠ g ∧ w0.heap.size ≤ B ∧ ¬ T B ∧ ¬ T g
 tb : ∀ b, T b → b < wT.heap.size
 keep : ∀ b, T b → wr.heap[b]? = wT.heap[b]?
 size : wT.heap.size ≤ wr.heap.size
 sub : ∀ b, V b → T b

abbrev Both (w0 : World) (T : Nat → Prop) (wT : World) (g d B : Nat) (W Wb : WM) (wr : World) : Prop := BothV w0 T T wT g d B W Wb wr

section
variable {w0 : World} {T V : Nat → Prop} {wT : World} {g d B : Nat} {W Wb : WM} {M : DM} {wr : World}

theorem DB.base (h : DB w0 T wT d B M Wb wr) : Below w0.heap.size w0 wr := by
 obtain ⟨Y, h1, _⟩ := h.own
 exact h1.base

theorem BothV.base (h : BothV w0 T V wT g d B W Wb wr) : Below w0.heap.size w0 wr := by
 obtain ⟨Y, h1, _⟩ := h.log
 exact h1.own.base

theorem BothV.lt (h : BothV w0 T V wT g d B W Wb wr) : B < wr.heap.size ∧ g < wr.heap.size := by
 obtain ⟨Y, h1, h2, _⟩ := h.log
 exact ⟨h1.own.blocks B h2, h1.lt⟩

theorem DB.lt (h : DB w0 T wT d B M Wb wr) : B < wr.heap.size := by
 obtain ⟨Y, h1, h2, _⟩ := h.own
 exact h1.blocks B h2

theorem BothV.stepLog (h : BothV w0 T V wT g d B W Wb wr) {wa : World} (hb : Below wr.heap.size wr wa) : ∃ Y' : Nat → Prop, LogAt w0 Y' wa g d W ∧ (∀ b, wr.heap.size ≤ b → b < wa.heap.size → Y' b) ∧ (∀ W' w3, LogEnd w0 Y' wa g d W' w3 → BothV w0 T V wT g d B W' Wb w3) ∧
  ∀ g2 W2 w3, wa.heap.size ≤ g2 → LogAt w0 (fun b => Y' b ∨ b = g2) w3 g2 d W2 → (∀ b, Y' b → w3.heap[b]? = wa.heap[b]?) → wa.heap.size ≤ w3.heap.size → BothV w0 T V wT g2 d B W2 Wb w3 := by
 obtain ⟨Y, h1, h2, h3, X, h4, h5⟩ := h.log
 obtain ⟨n1, n2, n3, n4⟩ := h.ne
 have hlt := h1.own.blocks
 refine ⟨_, h1.all hb, fun b g1 g2 => .inr ⟨g1, g2⟩, fun W' w3 hE => ?_, fun g2 W2 w3 hg hL hk hs => ?_⟩
 ·have hbk : ∀ b, Y b → b ≠ g → w3.heap[b]? = wr.heap[b]? := fun b hy hg => (hE.2.1 b (.inl hy) hg).trans (hb.block b (hlt b hy))
  refine ⟨⟨_, hE.1, .inl h2, fun b hb => .inl (h3 b hb), X, h4.shift (fun b hx => ?_) (Nat.le_trans hb.size hE.2.2.2), fun b hx => ⟨.inl (h5 b hx).1, (h5 b hx).2⟩⟩, h.ne, h.tb, fun b ht => (hbk b (h3 b ht) (fun e => n4 (e ▸ ht))).trans (h.keep b ht), Nat.le_trans h.size (Nat.le_trans hb.size hE.2.2.2), h.sub⟩
  rcases hx with hx | rfl
  ·exact hbk b (h5 b hx).1 (h5 b hx).2.1
  ·exact hbk _ h2 n1
 ·have hbk : ∀ b, Y b → w3.heap[b]? = wr.heap[b]? := fun b hy => (hk b (.inl hy)).trans (hb.block b (hlt b hy))
  have hg2 : wr.heap.size ≤ g2 := Nat.le_trans hb.size hg
  have hT : ¬ T g2 := fun ht => by have := hlt _ (h3 _ ht); omega
  refine ⟨⟨_, hL, .inl (.inl h2), fun b hb => .inl (.inl (h3 b hb)), X, h4.shift (fun b hx => ?_) (Nat.le_trans hb.size hs), fun b hx => ⟨.inl (.inl (h5 b hx).1), fun e => ?_, (h5 b hx).2.2⟩⟩, ⟨fun e => ?_, n2, n3, hT⟩, h.tb, fun b ht => (hbk b (h3 b ht)).trans (h.keep b ht), Nat.le_trans h.size (Nat.le_trans hb.size hs), h.sub⟩
  ·rcases hx with hx | rfl
   ·exact hbk b (h5 b hx).1
   ·exact hbk _ h2
  ·have := hlt _ (h5 b hx).1; omega
  ·have := hlt _ h2; omega

theorem BothV.grow (h : BothV w0 T V wT g d B W Wb wr) {wa : World} (hb : Below wr.heap.size wr wa) : BothV w0 T V wT g d B W Wb wa := by
 obtain ⟨Y', h1, _, h2, _⟩ := h.stepLog hb
 exact h2 W wa h1.refl

theorem BothV.stepDisk (h : BothV w0 T V wT g d B W Wb wr) {wa : World} (hb : Below wr.heap.size wr wa) : ∃ Y' : Nat → Prop, Own w0 Y' wa d W.D ∧ (∀ b, wr.heap.size ≤ b → b < wa.heap.size → Y' b) ∧ ∀ M' w3, OwnEnd w0 Y' wa d M' w3 → BothV w0 T V wT g d B { W with D := M' } Wb w3 := by
 obtain ⟨Y', h1, h0, h2, _⟩ := h.stepLog hb
 exact ⟨Y', h1.own, h0, fun M' w3 hE => h2 _ w3 ⟨⟨hE.1, h1.inY, h1.new, (hE.2.1 g h1.inY).trans h1.cells⟩, fun b hb _ => hE.2.1 b hb, hE.2.2.1, hE.2.2.2⟩⟩

theorem logO_ref {X : Nat → Prop} {w : World} (h : RBox X w B Wb) : ∃ a n c, w.heap[B]? = some (logO (Wb.D.room : Int) a n c (Wb.D.plan : Int) Wb.D.down Wb.most (Wb.n : Int) (Wb.size : Int) (Wb.wait : Int)) ∧
  RLogAt X w (logV (Wb.D.room : Int) a n c (Wb.D.plan : Int) Wb.D.down Wb.most (Wb.n : Int) (Wb.size : Int) (Wb.wait : Int)) Wb ∧ RefAt X w (refV (Wb.D.room : Int) a n c (Wb.D.plan : Int) Wb.D.down) Wb.D ∧ ∀ b, X b → b < w.heap.size := by
 obtain ⟨a, n, c, R, h1, h2, h3, _⟩ := h.ref
 exact ⟨a, n, c, h1, h2, h3, fun b hb => by obtain ⟨_, _, _, _, _, _, _, _, hX⟩ := h; exact (hX b hb).1⟩

theorem BothV.stepBox (h : BothV w0 T V wT g d B W Wb wr) : ∃ (X : Nat → Prop) (a : Option Addr) (n c : Nat), wr.heap[B]? = some (logO (Wb.D.room : Int) a n c (Wb.D.plan : Int) Wb.D.down Wb.most (Wb.n : Int) (Wb.size : Int) (Wb.wait : Int)) ∧
  RLogAt X wr (logV (Wb.D.room : Int) a n c (Wb.D.plan : Int) Wb.D.down Wb.most (Wb.n : Int) (Wb.size : Int) (Wb.wait : Int)) Wb ∧ RefAt X wr (refV (Wb.D.room : Int) a n c (Wb.D.plan : Int) Wb.D.down) Wb.D ∧ (∀ b, X b → b < wr.heap.size) ∧
  ∀ (r : WM) (w4 : World) (a' : Option Addr) (n' c' : Nat) (R' : List FR), Below wr.heap.size wr w4 → RowF (fun b => (X b ∨ wr.heap.size ≤ b) ∧ b < w4.heap.size) w4 a' n' c' R' → R'.map FR.f = r.D.fs → r.D.fs.length ≤ 1000000 →
   BothV w0 T V wT g d B W r (set8 w4 B (.int .i64 (r.D.room : Int)) (.slice a' n' c') (.int .i64 (r.D.plan : Int)) (.bool r.D.down) (.int .i64 r.most) (.int .i64 (r.n : Int)) (.int .i64 (r.size : Int)) (.int .i64 (r.wait : Int))) := by
 obtain ⟨Y, h1, h2, h3, X, h4, h5⟩ := h.log
 obtain ⟨n1, n2, n3, n4⟩ := h.ne
 obtain ⟨a, n, c, hc, hrl, hrf, hX⟩ := logO_ref h4
 refine ⟨X, a, n, c, hc, hrl, hrf, hX, fun r w4 a' n' c' R' hb4 hR' hf hn => ?_⟩
 have hC := set8_chg w4 B (.int .i64 (r.D.room : Int)) (.slice a' n' c') (.int .i64 (r.D.plan : Int)) (.bool r.D.down) (.int .i64 r.most) (.int .i64 (r.n : Int)) (.int .i64 (r.size : Int)) (.int .i64 (r.wait : Int))
 have hbx := rbox_put h4 hR' hf hb4 hn
 have hL4 := (h1.all hb4).turned hC (fun b hb => by rw [hb]; exact ⟨.inl h2, n1, n2⟩)
 have hgl := h1.lt
 refine ⟨⟨_, hL4, .inl (.inl h2), fun b hb => .inl (.inl (h3 b hb)), _, hbx, fun b hb => ?_⟩, h.ne, h.tb, fun b ht => ?_, Nat.le_trans h.size (Nat.le_trans hb4.size hC.size), h.sub⟩
 ·rcases hb.1 with hx | hx
  ·exact ⟨.inl (.inl (h5 b hx).1), (h5 b hx).2.1, (h5 b hx).2.2⟩
  ·exact ⟨.inl (.inr ⟨hx, hb.2⟩), by omega, fun ht => by have := h1.own.blocks b (h3 b (h.sub b ht)); omega⟩
 ·have hbl := h1.own.blocks b (h3 b ht)
  have hsz4 := hb4.size
  exact (hC.block b (by omega) (fun e => n3 (e ▸ ht))).trans ((hb4.block b hbl).trans (h.keep b ht))

theorem BothV.new {Y X : Nat → Prop} (hL : LogAt w0 Y wr g d W) (hR : RBox X wr B Wb) (hB : Y B) (hXY : ∀ b, X b → Y b ∧ b ≠ g ∧ ¬ T b) (hne : B ≠ g) (h0 : w0.heap.size ≤ B) (hT : ∀ b, T b → Y b) (hBT : ¬ T B) (hgT : ¬ T g) : BothV w0 T T wr g d B W Wb wr :=
 ⟨⟨Y, hL, hB, hT, X, hR, hXY⟩, ⟨hne, h0, hBT, hgT⟩, fun b h => hL.own.blocks b (hT b h), fun _ _ => rfl, Nat.le_refl _, fun _ h => h⟩
end
end Go.Proofs.YtnbddiiedagllaaGreat

