import Derived.Test.YtjoolocdejnohaaGreatSSB35
import Derived.Test.YtjoolocdejnohaaGreatSSB31
import Derived.Test.YtjoolocdejnohaaGreatSSB34
import Derived.Test.YtjoolocdejnohaaGreatSSB33
import Derived.Test.YtjoolocdejnohaaGreatSSB25
import Derived.Test.YtjoolocdejnohaaGreatSSB30
/- The walk of find, whatever lies on a disk that is up. -/
namespace Go.Proofs.YtjoolocdejnohaaGreat
open Go.RowKit Go.Maps Go.Shelf

attribute [local go_sem ↓] Go.wp_at_zero Go.wp_at_succ

theorem PartsZ.form {Z : Nat → Prop} {w : World} {B : Nat} {v : Value} {ls : List (List Nat)} (h : PartsZ Z w B v ls) : ∃ a c, v = .slice a ls.length c := by
  obtain ⟨vs, _, h2, _⟩ := h
  rcases h2.2 with ⟨rfl, h0⟩ | ⟨g, cap, cur, rfl, _⟩
  · exact ⟨none, 0, by rw [h0]⟩
  · exact ⟨_, cap, rfl⟩

theorem own_same5 {w w' : World} {base n size : Nat} {e : TypeId} {v : Value} {xs : List Value} (h : w.ownsRow base e size v n xs) (hk : ∀ k, v.ownBlock = some k → w'.heap[k]? = w.heap[k]?) : w'.ownsRow base e size v n xs := by
  refine ⟨h.1, ?_⟩
  rcases h.2 with hn | ⟨g, cap, cur, rfl, hbg, hg, rest⟩
  · exact .inl hn
  · exact .inr ⟨g, cap, cur, rfl, hbg, (hk g rfl).trans hg, rest⟩

theorem PartsZ.same {Z Z' : Nat → Prop} {w w' : World} {B : Nat} {v : Value} {ls : List (List Nat)} (h : PartsZ Z w B v ls) (hk : ∀ b, B ≤ b → w'.heap[b]? = w.heap[b]?) (hZ : ∀ b, Z b → w'.heap[b]? = w.heap[b]?) (hzz : ∀ b, Z b → Z' b) : PartsZ Z' w' B v ls := by
  obtain ⟨vs, h1, h2, h3⟩ := h
  refine ⟨vs, h1, own_same5 h2 (fun k e => hk k (own_ge5 h2 k e)), fun i hi => ?_⟩
  obtain ⟨a, n, c, h4, h5, h6⟩ := h3 i hi
  exact ⟨a, n, c, h4, h5.moved (fun h0 x hx => hZ _ (h6 h0 x hx).2), fun h0 x hx => ⟨(h6 h0 x hx).1, hzz _ (h6 h0 x hx).2⟩⟩

def putF (w : World) (B : Nat) (v0 v1 v2 v3 v4 v5 v6 v7 : Value) : World :=
  ((((((((w.setCell ⟨B, 0, none⟩ v0).setCell ⟨B, 1, none⟩ v1).setCell ⟨B, 2, none⟩ v2).setCell ⟨B, 3, none⟩ v3).setCell ⟨B, 4, none⟩ v4).setCell ⟨B, 5, none⟩ v5).setCell ⟨B, 6, none⟩ v6).setCell ⟨B, 7, none⟩ v7)

theorem putF_other (w : World) {B b : Nat} (h : b ≠ B) (v0 v1 v2 v3 v4 v5 v6 v7 : Value) : (putF w B v0 v1 v2 v3 v4 v5 v6 v7).heap[b]? = w.heap[b]? := by
  unfold putF
  rw [Below.heap_setCell _ _ _ _ h, Below.heap_setCell _ _ _ _ h, Below.heap_setCell _ _ _ _ h, Below.heap_setCell _ _ _ _ h, Below.heap_setCell _ _ _ _ h, Below.heap_setCell _ _ _ _ h, Below.heap_setCell _ _ _ _ h, Below.heap_setCell _ _ _ _ h]

theorem putF_below {n : Nat} {w0 w : World} {B : Nat} (h : Below n w0 w) (hn : n ≤ B) (v0 v1 v2 v3 v4 v5 v6 v7 : Value) : Below n w0 (putF w B v0 v1 v2 v3 v4 v5 v6 v7) :=
  (((((((h.setCell hn _).setCell hn _).setCell hn _).setCell hn _).setCell hn _).setCell hn _).setCell hn _).setCell hn _

/-- What is found, in memory. -/
structure FoundAt (B : Nat) (w : World) (ps : List PS) (k : Nat) (x : FD) : Prop where
  recs : PartsZ (fun b => B ≤ b) w B (.slice x.ra x.rn x.rc) (recsL (ps.drop k))
  older : Ints w x.oa x.on x.oc ((ps.take k).map PS.n)
  last : ∃ h : 0 < ps.length, x.n = (ps[ps.length - 1]'(by omega)).n ∧ Bytes w x.wa x.wn x.wc (joinL (ps[ps.length - 1]'(by omega)).ls) ∧ (∀ y, x.wa = some y → 0 < x.wn → B ≤ y.block) ∧ x.tn = ((ps[ps.length - 1]'(by omega)).t.length : Int)
  no : x.no = false

def FindQ (B : Nat) (ps : List PS) (x : FD) (z : Int) (w : World) : Prop :=
  (ps = [] ∧ x = fd1 ∧ z = 0) ∨ ∃ k, FirstAt ps k ∧ ((¬ Good (ps.drop k) ∧ x = fd0 ∧ z = 11) ∨ (Good (ps.drop k) ∧ z = 0 ∧ FoundAt B w ps k x))

theorem prow_of_row5 {Z : Nat → Prop} {w : World} {a : Option Addr} {n c : Nat} {xs : List PD} {qs : List PS} (h : Row5 Z w a n c xs qs) (hm : n ≤ 1000000) : PRow (fun b => Z b ∧ b < w.heap.size) w a n c (xs.zip (qs.map PS.recs)) := by
  have h1 := h.len
  have h2 := h.lenq
  have hzl : (xs.zip (qs.map PS.recs)).length = n := by rw [List.length_zip, List.length_map, h1, h2]; omega
  refine ⟨hzl, hm, fun hn => ?_⟩
  obtain ⟨b, o, e, _, hc⟩ := h.cell hn
  refine ⟨b, o, e, fun i hi => ?_⟩
  have hx : i < xs.length := by rw [h1]; omega
  have hq : i < qs.length := by rw [h2]; omega
  have e1 : (xs.zip (qs.map PS.recs))[i] = (xs[i], qs[i].recs) := by rw [List.getElem_zip, List.getElem_map]
  rw [e1]
  exact ⟨hc i hx, (h.part i hx hq).recs.lt⟩

theorem stands_of_row5 {Z : Nat → Prop} {w : World} {a : Option Addr} {n c : Nat} {xs : List PD} {qs : List PS} (h : Row5 Z w a n c xs qs) : ∀ i (hi : i < (xs.zip (qs.map PS.recs)).length) (h' : i < qs.length), Stands1 (xs.zip (qs.map PS.recs))[i].1 (xs.zip (qs.map PS.recs))[i].2 qs[i] := by
  intro i hi h'
  have hx : i < xs.length := by rw [h.len, ← h.lenq]; exact h'
  have e1 : (xs.zip (qs.map PS.recs))[i] = (xs[i], qs[i].recs) := by rw [List.getElem_zip, List.getElem_map]
  rw [e1]
  have hp := h.part i hx h'
  exact ⟨hp.n, hp.mark, rfl, hp.torn⟩

theorem recs_le (ls : List (List Nat)) : (restOf ls).length ≤ ls.length := by
  unfold restOf
  split
  · rw [List.length_tail]; omega
  · exact Nat.le_refl _

theorem allOf_many {M : DM} {ps : List PS} (hA : AllOf M ps) {U : Nat} (hu : usedF M.fs ≤ U) : ∀ p ∈ ps, p.ls.length ≤ U := by
  intro p hp
  have h1 := joinL_many p.ls
  have h2 := congrArg List.length (hA.2 p hp).eq
  rw [List.length_append] at h2
  have h3 := readM_len (nmB p.n.toNat) M
  omega

theorem sumP_le {xs : List (PD × List (List Nat))} {U : Nat} (h : ∀ x ∈ xs, x.2.length ≤ U) : sumP xs ≤ xs.length * U := by
  unfold sumP
  induction xs with
  | nil => simp
  | cons x xs ih =>
    rw [List.map_cons, List.sum_cons, List.length_cons, Nat.succ_mul]
    have h1 := h x (List.mem_cons_self ..)
    have h2 := ih (fun y hy => h y (List.mem_cons_of_mem _ hy))
    omega

set_option maxRecDepth 100000 in
set_option maxHeartbeats 6400000 in
theorem find_up {w0 : World} {X : Nat → Prop} {w : World} {d : Nat} {M : DM} (hO : Own w0 X w d M) (hd : M.down = false) (hl : M.fs.length ≤ 1000) (hu : usedF M.fs ≤ 10000) (hnm : ∀ f ∈ M.fs, f.n.length ≤ 9223372036854775807) (ps : List PS) (hA : AllOf M ps) :
    Calls Tryz.prog 57 #[.pointer (some ⟨d, 0, none⟩)] w (FoundEnd (FindQ w.heap.size ps) w) := by
  by_cases hp0 : ps = []
  · subst hp0
    exact (find_none hO hd hl hnm hA.1).mono fun e w' h => ⟨fd1, 0, h.1, .inl ⟨rfl, rfl, rfl⟩, h.2⟩
  obtain ⟨w1, hw1⟩ : ∃ w1, w1 = w.alloc (.cells #[.slice none 0 0, .slice none 0 0, .int .i64 0, .bool false, .slice none 0 0, .slice none 0 0, .int .i64 0, .bool false] 107) := ⟨_, rfl⟩
  have hb1 : Below w.heap.size w w1 := by rw [hw1]; exact (Below.refl _ _).alloc (Nat.le_refl _) _
  have hB1 : w1.heap[w.heap.size]? = some (.cells #[.slice none 0 0, .slice none 0 0, .int .i64 0, .bool false, .slice none 0 0, .slice none 0 0, .int .i64 0, .bool false] 107 (0, 0)) := by rw [hw1]; exact heap_alloc_new _ _
  have HD := Lib.hid (own_down (hO.below hb1))
  rw [hd] at HD
  have HLi := Lib.hid (own_list (hO.below hb1) (by omega))
  have hplen : 0 < ps.length := List.length_pos_iff.2 hp0
  have HRP := Lib.hid (fun W (h : Below w.heap.size w W) p c hpn hI => readParts_any (hO.below h) (by omega) ps hA hplen hpn p c hI)
  have Hmany := Lib.hid (allOf_many hA hu)
  have Hnm := Lib.hid hnm
  have HA := Lib.hid hA
  have Hb1 := Lib.hid hb1
  have HB1 := Lib.hid hB1
  have Hw1 := Lib.hid hw1
  clear hO hd hnm hA hb1 hB1 hw1 hu hp0
  go_enter Tryz.func57, Tryz.ntmps57
  go_wp2_with fail
  rw [← Hw1.out]
  refine HD.out.mono ?_
  rintro e w2 ⟨rfl, rfl⟩
  go_wp2_with fail
  refine HLi.out.mono ?_
  rintro e w3 ⟨v3, rfl, hown, hb3⟩
  obtain ⟨p3, k3, rfl, hS3⟩ := strs_row hown (fun n hn => by obtain ⟨f, hf, rfl⟩ := List.mem_map.1 hn; exact Hnm.out f hf)
  have HSl := Lib.hid (seglist_any p3 M.fs.length k3 _ w3 hS3 hl)
  have Hb3 := Lib.hid hb3
  clear hown hS3 hb3
  go_wp2_with fail
  refine HSl.out.mono ?_
  rintro e w4 ⟨v4, out, rfl, hasc, hmem, hol, hown4, hb4⟩
  have hmap : (M.fs.map F.n).map nmL = M.fs.map fun f => nmL f.n := by rw [List.map_map]; rfl
  rw [hmap] at hmem
  obtain rfl : out = ps.map PS.n := segsOf_uniq ⟨hasc, hmem⟩ HA.out.1
  obtain ⟨p4, k4, rfl, hI4⟩ := own_ints hown4
  have hf4 := own_formed_i hown4
  have hb41 := Hb3.out.trans (hb4.mono Hb3.out.size)
  have Hb4 := Lib.hid (Hb1.out.trans (hb41.mono Hb1.out.size))
  have HB4 := Lib.hid ((hb41.block _ (Array.getElem?_eq_some_iff.1 HB1.out).1).trans HB1.out)
  rw [List.length_map] at hI4
  have hI4' := hI4
  have HI4 := Lib.hid hI4
  have Hown4 := Lib.hid hown4
  have hpn : ps.length ≤ 1000 := by simp only [List.length_map] at hol; omega
  have HR4 := Lib.hid (HRP.out w4 Hb4.out p4 k4 hpn hI4)
  have Hf4 := Lib.hid hf4
  clear hasc hmem hol hmap hown4 hb4 hI4 hf4 hb41 hI4'
  have hpz : ((ps.length : Int) == 0) = false := by rw [beq_eq_false_iff_ne]; omega
  rw [List.length_map]
  go_wp2_with fail
  refine HR4.out.mono ?_
  rintro e w5 ⟨k, a5, c5, xs, hF, rfl, hrow5, hb5⟩
  have Hb5 := Lib.hid (Hb4.out.trans (hb5.mono Hb4.out.size))
  have HB45 := Lib.hid hb5
  have HB5 := Lib.hid ((hb5.block _ (Array.getElem?_eq_some_iff.1 HB4.out).1).trans HB4.out)
  have hI5 := HI4.out.grow hb5
  have hkl : k < ps.length := hF.1
  have hle4 := hI5.le
  have hcm4 := hI5.capmax
  obtain ⟨a6, hs6, hI6⟩ := ints_to (P := Tryz.prog) (T := 33) (E := 3) Tryz.underlying33 info_int (a := p4) (n := ps.length) (c := k4) (k := k) (by omega) hle4 Hf4.out
  obtain ⟨a7, hs7, hI7⟩ := ints_from (P := Tryz.prog) (T := 33) (E := 3) Tryz.underlying33 info_int (a := p4) (n := ps.length) (c := k4) (k := k) (by omega) hle4 Hf4.out
  have hg5 := hI7 w5 _ hI5
  have hdropn : (ps.map PS.n).drop k = (ps.drop k).map PS.n := by rw [List.map_drop]
  have hascd : Asc ((ps.drop k).map PS.n) := by rw [← hdropn]; exact List.Pairwise.sublist (List.drop_sublist k _) (allOf_asc HA.out)
  have hposd : ∀ x ∈ (ps.drop k).map PS.n, 0 < x ∧ x ≤ 1000000000 := fun x hx => by
    rw [← hdropn] at hx
    have := allOf_pos HA.out x (List.mem_of_mem_drop hx)
    omega
  rw [hdropn] at hg5
  have HGap := Lib.hid (gap_any a7 (ps.length - k) (k4 - k) _ w5 hg5 (by omega) hascd hposd)
  have Hgi := Lib.hid (good_iff (qs := ps.drop k) (fun x hx => (hposd x hx).1) hascd)
  have Hold := Lib.hid (hI6)
  have hzl : (xs.zip ((ps.drop k).map PS.recs)).length = (ps.drop k).length := by
    rw [List.length_zip, List.length_map, hrow5.len, hrow5.lenq]; omega
  have Hgl := Lib.hid (gathL_good (xs.zip ((ps.drop k).map PS.recs)) (ps.drop k) [] hzl (stands_of_row5 hrow5))
  have hsumP : sumP (xs.zip ((ps.drop k).map PS.recs)) ≤ 10000000 := by
    have h1 := sumP_le (xs := xs.zip ((ps.drop k).map PS.recs)) (U := 10000) (fun x hx => by
      obtain ⟨p, hp, e⟩ := List.mem_map.1 (List.of_mem_zip hx).2
      have h1 := Hmany.out p (List.mem_of_mem_drop hp)
      have h2 := recs_le p.ls
      rw [← e]
      show (restOf p.ls).length ≤ _
      omega)
    have h2 : (xs.zip ((ps.drop k).map PS.recs)).length ≤ 1000 := by rw [hzl, List.length_drop]; omega
    have h3 := Nat.mul_le_mul_right 10000 h2
    omega
  obtain ⟨b5, o5, rfl, hbl5, hc5⟩ := hrow5.cell (by omega)
  have Hrow5 := Lib.hid hrow5
  have hlast := hc5 (ps.length - k - 1) (by rw [hrow5.len]; omega)
  have hpl := hrow5.part (ps.length - k - 1) (by rw [hrow5.len]; omega) (by rw [hrow5.lenq]; omega)
  have hpe : (ps.drop k)[ps.length - k - 1]'(by rw [hrow5.lenq]; omega) = ps[ps.length - 1]'(by omega) := by rw [List.getElem_drop]; congr 1; omega
  rw [hpe] at hpl
  generalize (xs[ps.length - k - 1]'(by rw [hrow5.len]; omega)) = xl at hlast hpl
  have Hlast := Lib.hid hlast
  have Hpl := Lib.hid hpl
  have HF := Lib.hid hF
  have hmi : (ps.length : Int) - ((ps.length - k : Nat) : Int) = (k : Int) := by omega
  have hqi : ((ps.length - k : Nat) : Int) - 1 = ((ps.length - k - 1 : Nat) : Int) := by omega
  have hqm : ((ps.length - k - 1 : Nat) : Int) < ((ps.length - k : Nat) : Int) := by omega
  have hki : (k : Int) ≤ (ps.length : Int) := by omega
  have hps : ps.length - k ≤ 1000 := by omega
  have HsumP := Lib.hid hsumP
  clear hlast hpl hpe hc5 hsumP hzl hposd hascd hdropn hg5 hI5 hI6 hI7 hrow5 hF hb5
  obtain ⟨m, hm⟩ : ∃ m, m = ps.length - k := ⟨_, rfl⟩
  obtain ⟨q, hq⟩ : ∃ q, q = ps.length - k - 1 := ⟨_, rfl⟩
  rw [← hq] at hqi hqm Hlast
  rw [← hm] at hmi hqi hqm hs7 HGap Hrow5 hps
  rw [← hm]
  have Hm := Lib.hid hm
  clear hm hq
  go_wp2_with fail
  refine HGap.out.mono ?_
  rintro e w6 ⟨rfl, hb6⟩
  have Hb6 := Lib.hid (Hb5.out.trans (hb6.mono Hb5.out.size))
  have Hb56 := Lib.hid hb6
  have hB6 := (hb6.block _ (Array.getElem?_eq_some_iff.1 HB5.out).1).trans HB5.out
  have HB6 := Lib.hid hB6
  generalize hG : gapL ((ps.drop k).map PS.n) = G at Hgi
  clear hb6
  by_cases hg0 : G = 0
  · have HGd := Lib.hid (show Good (ps.drop k) ↔ _ from Hgi.out)
    subst hg0
    have hgb : ((0 : Int) != 0) = false := by decide
    have HGa := Lib.hid (gather_any (some ⟨b5, o5, none⟩) m c5 (xs.zip ((ps.drop k).map PS.recs)) w6 (Z := fun b => w4.heap.size ≤ b ∧ b < w6.heap.size) (fun _ h => h.2) (prow_of_row5 (Hrow5.out.grow Hb56.out) (by omega)) HsumP.out)
    clear hB6
    go_wp2_with fail
    refine HGa.out.mono ?_
    rintro e w7 ⟨hE, hb7⟩
    have Hb7 := Lib.hid (Hb6.out.trans (hb7.mono Hb6.out.size))
    have Hb67 := Lib.hid hb7
    have hB7 := (hb7.block _ (Array.getElem?_eq_some_iff.1 HB6.out).1).trans HB6.out
    obtain ⟨c0, c1, c2, c3, c4, c5', c6, c7, cf⟩ := box8 hB7
    clear hB7 hb7 HGa
    rcases hE with ⟨v, out, hga, rfl, hP⟩ | ⟨hga, rfl⟩
    · have hgood : Good (ps.drop k) ∧ out = recsL (ps.drop k) := by
        rcases Hgl.out with ⟨h1, h2⟩ | ⟨h1, _⟩
        · rw [hga] at h1
          exact ⟨HGd.out.2 ⟨trivial, h2⟩, by simpa using h1⟩
        · rw [hga] at h1; cases h1
      obtain ⟨hgood, rfl⟩ := hgood
      have HGood := Lib.hid hgood
      obtain ⟨ar, cr, rfl⟩ := hP.form
      have HP := Lib.hid hP
      obtain ⟨l0, l1, l2, l3, l4⟩ := Hlast.out
      have hb57 := Hb56.out.trans (Hb67.out.mono Hb56.out.size)
      have l0 := cell_keep hb57 l0
      have l1 := cell_keep hb57 l1
      have l2 := cell_keep hb57 l2
      have l3 := cell_keep hb57 l3
      have l4 := cell_keep hb57 l4
      have Hpl7 := Lib.hid (Hpl.out.grow hb57)
      have hb47 : Below w4.heap.size w4 w7 := HB45.out.trans (hb57.mono HB45.out.size)
      have Hown7 := Lib.hid (own_below Hown4.out hb47)
      have Hs47 := Lib.hid hb47.size
      clear hga hgood hP hb57 hb47 Hlast
      obtain ⟨xn, xm, xpa, xpn, xpc, xwa, xwn, xwc, xtn⟩ := xl
      simp only at *
      go_wp2
      refine bodyPost_ret (v := .tuple #[foundV ⟨ar, (recsL (ps.drop k)).length, cr, a6, k, k4, xn, xm, xpa, xpn, xpc, xwa, xwn, xwc, xtn, false⟩, .int .i64 0]) ?_ rfl ⟨⟨ar, (recsL (ps.drop k)).length, cr, a6, k, k4, xn, xm, xpa, xpn, xpc, xwa, xwn, xwc, xtn, false⟩, 0, rfl, .inr ⟨k, HF.out, .inr ⟨HGood.out, rfl, ?_⟩⟩, putF_below Hb7.out (Nat.le_refl _) _ _ _ _ _ _ _ _⟩
      · rw [results_cell_tmp rfl]
        go_simp
        rfl
      · have hz3 : w.heap.size < w3.heap.size := Nat.lt_of_lt_of_le (Array.getElem?_eq_some_iff.1 HB1.out).1 Hb3.out.size
        have hz4 : w.heap.size < w4.heap.size := (Array.getElem?_eq_some_iff.1 HB4.out).1
        have hz6 : w.heap.size < w6.heap.size := (Array.getElem?_eq_some_iff.1 HB6.out).1
        have hoth := fun b (h : b ≠ w.heap.size) => putF_other w7 h (.slice ar (recsL (ps.drop k)).length cr) (.slice a6 k k4) (.int .i64 xn) (.bool xm) (.slice xpa xpn xpc) (.slice xwa xwn xwc) (.int .i64 xtn) (.bool false)
        have hsz : (putF w7 w.heap.size (.slice ar (recsL (ps.drop k)).length cr) (.slice a6 k k4) (.int .i64 xn) (.bool xm) (.slice xpa xpn xpc) (.slice xwa xwn xwc) (.int .i64 xtn) (.bool false)).heap.size = w7.heap.size := by unfold putF; simp
        have hpl := Hpl7.out.moved (w' := putF w7 w.heap.size (.slice ar (recsL (ps.drop k)).length cr) (.slice a6 k k4) (.int .i64 xn) (.bool xm) (.slice xpa xpn xpc) (.slice xwa xwn xwc) (.int .i64 xtn) (.bool false)) (Z' := fun b => w.heap.size ≤ b) (fun b hb _ => hoth b (by omega)) (by rw [hsz]; exact Nat.le_refl _) (fun b hb _ => by omega)
        refine ⟨?_, ?_, ⟨by omega, hpl.n, hpl.whole, hpl.blk, hpl.torn⟩, rfl⟩
        · exact (HP.out.same (fun b hb => hoth b (by omega)) (fun b hb => hoth b (by have := hb.1; omega)) (fun b hb => by have := hb.1; omega)).base (by omega)
        · have ho := own_same5 (w' := putF w7 w.heap.size (.slice ar (recsL (ps.drop k)).length cr) (.slice a6 k k4) (.int .i64 xn) (.bool xm) (.slice xpa xpn xpc) (.slice xwa xwn xwc) (.int .i64 xtn) (.bool false)) Hown7.out (fun b hb => hoth b (by have := own_ge5 Hown7.out b hb; omega))
          rw [List.length_map] at ho
          have hi := Hold.out _ _ (ints_of_own ho)
          rw [← List.map_take] at hi
          exact hi
    · have HBad := Lib.hid (show ¬ Good (ps.drop k) from fun h => by
        rcases Hgl.out with ⟨h1, _⟩ | ⟨_, i, hi, h2⟩
        · rw [hga] at h1; cases h1
        · exact h2 ((HGd.out.1 h).2 i hi))
      clear hga
      go_wp2
      refine bodyPost_ret (v := .tuple #[found0, .int .i64 11]) ?_ rfl ⟨fd0, 11, rfl, .inr ⟨k, HF.out, .inl ⟨HBad.out, rfl, rfl⟩⟩, ?_⟩
      · rw [results_cell_tmp rfl]
        go_simp
        rfl
      · exact putF_below Hb7.out (Nat.le_refl _) _ _ _ _ _ _ _ _
  · have HBad := Lib.hid (show ¬ Good (ps.drop k) from fun h => hg0 (Hgi.out.1 h).1)
    have hgb : (G != 0) = true := by simp [hg0]
    obtain ⟨c0, c1, c2, c3, c4, c5', c6, c7, cf⟩ := box8 hB6
    clear hB6 hg0
    go_wp2
    refine bodyPost_ret (v := .tuple #[found0, .int .i64 11]) ?_ rfl ⟨fd0, 11, rfl, .inr ⟨k, HF.out, .inl ⟨HBad.out, rfl, rfl⟩⟩, ?_⟩
    · rw [results_cell_tmp rfl]
      go_simp
      rfl
    · exact (((((((Hb6.out.setCell (Nat.le_refl _) _).setCell (Nat.le_refl _) _).setCell (Nat.le_refl _) _).setCell (Nat.le_refl _) _).setCell (Nat.le_refl _) _).setCell (Nat.le_refl _) _).setCell (Nat.le_refl _) _).setCell (Nat.le_refl _) _
end Go.Proofs.YtjoolocdejnohaaGreat

/- Disks on which no failure is planned stay up; the numbers of a disk's segments; what is found is found. -/
namespace Go.Proofs.YtjoolocdejnohaaGreat
open Go.RowKit Go.Maps

/-- Up, and no failure is planned. -/
def Up (M : DM) : Prop := M.down = false ∧ M.plan = 0

theorem up_fail {M : DM} (h : Up M) : Up (failM M) := by
  unfold failM
  rw [if_neg (by rw [h.1]; decide), if_neg (by rw [h.2]; decide)]
  exact ⟨h.1, by show M.plan - 1 = 0; rw [h.2]⟩

theorem up_chg {M : DM} (h : Up M) {nm : List UInt8} {act : DM → DM × Int} (ha : ∀ M', Up M' → Up (act M').1) : Up (chgM M nm act).1 := by
  unfold chgM
  split
  · exact up_fail h
  · split
    · exact ha _ (up_fail h)
    · exact up_fail h

theorem up_on {M : DM} (h : Up M) {nm : List UInt8} {act : F → DM → DM × Int} (ha : ∀ f, Up (act f M).1) : Up (onM nm act M).1 := by
  unfold onM
  split
  · exact h
  · exact ha _

theorem up_step {M : DM} (h : Up M) (k : Int) (nm tt : List UInt8) (bs : List Nat) : Up (stepM k nm tt bs M).1 := by
  unfold stepM
  split
  · exact up_chg h fun M' h' => by
      split
      · exact h'
      · exact ⟨h'.1, h'.2⟩
  · split
    · exact up_chg h fun M' h' => up_on h' fun f => by
        split
        · exact ⟨h'.1, h'.2⟩
        · exact h'
    · split
      · exact up_chg h fun M' h' => up_on h' fun f => ⟨h'.1, h'.2⟩
      · split
        · exact up_chg h fun M' h' => up_on h' fun f => by
            split
            · exact ⟨h'.1, h'.2⟩
            · exact h'
        · exact up_chg h fun M' h' => up_on h' fun f => ⟨h'.1, h'.2⟩

theorem up_steps : ∀ (l : List SO) {M : DM}, Up M → Up (stepsM l M).1
  | [], _, h => h
  | x :: l, M, h => by
    have h1 := up_step h x.k x.nm x.tt x.bs
    unfold stepsM
    split
    · exact up_steps l h1
    · exact h1

/-- A disk's segments have numbers. -/
theorem segs_ex (M : DM) : ∃ out, SegsOf M out := by
  obtain ⟨h1, h2⟩ := compact_sorted ((M.fs.map fun f => ((segNum (nmL f.n) : Nat) : Int)).filter fun x => decide (0 < x))
  refine ⟨_, h1, fun x => ?_⟩
  rw [h2, List.mem_filter, List.mem_map]
  constructor
  · rintro ⟨⟨f, hf, rfl⟩, h0⟩
    have h0 := of_decide_eq_true h0
    exact ⟨nmL f.n, List.mem_map.2 ⟨f, hf, rfl⟩, by omega, rfl⟩
  · rintro ⟨l, hl, h0, rfl⟩
    obtain ⟨f, hf, rfl⟩ := List.mem_map.1 hl
    exact ⟨⟨f, hf, rfl⟩, decide_eq_true (by omega)⟩

end Go.Proofs.YtjoolocdejnohaaGreat

/- What Open leaves of a disk, in size and names. -/
namespace Go.Proofs.YtjoolocdejnohaaGreat
open Go.RowKit Go.Maps

theorem stepsM_neat' : ∀ (ops : List SO) {M : DM} {N U : Nat}, Neat M N U → Neat (stepsM ops M).1 (N + ops.length) (U + (ops.map fun x => x.bs.length).sum)
  | [], _, _, _, h => h
  | x :: ops, M, N, U, h => by
    have h1 := stepM_neat h x.k x.nm x.tt x.bs
    have e : stepsM (x :: ops) M = if (soM x M).2 = 0 then stepsM ops (soM x M).1 else soM x M := rfl
    rw [e, List.map_cons, List.sum_cons, List.length_cons]
    split
    · exact (stepsM_neat' ops h1).mono (by omega) (by omega)
    · exact h1.mono (by omega) (by omega)

theorem asc_sub' : ∀ (xs ys : List Int), xs.Pairwise (· < ·) → (∀ x ∈ xs, x ∈ ys) → xs.length ≤ ys.length
  | [], _, _, _ => Nat.zero_le _
  | x :: xs, ys, hp, hs => by
    obtain ⟨h1, h2⟩ := List.pairwise_cons.1 hp
    have hx := hs x (List.mem_cons_self ..)
    have ih := asc_sub' xs (ys.erase x) h2 (fun y hy => by
      have hne : y ≠ x := fun e => by have := h1 y hy; omega
      exact (List.mem_erase_of_ne hne).2 (hs y (List.mem_cons_of_mem _ hy)))
    rw [List.length_erase_of_mem hx] at ih
    have : 0 < ys.length := List.length_pos_of_mem hx
    rw [List.length_cons]
    omega

theorem segs_many {M : DM} {ps : List PS} (hA : AllOf M ps) : ps.length ≤ M.fs.length := by
  have h1 := asc_sub' (ps.map PS.n) (M.fs.map fun f => ((segNum (nmL f.n) : Nat) : Int)) (allOf_asc hA) (fun x hx => by
    obtain ⟨l, hl, _, rfl⟩ := (hA.1.2 x).1 hx
    obtain ⟨f, hf, rfl⟩ := List.mem_map.1 hl
    exact List.mem_map.2 ⟨f, hf, rfl⟩)
  rw [List.length_map, List.length_map] at h1
  exact h1

/-- The names of files are short. -/
def Named (M : DM) : Prop := ∀ f ∈ M.fs, f.n.length ≤ 9223372036854775807

theorem mem_setN' {x y : F} {fs : List F} (h : y ∈ setN F.n x fs) : y = x ∨ y ∈ fs := by
  unfold setN at h
  obtain ⟨z, hz, rfl⟩ := List.mem_map.1 h
  by_cases e : (F.n z == F.n x) = true
  · rw [if_pos e]; exact .inl rfl
  · rw [if_neg e]; exact .inr hz

theorem named_step {M : DM} (h : Named M) (k : Int) {nm tt : List UInt8} (bs : List Nat) (h1 : nm.length ≤ 9223372036854775807) (h2 : tt.length ≤ 9223372036854775807) : Named (stepM k nm tt bs M).1 := by
  have chg : ∀ {act : DM → DM × Int}, (∀ M', M'.fs = M.fs → Named (act M').1) → Named (chgM M nm act).1 := by
    intro act ha
    have hf : Named (failM M) := by unfold Named; rw [failM_fs' M]; exact h
    unfold chgM
    split
    · exact hf
    · split
      · exact ha _ (failM_fs' M)
      · exact hf
  have on : ∀ {M' : DM} {act : F → DM → DM × Int}, M'.fs = M.fs → (∀ f, Named (act f M').1) → Named (onM nm act M').1 := by
    intro M' act he ha
    unfold onM
    split
    · unfold Named; rw [he]; exact h
    · exact ha _
  have put : ∀ {x : F} {fs : List F}, x.n.length ≤ 9223372036854775807 → (∀ f ∈ fs, f.n.length ≤ 9223372036854775807) → ∀ f ∈ putN F.n x fs, f.n.length ≤ 9223372036854775807 := by
    intro x fs hx hfs f hf
    unfold putN at hf
    rcases (mem_insN F.n _ _ _).1 hf with rfl | hf
    · exact hx
    · unfold delN at hf
      exact hfs f (List.mem_filter.1 hf).1
  have set : ∀ {x : F} {fs : List F}, x.n.length ≤ 9223372036854775807 → (∀ f ∈ fs, f.n.length ≤ 9223372036854775807) → ∀ f ∈ setN F.n x fs, f.n.length ≤ 9223372036854775807 := by
    intro x fs hx hfs f hf
    rcases mem_setN' hf with rfl | hf
    · exact hx
    · exact hfs f hf
  have del : ∀ {fs : List F}, (∀ f ∈ fs, f.n.length ≤ 9223372036854775807) → ∀ f ∈ delN F.n nm fs, f.n.length ≤ 9223372036854775807 := by
    intro fs hfs f hf
    unfold delN at hf
    exact hfs f (List.mem_filter.1 hf).1
  unfold stepM
  split
  · exact chg fun M' e => by
      have hM : Named M' := by unfold Named; rw [e]; exact h
      split
      · exact hM
      · exact put h1 hM
  · split
    · exact chg fun M' e => on e fun f => by
        have hM : Named M' := by unfold Named; rw [e]; exact h
        split
        · exact set h1 hM
        · exact hM
    · split
      · exact chg fun M' e => on e fun f => by
          have hM : Named M' := by unfold Named; rw [e]; exact h
          exact set h1 hM
      · split
        · exact chg fun M' e => on e fun f => by
            have hM : Named M' := by unfold Named; rw [e]; exact h
            split
            · exact put h2 (del hM)
            · exact hM
        · exact chg fun M' e => on e fun f => by
            have hM : Named M' := by unfold Named; rw [e]; exact h
            exact del hM

theorem named_steps : ∀ (ops : List SO) {M : DM}, Named M → (∀ x ∈ ops, x.nm.length ≤ 9223372036854775807 ∧ x.tt.length ≤ 9223372036854775807) → Named (stepsM ops M).1
  | [], _, h, _ => h
  | x :: ops, M, h, ho => by
    have h1 := named_step h x.k x.bs (ho x (List.mem_cons_self ..)).1 (ho x (List.mem_cons_self ..)).2
    have e : stepsM (x :: ops) M = if (soM x M).2 = 0 then stepsM ops (soM x M).1 else soM x M := rfl
    rw [e]
    split
    · exact named_steps ops h1 (fun y hy => ho y (List.mem_cons_of_mem _ hy))
    · exact h1

theorem neat_arm {M : DM} {N U : Nat} (h : Neat M N U) (p : Int) (hp : p < 9223372036854775808) : Neat (armM p M) N U := ⟨by show p.toNat ≤ _; omega, h.sorted, ⟨h.small.files, h.small.used⟩⟩
end Go.Proofs.YtjoolocdejnohaaGreat

