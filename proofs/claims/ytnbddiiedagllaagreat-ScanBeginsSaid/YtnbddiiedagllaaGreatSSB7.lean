import Derived.Test.YtnbddiiedagllaaGreatSSB6
import Derived.Test.YtnbddiiedagllaaGreatIter
import Derived.Maps.Ext
import Derived.Test.YtnbddiiedagllaaGreatSSB1
import Derived.ProofKit
import Derived.SizedLaws
import Derived.Deep.Matrix
/- The walk of a disk's List: the names in their order. -/
namespace Go.Proofs.YtnbddiiedagllaaGreat
open Go.RowKit Go.Maps Go.Shelf Go.Sort

theorem before_lt : ∀ (a b : List UInt8), bytesBefore a b = true ↔ a < b
 | [], [] => by simp [bytesBefore]
 | [], _ :: _ => by simp [bytesBefore]
 | _ :: _, [] => by simp [bytesBefore]
 | x :: r, y :: s => by
  rw [List.cons_lt_cons_iff]
  unfold bytesBefore
  rw [Bool.or_eq_true, Bool.and_eq_true, decide_eq_true_eq, beq_iff_eq, before_lt r s]

theorem DiskAt.sorted {S : Nat → Prop} {w : World} {d mb : Nat} {p : Int} {L : List FW} {M : DM} (h : DiskAt S w d mb p L M) : L.Pairwise fun x y => x.n < y.n := by
 obtain ⟨es, he, hp, _⟩ := h.dir.canon mapKey
 have e : es = L.map ent := (DataW.map.inj he).symm
 rw [e, List.pairwise_map] at hp
 exact hp.imp (fun {a b} hab => (before_lt a.n b.n).1 hab)

theorem sorted_names {S : Nat → Prop} {w : World} {d mb : Nat} {p : Int} {L : List FW} {M : DM} (h : DiskAt S w d mb p L M) {ss : List (List UInt8)} (hp : ss.Perm (strKeys (dirD L))) : ss.mergeSort (fun x y => decide (x ≤ y)) = M.fs.map F.n := by
 rw [dirD_keys] at hp
 rw [mergeSort_of_perm hp, h.files, List.map_map]
 refine List.mergeSort_of_pairwise ?_
 rw [List.pairwise_map]
 exact h.sorted.imp (fun {a b} hab => by simpa using List.le_of_lt hab)

set_option maxRecDepth 100000 in
set_option maxHeartbeats 1600000 in
theorem list_any {S : Nat → Prop} {w : World} {d : Nat} {M : DM} (h : DiskIn S w d M) (hlen : M.fs.length < 1000000) :
  Calls Tryz.prog 41 #[.pointer (some ⟨d, 0, none⟩)] w fun e w' => ∃ v, e = .returned v ∧ w'.ownsRow w.heap.size 9 1 v M.fs.length ((M.fs.map F.n).map encStr) ∧ Below w.heap.size w w' := by
 obtain ⟨mb, p, L, h⟩ := h
 obtain ⟨_, c1, _, _, _⟩ := h.cells
 have hL : L.length = M.fs.length := by rw [h.files, List.length_map]
 have HK := Lib.hid (callsIn_wide.1 (Tryz.maps_Keys_90 (some mb) w))
 have HS := Lib.hid (callsIn_wide.1 (Tryz.slices_Sorted_keys_89_90 mb L.length (dirD L) ptrR w h.dir (by rw [dirD_size, maxLen_nat]; omega) (by rw [dirD_size]; omega)))
 have H := Lib.hid h
 have Hb := Lib.hid ((Below.refl w.heap.size w).alloc (Nat.le_refl _) (.cells #[.map (some mb)] 116))
 clear h
 go_enter Tryz.func41, Tryz.ntmps41
 go_wp2_with fail
 refine HK.out.mono ?_
 rintro e w' ⟨rfl, rfl⟩
 go_wp2_with fail
 refine HS.out.mono ?_
 rintro e w2 ⟨v, ss, rfl, hp, hrow, _, hb⟩
 have e1 := sorted_names H.out hp
 rw [e1] at hrow
 have e2 : ss.length = M.fs.length := by
  have := hp.length_eq
  rw [dirD_keys, List.length_map] at this
  omega
 rw [e2] at hrow
 have Hrow := Lib.hid (own_base hrow (base' := w.heap.size) (by simp))
 have Hb2 := Lib.hid (Hb.out.trans (hb.mono (by simp)))
 clear hp hrow hb e1 e2 hL
 go_wp2
 go_ret
 exact ⟨v, rfl, Hrow.out, Hb2.out⟩
end Go.Proofs.YtnbddiiedagllaaGreat

/- How a statement that answers true, and writes into new memory only, is lifted from its contract; how byte slices that come in are read as lists. -/
namespace Go.Proofs.YtnbddiiedagllaaGreat
open Go.ChangeShapes Go.WideShapes Go.ChangeAt Go.RowKit Go.Deep

section
variable {H : Type} {enc : TypeId × Value → H} {P : Program}

theorem below_trodAll (hl : laidOutB P = true) {W W' : World} (hb : Below W.heap.size W W') : ∀ {ts : List TypeId} {vs : List Value} {ds : List (DataW H)} {ps : List MemPlace},
  ts.all (fun t => P.readableRec t && decide (t < P.types.size)) = true → DataW.TrodAll enc P W 0 (fun _ => true) true ts vs ds ps →
  DataW.TrodAll enc P W' 0 (fun b => decide (b < W.heap.size)) true ts vs ds ps
 | [], vs, ds, ps, _, h => by
  obtain ⟨rfl, rfl, rfl⟩ := trodAll_nil h
  exact rfl
 | t :: ts, vs, ds, ps, ht, h => by
  obtain ⟨v, vs', d, ds', p, q, rfl, rfl, rfl, h0, h1⟩ := trodAll_cons h
  simp only [List.all_cons, Bool.and_eq_true, decide_eq_true_eq] at ht
  have hlt : ∀ x ∈ p, x.block < W.heap.size := fun x hx => h.lt x (by simp [hx])
  exact ⟨p, q, Below.trod hl ht.1.1 ht.1.2 h0 hb hlt, below_trodAll hl hb ht.2 h1, rfl⟩

theorem law_post {fn : Func} {s : ChangeSpec} {tb : TypeId} (hl : laidOutB P = true) (hrd : fn.params.toList.all (fun t => P.readableRec t && decide (t < P.types.size)) = true)
  (hvars : s.vars = []) (hrt : fn.resultTypes = #[tb]) (htb : P.underlying tb = some .bool)
  {W W' : World} {args : Array Value} {ds gs : List (DataW H)} {before : List MemPlace} (hW : DataW.Whole enc P fn.params.toList s.vars false W args.toList ds gs before)
  (hspec : s.fn H (ds ++ []) = { results := [.lit (.bool true)], args := ds }) (hb : Below W.heap.size W W') :
  s.post enc P fn false true false false W args (.bool true) W' := by
 have hW' := hW
 obtain ⟨p, q, hA, hV, rfl, _, _⟩ := hW
 rw [hvars] at hV
 obtain ⟨rfl, rfl⟩ := trodVars_none hV
 refine ⟨ds, [], p ++ [], [], p, [], hW', ?_, ?_, ?_, hb.frame _, fun h => by cases h⟩
 ·rw [hspec, hrt]
  exact trodAll_mk1 (shut_bool htb _)
 ·rw [hspec]
  exact below_trodAll hl hb hrd hA
 ·rw [hspec, hvars]
  exact rfl

theorem wf_u8 {n : Int} (h : (Lit.int .u8 n).wf = true) : 0 ≤ n ∧ n < 256 := by
 have h1 : IntKind.u8.min = 0 := rfl
 have h2 : IntKind.u8.max = 255 := rfl
 simp only [Lit.wf, Bool.and_eq_true, decide_eq_true_eq] at h
 omega

theorem wf_i64_of {n : Int} (h : (Lit.int .i64 n).wf = true) : -9223372036854775808 ≤ n ∧ n ≤ 9223372036854775807 := by
 have h1 : IntKind.i64.min = -9223372036854775808 := rfl
 have h2 : IntKind.i64.max = 9223372036854775807 := rfl
 simp only [Lit.wf, Bool.and_eq_true, decide_eq_true_eq] at h
 omega

theorem bytes_of_ints {W : World} {A : Option Addr} {len cap : Nat} {zs : List Int} (hl : len ≤ cap) (hm : cap ≤ maxLen) (hz : zs.length = cap) (hnil : A = none → cap = 0)
  (hcell : ∀ a, A = some a → ∀ c, c < cap → W.cell? (a.add c) = some (.int .u8 (zs.getD c 0))) (hw : ∀ n ∈ zs, (Lit.int .u8 n).wf = true) :
  Bytes W A len cap ((zs.take len).map Int.toNat) := by
 refine ⟨by simp; omega, hl, hm, ?_, hnil, fun hn => ?_⟩
 ·intro x hx
  obtain ⟨n, hn, rfl⟩ := List.mem_map.1 hx
  have := wf_u8 (hw n (List.mem_of_mem_take hn))
  omega
 ·cases A with
  | none => have := hnil rfl; omega
  | some a =>
   obtain ⟨b, o, spot⟩ := a
   have hspot : spot = none := by simpa [Addr.add] using World.cell?_spot (hcell _ rfl 0 (by omega))
   subst hspot
   refine ⟨b, o, rfl, fun i hi => ?_⟩
   have hc := hcell _ rfl i (by omega)
   rw [add_plain] at hc
   have hi' : i < zs.length := by omega
   have e1 : zs.getD i 0 = zs[i] := by rw [List.getD_eq_getElem?_getD, List.getElem?_eq_getElem hi']; rfl
   have e2 : ((zs.take len).map Int.toNat).getD i 0 = zs[i].toNat := by
    rw [List.getD_eq_getElem?_getD, List.getElem?_map, List.getElem?_take, if_pos hi, List.getElem?_eq_getElem hi']; rfl
   have hwf := wf_u8 (hw zs[i] (List.getElem_mem _))
   rw [hc, e1, e2]
   congr 2
   omega

theorem open_parts {W : World} {t e q : TypeId} {v : Value} {d : DataW H} {p : List MemPlace} (ht : P.underlying t = some (.slice e)) (he : P.underlying e = some (.slice q)) (hq : P.underlying q = some (.int .u8)) (ce : P.cellsOf e = 1) (cq : P.cellsOf q = 1)
  {base : Nat} (hv : Value.okWide P W .any base t v) (h : DataW.Trod enc P W 0 (fun _ => true) true t v d p) : ∃ a n cap ls, v = .slice a n cap ∧ Parts W a n cap ls := by
 obtain ⟨a0, len, cap, rfl⟩ := okWide_slice ht hv
 obtain ⟨fuel, hf⟩ := h
 rcases open_int_rows ht he hq ce cq hf with ⟨hcs, _⟩ | ⟨a, len', cap', A, L, C, Z, hcs, _, hl, hm, _, hrows⟩
 ·simp [Value.cells] at hcs
  obtain ⟨rfl, rfl, rfl⟩ := hcs
  exact ⟨none, 0, 0, [], rfl, rfl, Nat.le_refl _, by omega, fun h => absurd h (Nat.lt_irrefl _)⟩
 ·simp [Value.cells] at hcs
  obtain ⟨rfl, rfl, rfl⟩ := hcs
  refine ⟨some a, len, cap, (List.range len).map fun r => ((Z r).take (L r)).map Int.toNat, rfl, by simp, hl, hm, fun hn => ?_⟩
  obtain ⟨b, o, spot⟩ := a
  have hspot : spot = none := by simpa [Addr.add] using World.cell?_spot (hrows 0 (by omega)).1
  subst hspot
  have hc0 := (hrows 0 (by omega)).1
  rw [add_plain] at hc0
  refine ⟨b, o, rfl, World.block_lt_of_cell? _ _ hc0, fun i hi => ?_⟩
  obtain ⟨h1, h2, h3, h4, h5, h6, h7⟩ := hrows i (by omega)
  rw [add_plain] at h1
  refine ⟨A i, L i, C i, h1, ?_⟩
  have e1 : ((List.range len).map fun r => ((Z r).take (L r)).map Int.toNat).getD i [] = ((Z i).take (L i)).map Int.toNat := by
   rw [List.getD_eq_getElem?_getD, List.getElem?_map, List.getElem?_range hi]; rfl
  rw [e1]
  exact bytes_of_ints h2 h3 h4 h6 (fun a' ha' c hc => (h7 a' ha').2 c hc) h5
end
end Go.Proofs.YtnbddiiedagllaaGreat

/- Slices of ints that came in, as lists of integers. -/
namespace Go.Proofs.YtnbddiiedagllaaGreat
open Go.ChangeShapes Go.WideShapes Go.ChangeAt Go.RowKit Go.Deep

structure Nums (w : World) (a : Option Addr) (n cap : Nat) (l : List Int) : Prop where
 len : l.length = n
 le : n ≤ cap
 capmax : cap ≤ 9223372036854775807
 wf : ∀ x ∈ l, -9223372036854775808 ≤ x ∧ x ≤ 9223372036854775807
 cell : 0 < n → ∃ b o, a = some ⟨b, o, none⟩ ∧ ∀ i, i < n → w.cell? ⟨b, o + i, none⟩ = some (.int .i64 (l.getD i 0))

theorem Nums.grow {w w' : World} {a : Option Addr} {n cap : Nat} {l : List Int} (h : Nums w a n cap l) (hw : Below w.heap.size w w') : Nums w' a n cap l := by
 obtain ⟨h1, h2, h3, h4, h6⟩ := h
 refine ⟨h1, h2, h3, h4, fun hn => ?_⟩
 obtain ⟨b, o, rfl, hc⟩ := h6 hn
 exact ⟨b, o, rfl, fun i hi => by rw [hw.cell (p := ⟨b, o + i, none⟩) (World.block_lt_of_cell? _ _ (hc i hi))]; exact hc i hi⟩

theorem Nums.get {w : World} {a : Option Addr} {n cap : Nat} {l : List Int} (h : Nums w a n cap l) {i : Nat} (hi : i < n) : -9223372036854775808 ≤ l.getD i 0 ∧ l.getD i 0 ≤ 9223372036854775807 := by
 have h1 := h.len
 rw [List.getD_eq_getElem?_getD, List.getElem?_eq_getElem (by omega)]
 exact h.wf _ (List.getElem_mem _)

section
variable {H : Type} {enc : TypeId × Value → H} {P : Program}

theorem nums_of_ints {W : World} {A : Option Addr} {len cap : Nat} {zs : List Int} (hl : len ≤ cap) (hm : cap ≤ maxLen) (hz : zs.length = cap)
  (hcell : ∀ a, A = some a → ∀ c, c < cap → W.cell? (a.add c) = some (.int .i64 (zs.getD c 0))) (hnil : A = none → cap = 0) (hw : ∀ n ∈ zs, (Lit.int .i64 n).wf = true) :
  Nums W A len cap (zs.take len) := by
 refine ⟨by simp; omega, hl, hm, fun x hx => wf_i64_of (hw x (List.mem_of_mem_take hx)), fun hn => ?_⟩
 cases A with
 | none => have := hnil rfl; omega
 | some a =>
  obtain ⟨b, o, spot⟩ := a
  have hspot : spot = none := by simpa [Addr.add] using World.cell?_spot (hcell _ rfl 0 (by omega))
  subst hspot
  refine ⟨b, o, rfl, fun i hi => ?_⟩
  have hc := hcell _ rfl i (by omega)
  rw [add_plain] at hc
  rw [hc, List.getD_eq_getElem?_getD, List.getD_eq_getElem?_getD, List.getElem?_take, if_pos hi]

theorem open_nums {W : World} {t e : TypeId} {v : Value} {d : DataW H} {p : List MemPlace} (ht : P.underlying t = some (.slice e)) (he : P.underlying e = some (.int .i64)) (ce : P.cellsOf e = 1)
  {base : Nat} (hv : Value.okWide P W .any base t v) (h : DataW.Trod enc P W 0 (fun _ => true) true t v d p) : ∃ a n cap l, v = .slice a n cap ∧ Nums W a n cap l := by
 obtain ⟨a0, len, cap, rfl⟩ := okWide_slice ht hv
 obtain ⟨fuel, hf⟩ := h
 rcases open_ints ht he ce hf with ⟨hcs, _⟩ | ⟨a, len', cap', zs, hcs, _, hl, hm, hz, _, hcell, hw⟩
 ·simp [Value.cells] at hcs
  obtain ⟨rfl, rfl, rfl⟩ := hcs
  exact ⟨none, 0, 0, [], rfl, rfl, Nat.le_refl _, by omega, by simp, fun h => absurd h (Nat.lt_irrefl _)⟩
 ·simp [Value.cells] at hcs
  obtain ⟨rfl, rfl, rfl⟩ := hcs
  simp only [if_true] at hz
  refine ⟨some a, len, cap, _, rfl, nums_of_ints (zs := zs) hl hm hz (fun a' ha' c hc => ?_) (fun h => by cases h) hw⟩
  cases ha'
  exact hcell c (by omega)
end
end Go.Proofs.YtnbddiiedagllaaGreat

/- The walk of a disk's Crash. -/
namespace Go.Proofs.YtnbddiiedagllaaGreat
open Go.RowKit Go.Maps Go.Shelf

def uptoF (ks : List Int) (i : Nat) (fs : List F) : List F := fs.mapIdx fun j f => if j < i then cutF f (ks.getD j 0) else f

theorem uptoF_at (ks : List Int) (i : Nat) (fs : List F) (j : Nat) (h : j < (uptoF ks i fs).length) (hj : j < fs.length) : (uptoF ks i fs)[j] = if j < i then cutF fs[j] (ks.getD j 0) else fs[j] := by
 simp only [uptoF, List.getElem_mapIdx]

theorem uptoF_zero (ks : List Int) (fs : List F) : uptoF ks 0 fs = fs := by
 unfold uptoF
 apply List.ext_getElem (by simp)
 intro j h1 h2
 simp

theorem uptoF_all (ks : List Int) (fs : List F) : uptoF ks fs.length fs = fs.mapIdx fun i f => cutF f (ks.getD i 0) := by
 unfold uptoF
 apply List.ext_getElem (by simp)
 intro j h1 h2
 have : j < fs.length := by simpa using h1
 simp [this]

theorem uptoF_length (ks : List Int) (i : Nat) (fs : List F) : (uptoF ks i fs).length = fs.length := by unfold uptoF; simp

theorem uptoF_get (ks : List Int) (i : Nat) (fs : List F) (hi : i < fs.length) : (uptoF ks i fs)[i]'(by rw [uptoF_length]; exact hi) = fs[i] := by
 unfold uptoF
 simp

theorem uptoF_name (ks : List Int) (i j : Nat) (fs : List F) (hj : j < fs.length) : ((uptoF ks i fs)[j]'(by rw [uptoF_length]; exact hj)).n = (fs[j]).n := by
 unfold uptoF
 rw [List.getElem_mapIdx]
 split <;> rfl

theorem setN_get {α : Type} (f : α → List UInt8) (x : α) (l : List α) (j : Nat) (hj : j < l.length) : (setN f x l)[j]'(by unfold setN; simpa using hj) = if f l[j] == f x then x else l[j] := by
 simp only [setN, List.getElem_map]

theorem uptoF_step (ks : List Int) (i : Nat) (fs : List F) (hi : i < fs.length) (hp : fs.Pairwise fun x y => x.n ≠ y.n) : setN F.n (cutF fs[i] (ks.getD i 0)) (uptoF ks i fs) = uptoF ks (i + 1) fs := by
 have hne : ∀ j (hj : j < fs.length), j ≠ i → (fs[j]).n ≠ (fs[i]).n := by
  intro j hj hji
  rcases Nat.lt_or_gt_of_ne hji with h | h
  ·exact List.pairwise_iff_getElem.1 hp j i hj hi h
  ·exact fun e => List.pairwise_iff_getElem.1 hp i j hi hj h e.symm
 apply List.ext_getElem (by unfold setN uptoF; simp)
 intro j h1 h2
 have hj : j < fs.length := by rw [uptoF_length] at h2; exact h2
 rw [setN_get F.n _ _ j (by rw [uptoF_length]; exact hj)]
 have hn : ((uptoF ks i fs)[j]'(by rw [uptoF_length]; exact hj)).n = (fs[j]).n := uptoF_name ks i j fs hj
 rw [uptoF_at ks (i + 1) fs j h2 hj]
 by_cases e : j = i
 ·subst e
  rw [if_pos (by rw [beq_iff_eq, hn]; rfl), if_pos (Nat.lt_succ_self _)]
 ·rw [if_neg (by rw [beq_iff_eq, hn]; exact hne j hj e), uptoF_at ks i fs j _ hj]
  by_cases h : j < i
  ·rw [if_pos h, if_pos (by omega)]
  ·rw [if_neg h, if_neg (by omega)]

theorem find_mem : ∀ {L : List FW} {y : FW}, (L.Pairwise fun x y => x.n ≠ y.n) → y ∈ L → findN FW.n y.n L = some y
 | [], _, _, h => by cases h
 | x :: L, y, hp, h => by
  obtain ⟨h1, h2⟩ := List.pairwise_cons.1 hp
  unfold findN
  rw [List.find?_cons]
  rcases List.mem_cons.1 h with e | h
  ·rw [e]; simp
  ·have : (x.n == y.n) = false := beq_eq_false_iff_ne.2 (h1 y h)
   rw [this]
   exact find_mem h2 h

theorem Nums.chg {S : Nat → Prop} {w w' : World} {a : Option Addr} {n c : Nat} {l : List Int} (h : Nums w a n c l) (hc : Chg S w w') (ha : 0 < n → ∀ x, a = some x → ¬ S x.block) : Nums w' a n c l := by
 obtain ⟨h1, h2, h3, h4, h6⟩ := h
 refine ⟨h1, h2, h3, h4, fun hn => ?_⟩
 obtain ⟨b, o, rfl, hcl⟩ := h6 hn
 exact ⟨b, o, rfl, fun i hi => hc.cell (hcl i hi) (show ¬ S b from ha hn ⟨b, o, none⟩ rfl)⟩

set_option maxRecDepth 100000 in
set_option maxHeartbeats 12800000 in
theorem crash_any {S : Nat → Prop} {w : World} {d : Nat} {M : DM} (h : DiskIn S w d M) (hlen : M.fs.length < 1000000) (pa : Option Addr) (n c : Nat) (ks : List Int) (hN : Nums w pa n c ks) (hap : 0 < n → ∀ a, pa = some a → ¬ S a.block) :
  Calls Tryz.prog 24 #[.pointer (some ⟨d, 0, none⟩), .slice pa n c] w fun e w' => (∃ v, e = .returned v) ∧ Step S w d (crashM ks M) w' := by
 have HLi := Lib.hid (list_any h hlen)
 obtain ⟨mb, p, L, h⟩ := h
 have H := Lib.hid h
 have HNu := Lib.hid hN
 have Hap := Lib.hid hap
 have hnk := hN.len
 have hpw : M.fs.Pairwise fun x y => x.n ≠ y.n := by rw [h.files, List.pairwise_map]; exact h.names
 have Hpw := Lib.hid hpw
 have hnmax : n ≤ 9223372036854775807 := Nat.le_trans hN.le hN.capmax
 clear h hN hap hpw
 obtain ⟨N, hNl⟩ : ∃ N, N = M.fs.length := ⟨_, rfl⟩
 have HNl := Lib.hid hNl
 rw [← hNl] at HLi hlen
 clear hNl
 go_enter Tryz.func24, Tryz.ntmps24
 go_wp2_with fail
 refine HLi.out.mono ?_
 rintro e w1 ⟨v, rfl, hrow, hb⟩
 have HR := Lib.hid hrow
 have Hb := Lib.hid hb
 obtain ⟨va, vc, hv, _, _⟩ := own_len hrow
 have HV := Lib.hid hv
 subst hv
 clear hrow hb
 go_wp2
 go_loopw [12] (fun i wr => ∃ (j : Nat) (L' : List FW), j ≤ N ∧ i = .int .i64 (j : Int) ∧ DiskAt S wr d mb p L' { M with fs := uptoF ks j M.fs } ∧ Chg S w1 wr) (fun i _ => N - (intOf i).toNat)
 case atStart => exact ⟨0, L, Nat.zero_le _, rfl, by rw [uptoF_zero]; exact H.out.below Hb.out, Chg.refl _ _⟩
 case round =>
  obtain ⟨j, L', hj, rfl, hD, hc⟩ := hrel
  have HD := Lib.hid hD
  have Hc := Lib.hid hc
  by_cases hlt : j < N
  ·have hjl : j < (uptoF ks j M.fs).length := by rw [uptoF_length]; have := HNl.out; omega
   have hjL : j < L'.length := by
    have h1 : (uptoF ks j M.fs).length = (L'.map FW.f).length := congrArg List.length hD.files
    rw [List.length_map] at h1
    have := HNl.out
    omega
   obtain ⟨x, hx⟩ : ∃ x, x = L'[j]'hjL := ⟨_, rfl⟩
   have hxL : x ∈ L' := by rw [hx]; exact List.getElem_mem _
   have hjM : j < M.fs.length := by have := HNl.out; omega
   have hxf : x.f = M.fs[j]'hjM := by
    have h1 : (uptoF ks j M.fs)[j]'hjl = x.f := by
     rw [hx]
     have h2 := hD.files
     have h3 : (L'.map FW.f)[j]'(by rw [List.length_map]; exact hjL) = (L'[j]'hjL).f := by simp
     rw [← h3]
     congr 1
    rw [← h1, uptoF_get]
   have hfind := find_mem hD.names hxL
   have hname : x.n.length ≤ 9223372036854775807 := by
    have h1 := strKeys_le hD.dir Tryz.underlying9 x.n (by rw [dirD_keys]; exact List.mem_map.2 ⟨x, hxL, rfl⟩)
    rwa [maxLen_nat] at h1
   have hlk := hD.look x.n hname
   rw [hfind] at hlk
   unfold fileV at hlk
   obtain ⟨_, d1, _, _, _⟩ := hD.cells
   obtain ⟨g, cap, hform, hg1, _⟩ := HR.out.form (by omega)
   injection hform with e1 _ e3
   subst e1
   subst e3
   have hSg : ¬ S g := fun hs => absurd (H.out.bound g hs) (by omega)
   have hcell : wr.cell? ⟨g, j, none⟩ = some (encStr x.n) := by
    have h1 := HR.out.cells (g := g) rfl j (encStr x.n) (by
     rw [List.getElem?_map, List.getElem?_map, List.getElem?_eq_getElem hjM, ← hxf]
     rfl)
    rw [addr_add, Nat.zero_add] at h1
    exact hc.cell h1 hSg
   have hji : (j : Int) < (N : Int) := by omega
   have hstep := uptoF_step ks j M.fs hjM Hpw.out
   rw [← hxf] at hstep
   have Hstep := Lib.hid hstep
   have Hlt := Lib.hid hlt
   by_cases hjn : j < n
   ·obtain ⟨b, o, rfl, hkc⟩ := (HNu.out.grow Hb.out |>.chg hc Hap.out).cell (by omega)
    have hkc2 := hkc j hjn
    have hget := HNu.out.get hjn
    have HC := Lib.hid (fun w2 (hD2 : DiskAt S w2 d mb p L' { M with fs := uptoF ks j M.fs }) => cut_any hD2 hxL (ks.getD j 0) hget.1 (by have := hget.2; omega))
    have hjn' : (j : Int) < (n : Int) := by omega
    clear hjl hjL hjM hx hxL hxf hfind hname hSg hstep hD hc hlt hkc hget hjn hg1
    generalize ks.getD j 0 = kk at *
    go_wp2_with fail
    refine (HC.out _ HD.out).mono ?_
    rintro e w2 ⟨⟨v, rfl⟩, ⟨v', hD2⟩, hc2⟩
    rw [Hstep.out] at hD2
    have HD2 := Lib.hid hD2
    have Hc2 := Lib.hid (Hc.out.same hc2)
    clear hD2 hc2
    go_wp2
    go_roundw
    case rel => exact ⟨j + 1, _, Hlt.out, by go_num, HD2.out, Hc2.out⟩
    case measure => simp [intOf]; have := Hlt.out; omega
   ·have hk0 : ks.getD j 0 = 0 := by rw [List.getD_eq_getElem?_getD, List.getElem?_eq_none (by omega)]; rfl
    have HC := Lib.hid (fun w2 (hD2 : DiskAt S w2 d mb p L' { M with fs := uptoF ks j M.fs }) => cut_any hD2 hxL 0 (by decide) (by decide))
    have hjn' : ¬ (j : Int) < (n : Int) := by omega
    rw [hk0] at Hstep
    clear hjl hjL hjM hx hxL hxf hfind hname hSg hstep hD hc hlt hjn hg1 hk0
    go_wp2_with fail
    refine (HC.out _ HD.out).mono ?_
    rintro e w2 ⟨⟨v, rfl⟩, ⟨v', hD2⟩, hc2⟩
    rw [Hstep.out] at hD2
    have HD2 := Lib.hid hD2
    have Hc2 := Lib.hid (Hc.out.same hc2)
    clear hD2 hc2
    go_wp2
    go_roundw
    case rel => exact ⟨j + 1, _, Hlt.out, by go_num, HD2.out, Hc2.out⟩
    case measure => simp [intOf]; have := Hlt.out; omega
  ·have hji : ¬ (j : Int) < (N : Int) := by omega
   obtain rfl : j = N := by omega
   obtain ⟨_, _, _, _, fr⟩ := hD.cells
   have fr2 := fr 2
   have fr3 := fr 3
   have hfin : Step S w d (crashM ks M) ((wr.setCell ⟨d, 2, none⟩ (.bool false)).setCell ⟨d, 3, none⟩ (.int .i64 0)) := by
    have e : crashM ks M = { M with fs := uptoF ks j M.fs, down := false, plan := 0 } := by unfold crashM; rw [HNl.out, uptoF_all]
    rw [e]
    have hE := hD.head_set (M' := { M with fs := uptoF ks j M.fs, down := false, plan := 0 }) (p' := 0) (w' := (wr.setCell ⟨d, 2, none⟩ (.bool false)).setCell ⟨d, 3, none⟩ (.int .i64 0)) ((chg_d wr d 2 _).same (chg_d _ d 3 _)) rfl rfl
     (by have := set_head (i := 3) (set_head (i := 2) hD.head (.bool false)) (.int .i64 0); simpa using this) rfl (by decide) (by decide)
    have hSd : S d := hD.sub d (by simp)
    exact Step.behind Hb.out (Step.same ⟨mb, 0, L', hE⟩ (hc.same ((Chg.set S wr hSd _).same (Chg.set S _ hSd _))))
   have Hfin := Lib.hid hfin
   obtain ⟨_, _, d2, d3, _⟩ := hD.cells
   clear hfin hD hc fr hlt
   go_wp2
   go_end0
   exact ⟨⟨_, rfl⟩, Hfin.out⟩
end Go.Proofs.YtnbddiiedagllaaGreat

/- A disk that the call itself has made: what each method leaves of it. -/
namespace Go.Proofs.YtnbddiiedagllaaGreat
open Go.RowKit Go.Maps Go.Shelf

def Own (w0 : World) (X : Nat → Prop) (w : World) (d : Nat) (M : DM) : Prop := ∃ S, DiskIn S w d M ∧ (∀ b, S b → w0.heap.size ≤ b ∧ ¬ X b) ∧ (∀ b, X b → b < w.heap.size) ∧ Below w0.heap.size w0 w

theorem Own.below {w0 : World} {X : Nat → Prop} {w : World} {d : Nat} {M : DM} (h : Own w0 X w d M) {w' : World} (hb : Below w.heap.size w w') : Own w0 X w' d M := by
 obtain ⟨S, hD, hS, hX, h0⟩ := h
 exact ⟨S, hD.below hb, hS, fun b hx => Nat.lt_of_lt_of_le (hX b hx) hb.size, h0.trans (hb.mono h0.size)⟩

theorem Own.base {w0 : World} {X : Nat → Prop} {w : World} {d : Nat} {M : DM} (h : Own w0 X w d M) : Below w0.heap.size w0 w := by obtain ⟨_, _, _, _, h⟩ := h; exact h

theorem Own.more {w0 : World} {X Y : Nat → Prop} {w w' : World} {d : Nat} {M : DM} (h : Own w0 X w d M) (hb : Below w.heap.size w w') (hY : ∀ b, Y b → X b ∨ (w.heap.size ≤ b ∧ b < w'.heap.size)) : Own w0 Y w' d M := by
 obtain ⟨S, hD, hS, hX, h0⟩ := h
 refine ⟨S, hD.below hb, fun b hs => ⟨(hS b hs).1, fun hy => ?_⟩, fun b hy => ?_, h0.trans (hb.mono h0.size)⟩
 ·rcases hY b hy with h1 | ⟨h1, _⟩
  ·exact (hS b hs).2 h1
  ·obtain ⟨_, _, _, hD⟩ := hD
   have := hD.bound b hs
   omega
 ·rcases hY b hy with h1 | ⟨_, h1⟩
  ·exact Nat.lt_of_lt_of_le (hX b h1) hb.size
  ·exact h1

def OwnEnd (w0 : World) (X : Nat → Prop) (w : World) (d : Nat) (M : DM) (w' : World) : Prop := Own w0 X w' d M ∧ (∀ b, X b → w'.heap[b]? = w.heap[b]?) ∧ Below w0.heap.size w w' ∧ w.heap.size ≤ w'.heap.size

theorem Own.step {w0 : World} {X S : Nat → Prop} {w w' : World} {d : Nat} {M' : DM} (hS : ∀ b, S b → w0.heap.size ≤ b ∧ ¬ X b) (hX : ∀ b, X b → b < w.heap.size) (h0 : Below w0.heap.size w0 w) (h : Step S w d M' w') : OwnEnd w0 X w d M' w' := by
 obtain ⟨S', hD, hs, hc⟩ := h
 have hb := hc.below (fun b hb => (hS b hb).1) h0.size
 refine ⟨⟨S', hD, fun b hb => ?_, fun b hx => Nat.lt_of_lt_of_le (hX b hx) hc.size, h0.trans hb⟩, fun b hx => hc.block b (hX b hx) (fun h => (hS b h).2 hx), hb, hc.size⟩
 rcases hs b hb with h1 | h1
 ·exact hS b h1
 ·exact ⟨Nat.le_trans h0.size h1, fun hx => absurd (hX b hx) (by omega)⟩

def OwnAct (w0 : World) (X : Nat → Prop) (w : World) (d : Nat) (r : DM × Int) (e : Ending) (w' : World) : Prop := e = .returned (.int .i64 r.2) ∧ OwnEnd w0 X w d r.1 w'

theorem own_new (room : Int) (w : World) (hhi : room < 9223372036854775808) : Calls Tryz.prog 28 #[.int .i64 room] w fun e w' => ∃ d, e = .returned (.pointer (some ⟨d, 0, none⟩)) ∧ Own w (fun _ => False) w' d (newM room) ∧ Below w.heap.size w w' :=
 (new_any room w hhi).mono fun _ _ ⟨d, he, hD, hb⟩ => ⟨d, he, ⟨_, hD, fun _ hb => ⟨hb.1, fun h => h⟩, fun _ h => h.elim, hb⟩, hb⟩

theorem own_create {w0 : World} {X : Nat → Prop} {w : World} {d : Nat} {M : DM} (h : Own w0 X w d M) (n : List UInt8) (hn : n.length ≤ 9223372036854775807) (hL : M.fs.length < 1000000) :
  Calls Tryz.prog 35 #[.pointer (some ⟨d, 0, none⟩), .string ⟨n.toArray⟩] w (OwnAct w0 X w d (createM n M)) := by
 obtain ⟨S, hD, hS, hX, h0⟩ := h
 exact (create_any hD n hn hL).mono fun e w' hq => ⟨hq.1, Own.step hS hX h0 hq.2⟩

theorem own_append {w0 : World} {X : Nat → Prop} {w : World} {d : Nat} {M : DM} (h : Own w0 X w d M) (n : List UInt8) (hn : n.length ≤ 9223372036854775807) (pa : Option Addr) (m c : Nat) (l : List Nat) (hB : Bytes w pa m c l) (hap : 0 < m → ∀ a, pa = some a → X a.block ∨ a.block < w0.heap.size)
  (hlim : usedF M.fs + l.length ≤ 140737488355328) : Calls Tryz.prog 55 #[.pointer (some ⟨d, 0, none⟩), .string ⟨n.toArray⟩, .slice pa m c] w (OwnAct w0 X w d (appendM n l M)) := by
 obtain ⟨S, hD, hS, hX, h0⟩ := h
 refine (append_any hD n hn pa m c l hB (fun h0' a ha hs => ?_) hlim).mono fun e w' hq => ⟨hq.1, Own.step hS hX h0 hq.2⟩
 rcases hap h0' a ha with h1 | h1
 ·exact (hS _ hs).2 h1
 ·have := (hS _ hs).1; omega

theorem own_sync {w0 : World} {X : Nat → Prop} {w : World} {d : Nat} {M : DM} (h : Own w0 X w d M) (n : List UInt8) (hn : n.length ≤ 9223372036854775807) :
  Calls Tryz.prog 56 #[.pointer (some ⟨d, 0, none⟩), .string ⟨n.toArray⟩] w (OwnAct w0 X w d (syncM n M)) := by
 obtain ⟨S, hD, hS, hX, h0⟩ := h
 exact (sync_any hD n hn).mono fun e w' hq => ⟨hq.1, Own.step hS hX h0 hq.2⟩

theorem own_crash {w0 : World} {X : Nat → Prop} {w : World} {d : Nat} {M : DM} (h : Own w0 X w d M) (hlen : M.fs.length < 1000000) (pa : Option Addr) (n c : Nat) (ks : List Int) (hN : Nums w pa n c ks) (hap : 0 < n → ∀ a, pa = some a → X a.block ∨ a.block < w0.heap.size) :
  Calls Tryz.prog 24 #[.pointer (some ⟨d, 0, none⟩), .slice pa n c] w fun e w' => (∃ v, e = .returned v) ∧ OwnEnd w0 X w d (crashM ks M) w' := by
 obtain ⟨S, hD, hS, hX, h0⟩ := h
 refine (crash_any hD hlen pa n c ks hN (fun h0' a ha hs => ?_)).mono fun e w' hq => ⟨hq.1, Own.step hS hX h0 hq.2⟩
 rcases hap h0' a ha with h1 | h1
 ·exact (hS _ hs).2 h1
 ·have := (hS _ hs).1; omega

theorem own_read {w0 : World} {X : Nat → Prop} {w : World} {d : Nat} {M : DM} (h : Own w0 X w d M) (n : List UInt8) (hn : n.length ≤ 9223372036854775807) (hlim : usedF M.fs ≤ 140737488355328) :
  Calls Tryz.prog 49 #[.pointer (some ⟨d, 0, none⟩), .string ⟨n.toArray⟩] w (ReadEnd w (readM n M)) := by
 obtain ⟨S, hD, _⟩ := h
 exact read_any hD n hn hlim

theorem own_down {w0 : World} {X : Nat → Prop} {w : World} {d : Nat} {M : DM} (h : Own w0 X w d M) :
  Calls Tryz.prog 63 #[.pointer (some ⟨d, 0, none⟩)] w fun e w' => e = .returned (.bool M.down) ∧ w' = w := by
 obtain ⟨S, hD, _⟩ := h
 exact down_any hD

theorem own_list {w0 : World} {X : Nat → Prop} {w : World} {d : Nat} {M : DM} (h : Own w0 X w d M) (hlen : M.fs.length < 1000000) :
  Calls Tryz.prog 41 #[.pointer (some ⟨d, 0, none⟩)] w fun e w' => ∃ v, e = .returned v ∧ w'.ownsRow w.heap.size 9 1 v M.fs.length ((M.fs.map F.n).map encStr) ∧ Below w.heap.size w w' := by
 obtain ⟨S, hD, _⟩ := h
 exact list_any hD hlen

end Go.Proofs.YtnbddiiedagllaaGreat

