import Derived.Test.YtehjgkkcpiblcaaGreatMB16
import Derived.Test.YtehjgkkcpiblcaaGreatMB43
import Derived.Test.YtehjgkkcpiblcaaGreatMB9
import Derived.Test.YtehjgkkcpiblcaaGreatMB1
import Derived.OpenShut
import Derived.Test.YtehjgkkcpiblcaaGreatMB12
/- The statements' operations as plain data: what each does to a plain disk; bounds on what a few of them can do. -/
namespace Go.Proofs.YtehjgkkcpiblcaaGreat
open Go.RowKit Go.Maps Go.Shelf

/-- An operation. -/
structure AM where
  k : Int
  nm : List UInt8
  «to» : List UInt8
  bs : List Nat
  n : Int
  ks : List Int

/-- What an operation does: the disk, the code, the bytes that were read. -/
def stepA (x : AM) (M : DM) : DM × Int × List Nat :=
  if 1 ≤ x.k ∧ x.k ≤ 5 then ((stepM x.k x.nm x.«to» x.bs M).1, (stepM x.k x.nm x.«to» x.bs M).2, []) else if x.k = 6 then (armM x.n M, 0, []) else if x.k = 7 then (crashM x.ks M, 0, []) else (M, (readM x.nm M).2, (readM x.nm M).1)

/-- A disk after j operations. -/
def runA (l : List AM) (M : DM) (j : Nat) : DM := (l.take j).foldl (fun M x => (stepA x M).1) M
theorem runA_next {l : List AM} {M : DM} {j : Nat} (hj : j < l.length) : runA l M (j + 1) = (stepA l[j] (runA l M j)).1 := by
  unfold runA
  rw [List.take_succ_eq_append_getElem hj, List.foldl_append]
  rfl

theorem usedF_insN (x : F) : ∀ l : List F, usedF (insN F.n x l) = x.b.length + usedF l
  | [] => by simp [insN, usedF]
  | y :: r => by
    unfold insN
    split
    · rw [usedF_cons, usedF_cons]
    · rw [usedF_cons, usedF_insN x r, usedF_cons]
      omega
theorem usedF_delN (n : List UInt8) : ∀ l : List F, usedF (delN F.n n l) ≤ usedF l
  | [] => Nat.le_refl _
  | y :: r => by
    have ih := usedF_delN n r
    unfold delN at ih ⊢
    rw [List.filter_cons, usedF_cons]
    split
    · rw [usedF_cons]
      omega
    · omega
theorem usedF_delN_mem {n : List UInt8} : ∀ {l : List F} {f : F}, f ∈ l → f.n = n → usedF (delN F.n n l) + f.b.length ≤ usedF l
  | y :: r, f, h, hn => by
    have ih := usedF_delN n r
    unfold delN at ih ⊢
    rw [List.filter_cons, usedF_cons]
    rcases List.mem_cons.1 h with rfl | h
    · rw [if_neg (by simp [hn])]
      omega
    · have ih2 := usedF_delN_mem h hn
      unfold delN at ih2
      split
      · rw [usedF_cons]
        omega
      · omega
theorem length_insN (x : F) (l : List F) : (insN F.n x l).length = l.length + 1 := by rw [(perm_insN F.n x l).length_eq, List.length_cons]
theorem length_delN (n : List UInt8) (l : List F) : (delN F.n n l).length ≤ l.length := List.length_filter_le _ _
/-- What a disk is after a change: no more than one file more, no more bytes than were appended. -/
structure Small (M : DM) (N U : Nat) : Prop where
  files : M.fs.length ≤ N
  used : usedF M.fs ≤ U

theorem failM_small {M : DM} {N U : Nat} (h : Small M N U) : Small (failM M) N U := by
  refine ⟨?_, ?_⟩ <;> rw [failM_fs' M]
  · exact h.files
  · exact h.used

theorem chgM_small {M : DM} {N U N' U' : Nat} (h : Small M N U) (hN : N ≤ N') (hU : U ≤ U') {nm : List UInt8} {act : DM → DM × Int} (ha : ∀ M', M'.fs = M.fs → Small (act M').1 N' U') : Small (chgM M nm act).1 N' U' := by
  unfold chgM
  have h2 := failM_small h
  split
  · exact ⟨Nat.le_trans h2.files hN, Nat.le_trans h2.used hU⟩
  · split
    · exact ha _ (failM_fs' M)
    · exact ⟨Nat.le_trans h2.files hN, Nat.le_trans h2.used hU⟩

theorem onM_small {M' : DM} {N' U' : Nat} (h : Small M' N' U') {nm : List UInt8} {act : F → DM → DM × Int} (ha : ∀ f, f ∈ M'.fs → f.n = nm → Small (act f M').1 N' U') : Small (onM nm act M').1 N' U' := by
  unfold onM
  cases hf : findN F.n nm M'.fs with
  | none => exact h
  | some f => exact ha f (findN_some hf).1 (findN_some hf).2

theorem put_small {fs : List F} {N U : Nat} {f : F} {x : F} (hf : f ∈ fs) (hn : f.n = x.n) (h1 : fs.length ≤ N) (h2 : usedF fs ≤ U) : (putN F.n x fs).length ≤ N + 1 ∧ usedF (putN F.n x fs) + f.b.length ≤ U + x.b.length := by
  unfold putN
  rw [length_insN, usedF_insN]
  have h3 := length_delN x.n fs
  have h4 := usedF_delN_mem hf hn
  exact ⟨by omega, by omega⟩

theorem stepM_small {M : DM} {N U : Nat} (h : Small M N U) (hs : Sorted M.fs) (k : Int) (nm «to» : List UInt8) (bs : List Nat) : Small (stepM k nm «to» bs M).1 (N + 1) (U + bs.length) := by
  unfold stepM
  have same : ∀ M', M'.fs = M.fs → Small M' (N + 1) (U + bs.length) := fun M' e => ⟨by rw [e]; have := h.files; omega, by rw [e]; have := h.used; omega⟩
  have hset : ∀ (M' : DM) (f x : F), M'.fs = M.fs → f ∈ M'.fs → f.n = x.n → x.b.length ≤ f.b.length + bs.length → Small { M' with fs := setN F.n x M'.fs } (N + 1) (U + bs.length) := by
    intro M' f x e hf hn hx
    have h1 : setN F.n x M'.fs = putN F.n x M'.fs := setN_putN x _ (by rw [e]; exact hs) (fun hnone => findN_none hnone f hf hn)
    rw [h1]
    have h2 := put_small (x := x) hf hn (N := N) (U := U) (by rw [e]; exact h.files) (by rw [e]; exact h.used)
    exact ⟨h2.1, by have := h2.2; show usedF (putN F.n x M'.fs) ≤ _; omega⟩
  split
  · refine chgM_small h (by omega) (by omega) fun M' e => ?_
    cases findN F.n nm M'.fs with
    | some f => exact same M' e
    | none =>
      refine ⟨?_, ?_⟩
      · show (putN F.n _ M'.fs).length ≤ _
        unfold putN
        rw [length_insN]
        have := length_delN nm M'.fs
        have h1 := h.files
        rw [← e] at h1
        simp only
        omega
      · show usedF (putN F.n _ M'.fs) ≤ _
        unfold putN
        rw [usedF_insN]
        have := usedF_delN nm M'.fs
        have h1 := h.used
        rw [← e] at h1
        simp only [List.length_nil]
        omega
  · split
    · refine chgM_small h (by omega) (by omega) fun M' e => onM_small (same M' e) fun f hf hn => ?_
      split
      · exact hset M' f _ e hf (by simpa using hn) (by simp)
      · exact same M' e
    · split
      · exact chgM_small h (by omega) (by omega) fun M' e => onM_small (same M' e) fun f hf hn => hset M' f _ e hf (by simpa using hn) (by simp)
      · split
        · refine chgM_small h (by omega) (by omega) fun M' e => onM_small (same M' e) fun f hf hn => ?_
          split
          · refine ⟨?_, ?_⟩
            · show (putN F.n _ (delN F.n nm M'.fs)).length ≤ _
              unfold putN
              rw [length_insN]
              have h1 := length_delN «to» (delN F.n nm M'.fs)
              have h2 := length_delN nm M'.fs
              have h3 := h.files
              rw [← e] at h3
              simp only
              omega
            · show usedF (putN F.n _ (delN F.n nm M'.fs)) ≤ _
              unfold putN
              rw [usedF_insN]
              have h1 := usedF_delN «to» (delN F.n nm M'.fs)
              have h2 := usedF_delN_mem hf hn
              have h3 := h.used
              rw [← e] at h3
              simp only
              omega
          · exact same M' e
        · refine chgM_small h (by omega) (by omega) fun M' e => onM_small (same M' e) fun f hf hn => ⟨?_, ?_⟩
          · have h2 := length_delN nm M'.fs
            have h3 := h.files
            rw [← e] at h3
            show (delN F.n nm M'.fs).length ≤ _
            omega
          · have h2 := usedF_delN nm M'.fs
            have h3 := h.used
            rw [← e] at h3
            show usedF (delN F.n nm M'.fs) ≤ _
            omega

theorem crash_used (ks : List Int) : ∀ (fs : List F) (o : Nat), usedF (fs.mapIdx fun i f => cutF f (ks.getD (o + i) 0)) ≤ usedF fs
  | [], _ => by simp [usedF]
  | f :: r, o => by
    rw [List.mapIdx_cons, usedF_cons, usedF_cons]
    have ih := crash_used ks r (o + 1)
    have e : (r.mapIdx fun i f => cutF f (ks.getD (o + (i + 1)) 0)) = r.mapIdx fun i f => cutF f (ks.getD (o + 1 + i) 0) := by
      congr 1
      funext i f
      rw [show o + (i + 1) = o + 1 + i by omega]
    rw [e]
    have h1 : (cutF f (ks.getD (o + 0) 0)).b.length ≤ f.b.length := by
      unfold cutF
      simp only
      rw [List.length_take]
      omega
    omega

theorem stepA_small {M : DM} {N U : Nat} (h : Small M N U) (hs : Sorted M.fs) (x : AM) : Small (stepA x M).1 (N + 1) (U + x.bs.length) := by
  have h1 := h.files
  have h2 := h.used
  unfold stepA
  split
  · exact stepM_small h hs _ _ _ _
  · split
    · exact ⟨by show M.fs.length ≤ _; omega, by show usedF M.fs ≤ _; omega⟩
    · split
      · refine ⟨?_, ?_⟩
        · show (M.fs.mapIdx _).length ≤ _
          rw [List.length_mapIdx]
          omega
        · have := crash_used x.ks M.fs 0
          simp only [Nat.zero_add] at this
          show usedF (M.fs.mapIdx fun i f => cutF f (x.ks.getD i 0)) ≤ _
          omega
      · exact ⟨by show M.fs.length ≤ _; omega, by show usedF M.fs ≤ _; omega⟩
end Go.Proofs.YtehjgkkcpiblcaaGreat

/- Two slices of byte slices that came in as an array. -/
namespace Go.Proofs.YtehjgkkcpiblcaaGreat
open Go.ChangeShapes Go.WideShapes Go.ChangeAt Go.RowKit Go.Deep

section
variable {H : Type} {enc : TypeId × Value → H} {W : World}

theorem cells_b2 : Tryz.prog.cellsOf 5 = 1 := by kernel_rfl
theorem cells_p2 : Tryz.prog.cellsOf 47 = 1 := by kernel_rfl
theorem cells_pp2 : Tryz.prog.cellsOf 42 = 1 := by kernel_rfl
theorem cells_a2 : Tryz.prog.cellsOf 57 = 2 := by kernel_rfl

theorem trod_parts {fuel : Nat} {cs : List Value} {x : DataW H × List MemPlace} (h : DataW.trod enc Tryz.prog W 0 (fun _ => true) true fuel 42 cs = some x) : ∃ a n cap ls, cs = [.slice a n cap] ∧ Parts W a n cap ls := by
  rcases open_int_rows Tryz.underlying42 Tryz.underlying47 Tryz.underlying5 cells_p2 cells_b2 h with ⟨hcs, _⟩ | ⟨a, len, cap, A, L, C, Z, hcs, _, hl, hm, _, hrows⟩
  · exact ⟨none, 0, 0, [], hcs, rfl, Nat.le_refl _, by omega, fun h => absurd h (Nat.lt_irrefl _)⟩
  · refine ⟨some a, len, cap, (List.range len).map fun r => ((Z r).take (L r)).map Int.toNat, hcs, by simp, hl, hm, fun hn => ?_⟩
    obtain ⟨b, o, spot⟩ := a
    have hspot : spot = none := by simpa [Addr.add] using World.cell?_spot (hrows 0 (by omega)).1
    subst hspot
    have hc0 := (hrows 0 (by omega)).1
    rw [add_plain] at hc0
    refine ⟨b, o, rfl, World.block_lt_of_cell? _ _ hc0, fun i hi => ?_⟩
    obtain ⟨h1, h2, h3, h4, h5, h6, h7⟩ := hrows i (by omega)
    rw [add_plain] at h1
    refine ⟨A i, L i, C i, h1, ?_⟩
    have e1 : ((List.range len).map fun r => ((Z r).take (L r)).map Int.toNat).getD i [] = ((Z i).take (L i)).map Int.toNat := by
      rw [List.getD_eq_getElem?_getD, List.getElem?_map, List.getElem?_range hi]; rfl
    rw [e1]
    exact bytes_of_ints h2 h3 h4 h6 (fun a' ha' c hc => (h7 a' ha').2 c hc) h5

set_option maxRecDepth 100000 in
theorem open_pair {v : Value} {d : DataW H} {p : List MemPlace} {base : Nat} (hv : Value.okWide Tryz.prog W .any base 57 v) (h : DataW.Trod enc Tryz.prog W 0 (fun _ => true) true 57 v d p) :
    ∃ a n c ls a' n' c' ms, v = .agg #[.slice a n c, .slice a' n' c'] ∧ Parts W a n c ls ∧ Parts W a' n' c' ms := by
  have hv' : ∃ cs, v = .agg cs ∧ cs.size = 2 := by
    simp only [Value.okWide, Tryz.underlying57] at hv
    obtain ⟨cs, h1, h2, _⟩ := hv
    rw [cells_a2] at h2
    exact ⟨cs, h1, h2⟩
  obtain ⟨cs, rfl, hsz⟩ := hv'
  obtain ⟨fuel, hf⟩ := h
  obtain ⟨xs, m, rfl, _, _, hxl, hfs⟩ := DataW.trod_array Tryz.underlying57 hf
  match xs, hxl with
  | [y0, y1], _ =>
    have g0 := hfs 0 (by omega)
    have g1 := hfs 1 (by omega)
    rw [cells_pp2] at g0 g1
    simp only [List.getElem?_cons_zero, List.getElem?_cons_succ] at g0 g1
    obtain ⟨a, n, c, ls, e0, hP⟩ := trod_parts g0
    obtain ⟨a', n', c', ms, e1, hQ⟩ := trod_parts g1
    refine ⟨a, n, c, ls, a', n', c', ms, ?_, hP, hQ⟩
    congr 1
    obtain ⟨l⟩ := cs
    simp at hsz
    match l, hsz with
    | [u0, u1], _ =>
      simp [Value.cells] at e0 e1
      rw [e0, e1]
end
end Go.Proofs.YtehjgkkcpiblcaaGreat

/- Files that come in, read as plain data. -/
namespace Go.Proofs.YtehjgkkcpiblcaaGreat
open Go.ChangeShapes Go.WideShapes Go.ChangeAt Go.RowKit Go.Deep

/-- A file that comes in. -/
structure FI where
  nm : List UInt8
  bs : List Nat
  z : Int

/-- The file x lies in three cells. -/
structure FIAt (w : World) (b o : Nat) (x : FI) (pb : Option Addr) (cb : Nat) : Prop where
  k0 : w.cell? ⟨b, o, none⟩ = some (.string ⟨x.nm.toArray⟩)
  k1 : w.cell? ⟨b, o + 1, none⟩ = some (.slice pb x.bs.length cb)
  k2 : w.cell? ⟨b, o + 2, none⟩ = some (.int .i64 x.z)
  bytes : Bytes w pb x.bs.length cb x.bs
  wn : x.nm.length ≤ 9223372036854775807

/-- The files l lie at the start of a slice's value. -/
structure FIs (w : World) (a : Option Addr) (n c : Nat) (l : List FI) : Prop where
  len : l.length = n
  le : n ≤ c
  max : c ≤ 9223372036854775807
  cell : 0 < n → ∃ b o, a = some ⟨b, o, none⟩ ∧ ∀ i (hi : i < l.length), ∃ pb cb, FIAt w b (o + i * 3) l[i] pb cb

theorem FIAt.grow {w w' : World} {b o : Nat} {x : FI} {pb : Option Addr} {cb : Nat} (h : FIAt w b o x pb cb) (hb : Below w.heap.size w w') : FIAt w' b o x pb cb :=
  ⟨cell_keep hb h.k0, cell_keep hb h.k1, cell_keep hb h.k2, h.bytes.grow hb, h.wn⟩

theorem FIs.grow {w w' : World} {a : Option Addr} {n c : Nat} {l : List FI} (h : FIs w a n c l) (hb : Below w.heap.size w w') : FIs w' a n c l := by
  refine ⟨h.len, h.le, h.max, fun hn => ?_⟩
  obtain ⟨b, o, e, hc⟩ := h.cell hn
  exact ⟨b, o, e, fun i hi => by obtain ⟨pb, cb, hx⟩ := hc i hi; exact ⟨pb, cb, hx.grow hb⟩⟩

section
variable {H : Type} {enc : TypeId × Value → H} {W : World}

theorem cells_fi : Tryz.prog.cellsOf 108 = 3 := by kernel_rfl
theorem cells_intF : Tryz.prog.cellsOf 3 = 1 := by kernel_rfl
theorem cells_strF : Tryz.prog.cellsOf 9 = 1 := by kernel_rfl
theorem cells_u8F : Tryz.prog.cellsOf 5 = 1 := by kernel_rfl
theorem cells_bsF : Tryz.prog.cellsOf 47 = 1 := by kernel_rfl

theorem trod_bytesF {fuel : Nat} {cs : List Value} {x : DataW H × List MemPlace} (h : DataW.trod enc Tryz.prog W 0 (fun _ => true) true fuel 47 cs = some x) : ∃ a n cap l, cs = [.slice a n cap] ∧ Bytes W a n cap l := by
  rcases open_ints Tryz.underlying47 Tryz.underlying5 cells_u8F h with ⟨hcs, _⟩ | ⟨a, len', cap', zs, hcs, _, hl, hm, hz, _, hcell, hw⟩
  · exact ⟨none, 0, 0, [], hcs, rfl, Nat.le_refl _, by omega, by simp, fun _ => rfl, fun h => absurd h (Nat.lt_irrefl _)⟩
  · simp only [if_true] at hz
    refine ⟨some a, len', cap', _, hcs, bytes_of_ints (zs := zs) hl hm hz (fun h => by cases h) (fun a' ha' c hc => ?_) hw⟩
    cases ha'
    exact hcell c (by omega)

set_option maxRecDepth 100000 in
theorem open_fi {fuel : Nat} {cs : List Value} {x : DataW H × List MemPlace} (h : DataW.trod enc Tryz.prog W 0 (fun _ => true) true fuel 108 cs = some x) :
    ∃ (y : FI) (pb : Option Addr) (cb : Nat), cs = [.string ⟨y.nm.toArray⟩, .slice pb y.bs.length cb, .int .i64 y.z] ∧ Bytes W pb y.bs.length cb y.bs ∧ y.nm.length ≤ 9223372036854775807 := by
  obtain ⟨xs, n, rfl, _, hlen, hxl, hf⟩ := DataW.trod_struct Tryz.underlying108 h
  rw [cells_fi] at hlen
  match cs, hlen, xs, hxl with
  | [c0, c1, c2], _, [y0, y1, y2], _ =>
    have f0 := hf 0 _ rfl
    have f1 := hf 1 _ rfl
    have f2 := hf 2 _ rfl
    simp [cells_intF, cells_bsF, cells_strF] at f0 f1 f2
    obtain ⟨s1, e0, _, w1⟩ := DataW.trod_string Tryz.underlying9 f0
    obtain ⟨pb, lb, cb, bs, e1, hB⟩ := trod_bytesF f1
    obtain ⟨m, e2, _, w2⟩ := DataW.trod_int Tryz.underlying3 f2
    obtain rfl := (List.cons.inj e0).1
    obtain rfl := (List.cons.inj e1).1
    obtain rfl := (List.cons.inj e2).1
    refine ⟨⟨s1.data.toList, bs, m⟩, pb, cb, ?_, ?_, ?_⟩
    · rw [hB.len]
    · rw [hB.len]; exact hB
    · have h1 : s1.size ≤ 9223372036854775807 := by rw [maxLen_nat] at w1; exact w1
      show s1.data.toList.length ≤ _
      rw [Array.length_toList]
      exact h1

set_option maxRecDepth 100000 in
/-- Files that came in, and how many there are. -/
theorem open_fis {v : Value} {d : DataW H} {p : List MemPlace} {base : Nat} (hv : Value.okWide Tryz.prog W .any base 30 v) (h : DataW.Trod enc Tryz.prog W 0 (fun _ => true) true 30 v d p) :
    ∃ a n c l, v = .slice a n c ∧ FIs W a n c l ∧ (n = 0 ∨ ∃ e s, d = .slice e s ∧ n ≤ e.length + s.length) := by
  obtain ⟨a0, len, cap, rfl⟩ := okWide_slice Tryz.underlying30 hv
  obtain ⟨fuel, hf⟩ := h
  rcases DataW.trod_slice Tryz.underlying30 hf with ⟨e, _⟩ | ⟨a, len', cap', elems, rest, r, rfl, e, hd, _, hle, hcm, hel, hi, _, _⟩
  · simp [Value.cells] at e
    obtain ⟨rfl, rfl, rfl⟩ := e
    exact ⟨none, 0, 0, [], rfl, ⟨rfl, Nat.le_refl _, by omega, fun h => absurd h (Nat.lt_irrefl _)⟩, .inl rfl⟩
  · simp [Value.cells] at e
    obtain ⟨rfl, rfl, rfl⟩ := e
    rw [maxLen_nat] at hcm
    rw [cells_fi] at hi
    have hel2 : ∀ i, i < len → ∃ (y : FI) (pb : Option Addr) (cb : Nat), (∀ j, j < 3 → W.cell? ((a.add (i * 3)).add j) = ([.string ⟨y.nm.toArray⟩, .slice pb y.bs.length cb, .int .i64 y.z] : List Value)[j]?) ∧
        Bytes W pb y.bs.length cb y.bs ∧ y.nm.length ≤ 9223372036854775807 := by
      intro i hlt
      have h1 := hi i hlt
      rw [List.getElem?_eq_getElem (by omega)] at h1
      obtain ⟨cs', h2, h3⟩ := Option.bind_eq_some_iff.1 h1
      obtain ⟨_, h4, h5⟩ := World.cells?_some h2
      obtain ⟨y, pb, cb, e, hr⟩ := open_fi h3
      rw [e] at h5
      exact ⟨y, pb, cb, h5, hr⟩
    refine ⟨some a, len, cap, (List.range len).map fun i => if h : i < len then (hel2 i h).choose else ⟨[], [], 0⟩, rfl, ⟨by simp, hle, hcm, fun hn => ?_⟩, .inr ?_⟩
    · obtain ⟨b, o, spot⟩ := a
      have hspot : spot = none := by
        obtain ⟨y, pb, cb, g1, _⟩ := hel2 0 hn
        have g3 := g1 0 (by omega)
        simpa [Addr.add] using World.cell?_spot g3
      subst hspot
      refine ⟨b, o, rfl, fun i hi => ?_⟩
      have hil : i < len := by simpa using hi
      obtain ⟨pb, cb, g1, g2, g3⟩ := (hel2 i hil).choose_spec
      have e : ((List.range len).map fun i => if h : i < len then (hel2 i h).choose else ⟨[], [], 0⟩)[i] = (hel2 i hil).choose := by
        rw [List.getElem_map, List.getElem_range, dif_pos hil]
      rw [e]
      have hc : ∀ j, j < 3 → W.cell? ⟨b, o + i * 3 + j, none⟩ = ([.string ⟨(hel2 i hil).choose.nm.toArray⟩, .slice pb (hel2 i hil).choose.bs.length cb, .int .i64 (hel2 i hil).choose.z] : List Value)[j]? := by
        intro j hj
        have e2 : ((⟨b, o, none⟩ : Addr).add (i * 3)).add j = ⟨b, o + i * 3 + j, none⟩ := by rw [add_plain, add_plain]
        exact (congrArg W.cell? e2.symm).trans (g1 j hj)
      exact ⟨pb, cb, hc 0 (by omega), hc 1 (by omega), hc 2 (by omega), g2, g3⟩
    · refine ⟨_, _, (Prod.mk.inj hd).1, ?_⟩
      rw [List.length_map, hel]
      omega
end
end Go.Proofs.YtehjgkkcpiblcaaGreat

