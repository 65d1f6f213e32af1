/- Operations that come in, read as plain data. -/
import Derived.Test.YtdnbjpfapfnpaaaAcM
import Derived.Test.YtdnbjpfapfnpaaaLiftF
namespace Go.Proofs.Ytdnbjpfapfnpaaa
open Go.ChangeShapes Go.WideShapes Go.ChangeAt Go.RowKit Go.Deep

/-- The operation x lies in six cells. -/
structure ActAt (w : World) (b o : Nat) (x : AM) (pb : Option Addr) (cb : Nat) (pk : Option Addr) (ck : Nat) : Prop where
  k0 : w.cell? ⟨b, o, none⟩ = some (.int .i64 x.k)
  k1 : w.cell? ⟨b, o + 1, none⟩ = some (.string ⟨x.nm.toArray⟩)
  k2 : w.cell? ⟨b, o + 2, none⟩ = some (.string ⟨x.to.toArray⟩)
  k3 : w.cell? ⟨b, o + 3, none⟩ = some (.slice pb x.bs.length cb)
  k4 : w.cell? ⟨b, o + 4, none⟩ = some (.int .i64 x.n)
  k5 : w.cell? ⟨b, o + 5, none⟩ = some (.slice pk x.ks.length ck)
  bytes : Bytes w pb x.bs.length cb x.bs
  nums : Nums w pk x.ks.length ck x.ks
  wk : -9223372036854775808 ≤ x.k ∧ x.k ≤ 9223372036854775807
  wn : -9223372036854775808 ≤ x.n ∧ x.n ≤ 9223372036854775807
  w1 : x.nm.length ≤ 9223372036854775807
  w2 : x.to.length ≤ 9223372036854775807

/-- The operations l lie at the start of a slice's value. -/
structure Acts (w : World) (a : Option Addr) (n c : Nat) (l : List AM) : Prop where
  len : l.length = n
  le : n ≤ c
  max : c ≤ 9223372036854775807
  cell : 0 < n → ∃ b o, a = some ⟨b, o, none⟩ ∧ ∀ i (hi : i < l.length), ∃ pb cb pk ck, ActAt w b (o + i * 6) l[i] pb cb pk ck

theorem ActAt.grow {w w' : World} {b o : Nat} {x : AM} {pb : Option Addr} {cb : Nat} {pk : Option Addr} {ck : Nat} (h : ActAt w b o x pb cb pk ck) (hb : Below w.heap.size w w') : ActAt w' b o x pb cb pk ck :=
  ⟨cell_keep hb h.k0, cell_keep hb h.k1, cell_keep hb h.k2, cell_keep hb h.k3, cell_keep hb h.k4, cell_keep hb h.k5, h.bytes.grow hb, h.nums.grow hb, h.wk, h.wn, h.w1, h.w2⟩

theorem Acts.grow {w w' : World} {a : Option Addr} {n c : Nat} {l : List AM} (h : Acts w a n c l) (hb : Below w.heap.size w w') : Acts w' a n c l := by
  refine ⟨h.len, h.le, h.max, fun hn => ?_⟩
  obtain ⟨b, o, e, hc⟩ := h.cell hn
  exact ⟨b, o, e, fun i hi => by obtain ⟨pb, cb, pk, ck, hx⟩ := hc i hi; exact ⟨pb, cb, pk, ck, hx.grow hb⟩⟩

section
variable {H : Type} {enc : TypeId × Value → H} {W : World}

theorem cells_act : Try.prog.cellsOf 35 = 6 := by kernel_rfl
theorem cells_op : Try.prog.cellsOf 32 = 4 := by kernel_rfl
theorem cells_int1 : Try.prog.cellsOf 3 = 1 := by kernel_rfl
theorem cells_str1 : Try.prog.cellsOf 9 = 1 := by kernel_rfl
theorem cells_u81 : Try.prog.cellsOf 5 = 1 := by kernel_rfl
theorem cells_bs1 : Try.prog.cellsOf 30 = 1 := by kernel_rfl
theorem cells_ks1 : Try.prog.cellsOf 33 = 1 := by kernel_rfl

theorem trod_bytes {fuel : Nat} {cs : List Value} {x : DataW H × List MemPlace} (h : DataW.trod enc Try.prog W 0 (fun _ => true) true fuel 30 cs = some x) : ∃ a n cap l, cs = [.slice a n cap] ∧ Bytes W a n cap l := by
  rcases open_ints Try.underlying30 Try.underlying5 cells_u81 h with ⟨hcs, _⟩ | ⟨a, len', cap', zs, hcs, _, hl, hm, hz, _, hcell, hw⟩
  · exact ⟨none, 0, 0, [], hcs, rfl, Nat.le_refl _, by omega, by simp, fun _ => rfl, fun h => absurd h (Nat.lt_irrefl _)⟩
  · simp only [if_true] at hz
    refine ⟨some a, len', cap', _, hcs, bytes_of_ints (zs := zs) hl hm hz (fun h => by cases h) (fun a' ha' c hc => ?_) hw⟩
    cases ha'
    exact hcell c (by omega)

theorem trod_nums {fuel : Nat} {cs : List Value} {x : DataW H × List MemPlace} (h : DataW.trod enc Try.prog W 0 (fun _ => true) true fuel 33 cs = some x) : ∃ a n cap l, cs = [.slice a n cap] ∧ Nums W a n cap l := by
  rcases open_ints Try.underlying33 Try.underlying3 cells_int1 h with ⟨hcs, _⟩ | ⟨a, len', cap', zs, hcs, _, hl, hm, hz, _, hcell, hw⟩
  · exact ⟨none, 0, 0, [], hcs, rfl, Nat.le_refl _, by omega, by simp, fun h => absurd h (Nat.lt_irrefl _)⟩
  · simp only [if_true] at hz
    refine ⟨some a, len', cap', _, hcs, nums_of_ints (zs := zs) hl hm hz (fun a' ha' c hc => ?_) (fun h => by cases h) hw⟩
    cases ha'
    exact hcell c (by omega)

set_option maxRecDepth 100000 in
theorem open_act {fuel : Nat} {cs : List Value} {x : DataW H × List MemPlace} (h : DataW.trod enc Try.prog W 0 (fun _ => true) true fuel 35 cs = some x) :
    ∃ (y : AM) (pb : Option Addr) (cb : Nat) (pk : Option Addr) (ck : Nat), cs = [.int .i64 y.k, .string ⟨y.nm.toArray⟩, .string ⟨y.to.toArray⟩, .slice pb y.bs.length cb, .int .i64 y.n, .slice pk y.ks.length ck] ∧
      Bytes W pb y.bs.length cb y.bs ∧ Nums W pk y.ks.length ck y.ks ∧ (-9223372036854775808 ≤ y.k ∧ y.k ≤ 9223372036854775807) ∧ (-9223372036854775808 ≤ y.n ∧ y.n ≤ 9223372036854775807) ∧ y.nm.length ≤ 9223372036854775807 ∧ y.to.length ≤ 9223372036854775807 := by
  obtain ⟨xs, n, rfl, _, hlen, hxl, hf⟩ := DataW.trod_struct Try.underlying35 h
  rw [cells_act] at hlen
  match cs, hlen, xs, hxl with
  | [c0, c1, c2, c3, c4, c5], _, [y0, y1, y2], _ =>
    have f0 := hf 0 _ rfl
    have f1 := hf 1 _ rfl
    have f2 := hf 2 _ rfl
    simp [cells_op, cells_int1, cells_ks1] at f0 f1 f2
    obtain ⟨xs', n', rfl, _, hlen', hxl', hf'⟩ := DataW.trod_struct Try.underlying32 f0
    match xs', hxl' with
    | [z0, z1, z2, z3], _ =>
      have g0 := hf' 0 _ rfl
      have g1 := hf' 1 _ rfl
      have g2 := hf' 2 _ rfl
      have g3 := hf' 3 _ rfl
      simp [cells_int1, cells_str1, cells_bs1] at g0 g1 g2 g3
      obtain ⟨k, e0, _, w0⟩ := DataW.trod_int Try.underlying3 g0
      obtain ⟨s1, e1, _, w1⟩ := DataW.trod_string Try.underlying9 g1
      obtain ⟨s2, e2, _, w2⟩ := DataW.trod_string Try.underlying9 g2
      obtain ⟨pb, lb, cb, bs, e3, hB⟩ := trod_bytes g3
      obtain ⟨m, e4, _, w4⟩ := DataW.trod_int Try.underlying3 f1
      obtain ⟨pk, lk, ck, ks, e5, hN⟩ := trod_nums f2
      obtain rfl := (List.cons.inj e0).1
      obtain rfl := (List.cons.inj e1).1
      obtain rfl := (List.cons.inj e2).1
      obtain rfl := (List.cons.inj e3).1
      obtain rfl := (List.cons.inj e4).1
      obtain rfl := (List.cons.inj e5).1
      refine ⟨⟨k, s1.data.toList, s2.data.toList, bs, m, ks⟩, pb, cb, pk, ck, ?_, ?_, ?_, wf_i64_of w0, wf_i64_of w4, ?_, ?_⟩
      · rw [hB.len, hN.len]
      · rw [hB.len]; exact hB
      · rw [hN.len]; exact hN
      · have h1 : s1.size ≤ 9223372036854775807 := by rw [maxLen_nat] at w1; exact w1
        show s1.data.toList.length ≤ _
        rw [Array.length_toList]
        exact h1
      · have h2 : s2.size ≤ 9223372036854775807 := by rw [maxLen_nat] at w2; exact w2
        show s2.data.toList.length ≤ _
        rw [Array.length_toList]
        exact h2

set_option maxRecDepth 100000 in
/-- Operations that came in. -/
theorem open_acts {v : Value} {d : DataW H} {p : List MemPlace} {base : Nat} (hv : Value.okWide Try.prog W .any base 22 v) (h : DataW.Trod enc Try.prog W 0 (fun _ => true) true 22 v d p) :
    ∃ a n cap l, v = .slice a n cap ∧ Acts W a n cap l := by
  obtain ⟨a0, len, cap, rfl⟩ := okWide_slice Try.underlying22 hv
  obtain ⟨fuel, hf⟩ := h
  rcases DataW.trod_slice Try.underlying22 hf with ⟨e, _⟩ | ⟨a, len', cap', elems, rest, r, rfl, e, _, _, hle, hcm, hel, hi, _, _⟩
  · simp [Value.cells] at e
    obtain ⟨rfl, rfl, rfl⟩ := e
    exact ⟨none, 0, 0, [], rfl, rfl, Nat.le_refl _, by omega, fun h => absurd h (Nat.lt_irrefl _)⟩
  · simp [Value.cells] at e
    obtain ⟨rfl, rfl, rfl⟩ := e
    rw [maxLen_nat] at hcm
    rw [cells_act] at hi
    have hel2 : ∀ i, i < len → ∃ (y : AM) (pb : Option Addr) (cb : Nat) (pk : Option Addr) (ck : Nat), (∀ j, j < 6 → W.cell? ((a.add (i * 6)).add j) = ([.int .i64 y.k, .string ⟨y.nm.toArray⟩, .string ⟨y.to.toArray⟩, .slice pb y.bs.length cb, .int .i64 y.n, .slice pk y.ks.length ck] : List Value)[j]?) ∧
        Bytes W pb y.bs.length cb y.bs ∧ Nums W pk y.ks.length ck y.ks ∧ (-9223372036854775808 ≤ y.k ∧ y.k ≤ 9223372036854775807) ∧ (-9223372036854775808 ≤ y.n ∧ y.n ≤ 9223372036854775807) ∧ y.nm.length ≤ 9223372036854775807 ∧ y.to.length ≤ 9223372036854775807 := by
      intro i hlt
      have h1 := hi i hlt
      rw [List.getElem?_eq_getElem (by omega)] at h1
      obtain ⟨cs', h2, h3⟩ := Option.bind_eq_some_iff.1 h1
      obtain ⟨_, h4, h5⟩ := World.cells?_some h2
      obtain ⟨y, pb, cb, pk, ck, e, hr⟩ := open_act h3
      rw [e] at h5
      exact ⟨y, pb, cb, pk, ck, h5, hr⟩
    refine ⟨some a, len, cap, (List.range len).map fun i => if h : i < len then (hel2 i h).choose else ⟨0, [], [], [], 0, []⟩, rfl, by simp, hle, hcm, fun hn => ?_⟩
    obtain ⟨b, o, spot⟩ := a
    have hspot : spot = none := by
      obtain ⟨y, pb, cb, pk, ck, g1, _⟩ := hel2 0 hn
      have g3 := g1 0 (by omega)
      simpa [Addr.add] using World.cell?_spot g3
    subst hspot
    refine ⟨b, o, rfl, fun i hi => ?_⟩
    have hil : i < len := by simpa using hi
    obtain ⟨pb, cb, pk, ck, g1, g2, g3, g4, g5, g6, g7⟩ := (hel2 i hil).choose_spec
    have e : ((List.range len).map fun i => if h : i < len then (hel2 i h).choose else ⟨0, [], [], [], 0, []⟩)[i] = (hel2 i hil).choose := by
      rw [List.getElem_map, List.getElem_range, dif_pos hil]
    rw [e]
    have hc : ∀ j, j < 6 → W.cell? ⟨b, o + i * 6 + j, none⟩ = ([.int .i64 (hel2 i hil).choose.k, .string ⟨(hel2 i hil).choose.nm.toArray⟩, .string ⟨(hel2 i hil).choose.to.toArray⟩, .slice pb (hel2 i hil).choose.bs.length cb, .int .i64 (hel2 i hil).choose.n, .slice pk (hel2 i hil).choose.ks.length ck] : List Value)[j]? := by
      intro j hj
      have e2 : ((⟨b, o, none⟩ : Addr).add (i * 6)).add j = ⟨b, o + i * 6 + j, none⟩ := by rw [add_plain, add_plain]
      exact (congrArg W.cell? e2.symm).trans (g1 j hj)
    exact ⟨pb, cb, pk, ck, hc 0 (by omega), hc 1 (by omega), hc 2 (by omega), hc 3 (by omega), hc 4 (by omega), hc 5 (by omega), g2, g3, g4, g5, g6, g7⟩
end
end Go.Proofs.Ytdnbjpfapfnpaaa
