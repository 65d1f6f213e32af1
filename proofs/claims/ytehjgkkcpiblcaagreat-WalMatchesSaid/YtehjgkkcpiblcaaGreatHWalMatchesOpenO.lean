/- Operations on a log that come in, read as plain data. -/
import Derived.Test.YtehjgkkcpiblcaaGreatHWalMatchesWlOpM
import Derived.Test.YtehjgkkcpiblcaaGreatHWalMatchesOpen2
namespace Go.Proofs.YtehjgkkcpiblcaaGreat
open Go.ChangeShapes Go.WideShapes Go.ChangeAt Go.RowKit Go.Deep

/-- The operation x lies in three cells. -/
structure OpAt (w : World) (b o : Nat) (x : OM) (pb : Option Addr) (cb : Nat) : Prop where
  k0 : w.cell? ⟨b, o, none⟩ = some (.int .i64 x.k)
  k1 : w.cell? ⟨b, o + 1, none⟩ = some (.slice pb x.r.length cb)
  k2 : w.cell? ⟨b, o + 2, none⟩ = some (.int .i64 x.n)
  bytes : Bytes w pb x.r.length cb x.r
  wk : -9223372036854775808 ≤ x.k ∧ x.k ≤ 9223372036854775807
  wn : -9223372036854775808 ≤ x.n ∧ x.n ≤ 9223372036854775807

/-- The operations l lie at the start of a slice's value. -/
structure Ops (w : World) (a : Option Addr) (n c : Nat) (l : List OM) : Prop where
  len : l.length = n
  le : n ≤ c
  max : c ≤ 9223372036854775807
  cell : 0 < n → ∃ b o, a = some ⟨b, o, none⟩ ∧ ∀ i (hi : i < l.length), ∃ pb cb, OpAt w b (o + i * 3) l[i] pb cb

theorem OpAt.grow {w w' : World} {b o : Nat} {x : OM} {pb : Option Addr} {cb : Nat} (h : OpAt w b o x pb cb) (hb : Below w.heap.size w w') : OpAt w' b o x pb cb :=
  ⟨cell_keep hb h.k0, cell_keep hb h.k1, cell_keep hb h.k2, h.bytes.grow hb, h.wk, h.wn⟩

theorem Ops.grow {w w' : World} {a : Option Addr} {n c : Nat} {l : List OM} (h : Ops w a n c l) (hb : Below w.heap.size w w') : Ops w' a n c l := by
  refine ⟨h.len, h.le, h.max, fun hn => ?_⟩
  obtain ⟨b, o, e, hc⟩ := h.cell hn
  exact ⟨b, o, e, fun i hi => by obtain ⟨pb, cb, hx⟩ := hc i hi; exact ⟨pb, cb, hx.grow hb⟩⟩

section
variable {H : Type} {enc : TypeId × Value → H} {W : World}

theorem cells_opm : Tryz.prog.cellsOf 94 = 3 := by kernel_rfl
theorem cells_intm : Tryz.prog.cellsOf 3 = 1 := by kernel_rfl
theorem cells_u8m : Tryz.prog.cellsOf 5 = 1 := by kernel_rfl
theorem cells_bsm : Tryz.prog.cellsOf 47 = 1 := by kernel_rfl

theorem trod_bytesm {fuel : Nat} {cs : List Value} {x : DataW H × List MemPlace} (h : DataW.trod enc Tryz.prog W 0 (fun _ => true) true fuel 47 cs = some x) : ∃ a n cap l, cs = [.slice a n cap] ∧ Bytes W a n cap l := by
  rcases open_ints Tryz.underlying47 Tryz.underlying5 cells_u8m h with ⟨hcs, _⟩ | ⟨a, len', cap', zs, hcs, _, hl, hm, hz, _, hcell, hw⟩
  · exact ⟨none, 0, 0, [], hcs, rfl, Nat.le_refl _, by omega, by simp, fun _ => rfl, fun h => absurd h (Nat.lt_irrefl _)⟩
  · simp only [if_true] at hz
    refine ⟨some a, len', cap', _, hcs, bytes_of_ints (zs := zs) hl hm hz (fun h => by cases h) (fun a' ha' c hc => ?_) hw⟩
    cases ha'
    exact hcell c (by omega)

set_option maxRecDepth 100000 in
theorem open_opm {fuel : Nat} {cs : List Value} {x : DataW H × List MemPlace} (h : DataW.trod enc Tryz.prog W 0 (fun _ => true) true fuel 94 cs = some x) :
    ∃ (y : OM) (pb : Option Addr) (cb : Nat), cs = [.int .i64 y.k, .slice pb y.r.length cb, .int .i64 y.n] ∧ Bytes W pb y.r.length cb y.r ∧ (-9223372036854775808 ≤ y.k ∧ y.k ≤ 9223372036854775807) ∧ (-9223372036854775808 ≤ y.n ∧ y.n ≤ 9223372036854775807) := by
  obtain ⟨xs, n, rfl, _, hlen, hxl, hf⟩ := DataW.trod_struct Tryz.underlying94 h
  rw [cells_opm] at hlen
  match cs, hlen, xs, hxl with
  | [c0, c1, c2], _, [y0, y1, y2], _ =>
    have f0 := hf 0 _ rfl
    have f1 := hf 1 _ rfl
    have f2 := hf 2 _ rfl
    simp [cells_intm, cells_bsm] at f0 f1 f2
    obtain ⟨k, e0, _, w0⟩ := DataW.trod_int Tryz.underlying3 f0
    obtain ⟨pb, lb, cb, bs, e1, hB⟩ := trod_bytesm f1
    obtain ⟨m, e2, _, w2⟩ := DataW.trod_int Tryz.underlying3 f2
    obtain rfl := (List.cons.inj e0).1
    obtain rfl := (List.cons.inj e1).1
    obtain rfl := (List.cons.inj e2).1
    refine ⟨⟨k, bs, m⟩, pb, cb, ?_, ?_, wf_i64_of w0, wf_i64_of w2⟩
    · rw [hB.len]
    · rw [hB.len]; exact hB

set_option maxRecDepth 100000 in
/-- Operations that came in, and how many there are. -/
theorem open_opms {v : Value} {d : DataW H} {p : List MemPlace} {base : Nat} (hv : Value.okWide Tryz.prog W .any base 23 v) (h : DataW.Trod enc Tryz.prog W 0 (fun _ => true) true 23 v d p) :
    ∃ a n c l, v = .slice a n c ∧ Ops W a n c l ∧ (n = 0 ∨ ∃ e s, d = .slice e s ∧ n ≤ e.length + s.length) := by
  obtain ⟨a0, len, cap, rfl⟩ := okWide_slice Tryz.underlying23 hv
  obtain ⟨fuel, hf⟩ := h
  rcases DataW.trod_slice Tryz.underlying23 hf with ⟨e, _⟩ | ⟨a, len', cap', elems, rest, r, rfl, e, hd, _, hle, hcm, hel, hi, _, _⟩
  · simp [Value.cells] at e
    obtain ⟨rfl, rfl, rfl⟩ := e
    exact ⟨none, 0, 0, [], rfl, ⟨rfl, Nat.le_refl _, by omega, fun h => absurd h (Nat.lt_irrefl _)⟩, .inl rfl⟩
  · simp [Value.cells] at e
    obtain ⟨rfl, rfl, rfl⟩ := e
    rw [maxLen_nat] at hcm
    rw [cells_opm] at hi
    have hel2 : ∀ i, i < len → ∃ (y : OM) (pb : Option Addr) (cb : Nat), (∀ j, j < 3 → W.cell? ((a.add (i * 3)).add j) = ([.int .i64 y.k, .slice pb y.r.length cb, .int .i64 y.n] : List Value)[j]?) ∧
        Bytes W pb y.r.length cb y.r ∧ (-9223372036854775808 ≤ y.k ∧ y.k ≤ 9223372036854775807) ∧ (-9223372036854775808 ≤ y.n ∧ y.n ≤ 9223372036854775807) := by
      intro i hlt
      have h1 := hi i hlt
      rw [List.getElem?_eq_getElem (by omega)] at h1
      obtain ⟨cs', h2, h3⟩ := Option.bind_eq_some_iff.1 h1
      obtain ⟨_, h4, h5⟩ := World.cells?_some h2
      obtain ⟨y, pb, cb, e, hr⟩ := open_opm h3
      rw [e] at h5
      exact ⟨y, pb, cb, h5, hr⟩
    refine ⟨some a, len, cap, (List.range len).map fun i => if h : i < len then (hel2 i h).choose else ⟨0, [], 0⟩, rfl, ⟨by simp, hle, hcm, fun hn => ?_⟩, .inr ?_⟩
    · obtain ⟨b, o, spot⟩ := a
      have hspot : spot = none := by
        obtain ⟨y, pb, cb, g1, _⟩ := hel2 0 hn
        have g3 := g1 0 (by omega)
        simpa [Addr.add] using World.cell?_spot g3
      subst hspot
      refine ⟨b, o, rfl, fun i hi => ?_⟩
      have hil : i < len := by simpa using hi
      obtain ⟨pb, cb, g1, g2, g3, g4⟩ := (hel2 i hil).choose_spec
      have e : ((List.range len).map fun i => if h : i < len then (hel2 i h).choose else ⟨0, [], 0⟩)[i] = (hel2 i hil).choose := by
        rw [List.getElem_map, List.getElem_range, dif_pos hil]
      rw [e]
      have hc : ∀ j, j < 3 → W.cell? ⟨b, o + i * 3 + j, none⟩ = ([.int .i64 (hel2 i hil).choose.k, .slice pb (hel2 i hil).choose.r.length cb, .int .i64 (hel2 i hil).choose.n] : List Value)[j]? := by
        intro j hj
        have e2 : ((⟨b, o, none⟩ : Addr).add (i * 3)).add j = ⟨b, o + i * 3 + j, none⟩ := by rw [add_plain, add_plain]
        exact (congrArg W.cell? e2.symm).trans (g1 j hj)
      exact ⟨pb, cb, hc 0 (by omega), hc 1 (by omega), hc 2 (by omega), g2, g3, g4⟩
    · refine ⟨_, _, (Prod.mk.inj hd).1, ?_⟩
      rw [List.length_map, hel]
      omega
end
end Go.Proofs.YtehjgkkcpiblcaaGreat
