import Derived.Test.YtcapbaocchaenaaGreatSRBatchCuts1
import Derived.Test.YtcapbaocchaenaaGreatSR13
import Derived.Test.YtcapbaocchaenaaGreatSR24
import Derived.Test.YtcapbaocchaenaaGreatRows
import Derived.OpenShut
import Derived.Test.YtcapbaocchaenaaGreatSR43
import Derived.JoinedCond
/- Events that come in. -/
namespace Go.Proofs.YtcapbaocchaenaaGreat
open Go.ChangeShapes Go.WideShapes Go.ChangeAt Go.RowKit Go.Deep

section
variable {H : Type} {enc : TypeId × Value → H} {W : World}

theorem cells_event : Tryz.prog.cellsOf 43 = 11 := by kernel_rfl
theorem cells_u64 : Tryz.prog.cellsOf 24 = 1 := by kernel_rfl

set_option maxRecDepth 100000 in
theorem open_e (fuel : Nat) (cs : List Value) (x : DataW H × List MemPlace) (h : DataW.trod enc Tryz.prog W 0 (fun _ => true) true fuel 43 cs = some x) : ∃ e : Ev, EvIn W e cs.toArray := by
  obtain ⟨xs, n, rfl, _, hlen, hxl, hf⟩ := DataW.trod_struct Tryz.underlying43 h
  rw [cells_event] at hlen
  match cs, hlen, xs, hxl with
  | [c0, c1, c2, c3, c4, c5, c6, c7, c8, c9, c10], _, [y0, y1, y2, y3, y4, y5, y6], _ =>
    have f0 := hf 0 _ rfl
    have f1 := hf 1 _ rfl
    have f2 := hf 2 _ rfl
    have f3 := hf 3 _ rfl
    have f4 := hf 4 _ rfl
    have f5 := hf 5 _ rfl
    have f6 := hf 6 _ rfl
    simp [cells_int, cells_u64, cells_str, cells_value] at f0 f1 f2 f3 f4 f5 f6
    obtain ⟨k, e0, _, w0⟩ := DataW.trod_int Tryz.underlying3 f0
    obtain ⟨id, e1, _, w1⟩ := DataW.trod_int Tryz.underlying24 f1
    obtain ⟨n, e2, _, w2⟩ := DataW.trod_int Tryz.underlying3 f2
    obtain ⟨t, e3, _, w3⟩ := DataW.trod_int Tryz.underlying24 f3
    obtain ⟨s, e4, _, w4⟩ := DataW.trod_string Tryz.underlying9 f4
    obtain ⟨s', e5, _, w5⟩ := DataW.trod_string Tryz.underlying9 f5
    obtain rfl := List.cons.inj e0 |>.1
    obtain rfl := List.cons.inj e1 |>.1
    obtain rfl := List.cons.inj e2 |>.1
    obtain rfl := List.cons.inj e3 |>.1
    obtain rfl := List.cons.inj e4 |>.1
    obtain rfl := List.cons.inj e5 |>.1
    obtain ⟨q, hq, rfl⟩ := str_of s
    obtain ⟨q', hq', rfl⟩ := str_of s'
    obtain ⟨id, hid, rfl⟩ := nat_u64 w1
    obtain ⟨t, ht, rfl⟩ := nat_u64 w3
    have hqs : q.length ≤ 9223372036854775807 := by
      rw [str_size, maxLen_nat] at w4
      exact w4
    have hqs' : q'.length ≤ 9223372036854775807 := by
      rw [str_size, maxLen_nat] at w5
      exact w5
    obtain ⟨v, hv⟩ := open_v _ _ _ f6
    obtain ⟨_, _, _, _, _, a, cap, e, _⟩ := hv.parts
    have e' : c6 = .int .i64 v.kind ∧ c7 = .int .i64 v.n ∧ c8 = .float .f64 v.f ∧ c9 = .string (str v.s) ∧ c10 = .slice a v.l.length cap := by
      simpa [cells5] using e
    obtain ⟨rfl, rfl, rfl, rfl, rfl⟩ := e'
    exact ⟨⟨k, id, n, t, q, q', v⟩, wf_i64_of w0, hid, wf_i64_of w2, ht, ⟨hq, hqs⟩, ⟨hq', hqs'⟩, a, cap, rfl, hv⟩

end
end Go.Proofs.YtcapbaocchaenaaGreat

/- Batches that come in, and the bound on what is read. -/
namespace Go.Proofs.YtcapbaocchaenaaGreat
open Go.ChangeShapes Go.WideShapes Go.ChangeAt Go.RowKit Go.Deep

theorem bulk_oneB {H : Type} (d : DataW H) : 1 ≤ Rows.uptoBulk d := by
  cases d with
  | lit l => cases l <;> simp [Rows.uptoBulk]
  | nil => simp [Rows.uptoBulk]
  | ptr d => simp [Rows.uptoBulk]
  | slice elems spare => simp [Rows.uptoBulk]
  | agg parts => simp [Rows.uptoBulk]
  | iface t d => simp [Rows.uptoBulk]
  | map entries => simp [Rows.uptoBulk]
  | held h => simp [Rows.uptoBulk]

theorem bulk_lenB {H : Type} (l : List (DataW H)) : l.length ≤ Rows.uptoBulkAll l := by
  induction l with
  | nil => simp [Rows.uptoBulkAll]
  | cons x r ih =>
    have := bulk_oneB x
    simp only [Rows.uptoBulkAll, List.length_cons]
    omega

section
variable {H : Type} {enc : TypeId × Value → H} {W : World}

theorem cells_batch : Tryz.prog.cellsOf 27 = 3 := by kernel_rfl
theorem cells_es : Tryz.prog.cellsOf 25 = 1 := by kernel_rfl

set_option maxRecDepth 100000 in
theorem open_es (fuel : Nat) (cs : List Value) (x : DataW H × List MemPlace) (h : DataW.trod enc Tryz.prog W 0 (fun _ => true) true fuel 25 cs = some x) :
    ∃ a n c l, cs = [.slice a n c] ∧ Evs W a n c l ∧ n ≤ Rows.uptoBulk x.1 := by
  rcases DataW.trod_slice Tryz.underlying25 h with ⟨e, _⟩ | ⟨a, len, cap, elems, rest, r, _, e, hd, _, hle, hcm, hel, hi, _, _⟩
  · exact ⟨none, 0, 0, [], e, evs_nil W, Nat.zero_le _⟩
  · rw [maxLen_nat] at hcm
    rw [cells_event] at hi
    have hel2 : ∀ i, i < len → ∃ (cs : List Value) (y : Ev), cs.length = 11 ∧ (∀ j, j < 11 → W.cell? ((a.add (i * 11)).add j) = cs[j]?) ∧ EvIn W y cs.toArray := by
      intro i hlt
      have h1 := hi i hlt
      rw [List.getElem?_eq_getElem (by omega)] at h1
      obtain ⟨cs', h2, h3⟩ := Option.bind_eq_some_iff.1 h1
      obtain ⟨_, h4, h5⟩ := World.cells?_some h2
      obtain ⟨y, hy⟩ := open_e _ _ _ h3
      exact ⟨cs', y, h4, h5, hy⟩
    have hbk : len ≤ Rows.uptoBulk x.1 := by
      rw [hd]
      have h1 := bulk_lenB (elems.map (·.1))
      rw [List.length_map, hel] at h1
      simp only [Rows.uptoBulk]
      omega
    refine ⟨some a, len, cap, (List.range len).map fun i => if h : i < len then (hel2 i h).choose_spec.choose else ⟨0, 0, 0, 0, [], [], zeroV⟩, e, ⟨by simp, hle, hcm, fun hn => ?_⟩, hbk⟩
    obtain ⟨b, o, spot⟩ := a
    have hspot : spot = none := by
      obtain ⟨cs', y, g0, g1, _⟩ := hel2 0 hn
      have g3 := g1 0 (by omega)
      rw [List.getElem?_eq_getElem (by omega)] at g3
      simpa [Addr.add] using World.cell?_spot g3
    subst hspot
    refine ⟨b, o, rfl, fun i hil' => ?_⟩
    have hil : i < len := by simpa using hil'
    have e1 : ((List.range len).map fun i => if h : i < len then (hel2 i h).choose_spec.choose else (⟨0, 0, 0, 0, [], [], zeroV⟩ : Ev))[i] = (hel2 i hil).choose_spec.choose := by
      rw [List.getElem_map, List.getElem_range, dif_pos hil]
    rw [e1]
    obtain ⟨g0, g1, g2⟩ := (hel2 i hil).choose_spec.choose_spec
    generalize (hel2 i hil).choose_spec.choose = y at *
    generalize (hel2 i hil).choose = cs' at *
    have g3 := g2
    obtain ⟨_, _, _, _, _, _, a', c', e2, _⟩ := g3
    rw [e2] at g2
    refine ⟨a', c', g2, fun j hj => ?_⟩
    have g4 := g1 j hj
    rw [add_plain, add_plain] at g4
    rw [g4, ← e2]
    simp

set_option maxRecDepth 100000 in
/-- A batch that came in: its events are at most as many as its bulk. -/
theorem open_batch {v : Value} {d : DataW H} {p : List MemPlace} {base : Nat} (hv : Value.okWide Tryz.prog W .any base 27 v) (h : DataW.Trod enc Tryz.prog W 0 (fun _ => true) true 27 v d p) : ∃ (x : Array Value) (u : Bt), v = .agg x ∧ BtIn W u x ∧ u.es.length ≤ Rows.uptoBulk d := by
  obtain ⟨x, rfl, _⟩ := okWide_struct Tryz.underlying27 hv
  obtain ⟨fuel, hf⟩ := h
  have e : (Value.agg x).cells.toList.toArray = x := Array.toArray_toList
  generalize hcs : (Value.agg x).cells.toList = cs at *
  obtain ⟨xs, n, hn, hd, hlen, hxl, hf⟩ := DataW.trod_struct Tryz.underlying27 hf
  rw [cells_batch] at hlen
  match cs, hlen, xs, hxl with
  | [c0, c1, c2], _, [y0, y1, y2], _ =>
    have f0 := hf 0 _ rfl
    have f1 := hf 1 _ rfl
    have f2 := hf 2 _ rfl
    simp [cells_u64, cells_str, cells_es] at f0 f1 f2
    obtain ⟨s, e0, _, w0⟩ := DataW.trod_string Tryz.underlying9 f0
    obtain ⟨t, e1, _, w1⟩ := DataW.trod_int Tryz.underlying24 f1
    obtain ⟨a, m, c, l, e2, hE, hb⟩ := open_es _ _ _ f2
    obtain rfl := List.cons.inj e0 |>.1
    obtain rfl := List.cons.inj e1 |>.1
    obtain rfl := List.cons.inj e2 |>.1
    obtain ⟨q, hq, rfl⟩ := str_of s
    obtain ⟨t, ht, rfl⟩ := nat_u64 w1
    have hqs : q.length ≤ 9223372036854775807 := by
      rw [str_size, maxLen_nat] at w0
      exact w0
    refine ⟨x, ⟨q, t, l⟩, rfl, ⟨⟨hq, hqs⟩, ht, a, m, c, e.symm, hE⟩, ?_⟩
    have h1 := congrArg Prod.fst hd
    simp only at h1
    rw [h1]
    simp only [Rows.uptoBulk, Rows.uptoBulkAll, List.map_cons, List.map_nil]
    have := hE.len
    show l.length ≤ _
    omega
end
end Go.Proofs.YtcapbaocchaenaaGreat

/- For all arguments whose values and letters together are at most 1048576 in number, in whatever memory, the statement BatchCuts answers true, and leaves its arguments as they were. Its one condition is that bound. -/
namespace Go.Proofs.YtcapbaocchaenaaGreat.BatchCutsP
open Go.ChangeShapes Go.WideShapes Go.ChangeAt Go.RowKit Go.Deep

theorem own : ownKnob Tryz.prog.godebug = none := by kernel_rfl
theorem laidOut : laidOutB Tryz.prog = true := by kernel_rfl

set_option maxRecDepth 100000 in
theorem lifted (os : Os) (started : os.Started) (H : Type) (enc : TypeId × Value → H) (F0 : Stop.Interp) :
    ReturnsInHanded {} Tryz.checked os 5 .any ((Rows.OpenSpec.upto Rows.batchCutsSpec).pre6 enc Tryz.prog Tryz.f5 Rows.batchCutsUptoRow.domain false) (((Rows.OpenSpec.upto Rows.batchCutsSpec).at F0).post enc Tryz.prog Tryz.f5 false true false false) := by
  refine returnsInHanded_of_cond (C := Tryz.checked) (s := Rows.OpenSpec.upto Rows.batchCutsSpec) (k := Rows.uptoSmall) rfl own started (by kernel_rfl) Tryz.func5
    (OpenSpec.witness (enc := enc) (C := Tryz.checked) (s := Rows.OpenSpec.upto Rows.batchCutsSpec) (k := Rows.uptoSmall) rfl false ⟨#[], #[.agg #[.string ⟨#[]⟩, .int .u64 0, .slice none 0 0], .int .u16 0, .int .u8 0], []⟩ 8 (by kernel_rfl) (by kernel_rfl) (by kernel_rfl)
      (x := ([.agg [.lit (.string []), .lit (.int .u64 0), .nil], .lit (.int .u16 0), .lit (.int .u8 0)], [], [])) (by kernel_rfl) (by kernel_rfl) (by kernel_rfl)) ?_
  intro W base args ds gs before hval0 hW _ hk _
  have hval : ∀ (j : Nat) t v, Tryz.f5.params[j]? = some t → args[j]? = some v → Value.okWide Tryz.prog W .any base t v := hval0
  have hW' := hW
  obtain ⟨p, q, hA0, hV, rfl, _, _⟩ := hW
  have hA : DataW.TrodAll enc Tryz.prog W 0 (fun _ => true) true Tryz.f5.params.toList args.toList ds p := hA0
  rw [Tryz.params5] at hA hval
  obtain ⟨v0, v1, v2, d0, d1, d2, p0, p1, p2, rfl, rfl, rfl, h0, h1, h2⟩ := trodAll_three hA
  obtain ⟨rfl, rfl⟩ := trodVars_none hV
  have hb : Rows.uptoBulkAll [d0, d1, d2] ≤ 1048576 := of_decide_eq_true hk
  obtain ⟨x0, u0, rfl, hV0, hB0⟩ := open_batch (hval 0 27 v0 rfl rfl) h0
  have hS0 : u0.es.length ≤ 1048576 := by simp only [Rows.uptoBulkAll] at hb; omega
  obtain ⟨z1, rfl, rfl, rfl, wz1⟩ := open_int Tryz.underlying45 (hval 1 45 v1 rfl rfl) h1
  obtain ⟨x1, hx1, rfl⟩ := nat_u16 wz1
  obtain ⟨z2, rfl, rfl, rfl, wz2⟩ := open_int Tryz.underlying5 (hval 2 5 v2 rfl rfl) h2
  obtain ⟨x2, hx2, rfl⟩ := nat_u8 wz2
  clear hb
  refine (batchCuts_any u0 x0 x1 x2 W hS0 hx1 hx2 hV0).mono fun e W' ⟨he, hb⟩ => ?_
  subst he
  exact ⟨_, rfl, law_post (s := Rows.batchCutsSpec) laidOut (by kernel_rfl) rfl (by kernel_rfl) Tryz.underlying4 hW' rfl hb⟩

theorem proved : Rows.BatchCutsUptoSaid :=
  OpenClaim.holds_of_cond 5 Tryz.f5 rfl rfl rfl rfl rfl rfl rfl ⟨rfl, rfl, rfl, rfl, rfl⟩ rfl rfl rfl rfl rfl (by kernel_rfl) Tryz.func5 (by kernel_rfl)
    (of_decide_eq_true (by kernel_rfl)) (by unfold Func.isWrapper; first | (rw [if_pos (by decide +kernel)]; kernel_rfl) | (rw [if_neg (by decide +kernel)]; exact ⟨rfl, rfl⟩))
    (fun os started H enc _ F0 => lifted os started H enc F0)
#print axioms proved
end Go.Proofs.YtcapbaocchaenaaGreat.BatchCutsP

