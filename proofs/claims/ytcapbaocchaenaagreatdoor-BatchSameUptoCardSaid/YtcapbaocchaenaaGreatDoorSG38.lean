import Derived.Test.YtcapbaocchaenaaGreatDoorSG37
import Derived.Test.YtcapbaocchaenaaGreatDoorSG1
import Derived.ProofKit
import Derived.SizedLaws
import Derived.Deep.Matrix
import Derived.Test.YtcapbaocchaenaaGreatDoorSG3
import Derived.Test.YtcapbaocchaenaaGreatDoorSG13
import Derived.Test.YtcapbaocchaenaaGreatDoorSG26
import Derived.Test.YtcapbaocchaenaaGreatDoorRows
import Derived.OpenShut
import Derived.Test.YtcapbaocchaenaaGreatDoorSG20
import Derived.Lib.LaidTab
import Derived.Stop.LaidErr
import Derived.LaidMore
import Derived.Stop.Joined
/- The walk of the reference's Commands. -/
namespace Go.Proofs.YtcapbaocchaenaaGreatDoor
open Go.RowKit Go.Shelf Fl

set_option maxRecDepth 100000 in
set_option maxHeartbeats 6400000 in
theorem rcmds_any (t : Bt) (x : Array Value) (w : World) (hn : t.es.length ≤ 1048576) (h : BtIn w t x) :
    Calls Tryz.prog 18 #[.agg x] w (CmdEnd w t.es) := by
  obtain ⟨fl, at_, es⟩ := t
  obtain ⟨_, _, a, n, c, rfl, hE⟩ := h
  change Evs w a n c es at hE
  change es.length ≤ 1048576 at hn
  have hlen := hE.len
  have hcm := hE.max
  have hle := hE.le
  have hal := (Below.refl w.heap.size w).alloc (Nat.le_refl _) (.cells #[.string (str fl), .int .u64 (at_ : Int), .slice a n c] 25)
  have HX := Lib.hid (heap_alloc_new w (.cells #[.string (str fl), .int .u64 (at_ : Int), .slice a n c] 25))
  have Hal := Lib.hid hal
  have HE := Lib.hid hE
  have Hn := Lib.hid hn
  have Hlen := Lib.hid hlen
  obtain ⟨y0, y1, y2⟩ := box3 HX.out
  have hfl : ∀ (w : World) (a : Addr) (m : Mode) (b : Nat), (store a (.float .f64 b) m).run Tryz.prog w = stored Tryz.prog w a (.float .f64 b) m := fun w a m b => run_store Tryz.prog w a _ m rfl
  clear hal hE hn
  go_enter Tryz.func18, Tryz.ntmps18
  go_wp2
  generalize w.alloc (.cells #[.string (str fl), .int .u64 (at_ : Int), .slice a n c] 25) = w1 at *
  go_loopw [3, 4] (fun v i wr => ∃ j : Nat, j ≤ n ∧ i = .int .i64 (j : Int) ∧ OwnEs (fun b => b < w.heap.size) wr w1.heap.size v (cmdsE (es.take j)) ∧ Below w1.heap.size w1 wr) (fun _ i _ => n - (intOf i).toNat)
  case atStart => exact ⟨0, Nat.zero_le _, rfl, OwnEs.nil _ _ _, Below.refl _ _⟩
  case round =>
    obtain ⟨j, hj, rfl, hO, hb⟩ := hrel
    have HO := Lib.hid hO
    have Hb := Lib.hid hb
    have Hw := Lib.hid (Hal.out.trans (hb.mono Hal.out.size))
    obtain ⟨y0, y1, y2⟩ := box3 (blk HX.out hb)
    clear hO hb
    by_cases hlt : j < n
    · have hl1 : j < es.length := by omega
      obtain ⟨b, o, rfl, hc⟩ := HE.out.cell (by omega)
      obtain ⟨p, cap, hI, ⟨g0, g1, g2, g3, g4, g5⟩, g6, g7, g8, g9, g10⟩ := (hc j hl1).allP Hw.out
      have Htk := Lib.hid (cmds_take hl1)
      have Hlt := Lib.hid hlt
      have hji : (j : Int) < (n : Int) := by omega
      have hlc : (cmdsE (es.take j)).length ≤ 1048576 := Nat.le_trans (List.length_filter_le _ _) (by rw [List.length_take]; have := Hn.out; omega)
      have Hlc := Lib.hid hlc
      have HI := Lib.hid hI
      generalize es[j] = e at *
      clear hc hI hlt hl1 hlc
      by_cases hk : 1 ≤ e.k ∧ e.k ≤ 6
      · have hk1 : ¬ e.k < 1 := by omega
        have hk6 : ¬ (6 : Int) < e.k := by omega
        have Htk2 := Lib.hid (show cmdsE (es.take (j + 1)) = cmdsE (es.take j) from by rw [Htk.out, decide_eq_true hk.1, decide_eq_true hk.2]; simp)
        clear hk
        go_wp2
        go_roundw
        case rel => exact ⟨j + 1, Hlt.out, by go_num, by rw [Htk2.out]; exact HO.out, Hb.out⟩
        case measure => simp [intOf]; have := Hlt.out; omega
      · have Htk2 := Lib.hid (show cmdsE (es.take (j + 1)) = cmdsE (es.take j) ++ [e] from by
          rw [Htk.out]
          congr 1
          rcases (show ¬ 1 ≤ e.k ∨ ¬ e.k ≤ 6 by omega) with h | h
          · rw [decide_eq_false h]; rfl
          · rw [decide_eq_false h, Bool.and_false]; rfl)
        have hal : Below wr.heap.size wr (wr.alloc (.cells #[.int .i64 e.k, .int .u64 (e.id : Int), .int .i64 e.n, .int .u64 (e.t : Int), .string (str e.nm), .string (str e.tx), .int .i64 e.v.kind, .int .i64 e.v.n, .float .f64 e.v.f, .string (str e.v.s), .slice p e.v.l.length cap] 45)) := (Below.refl _ _).alloc (Nat.le_refl _) _
        obtain ⟨cs, hcl, hrow, hel⟩ := HO.out.below hal
        have hown := fun k hk => HO.out.block (g := k) hk
        have hu := HI.out.turn (w' := wr.alloc (.cells #[.int .i64 e.k, .int .u64 (e.id : Int), .int .i64 e.n, .int .u64 (e.t : Int), .string (str e.nm), .string (str e.tx), .int .i64 e.v.kind, .int .i64 e.v.n, .float .f64 e.v.f, .string (str e.v.s), .slice p e.v.l.length cap] 45)) (q' := fun b => (b < w.heap.size ∧ some b ≠ u3.ownBlock) ∧ b < (wr.alloc (.cells #[.int .i64 e.k, .int .u64 (e.id : Int), .int .i64 e.n, .int .u64 (e.t : Int), .string (str e.nm), .string (str e.tx), .int .i64 e.v.kind, .int .i64 e.v.n, .float .f64 e.v.f, .string (str e.v.s), .slice p e.v.l.length cap] 45)).heap.size) (fun b hb => ⟨⟨hb, fun h => by have := (hown b h.symm).1; have := Hal.out.size; omega⟩, by have := hal.size; have := Hw.out.size; omega⟩) (fun b hb => hal.block b (by have := Hw.out.size; omega))
        have Hcl := Lib.hid hcl
        have HRw := Lib.hid hrow
        have Hcs := Lib.hid hel
        have Hu := Lib.hid hu
        have Hown := Lib.hid hown
        have Hal5 := Lib.hid hal
        have Hz5 := Lib.hid (Nat.le_trans Hb.out.size hal.size)
        clear hal hcl hrow hel hu hown
        obtain ⟨i0, hi, hz0, hz1, hz2⟩ := info_parts info_event
        by_cases hk1 : e.k < 1
        · clear hk
          go_wp2_with (at_builtin; refine wpList_append_lies _ rfl _ _ 23 rfl w1.heap.size 45 i0 _ 11 128 Tryz.underlying23 hi hz0 hz1 hz2 rfl (by decide) u3 (cmdsE (es.take j)).length _ rfl HRw.out ⟨wr.heap.size, 0, none⟩ 1 1 [.int .i64 e.k, .int .u64 (e.id : Int), .int .i64 e.n, .int .u64 (e.t : Int), .string (str e.nm), .string (str e.tx), .int .i64 e.v.kind, .int .i64 e.v.n, .float .f64 e.v.f, .string (str e.v.s), .slice p e.v.l.length cap] rfl rfl (World.news_of_block (heap_alloc_new wr _)) (by simp [Value.oneCell']) (by decide) (by have := Hlc.out; rw [maxLen_nat]; omega) (by have := Hlc.out; omega) Hz5.out _ rfl ?_; intro gg cap4 w7 g1 g2 g3 g4; have HO7 := Lib.hid (OwnEs.snoc Hcl.out Hcs.out Hu.out g1 g2 (g3.imp (fun e => e.symm) (fun e => by rw [e]; rfl))); have Hb7 := Lib.hid ((Hb.out.trans (Hal5.out.mono Hb.out.size)).grown g2 (Nat.le_trans Hb.out.size Hal5.out.size) (fun k hk => (Hown.out k hk).1)); clear g1 g2 g3)
          go_roundw
          case rel => exact ⟨j + 1, Hlt.out, by go_num, by rw [Htk2.out]; exact HO7.out, Hb7.out⟩
          case measure => simp [intOf]; have := Hlt.out; omega
        · have hk6 : (6 : Int) < e.k := by omega
          clear hk
          go_wp2_with (at_builtin; refine wpList_append_lies _ rfl _ _ 23 rfl w1.heap.size 45 i0 _ 11 128 Tryz.underlying23 hi hz0 hz1 hz2 rfl (by decide) u3 (cmdsE (es.take j)).length _ rfl HRw.out ⟨wr.heap.size, 0, none⟩ 1 1 [.int .i64 e.k, .int .u64 (e.id : Int), .int .i64 e.n, .int .u64 (e.t : Int), .string (str e.nm), .string (str e.tx), .int .i64 e.v.kind, .int .i64 e.v.n, .float .f64 e.v.f, .string (str e.v.s), .slice p e.v.l.length cap] rfl rfl (World.news_of_block (heap_alloc_new wr _)) (by simp [Value.oneCell']) (by decide) (by have := Hlc.out; rw [maxLen_nat]; omega) (by have := Hlc.out; omega) Hz5.out _ rfl ?_; intro gg cap4 w7 g1 g2 g3 g4; have HO7 := Lib.hid (OwnEs.snoc Hcl.out Hcs.out Hu.out g1 g2 (g3.imp (fun e => e.symm) (fun e => by rw [e]; rfl))); have Hb7 := Lib.hid ((Hb.out.trans (Hal5.out.mono Hb.out.size)).grown g2 (Nat.le_trans Hb.out.size Hal5.out.size) (fun k hk => (Hown.out k hk).1)); clear g1 g2 g3)
          go_roundw
          case rel => exact ⟨j + 1, Hlt.out, by go_num, by rw [Htk2.out]; exact HO7.out, Hb7.out⟩
          case measure => simp [intOf]; have := Hlt.out; omega
    · obtain rfl : j = n := by omega
      have hji : ¬ ((j : Int) < (j : Int)) := by omega
      have hall : es.take j = es := List.take_of_length_le (by have := Hlen.out; omega)
      rw [hall] at HO
      obtain ⟨va, vc, rfl, hEv, _⟩ := HO.out.evs
      have HEv := Lib.hid hEv
      clear hlt hall hEv HO
      go_wp2
      go_ret
      exact ⟨_, _, _, rfl, HEv.out, Hw.out⟩
end Go.Proofs.YtcapbaocchaenaaGreatDoor

/- Every string is a list of bytes. -/
namespace Go.Proofs.YtcapbaocchaenaaGreatDoor
open Go.RowKit

/-- Every string is a list of bytes. -/
theorem str_of (s : ByteArray) : ∃ l, (∀ x ∈ l, x < 256) ∧ s = str l := by
  refine ⟨s.data.toList.map UInt8.toNat, fun x hx => ?_, ?_⟩
  · obtain ⟨u, _, rfl⟩ := List.mem_map.1 hx
    exact u.toNat_lt
  · apply ByteArray.ext
    unfold str
    rw [List.map_map]
    have e : (UInt8.ofNat ∘ UInt8.toNat) = id := by funext u; simp
    rw [e, List.map_id]
end Go.Proofs.YtcapbaocchaenaaGreatDoor

/- How a statement that answers true, and writes into new memory only, is lifted from its contract; how byte slices that come in are read as lists. -/
namespace Go.Proofs.YtcapbaocchaenaaGreatDoor
open Go.ChangeShapes Go.WideShapes Go.ChangeAt Go.RowKit Go.Deep

section
variable {H : Type} {enc : TypeId × Value → H} {P : Program}

theorem below_trodAll (hl : laidOutB P = true) {W W' : World} (hb : Below W.heap.size W W') : ∀ {ts : List TypeId} {vs : List Value} {ds : List (DataW H)} {ps : List MemPlace},
    ts.all (fun t => P.readableRec t && decide (t < P.types.size)) = true → DataW.TrodAll enc P W 0 (fun _ => true) true ts vs ds ps →
    DataW.TrodAll enc P W' 0 (fun b => decide (b < W.heap.size)) true ts vs ds ps
  | [], vs, ds, ps, _, h => by
    obtain ⟨rfl, rfl, rfl⟩ := trodAll_nil h
    exact rfl
  | t :: ts, vs, ds, ps, ht, h => by
    obtain ⟨v, vs', d, ds', p, q, rfl, rfl, rfl, h0, h1⟩ := trodAll_cons h
    simp only [List.all_cons, Bool.and_eq_true, decide_eq_true_eq] at ht
    have hlt : ∀ x ∈ p, x.block < W.heap.size := fun x hx => h.lt x (by simp [hx])
    exact ⟨p, q, Below.trod hl ht.1.1 ht.1.2 h0 hb hlt, below_trodAll hl hb ht.2 h1, rfl⟩

theorem law_post {fn : Func} {s : ChangeSpec} {tb : TypeId} (hl : laidOutB P = true) (hrd : fn.params.toList.all (fun t => P.readableRec t && decide (t < P.types.size)) = true)
    (hvars : s.vars = []) (hrt : fn.resultTypes = #[tb]) (htb : P.underlying tb = some .bool)
    {W W' : World} {args : Array Value} {ds gs : List (DataW H)} {before : List MemPlace} (hW : DataW.Whole enc P fn.params.toList s.vars false W args.toList ds gs before)
    (hspec : s.fn H (ds ++ []) = { results := [.lit (.bool true)], args := ds }) (hb : Below W.heap.size W W') :
    s.post enc P fn false true false false W args (.bool true) W' := by
  have hW' := hW
  obtain ⟨p, q, hA, hV, rfl, _, _⟩ := hW
  rw [hvars] at hV
  obtain ⟨rfl, rfl⟩ := trodVars_none hV
  refine ⟨ds, [], p ++ [], [], p, [], hW', ?_, ?_, ?_, hb.frame _, fun h => by cases h⟩
  · rw [hspec, hrt]
    exact trodAll_mk1 (shut_bool htb _)
  · rw [hspec]
    exact below_trodAll hl hb hrd hA
  · rw [hspec, hvars]
    exact rfl

theorem nat_u64 {n : Int} (h : (Lit.int .u64 n).wf = true) : ∃ x : Nat, x < 18446744073709551616 ∧ n = (x : Int) := by
  have h1 : IntKind.u64.min = 0 := rfl
  have h2 : IntKind.u64.max = 18446744073709551615 := rfl
  simp only [Lit.wf, Bool.and_eq_true, decide_eq_true_eq] at h
  exact ⟨n.toNat, by omega, by omega⟩

theorem wf_i64_of {n : Int} (h : (Lit.int .i64 n).wf = true) : -9223372036854775808 ≤ n ∧ n ≤ 9223372036854775807 := by
  have h1 : IntKind.i64.min = -9223372036854775808 := rfl
  have h2 : IntKind.i64.max = 9223372036854775807 := rfl
  simp only [Lit.wf, Bool.and_eq_true, decide_eq_true_eq] at h
  omega

end
end Go.Proofs.YtcapbaocchaenaaGreatDoor

/- Values that come in, read as trees. -/
namespace Go.Proofs.YtcapbaocchaenaaGreatDoor
open Go.ChangeShapes Go.WideShapes Go.ChangeAt Go.RowKit Go.Deep

section
variable {H : Type} {enc : TypeId × Value → H} {W : World}

theorem trod_f64 {P : Program} {w : World} {base : Nat} {spare : Nat → Bool} {held : Bool} {fuel : Nat} {t : TypeId} {cs : List Value} {x : DataW H × List MemPlace} (ht : P.underlying t = some (.float .f64)) (h : DataW.trod enc P w base spare held fuel t cs = some x) :
    ∃ b : Nat, cs = [.float .f64 b] ∧ (Lit.float .f64 b).wf = true := by
  cases fuel with
  | zero => simp [DataW.trod] at h
  | succ n =>
    unfold DataW.trod at h
    rw [ht] at h
    split at h <;> simp_all

theorem cells_value : Tryz.prog.cellsOf 43 = 5 := by kernel_rfl
theorem cells_int : Tryz.prog.cellsOf 3 = 1 := by kernel_rfl
theorem cells_i64 : Tryz.prog.cellsOf 2 = 1 := by kernel_rfl
theorem cells_f64 : Tryz.prog.cellsOf 40 = 1 := by kernel_rfl
theorem cells_str : Tryz.prog.cellsOf 9 = 1 := by kernel_rfl
theorem cells_vs : Tryz.prog.cellsOf 41 = 1 := by kernel_rfl

theorem vs_of {b : Nat} : ∀ (n o : Nat), (∀ i, i < n → ∃ (cs : List Value) (v : V), cs.length = 5 ∧ (∀ j, j < 5 → W.cell? ⟨b, o + i * 5 + j, none⟩ = cs[j]?) ∧ VIn W v cs.toArray) → ∃ l : List V, l.length = n ∧ VsIn W l b o
  | 0, _, _ => ⟨[], rfl, by rw [VsIn]; trivial⟩
  | n + 1, o, h => by
    obtain ⟨cs, v, hl, hc, hv⟩ := h 0 (by omega)
    obtain ⟨l, hn, hr⟩ := vs_of n (o + 5) (fun i hi => by
      obtain ⟨cs, v, hl, hc, hv⟩ := h (i + 1) (by omega)
      exact ⟨cs, v, hl, fun j hj => by rw [← hc j hj]; congr 2; omega, hv⟩)
    refine ⟨v :: l, by rw [List.length_cons, hn], ?_⟩
    rw [VsIn]
    refine ⟨⟨cs.toArray, by simpa using hl, fun j hj => ?_, hv⟩, hr⟩
    have := hc j hj
    simpa using this

set_option maxRecDepth 100000 in
theorem open_v : ∀ (fuel : Nat) (cs : List Value) (x : DataW H × List MemPlace), DataW.trod enc Tryz.prog W 0 (fun _ => true) true fuel 43 cs = some x → ∃ v : V, VIn W v cs.toArray := by
  intro fuel
  induction fuel using Nat.strongRecOn with
  | ind fuel ih =>
    intro cs x h
    obtain ⟨xs, n, rfl, _, hlen, hxl, hf⟩ := DataW.trod_struct Tryz.underlying43 h
    rw [cells_value] at hlen
    match cs, hlen, xs, hxl with
    | [c0, c1, c2, c3, c4], _, [y0, y1, y2, y3, y4], _ =>
      have f0 := hf 0 _ rfl
      have f1 := hf 1 _ rfl
      have f2 := hf 2 _ rfl
      have f3 := hf 3 _ rfl
      have f4 := hf 4 _ rfl
      simp [cells_int, cells_i64, cells_f64, cells_str, cells_vs] at f0 f1 f2 f3 f4
      obtain ⟨k, e0, _, w0⟩ := DataW.trod_int Tryz.underlying3 f0
      obtain ⟨m, e1, _, w1⟩ := DataW.trod_int Tryz.underlying2 f1
      obtain ⟨f, e2, w2⟩ := trod_f64 Tryz.underlying40 f2
      obtain ⟨s, e3, _, w3⟩ := DataW.trod_string Tryz.underlying9 f3
      obtain rfl := List.cons.inj e0 |>.1
      obtain rfl := List.cons.inj e1 |>.1
      obtain rfl := List.cons.inj e2 |>.1
      obtain rfl := List.cons.inj e3 |>.1
      obtain ⟨q, hq, rfl⟩ := str_of s
      have hk := wf_i64_of w0
      have hm := wf_i64_of w1
      have hff : f < 18446744073709551616 := by
        simp only [Lit.wf, decide_eq_true_eq] at w2
        exact w2
      have hqs : q.length ≤ 9223372036854775807 := by
        rw [str_size, maxLen_nat] at w3
        exact w3
      clear e0 e1 e2 e3 w0 w1 w2 w3 f0 f1 f2 f3 hf
      rcases DataW.trod_slice Tryz.underlying41 f4 with ⟨e, _⟩ | ⟨a, len, cap, elems, rest, r, rfl, e, _, _, hle, hcm, hel, hi, _, _⟩
      · obtain rfl := List.cons.inj e |>.1
        refine ⟨.mk k m f q [], ?_⟩
        rw [VIn]
        exact ⟨hk, hm, hff, hq, hqs, none, 0, rfl, Nat.le_refl _, by omega, .inl rfl⟩
      · obtain rfl := List.cons.inj e |>.1
        rw [maxLen_nat] at hcm
        rw [cells_value] at hi
        have hel2 : ∀ i, i < len → ∃ (cs : List Value) (v : V), cs.length = 5 ∧ (∀ j, j < 5 → W.cell? ((a.add (i * 5)).add j) = cs[j]?) ∧ VIn W v cs.toArray := by
          intro i hlt
          have h1 := hi i hlt
          rw [List.getElem?_eq_getElem (by omega)] at h1
          obtain ⟨cs', h2, h3⟩ := Option.bind_eq_some_iff.1 h1
          obtain ⟨_, h4, h5⟩ := World.cells?_some h2
          obtain ⟨v, hv⟩ := ih r (by omega) cs' _ h3
          exact ⟨cs', v, h4, h5, hv⟩
        by_cases h0 : len = 0
        · subst h0
          refine ⟨.mk k m f q [], ?_⟩
          rw [VIn]
          exact ⟨hk, hm, hff, hq, hqs, some a, cap, rfl, hle, hcm, .inl rfl⟩
        · obtain ⟨b, o, spot⟩ := a
          have hspot : spot = none := by
            obtain ⟨cs', v, g1, g2, _⟩ := hel2 0 (by omega)
            have g3 := g2 0 (by omega)
            rw [List.getElem?_eq_getElem (by omega)] at g3
            simpa [Addr.add] using World.cell?_spot g3
          subst hspot
          obtain ⟨l, hl, hvs⟩ := vs_of (W := W) (b := b) len o (fun i hlt => by
            obtain ⟨cs', v, g1, g2, g3⟩ := hel2 i hlt
            refine ⟨cs', v, g1, fun j hj => ?_, g3⟩
            have g4 := g2 j hj
            rw [add_plain, add_plain] at g4
            exact g4)
          refine ⟨.mk k m f q l, ?_⟩
          rw [VIn]
          refine ⟨hk, hm, hff, hq, hqs, some ⟨b, o, none⟩, cap, ?_, by omega, hcm, .inr ⟨b, o, rfl, hvs⟩⟩
          rw [hl]

end
end Go.Proofs.YtcapbaocchaenaaGreatDoor

/- Events that come in. -/
namespace Go.Proofs.YtcapbaocchaenaaGreatDoor
open Go.ChangeShapes Go.WideShapes Go.ChangeAt Go.RowKit Go.Deep

section
variable {H : Type} {enc : TypeId × Value → H} {W : World}

theorem cells_event : Tryz.prog.cellsOf 45 = 11 := by kernel_rfl
theorem cells_u64 : Tryz.prog.cellsOf 22 = 1 := by kernel_rfl

set_option maxRecDepth 100000 in
theorem open_e (fuel : Nat) (cs : List Value) (x : DataW H × List MemPlace) (h : DataW.trod enc Tryz.prog W 0 (fun _ => true) true fuel 45 cs = some x) : ∃ e : Ev, EvIn W e cs.toArray := by
  obtain ⟨xs, n, rfl, _, hlen, hxl, hf⟩ := DataW.trod_struct Tryz.underlying45 h
  rw [cells_event] at hlen
  match cs, hlen, xs, hxl with
  | [c0, c1, c2, c3, c4, c5, c6, c7, c8, c9, c10], _, [y0, y1, y2, y3, y4, y5, y6], _ =>
    have f0 := hf 0 _ rfl
    have f1 := hf 1 _ rfl
    have f2 := hf 2 _ rfl
    have f3 := hf 3 _ rfl
    have f4 := hf 4 _ rfl
    have f5 := hf 5 _ rfl
    have f6 := hf 6 _ rfl
    simp [cells_int, cells_u64, cells_str, cells_value] at f0 f1 f2 f3 f4 f5 f6
    obtain ⟨k, e0, _, w0⟩ := DataW.trod_int Tryz.underlying3 f0
    obtain ⟨id, e1, _, w1⟩ := DataW.trod_int Tryz.underlying22 f1
    obtain ⟨n, e2, _, w2⟩ := DataW.trod_int Tryz.underlying3 f2
    obtain ⟨t, e3, _, w3⟩ := DataW.trod_int Tryz.underlying22 f3
    obtain ⟨s, e4, _, w4⟩ := DataW.trod_string Tryz.underlying9 f4
    obtain ⟨s', e5, _, w5⟩ := DataW.trod_string Tryz.underlying9 f5
    obtain rfl := List.cons.inj e0 |>.1
    obtain rfl := List.cons.inj e1 |>.1
    obtain rfl := List.cons.inj e2 |>.1
    obtain rfl := List.cons.inj e3 |>.1
    obtain rfl := List.cons.inj e4 |>.1
    obtain rfl := List.cons.inj e5 |>.1
    obtain ⟨q, hq, rfl⟩ := str_of s
    obtain ⟨q', hq', rfl⟩ := str_of s'
    obtain ⟨id, hid, rfl⟩ := nat_u64 w1
    obtain ⟨t, ht, rfl⟩ := nat_u64 w3
    have hqs : q.length ≤ 9223372036854775807 := by
      rw [str_size, maxLen_nat] at w4
      exact w4
    have hqs' : q'.length ≤ 9223372036854775807 := by
      rw [str_size, maxLen_nat] at w5
      exact w5
    obtain ⟨v, hv⟩ := open_v _ _ _ f6
    obtain ⟨_, _, _, _, _, a, cap, e, _⟩ := hv.parts
    have e' : c6 = .int .i64 v.kind ∧ c7 = .int .i64 v.n ∧ c8 = .float .f64 v.f ∧ c9 = .string (str v.s) ∧ c10 = .slice a v.l.length cap := by
      simpa [cells5] using e
    obtain ⟨rfl, rfl, rfl, rfl, rfl⟩ := e'
    exact ⟨⟨k, id, n, t, q, q', v⟩, wf_i64_of w0, hid, wf_i64_of w2, ht, ⟨hq, hqs⟩, ⟨hq', hqs'⟩, a, cap, rfl, hv⟩

end
end Go.Proofs.YtcapbaocchaenaaGreatDoor

/- Batches that come in, and the bound on what is read. -/
namespace Go.Proofs.YtcapbaocchaenaaGreatDoor
open Go.ChangeShapes Go.WideShapes Go.ChangeAt Go.RowKit Go.Deep

theorem bulk_oneB {H : Type} (d : DataW H) : 1 ≤ Rows.uptoBulk d := by
  cases d with
  | lit l => cases l <;> simp [Rows.uptoBulk]
  | nil => simp [Rows.uptoBulk]
  | ptr d => simp [Rows.uptoBulk]
  | slice elems spare => simp [Rows.uptoBulk]
  | agg parts => simp [Rows.uptoBulk]
  | iface t d => simp [Rows.uptoBulk]
  | map entries => simp [Rows.uptoBulk]
  | held h => simp [Rows.uptoBulk]

theorem bulk_lenB {H : Type} (l : List (DataW H)) : l.length ≤ Rows.uptoBulkAll l := by
  induction l with
  | nil => simp [Rows.uptoBulkAll]
  | cons x r ih =>
    have := bulk_oneB x
    simp only [Rows.uptoBulkAll, List.length_cons]
    omega

section
variable {H : Type} {enc : TypeId × Value → H} {W : World}

theorem cells_batch : Tryz.prog.cellsOf 25 = 3 := by kernel_rfl
theorem cells_es : Tryz.prog.cellsOf 23 = 1 := by kernel_rfl

set_option maxRecDepth 100000 in
theorem open_es (fuel : Nat) (cs : List Value) (x : DataW H × List MemPlace) (h : DataW.trod enc Tryz.prog W 0 (fun _ => true) true fuel 23 cs = some x) :
    ∃ a n c l, cs = [.slice a n c] ∧ Evs W a n c l ∧ n ≤ Rows.uptoBulk x.1 := by
  rcases DataW.trod_slice Tryz.underlying23 h with ⟨e, _⟩ | ⟨a, len, cap, elems, rest, r, _, e, hd, _, hle, hcm, hel, hi, _, _⟩
  · exact ⟨none, 0, 0, [], e, evs_nil W, Nat.zero_le _⟩
  · rw [maxLen_nat] at hcm
    rw [cells_event] at hi
    have hel2 : ∀ i, i < len → ∃ (cs : List Value) (y : Ev), cs.length = 11 ∧ (∀ j, j < 11 → W.cell? ((a.add (i * 11)).add j) = cs[j]?) ∧ EvIn W y cs.toArray := by
      intro i hlt
      have h1 := hi i hlt
      rw [List.getElem?_eq_getElem (by omega)] at h1
      obtain ⟨cs', h2, h3⟩ := Option.bind_eq_some_iff.1 h1
      obtain ⟨_, h4, h5⟩ := World.cells?_some h2
      obtain ⟨y, hy⟩ := open_e _ _ _ h3
      exact ⟨cs', y, h4, h5, hy⟩
    have hbk : len ≤ Rows.uptoBulk x.1 := by
      rw [hd]
      have h1 := bulk_lenB (elems.map (·.1))
      rw [List.length_map, hel] at h1
      simp only [Rows.uptoBulk]
      omega
    refine ⟨some a, len, cap, (List.range len).map fun i => if h : i < len then (hel2 i h).choose_spec.choose else ⟨0, 0, 0, 0, [], [], zeroV⟩, e, ⟨by simp, hle, hcm, fun hn => ?_⟩, hbk⟩
    obtain ⟨b, o, spot⟩ := a
    have hspot : spot = none := by
      obtain ⟨cs', y, g0, g1, _⟩ := hel2 0 hn
      have g3 := g1 0 (by omega)
      rw [List.getElem?_eq_getElem (by omega)] at g3
      simpa [Addr.add] using World.cell?_spot g3
    subst hspot
    refine ⟨b, o, rfl, fun i hil' => ?_⟩
    have hil : i < len := by simpa using hil'
    have e1 : ((List.range len).map fun i => if h : i < len then (hel2 i h).choose_spec.choose else (⟨0, 0, 0, 0, [], [], zeroV⟩ : Ev))[i] = (hel2 i hil).choose_spec.choose := by
      rw [List.getElem_map, List.getElem_range, dif_pos hil]
    rw [e1]
    obtain ⟨g0, g1, g2⟩ := (hel2 i hil).choose_spec.choose_spec
    generalize (hel2 i hil).choose_spec.choose = y at *
    generalize (hel2 i hil).choose = cs' at *
    have g3 := g2
    obtain ⟨_, _, _, _, _, _, a', c', e2, _⟩ := g3
    rw [e2] at g2
    refine ⟨a', c', g2, fun j hj => ?_⟩
    have g4 := g1 j hj
    rw [add_plain, add_plain] at g4
    rw [g4, ← e2]
    simp

set_option maxRecDepth 100000 in
/-- A batch that came in: its events are at most as many as its bulk. -/
theorem open_batch {v : Value} {d : DataW H} {p : List MemPlace} {base : Nat} (hv : Value.okWide Tryz.prog W .any base 25 v) (h : DataW.Trod enc Tryz.prog W 0 (fun _ => true) true 25 v d p) : ∃ (x : Array Value) (u : Bt), v = .agg x ∧ BtIn W u x ∧ u.es.length ≤ Rows.uptoBulk d := by
  obtain ⟨x, rfl, _⟩ := okWide_struct Tryz.underlying25 hv
  obtain ⟨fuel, hf⟩ := h
  have e : (Value.agg x).cells.toList.toArray = x := Array.toArray_toList
  generalize hcs : (Value.agg x).cells.toList = cs at *
  obtain ⟨xs, n, hn, hd, hlen, hxl, hf⟩ := DataW.trod_struct Tryz.underlying25 hf
  rw [cells_batch] at hlen
  match cs, hlen, xs, hxl with
  | [c0, c1, c2], _, [y0, y1, y2], _ =>
    have f0 := hf 0 _ rfl
    have f1 := hf 1 _ rfl
    have f2 := hf 2 _ rfl
    simp [cells_u64, cells_str, cells_es] at f0 f1 f2
    obtain ⟨s, e0, _, w0⟩ := DataW.trod_string Tryz.underlying9 f0
    obtain ⟨t, e1, _, w1⟩ := DataW.trod_int Tryz.underlying22 f1
    obtain ⟨a, m, c, l, e2, hE, hb⟩ := open_es _ _ _ f2
    obtain rfl := List.cons.inj e0 |>.1
    obtain rfl := List.cons.inj e1 |>.1
    obtain rfl := List.cons.inj e2 |>.1
    obtain ⟨q, hq, rfl⟩ := str_of s
    obtain ⟨t, ht, rfl⟩ := nat_u64 w1
    have hqs : q.length ≤ 9223372036854775807 := by
      rw [str_size, maxLen_nat] at w0
      exact w0
    refine ⟨x, ⟨q, t, l⟩, rfl, ⟨⟨hq, hqs⟩, ht, a, m, c, e.symm, hE⟩, ?_⟩
    have h1 := congrArg Prod.fst hd
    simp only at h1
    rw [h1]
    simp only [Rows.uptoBulk, Rows.uptoBulkAll, List.map_cons, List.map_nil]
    have := hE.len
    show l.length ≤ _
    omega
end
end Go.Proofs.YtcapbaocchaenaaGreatDoor

/- What the listed package-level variables give the walks, and how a statement over them is lifted. -/
namespace Go.Proofs.YtcapbaocchaenaaGreatDoor
open Go.RowKit

def deBruijn64 : List Int := [0, 1, 56, 2, 57, 49, 28, 3, 61, 58, 42, 50, 38, 29, 17, 4, 62, 47, 59, 36, 45, 43, 51, 22, 53, 39, 33, 30, 24, 18, 12, 5, 63, 55, 48, 27, 60, 41, 37, 16, 46, 35, 44, 21, 52, 32, 23, 11, 54, 26, 40, 15, 34, 20, 31, 10, 25, 14, 19, 9, 13, 8, 7, 6]

theorem gTab : Tryz.prog.globalNamed "math/bits.deBruijn64tab" = some 3 := by kernel_rfl

theorem tab_of_laid {d : DataW Unit} {rest : List (String × DataW Unit)} {W : World} (h : laidMet Tryz.prog (("math/bits.deBruijn32tab", d) :: ("math/bits.deBruijn64tab", Lib.tabData .u8 deBruijn64) :: rest) W) : Tab16 W :=
  Lib.TabIs.cell (Lib.tabIs_of_head gTab (by kernel_rfl : (Tryz.prog.globals[3]?).map (·.type) = some 174) Tryz.underlying174 Tryz.underlying5 (by kernel_rfl) (by kernel_rfl) (laidMet.tail h)) gTab 15 (by decide)
end Go.Proofs.YtcapbaocchaenaaGreatDoor

/- What the listed table of powers of ten gives the walks. -/
namespace Go.Proofs.YtcapbaocchaenaaGreatDoor
open Go.RowKit

theorem gPowW : Tryz.prog.globalNamed "internal/strconv.uint64pow10" = some 0 := by kernel_rfl

theorem pow10w_of_laid {d1 d2 : String × DataW Unit} {rest : List (String × DataW Unit)} {W : World} (h : laidMet Tryz.prog (d1 :: d2 :: ("internal/strconv.uint64pow10", Lib.tabData .u64 Lib.pow10Tab) :: rest) W) : Pow10 W :=
  Lib.tabIs_of_head gPowW (by kernel_rfl : (Tryz.prog.globals[0]?).map (·.type) = some 150) Tryz.underlying150 Tryz.underlying22 (by kernel_rfl) (by kernel_rfl) (laidMet.tail (laidMet.tail h))
end Go.Proofs.YtcapbaocchaenaaGreatDoor

