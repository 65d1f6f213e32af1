import Derived.Test.YtmcdfmhciinocaaGreatDoorMB31
import Derived.Test.YtmcdfmhciinocaaGreatDoorMB1
import Derived.ProofKit
import Derived.SizedLaws
import Derived.Deep.Matrix
import Derived.Test.YtmcdfmhciinocaaGreatDoorMB24
import Derived.Lib.LaidTab
import Derived.Stop.LaidErr
import Derived.LaidMore
import Derived.OpenShut
import Derived.Stop.Joined
import Derived.Test.YtmcdfmhciinocaaGreatDoorMB30
import Derived.Test.YtmcdfmhciinocaaGreatDoorMB23
import Derived.Test.YtmcdfmhciinocaaGreatDoorMB16
import Derived.Test.YtmcdfmhciinocaaGreatDoorMB28
/- The walk of the reference's Few. -/
namespace Go.Proofs.YtmcdfmhciinocaaGreatDoor
open Go.RowKit Fl

def fewB (v : V) : Bool := decide (bulkV v ≤ 900) && smallN 20 v

set_option maxRecDepth 100000 in
theorem few_any (v : V) (x : Array Value) (w : World) (h : VIn w v x) :
    Calls Tryz.prog 34 #[.agg x] w fun e w' => e = .returned (.bool (fewB v)) ∧ Below w.heap.size w w' := by
  obtain ⟨_, _, _, _, _, a, cap, rfl, _, _, _⟩ := h.parts
  have hb := (Below.refl w.heap.size w).alloc (Nat.le_refl _) (.cells (cells5 v.kind v.n v.f v.s a v.l.length cap) 26)
  have HW := Lib.hid (weight_any v 900 _ _ (by omega) (by omega) (h.below hb))
  have HV := Lib.hid (h.below hb)
  have Hb := Lib.hid hb
  have hc := fun j => box_cell w (cells5 v.kind v.n v.f v.s a v.l.length cap) 26 j
  have hc0 : (w.alloc (.cells #[.int .i64 v.kind, .int .i64 v.n, .float .f64 v.f, .string (str v.s), .slice a v.l.length cap] 26)).cell? ⟨w.heap.size, 0, none⟩ = some (.int .i64 v.kind) := hc 0
  have hc1 : (w.alloc (.cells #[.int .i64 v.kind, .int .i64 v.n, .float .f64 v.f, .string (str v.s), .slice a v.l.length cap] 26)).cell? ⟨w.heap.size, 1, none⟩ = some (.int .i64 v.n) := hc 1
  have hc2 : (w.alloc (.cells #[.int .i64 v.kind, .int .i64 v.n, .float .f64 v.f, .string (str v.s), .slice a v.l.length cap] 26)).cell? ⟨w.heap.size, 2, none⟩ = some (.float .f64 v.f) := hc 2
  have hc3 : (w.alloc (.cells #[.int .i64 v.kind, .int .i64 v.n, .float .f64 v.f, .string (str v.s), .slice a v.l.length cap] 26)).cell? ⟨w.heap.size, 3, none⟩ = some (.string (str v.s)) := hc 3
  have hc4 : (w.alloc (.cells #[.int .i64 v.kind, .int .i64 v.n, .float .f64 v.f, .string (str v.s), .slice a v.l.length cap] 26)).cell? ⟨w.heap.size, 4, none⟩ = some (.slice a v.l.length cap) := hc 4
  have hwz : (w.alloc (.cells #[.int .i64 v.kind, .int .i64 v.n, .float .f64 v.f, .string (str v.s), .slice a v.l.length cap] 26)).heap.size = w.heap.size + 1 := by simp
  clear h hb hc
  change Calls _ _ #[.agg #[.int .i64 v.kind, .int .i64 v.n, .float .f64 v.f, .string (str v.s), .slice a v.l.length cap]] _ _
  go_enter Tryz.func34, Tryz.ntmps34
  go_wp2_with fail
  refine HW.out.mono ?_
  generalize w.alloc (.cells #[.int .i64 v.kind, .int .i64 v.n, .float .f64 v.f, .string (str v.s), .slice a v.l.length cap] 26) = w1 at *
  rintro e w2 ⟨r, rfl, hr, hb2⟩
  have hk : ∀ j y, w1.cell? ⟨w.heap.size, j, none⟩ = some y → w2.cell? ⟨w.heap.size, j, none⟩ = some y := fun j y e => by
    rw [hb2.cell (show w.heap.size < w1.heap.size by omega)]
    exact e
  have d0 := hk 0 _ hc0
  have d1 := hk 1 _ hc1
  have d2 := hk 2 _ hc2
  have d3 := hk 3 _ hc3
  have d4 := hk 4 _ hc4
  have g2 : Below w.heap.size w w2 := Hb.out.trans (hb2.mono (by omega))
  have HS := Lib.hid (small_any 20 (by omega) v _ w2 (HV.out.below hb2))
  by_cases hle : bulkV v ≤ 900
  · have e := hr.2.2.2 (by omega)
    have hdr : decide (r ≤ 900) = true := decide_eq_true (by omega)
    have Hf := Lib.hid (show fewB v = smallN 20 v from by unfold fewB; rw [decide_eq_true hle, Bool.true_and])
    clear hr hle hk hc0 hc1 hc2 hc3 hc4 hwz e
    generalize smallN 20 v = sm at *
    go_wp2_with fail
    refine HS.out.mono ?_
    rintro e w3 ⟨rfl, hb3⟩
    go_wp2
    go_ret
    exact ⟨ret_bool Hf.out.symm, g2.trans (hb3.mono g2.size)⟩
  · have hdr : decide (r ≤ 900) = false := decide_eq_false (fun h => hle (by have := hr.2.2.1 h; omega))
    have Hf := Lib.hid (show fewB v = false from by unfold fewB; rw [decide_eq_false hle, Bool.false_and])
    clear hr hle hk hc0 hc1 hc2 hc3 hc4 hwz
    go_wp2
    go_ret
    exact ⟨ret_bool Hf.out.symm, g2⟩
end Go.Proofs.YtmcdfmhciinocaaGreatDoor

/- How a statement that answers true, and writes into new memory only, is lifted from its contract; how byte slices that come in are read as lists. -/
namespace Go.Proofs.YtmcdfmhciinocaaGreatDoor
open Go.ChangeShapes Go.WideShapes Go.ChangeAt Go.RowKit Go.Deep

section
variable {H : Type} {enc : TypeId × Value → H} {P : Program}

theorem below_trodAll (hl : laidOutB P = true) {W W' : World} (hb : Below W.heap.size W W') : ∀ {ts : List TypeId} {vs : List Value} {ds : List (DataW H)} {ps : List MemPlace},
    ts.all (fun t => P.readableRec t && decide (t < P.types.size)) = true → DataW.TrodAll enc P W 0 (fun _ => true) true ts vs ds ps →
    DataW.TrodAll enc P W' 0 (fun b => decide (b < W.heap.size)) true ts vs ds ps
  | [], vs, ds, ps, _, h => by
    obtain ⟨rfl, rfl, rfl⟩ := trodAll_nil h
    exact rfl
  | t :: ts, vs, ds, ps, ht, h => by
    obtain ⟨v, vs', d, ds', p, q, rfl, rfl, rfl, h0, h1⟩ := trodAll_cons h
    simp only [List.all_cons, Bool.and_eq_true, decide_eq_true_eq] at ht
    have hlt : ∀ x ∈ p, x.block < W.heap.size := fun x hx => h.lt x (by simp [hx])
    exact ⟨p, q, Below.trod hl ht.1.1 ht.1.2 h0 hb hlt, below_trodAll hl hb ht.2 h1, rfl⟩

theorem law_post {fn : Func} {s : ChangeSpec} {tb : TypeId} (hl : laidOutB P = true) (hrd : fn.params.toList.all (fun t => P.readableRec t && decide (t < P.types.size)) = true)
    (hvars : s.vars = []) (hrt : fn.resultTypes = #[tb]) (htb : P.underlying tb = some .bool)
    {W W' : World} {args : Array Value} {ds gs : List (DataW H)} {before : List MemPlace} (hW : DataW.Whole enc P fn.params.toList s.vars false W args.toList ds gs before)
    (hspec : s.fn H (ds ++ []) = { results := [.lit (.bool true)], args := ds }) (hb : Below W.heap.size W W') :
    s.post enc P fn false true false false W args (.bool true) W' := by
  have hW' := hW
  obtain ⟨p, q, hA, hV, rfl, _, _⟩ := hW
  rw [hvars] at hV
  obtain ⟨rfl, rfl⟩ := trodVars_none hV
  refine ⟨ds, [], p ++ [], [], p, [], hW', ?_, ?_, ?_, hb.frame _, fun h => by cases h⟩
  · rw [hspec, hrt]
    exact trodAll_mk1 (shut_bool htb _)
  · rw [hspec]
    exact below_trodAll hl hb hrd hA
  · rw [hspec, hvars]
    exact rfl

theorem wf_u8 {n : Int} (h : (Lit.int .u8 n).wf = true) : 0 ≤ n ∧ n < 256 := by
  have h1 : IntKind.u8.min = 0 := rfl
  have h2 : IntKind.u8.max = 255 := rfl
  simp only [Lit.wf, Bool.and_eq_true, decide_eq_true_eq] at h
  omega

theorem nat_u32 {n : Int} (h : (Lit.int .u32 n).wf = true) : ∃ x : Nat, x < 4294967296 ∧ n = (x : Int) := by
  have h1 : IntKind.u32.min = 0 := rfl
  have h2 : IntKind.u32.max = 4294967295 := rfl
  simp only [Lit.wf, Bool.and_eq_true, decide_eq_true_eq] at h
  exact ⟨n.toNat, by omega, by omega⟩

theorem nat_u16 {n : Int} (h : (Lit.int .u16 n).wf = true) : ∃ x : Nat, x < 65536 ∧ n = (x : Int) := by
  have h1 : IntKind.u16.min = 0 := rfl
  have h2 : IntKind.u16.max = 65535 := rfl
  simp only [Lit.wf, Bool.and_eq_true, decide_eq_true_eq] at h
  exact ⟨n.toNat, by omega, by omega⟩

theorem nat_u64 {n : Int} (h : (Lit.int .u64 n).wf = true) : ∃ x : Nat, x < 18446744073709551616 ∧ n = (x : Int) := by
  have h1 : IntKind.u64.min = 0 := rfl
  have h2 : IntKind.u64.max = 18446744073709551615 := rfl
  simp only [Lit.wf, Bool.and_eq_true, decide_eq_true_eq] at h
  exact ⟨n.toNat, by omega, by omega⟩

theorem wf_i64_of {n : Int} (h : (Lit.int .i64 n).wf = true) : -9223372036854775808 ≤ n ∧ n ≤ 9223372036854775807 := by
  have h1 : IntKind.i64.min = -9223372036854775808 := rfl
  have h2 : IntKind.i64.max = 9223372036854775807 := rfl
  simp only [Lit.wf, Bool.and_eq_true, decide_eq_true_eq] at h
  omega

theorem bytes_of_ints {W : World} {A : Option Addr} {len cap : Nat} {zs : List Int} (hl : len ≤ cap) (hm : cap ≤ maxLen) (hz : zs.length = cap) (hnil : A = none → cap = 0)
    (hcell : ∀ a, A = some a → ∀ c, c < cap → W.cell? (a.add c) = some (.int .u8 (zs.getD c 0))) (hw : ∀ n ∈ zs, (Lit.int .u8 n).wf = true) :
    Bytes W A len cap ((zs.take len).map Int.toNat) := by
  refine ⟨by simp; omega, hl, hm, ?_, hnil, fun hn => ?_⟩
  · intro x hx
    obtain ⟨n, hn, rfl⟩ := List.mem_map.1 hx
    have := wf_u8 (hw n (List.mem_of_mem_take hn))
    omega
  · cases A with
    | none => have := hnil rfl; omega
    | some a =>
      obtain ⟨b, o, spot⟩ := a
      have hspot : spot = none := by simpa [Addr.add] using World.cell?_spot (hcell _ rfl 0 (by omega))
      subst hspot
      refine ⟨b, o, rfl, fun i hi => ?_⟩
      have hc := hcell _ rfl i (by omega)
      rw [add_plain] at hc
      have hi' : i < zs.length := by omega
      have e1 : zs.getD i 0 = zs[i] := by rw [List.getD_eq_getElem?_getD, List.getElem?_eq_getElem hi']; rfl
      have e2 : ((zs.take len).map Int.toNat).getD i 0 = zs[i].toNat := by
        rw [List.getD_eq_getElem?_getD, List.getElem?_map, List.getElem?_take, if_pos hi, List.getElem?_eq_getElem hi']; rfl
      have hwf := wf_u8 (hw zs[i] (List.getElem_mem _))
      rw [hc, e1, e2]
      congr 2
      omega

/-- A byte slice that came in. -/
theorem open_bytes {W : World} {t e : TypeId} {v : Value} {d : DataW H} {p : List MemPlace} (ht : P.underlying t = some (.slice e)) (he : P.underlying e = some (.int .u8)) (ce : P.cellsOf e = 1)
    {base : Nat} (hv : Value.okWide P W .any base t v) (h : DataW.Trod enc P W 0 (fun _ => true) true t v d p) : ∃ a n cap l, v = .slice a n cap ∧ Bytes W a n cap l := by
  obtain ⟨a0, len, cap, rfl⟩ := okWide_slice ht hv
  obtain ⟨fuel, hf⟩ := h
  rcases open_ints ht he ce hf with ⟨hcs, _⟩ | ⟨a, len', cap', zs, hcs, _, hl, hm, hz, _, hcell, hw⟩
  · simp [Value.cells] at hcs
    obtain ⟨rfl, rfl, rfl⟩ := hcs
    exact ⟨none, 0, 0, [], rfl, rfl, Nat.le_refl _, by omega, by simp, fun _ => rfl, fun h => absurd h (Nat.lt_irrefl _)⟩
  · simp [Value.cells] at hcs
    obtain ⟨rfl, rfl, rfl⟩ := hcs
    simp only [if_true] at hz
    refine ⟨some a, len, cap, _, rfl, bytes_of_ints (zs := zs) hl hm hz (fun h => by cases h) (fun a' ha' c hc => ?_) hw⟩
    cases ha'
    exact hcell c (by omega)

/-- A slice of byte slices that came in. -/
theorem open_parts {W : World} {t e q : TypeId} {v : Value} {d : DataW H} {p : List MemPlace} (ht : P.underlying t = some (.slice e)) (he : P.underlying e = some (.slice q)) (hq : P.underlying q = some (.int .u8)) (ce : P.cellsOf e = 1) (cq : P.cellsOf q = 1)
    {base : Nat} (hv : Value.okWide P W .any base t v) (h : DataW.Trod enc P W 0 (fun _ => true) true t v d p) : ∃ a n cap ls, v = .slice a n cap ∧ Parts W a n cap ls := by
  obtain ⟨a0, len, cap, rfl⟩ := okWide_slice ht hv
  obtain ⟨fuel, hf⟩ := h
  rcases open_int_rows ht he hq ce cq hf with ⟨hcs, _⟩ | ⟨a, len', cap', A, L, C, Z, hcs, _, hl, hm, _, hrows⟩
  · simp [Value.cells] at hcs
    obtain ⟨rfl, rfl, rfl⟩ := hcs
    exact ⟨none, 0, 0, [], rfl, rfl, Nat.le_refl _, by omega, fun h => absurd h (Nat.lt_irrefl _)⟩
  · simp [Value.cells] at hcs
    obtain ⟨rfl, rfl, rfl⟩ := hcs
    refine ⟨some a, len, cap, (List.range len).map fun r => ((Z r).take (L r)).map Int.toNat, rfl, by simp, hl, hm, fun hn => ?_⟩
    obtain ⟨b, o, spot⟩ := a
    have hspot : spot = none := by simpa [Addr.add] using World.cell?_spot (hrows 0 (by omega)).1
    subst hspot
    have hc0 := (hrows 0 (by omega)).1
    rw [add_plain] at hc0
    refine ⟨b, o, rfl, World.block_lt_of_cell? _ _ hc0, fun i hi => ?_⟩
    obtain ⟨h1, h2, h3, h4, h5, h6, h7⟩ := hrows i (by omega)
    rw [add_plain] at h1
    refine ⟨A i, L i, C i, h1, ?_⟩
    have e1 : ((List.range len).map fun r => ((Z r).take (L r)).map Int.toNat).getD i [] = ((Z i).take (L i)).map Int.toNat := by
      rw [List.getD_eq_getElem?_getD, List.getElem?_map, List.getElem?_range hi]; rfl
    rw [e1]
    exact bytes_of_ints h2 h3 h4 h6 (fun a' ha' c hc => (h7 a' ha').2 c hc) h5
end
end Go.Proofs.YtmcdfmhciinocaaGreatDoor

/- What the listed package-level variables give the walks, and how a statement over them is lifted. -/
namespace Go.Proofs.YtmcdfmhciinocaaGreatDoor
open Go.RowKit

def deBruijn64 : List Int := [0, 1, 56, 2, 57, 49, 28, 3, 61, 58, 42, 50, 38, 29, 17, 4, 62, 47, 59, 36, 45, 43, 51, 22, 53, 39, 33, 30, 24, 18, 12, 5, 63, 55, 48, 27, 60, 41, 37, 16, 46, 35, 44, 21, 52, 32, 23, 11, 54, 26, 40, 15, 34, 20, 31, 10, 25, 14, 19, 9, 13, 8, 7, 6]

theorem gTab : Tryz.prog.globalNamed "math/bits.deBruijn64tab" = some 4 := by kernel_rfl

theorem tab_of_laid {d : DataW Unit} {rest : List (String × DataW Unit)} {W : World} (h : laidMet Tryz.prog (("math/bits.deBruijn32tab", d) :: ("math/bits.deBruijn64tab", Lib.tabData .u8 deBruijn64) :: rest) W) : Tab16 W :=
  Lib.TabIs.cell (Lib.tabIs_of_head gTab (by kernel_rfl : (Tryz.prog.globals[4]?).map (·.type) = some 193) Tryz.underlying193 Tryz.underlying5 (by kernel_rfl) (by kernel_rfl) (laidMet.tail h)) gTab 15 (by decide)
end Go.Proofs.YtmcdfmhciinocaaGreatDoor

/- What the listed table of powers of ten gives the walks. -/
namespace Go.Proofs.YtmcdfmhciinocaaGreatDoor
open Go.RowKit

theorem gPowW : Tryz.prog.globalNamed "internal/strconv.uint64pow10" = some 0 := by kernel_rfl

theorem pow10w_of_laid {d1 d2 : String × DataW Unit} {rest : List (String × DataW Unit)} {W : World} (h : laidMet Tryz.prog (d1 :: d2 :: ("internal/strconv.uint64pow10", Lib.tabData .u64 Lib.pow10Tab) :: rest) W) : Pow10 W :=
  Lib.tabIs_of_head gPowW (by kernel_rfl : (Tryz.prog.globals[0]?).map (·.type) = some 181) Tryz.underlying181 Tryz.underlying22 (by kernel_rfl) (by kernel_rfl) (laidMet.tail (laidMet.tail h))
end Go.Proofs.YtmcdfmhciinocaaGreatDoor

/- The walks of the reference's fields and has. -/
namespace Go.Proofs.YtmcdfmhciinocaaGreatDoor
open Go.RowKit

/-- The letter of a field. -/
def lett (i : Nat) : Nat := if i = 0 then 105 else if i = 1 then 110 else if i = 2 then 97 else if i = 3 then 115 else if i = 4 then 116 else 118
/-- The letters of a kind's fields. -/
def evL (k : Int) : List Nat := (evFields k).map lett

set_option maxRecDepth 100000 in
set_option maxHeartbeats 3200000 in
theorem rfields_any (k : Int) (w : World) : Calls Tryz.prog 113 #[.int .i64 k] w fun e w' => e = .returned (.string (str (evL k))) ∧ Below w.heap.size w w' := by
  by_cases h1 : k < 1
  · have e1 : evL k = [] := by unfold evL; rw [(evName_none (k := k) (by omega)).2]; rfl
    rw [e1]
    clear e1
    go_enter Tryz.func113, Tryz.ntmps113
    go_wp2
    go_ret
    exact ⟨rfl, Below.refl _ _⟩
  by_cases h2 : (11 : Int) < k
  · have e1 : evL k = [] := by unfold evL; rw [(evName_none (k := k) (by omega)).2]; rfl
    rw [e1]
    clear e1
    go_enter Tryz.func113, Tryz.ntmps113
    go_wp2
    go_ret
    exact ⟨rfl, Below.refl _ _⟩
  have hb := fun o => (Below.refl w.heap.size w).alloc (Nat.le_refl _) o
  have hk : k = 1 ∨ k = 2 ∨ k = 3 ∨ k = 4 ∨ k = 5 ∨ k = 6 ∨ k = 7 ∨ k = 8 ∨ k = 9 ∨ k = 10 ∨ k = 11 := by omega
  clear h1 h2
  rcases hk with rfl | rfl | rfl | rfl | rfl | rfl | rfl | rfl | rfl | rfl | rfl
  all_goals go_enter Tryz.func113, Tryz.ntmps113
  all_goals go_wp2
  all_goals go_ret
  all_goals exact ⟨congrArg (fun x => Ending.returned (.string x)) (by kernel_rfl), hb _⟩

set_option maxRecDepth 100000 in
theorem has_any (k : Int) (c : Nat) (hc : c < 256) (w : World) : Calls Tryz.prog 44 #[.int .i64 k, .int .u8 (c : Int)] w fun e w' => e = .returned (.bool (decide (c ∈ evL k))) ∧ Below w.heap.size w w' := by
  have HF := Lib.hid (rfields_any k w)
  obtain ⟨l, hl⟩ : ∃ l, l = evL k := ⟨_, rfl⟩
  have hb : ∀ y ∈ l, y < 256 := fun y hy => by
    rw [hl] at hy
    unfold evL lett at hy
    obtain ⟨i, _, rfl⟩ := List.mem_map.1 hy
    (repeat' split) <;> omega
  have hn : l.length ≤ 6 := by rw [hl]; unfold evL; rw [List.length_map]; exact fields_len k
  rw [← hl] at HF ⊢
  clear hl
  have hz := str_size l
  have Hb := Lib.hid hb
  have Hn := Lib.hid hn
  clear hb hn
  go_enter Tryz.func44, Tryz.ntmps44
  go_wp2_with fail
  refine HF.out.mono ?_
  rintro e w1 ⟨rfl, hb1⟩
  have Hb1 := Lib.hid hb1
  clear hb1
  go_wp2
  go_loopw [6] (fun i wr => ∃ j : Nat, j ≤ l.length ∧ i = .int .i64 (j : Int) ∧ (∀ q, q < j → l[q]? ≠ some c) ∧ wr = w1) (fun i _ => l.length - (intOf i).toNat)
  case atStart => exact ⟨0, Nat.zero_le _, rfl, fun q h => absurd h (by omega), rfl⟩
  case round =>
    obtain ⟨j, hj, rfl, hall, rfl⟩ := hrel
    have Hall := Lib.hid hall
    clear hall
    by_cases hlt : j < l.length
    · have hs : j < (str l).size := by rw [str_size]; exact hlt
      have hg : ((((str l)[j]'hs).toNat : Nat) : Int) = ((l[j] : Nat) : Int) := by
        rw [get_str Hb.out j hs]
        simp [hlt]
      have hn6 : l.length ≤ 6 := Hn.out
      have hji : (j : Int) < (l.length : Int) := by omega
      have hj6 : (j : Int) < 6 := by omega
      have Hg := Lib.hid (List.getElem?_eq_getElem hlt)
      generalize l[j] = y at *
      by_cases hy : y = c
      · subst hy
        have Hr := Lib.hid (show decide (y ∈ l) = true from decide_eq_true (List.mem_of_getElem? Hg.out))
        have Hlt := Lib.hid hlt
        clear hlt
        go_wp2
        go_ret
        exact ⟨ret_bool Hr.out.symm, Hb1.out⟩
      · have hy2 : ((y : Int) == (c : Int)) = false := by rw [beq_eq_false_iff_ne]; omega
        have Hall2 := Lib.hid (show ∀ q, q < j + 1 → l[q]? ≠ some c from fun q hq => by
          rcases Nat.lt_or_eq_of_le (Nat.le_of_lt_succ hq) with h | h
          · exact Hall.out q h
          · rw [h, Hg.out]; intro e; exact hy (Option.some.inj e))
        have Hlt := Lib.hid hlt
        clear hlt hy
        go_wp2
        go_roundw
        case rel => exact ⟨j + 1, Hlt.out, by go_num, Hall2.out, by first | trivial | rfl⟩
        case measure => simp [intOf]; have := Hlt.out; omega
    · have Hr := Lib.hid (show decide (c ∈ l) = false from decide_eq_false (fun h => by
        obtain ⟨q, hq, e⟩ := List.getElem_of_mem h
        exact Hall.out q (by omega) (by rw [List.getElem?_eq_getElem hq, e])))
      have hji : ¬ ((j : Int) < (l.length : Int)) := by omega
      clear hlt
      go_wp2
      go_ret
      exact ⟨ret_bool Hr.out.symm, Hb1.out⟩
end Go.Proofs.YtmcdfmhciinocaaGreatDoor

/- Forms of events: two events with the same form are the same. -/
namespace Go.Proofs.YtmcdfmhciinocaaGreatDoor
open Go.RowKit Fl

theorem form_split {x y : Nat} {r r' : List Nat} (hx : x < 18446744073709551616) (hy : y < 18446744073709551616) (h : form x ++ r = form y ++ r') : x = y ∧ r = r' := by
  have h1 := numL_of_form hx r
  have h2 := numL_of_form hy r'
  rw [h] at h1
  rw [h1] at h2
  have e : x = y := (Prod.mk.inj h2).1
  subst e
  exact ⟨rfl, List.append_cancel_left h⟩

theorem formB_split {s s' r r' : List Nat} (hs : s.length < 18446744073709551616) (hs' : s'.length < 18446744073709551616) (h : formB s ++ r = formB s' ++ r') : s = s' ∧ r = r' := by
  unfold formB at h
  rw [List.append_assoc, List.append_assoc] at h
  obtain ⟨e1, e2⟩ := form_split hs hs' h
  exact List.append_inj e2 e1

theorem be8_split {x y : Nat} {r r' : List Nat} (hx : x < 18446744073709551616) (hy : y < 18446744073709551616) (h : be8 x ++ r = be8 y ++ r') : x = y ∧ r = r' := by
  obtain ⟨e1, e2⟩ := List.append_inj h (by rw [be8_len, be8_len])
  refine ⟨?_, e2⟩
  have hd : ∀ j, j < 8 → x / 2 ^ (8 * (7 - j)) % 256 = y / 2 ^ (8 * (7 - j)) % 256 := fun j hj => by
    have hg : ∀ z, (be8 z).getD j 0 = z / 2 ^ (8 * (7 - j)) % 256 := fun z => by
      match j, hj with
      | 0, _ => simp [be8]
      | 1, _ => simp [be8]
      | 2, _ => simp [be8]
      | 3, _ => simp [be8]
      | 4, _ => simp [be8]
      | 5, _ => simp [be8]
      | 6, _ => simp [be8]
      | 7, _ => simp [be8]
    rw [← hg x, ← hg y, e1]
  have hs : ∀ z j, j < 8 → z / 2 ^ (8 * (8 - j)) * 256 + z / 2 ^ (8 * (7 - j)) % 256 = z / 2 ^ (8 * (8 - (j + 1))) := fun z j hj => by
    have e : 2 ^ (8 * (8 - j)) = 2 ^ (8 * (7 - j)) * 256 := by
      rw [show 8 * (8 - j) = 8 * (7 - j) + 8 by omega, Nat.pow_add]
    rw [e, ← Nat.div_div_eq_div_mul, show 8 - (j + 1) = 7 - j by omega]
    omega
  have hall : ∀ j, j ≤ 8 → x / 2 ^ (8 * (8 - j)) = y / 2 ^ (8 * (8 - j)) := by
    intro j
    induction j with
    | zero => intro _; rw [Nat.div_eq_of_lt (by omega), Nat.div_eq_of_lt (by omega)]
    | succ j ih => intro hj; rw [← hs x j (by omega), ← hs y j (by omega), ih (by omega), hd j (by omega)]
  have h8 := hall 8 (Nat.le_refl _)
  simpa using h8

theorem foldL_inj {a b : Int} (h : foldL a = foldL b) : a = b := by rw [← unfold_fold a, ← unfold_fold b, h]

theorem rightN_field {t : Nat} {v : V} (h : rightN t v = true) : FieldsOk v ∧ (0 ≤ v.kind ∧ v.kind ≤ 4) ∧ ∀ u ∈ v.l, ∃ t', rightN t' u = true := by
  cases t with
  | zero =>
    unfold rightN at h
    simp only [Bool.and_eq_true, decide_eq_true_eq] at h
    obtain ⟨⟨h1, h2⟩, h3⟩ := h
    exact ⟨h1, h3, fun u hu => by rw [h1.2.2.2.resolve_left h2] at hu; cases hu⟩
  | succ t =>
    unfold rightN at h
    simp only [Bool.and_eq_true, decide_eq_true_eq, List.all_eq_true] at h
    exact ⟨h.1.1, h.2, fun u hu => ⟨t, h.1.2 u hu⟩⟩

mutual
/-- What a tree's texts and lists are bounded by. -/
def boundV : V → Prop
  | .mk _ n f s l => (-9223372036854775808 ≤ n ∧ n ≤ 9223372036854775807) ∧ f < 18446744073709551616 ∧ s.length < 18446744073709551616 ∧ l.length < 18446744073709551616 ∧ boundL l
def boundL : List V → Prop
  | [] => True
  | v :: r => boundV v ∧ boundL r
end

mutual
theorem formV_split : ∀ (u v : V) (t t' : Nat) (r r' : List Nat), rightN t u = true → rightN t' v = true → boundV u → boundV v → formV u ++ r = formV v ++ r' → sameV u v = true ∧ r = r'
  | .mk k n f s l, .mk k' n' f' s' l', t, t', r, r', hr, hr', hs, hs', h => by
    obtain ⟨⟨a1, a2, a3, a4⟩, hk, hlr⟩ := rightN_field hr
    obtain ⟨⟨b1, b2, b3, b4⟩, hk', hlr'⟩ := rightN_field hr'
    rw [boundV] at hs hs'
    obtain ⟨c1, c2, c3, c4, c5⟩ := hs
    obtain ⟨d1, d2, d3, d4, d5⟩ := hs'
    change k = 1 ∨ n = 0 at a1
    change k = 2 ∨ bitsB f = 0 at a2
    change k = 3 ∨ s = [] at a3
    change k = 4 ∨ l = [] at a4
    change k' = 1 ∨ n' = 0 at b1
    change k' = 2 ∨ bitsB f' = 0 at b2
    change k' = 3 ∨ s' = [] at b3
    change k' = 4 ∨ l' = [] at b4
    change 0 ≤ k ∧ k ≤ 4 at hk
    change 0 ≤ k' ∧ k' ≤ 4 at hk'
    rw [formV_is, formV_is] at h
    change (form k.toNat ++ contF k n f s l.length) ++ formsV l ++ r = (form k'.toNat ++ contF k' n' f' s' l'.length) ++ formsV l' ++ r' at h
    rw [List.append_assoc, List.append_assoc, List.append_assoc, List.append_assoc] at h
    obtain ⟨e0, h⟩ := form_split (by omega) (by omega) h
    obtain rfl : k = k' := by omega
    rw [sameV, Bool.and_eq_true, decide_eq_true_eq]
    have hnil : k ≠ 4 → sameL l l' = true ∧ formsV l = [] ∧ formsV l' = [] := fun h4 => by rw [a4.resolve_left h4, b4.resolve_left h4]; exact ⟨by rw [sameL], rfl, rfl⟩
    unfold contF at h
    by_cases h1 : k = 1
    · rw [if_pos h1, if_pos h1] at h
      obtain ⟨e1, h⟩ := form_split (fold_lt c1.1 c1.2) (fold_lt d1.1 d1.2) h
      obtain ⟨g1, g2, g3⟩ := hnil (by omega)
      rw [g2, g3] at h
      exact ⟨⟨⟨rfl, foldL_inj e1, by rw [a3.resolve_left (by omega), b3.resolve_left (by omega)], by rw [a2.resolve_left (by omega), b2.resolve_left (by omega)]⟩, g1⟩, h⟩
    rw [if_neg h1, if_neg h1] at h
    have en : n = n' := by rw [a1.resolve_left h1, b1.resolve_left h1]
    by_cases h2 : k = 2
    · rw [if_pos h2, if_pos h2] at h
      obtain ⟨e1, h⟩ := be8_split (bitsB_lt c2) (bitsB_lt d2) h
      obtain ⟨g1, g2, g3⟩ := hnil (by omega)
      rw [g2, g3] at h
      exact ⟨⟨⟨rfl, en, by rw [a3.resolve_left (by omega), b3.resolve_left (by omega)], e1⟩, g1⟩, h⟩
    rw [if_neg h2, if_neg h2] at h
    have ef : bitsB f = bitsB f' := by rw [a2.resolve_left h2, b2.resolve_left h2]
    by_cases h3 : k = 3
    · rw [if_pos h3, if_pos h3] at h
      obtain ⟨e1, h⟩ := formB_split c3 d3 h
      obtain ⟨g1, g2, g3⟩ := hnil (by omega)
      rw [g2, g3] at h
      exact ⟨⟨⟨rfl, en, e1, ef⟩, g1⟩, h⟩
    rw [if_neg h3, if_neg h3] at h
    have es : s = s' := by rw [a3.resolve_left h3, b3.resolve_left h3]
    by_cases h4 : k = 4
    · rw [if_pos h4, if_pos h4] at h
      obtain ⟨e1, h⟩ := form_split c4 d4 h
      obtain ⟨g1, g2⟩ := formsV_split l l' r r' e1 hlr hlr' c5 d5 h
      exact ⟨⟨⟨rfl, en, es, ef⟩, g1⟩, g2⟩
    · rw [if_neg h4, if_neg h4] at h
      obtain ⟨g1, g2, g3⟩ := hnil h4
      rw [g2, g3] at h
      exact ⟨⟨⟨rfl, en, es, ef⟩, g1⟩, h⟩
theorem formsV_split : ∀ (l l' : List V) (r r' : List Nat), l.length = l'.length → (∀ u ∈ l, ∃ t, rightN t u = true) → (∀ u ∈ l', ∃ t, rightN t u = true) → boundL l → boundL l' → formsV l ++ r = formsV l' ++ r' → sameL l l' = true ∧ r = r'
  | [], [], r, r', _, _, _, _, _, h => ⟨by rw [sameL], h⟩
  | [], _ :: _, _, _, hl, _, _, _, _, _ => by simp at hl
  | _ :: _, [], _, _, hl, _, _, _, _, _ => by simp at hl
  | u :: l, v :: l', r, r', hl, hr, hr', hb, hb', h => by
    rw [boundL] at hb hb'
    obtain ⟨t, ht⟩ := hr u (by simp)
    obtain ⟨t', ht'⟩ := hr' v (by simp)
    have e1 : formsV (u :: l) = formV u ++ formsV l := rfl
    have e2 : formsV (v :: l') = formV v ++ formsV l' := rfl
    rw [e1, e2, List.append_assoc, List.append_assoc] at h
    obtain ⟨g1, g2⟩ := formV_split u v t t' _ _ ht ht' hb.1 hb'.1 h
    obtain ⟨g3, g4⟩ := formsV_split l l' r r' (by simpa using hl) (fun x hx => hr x (by simp [hx])) (fun x hx => hr' x (by simp [hx])) hb.2 hb'.2 g2
    exact ⟨by rw [sameL, g1, g3]; rfl, g4⟩
end

mutual
theorem formV_same : ∀ (u v : V), sameV u v = true → formV u = formV v
  | .mk k n f s l, .mk k' n' f' s' l', h => by
    rw [sameV, Bool.and_eq_true, decide_eq_true_eq] at h
    obtain ⟨⟨rfl, rfl, rfl, e⟩, h⟩ := h
    rw [formV_is, formV_is]
    change (form k.toNat ++ contF k n f s l.length) ++ formsV l = (form k.toNat ++ contF k n f' s l'.length) ++ formsV l'
    rw [formsV_same l l' h, sameL_len h]
    unfold contF
    rw [e]
theorem formsV_same : ∀ (l l' : List V), sameL l l' = true → formsV l = formsV l'
  | [], [], _ => rfl
  | [], _ :: _, h => by simp [sameL] at h
  | _ :: _, [], h => by simp [sameL] at h
  | u :: l, v :: l', h => by
    rw [sameL, Bool.and_eq_true] at h
    have e1 : formsV (u :: l) = formV u ++ formsV l := rfl
    have e2 : formsV (v :: l') = formV v ++ formsV l' := rfl
    rw [e1, e2, formV_same u v h.1, formsV_same l l' h.2]
end
end Go.Proofs.YtmcdfmhciinocaaGreatDoor

/- Events with the same form, or the same text, are the same. -/
namespace Go.Proofs.YtmcdfmhciinocaaGreatDoor
open Go.RowKit Fl

/-- Two events are the same. -/
def sameE (a b : Ev) : Bool := decide (a.k = b.k ∧ a.id = b.id ∧ a.n = b.n ∧ a.t = b.t ∧ a.nm = b.nm ∧ a.tx = b.tx) && sameV a.v b.v

/-- What an event's parts are bounded by. -/
structure EvB (e : Ev) : Prop where
  id : e.id < 18446744073709551616
  t : e.t < 18446744073709551616
  nm : e.nm.length < 18446744073709551616
  tx : e.tx.length < 18446744073709551616
  v : boundV e.v
  nb : ∀ c ∈ e.nm, c < 256
  tb : ∀ c ∈ e.tx, c < 256
  w : wordsV e.v

mutual
theorem VIn.bound {w : World} : ∀ (v : V) (x : Array Value), VIn w v x → boundV v
  | .mk k n f s l, x, h => by
    rw [VIn] at h
    obtain ⟨_, h2, h3, _, h5, a, cap, _, h7, h8, h9⟩ := h
    rw [boundV]
    refine ⟨h2, h3, by omega, by omega, ?_⟩
    rcases h9 with rfl | ⟨b, o, _, hv⟩
    · rw [boundL]; trivial
    · exact VsIn.bound l b o hv
theorem VsIn.bound {w : World} : ∀ (l : List V) (b o : Nat), VsIn w l b o → boundL l
  | [], _, _, _ => by rw [boundL]; trivial
  | v :: r, b, o, h => by
    rw [VsIn] at h
    obtain ⟨⟨x, _, _, hv⟩, hr⟩ := h
    rw [boundL]
    exact ⟨VIn.bound v x hv, VsIn.bound r b (o + 5) hr⟩
end

theorem EvIn.bound {w : World} {e : Ev} {x : Array Value} (h : EvIn w e x) : EvB e := by
  obtain ⟨_, h2, _, h4, h5, h6, a, cap, _, hv⟩ := h
  exact ⟨h2, h4, by omega, by omega, VIn.bound _ _ hv, h5.1, h6.1, VIn.words _ _ hv⟩

/-- A field is the same in two events. -/
def eqF (a b : Ev) (i : Nat) : Prop := if i = 0 then a.id = b.id else if i = 1 then a.n = b.n else if i = 2 then a.t = b.t else if i = 3 then a.nm = b.nm else if i = 4 then a.tx = b.tx else sameV a.v b.v = true

theorem eqF_all {a b : Ev} (hk : a.k = b.k) (h : ∀ i, i < 6 → eqF a b i) : sameE a b = true := by
  unfold sameE
  rw [Bool.and_eq_true, decide_eq_true_eq]
  exact ⟨⟨hk, h 0 (by omega), h 1 (by omega), h 2 (by omega), h 3 (by omega), h 4 (by omega)⟩, h 5 (by omega)⟩

theorem eqF_empty {a b : Ev} {i : Nat} (hi : i < 6) (ha : emptyE a i = true) (hb : emptyE b i = true) : eqF a b i := by
  match i, hi with
  | 0, _ => have h1 : a.id = 0 := by simpa [emptyE] using ha
            have h2 : b.id = 0 := by simpa [emptyE] using hb
            show a.id = b.id; rw [h1, h2]
  | 1, _ => have h1 : a.n = 0 := by simpa [emptyE] using ha
            have h2 : b.n = 0 := by simpa [emptyE] using hb
            show a.n = b.n; rw [h1, h2]
  | 2, _ => have h1 : a.t = 0 := by simpa [emptyE] using ha
            have h2 : b.t = 0 := by simpa [emptyE] using hb
            show a.t = b.t; rw [h1, h2]
  | 3, _ => have h1 : a.nm = [] := by simpa [emptyE] using ha
            have h2 : b.nm = [] := by simpa [emptyE] using hb
            show a.nm = b.nm; rw [h1, h2]
  | 4, _ => have h1 : a.tx = [] := by simpa [emptyE] using ha
            have h2 : b.tx = [] := by simpa [emptyE] using hb
            show a.tx = b.tx; rw [h1, h2]
  | 5, _ => have h1 : sameV a.v zeroV = true := by simpa [emptyE] using ha
            have h2 : sameV b.v zeroV = true := by simpa [emptyE] using hb
            exact sameV_trans _ _ _ h1 (sameV_symm _ _ h2)

theorem same_of_fields {a b : Ev} (ha : okE a = true) (hb : okE b = true) (hk : a.k = b.k) (h : ∀ i ∈ evFields a.k, eqF a b i) : sameE a b = true := by
  refine eqF_all hk fun i hi => ?_
  by_cases hm : i ∈ evFields a.k
  · exact h i hm
  · have h1 := (okE_parts ha).2 i hi
    have h2 := (okE_parts hb).2 i hi
    rw [if_neg hm] at h1
    rw [if_neg (by rw [← hk]; exact hm)] at h2
    exact eqF_empty hi h1 h2

theorem piece_split {a b : Ev} (ha : EvB a) (hb : EvB b) {i : Nat} (hi : i < 6) (hra : rightE a i = true) (hrb : rightE b i = true) {r r' : List Nat} (h : pieceE a i ++ r = pieceE b i ++ r') : eqF a b i ∧ r = r' := by
  match i, hi with
  | 0, _ => exact form_split ha.id hb.id h
  | 1, _ =>
    have h1 : 1 ≤ a.n ∧ a.n ≤ 2147483647 := by simpa [rightE] using hra
    have h2 : 1 ≤ b.n ∧ b.n ≤ 2147483647 := by simpa [rightE] using hrb
    obtain ⟨e, h⟩ := form_split (x := a.n.toNat) (y := b.n.toNat) (by omega) (by omega) h
    exact ⟨by show a.n = b.n; omega, h⟩
  | 2, _ => exact form_split ha.t hb.t h
  | 3, _ => exact formB_split ha.nm hb.nm h
  | 4, _ => exact formB_split ha.tx hb.tx h
  | 5, _ =>
    have h1 : rightN 8 a.v = true := by simpa [rightE] using hra
    have h2 : rightN 8 b.v = true := by simpa [rightE] using hrb
    exact formV_split _ _ 8 8 _ _ h1 h2 ha.v hb.v h

theorem pieces_split {a b : Ev} (ha : EvB a) (hb : EvB b) : ∀ (fs : List Nat) (r r' : List Nat), (∀ i ∈ fs, i < 6 ∧ rightE a i = true ∧ rightE b i = true) → (fs.map (pieceE a)).flatten ++ r = (fs.map (pieceE b)).flatten ++ r' → (∀ i ∈ fs, eqF a b i) ∧ r = r'
  | [], r, r', _, h => ⟨fun i hi => (by cases hi), h⟩
  | i :: fs, r, r', hf, h => by
    rw [List.map_cons, List.map_cons, List.flatten_cons, List.flatten_cons, List.append_assoc, List.append_assoc] at h
    obtain ⟨h6, h1, h2⟩ := hf i (by simp)
    obtain ⟨e, h⟩ := piece_split ha hb h6 h1 h2 h
    obtain ⟨g, h⟩ := pieces_split ha hb fs r r' (fun j hj => hf j (by simp [hj])) h
    refine ⟨fun j hj => ?_, h⟩
    rcases List.mem_cons.1 hj with rfl | hj
    · exact e
    · exact g j hj

theorem piece_same {a b : Ev} (h : sameE a b = true) (i : Nat) : pieceE a i = pieceE b i := by
  unfold sameE at h
  rw [Bool.and_eq_true, decide_eq_true_eq] at h
  obtain ⟨⟨h0, h1, h2, h3, h4, h5⟩, h6⟩ := h
  unfold pieceE
  rw [h1, h2, h3, h4, h5, formV_same _ _ h6]

theorem formE_iff {a b : Ev} (ha : okE a = true) (hb : okE b = true) (ba : EvB a) (bb : EvB b) : decide (formE a = formE b) = sameE a b := by
  rw [Bool.eq_iff_iff, decide_eq_true_eq]
  constructor
  · intro h
    unfold formE at h
    obtain ⟨hk, _⟩ := okE_parts ha
    obtain ⟨hk', _⟩ := okE_parts hb
    rw [List.append_assoc, List.append_assoc] at h
    have h := List.append_cancel_left h
    obtain ⟨e, h⟩ := form_split (by omega) (by omega) h
    have hkk : a.k = b.k := by omega
    rw [← hkk] at h
    have h' : (List.map (pieceE a) (evFields a.k)).flatten ++ [] = (List.map (pieceE b) (evFields a.k)).flatten ++ [] := by simpa using h
    obtain ⟨g, _⟩ := pieces_split ba bb _ _ _ (fun i hi => ⟨evFields_lt _ _ hi, okE_right ha hi, okE_right hb (by rw [← hkk]; exact hi)⟩) h'
    exact same_of_fields ha hb hkk g
  · intro h
    have hk : a.k = b.k := by
      unfold sameE at h
      rw [Bool.and_eq_true, decide_eq_true_eq] at h
      exact h.1.1
    unfold formE
    rw [hk, List.map_congr_left (fun i _ => piece_same h i)]
end Go.Proofs.YtmcdfmhciinocaaGreatDoor

