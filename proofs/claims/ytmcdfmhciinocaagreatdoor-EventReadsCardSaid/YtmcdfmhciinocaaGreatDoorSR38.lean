import Derived.Test.YtmcdfmhciinocaaGreatDoorSR37
import Derived.Test.YtmcdfmhciinocaaGreatDoorSR1
import Derived.ProofKit
import Derived.SizedLaws
import Derived.Deep.Matrix
import Derived.Test.YtmcdfmhciinocaaGreatDoorSR27
import Derived.Test.YtmcdfmhciinocaaGreatDoorSR21
import Derived.Lib.LaidTab
import Derived.Stop.LaidErr
import Derived.LaidMore
import Derived.OpenShut
import Derived.Stop.Joined
/- The walk of the reference's Read of an event, whatever the bytes. -/
namespace Go.Proofs.YtmcdfmhciinocaaGreatDoor
open Go.RowKit Go.Shelf Fl

theorem rread11_any (K : Nat → Prop) (l : List Nat) (a : Option Addr) (n c : Nat) (w : World) (hl : l.length ≤ 1000000) (hK : ∀ b, K b → b < w.heap.size) (hB : Bytes w a n c l) (hf : FormedK K a c) :
    Calls Tryz.prog 19 #[.agg #[.slice a n c, .bool false]] w (ErAny K w l) := by
  match l with
  | [] => exact er_short K a n c w hB hf hK
  | x :: l1 =>
    by_cases hx : x = 1
    · subst hx
      have hb1 : ∀ c ∈ l1, c < 256 := fun c hc => hB.byte c (by simp [hc])
      have h1 : form 1 = [1] := form_small (by omega)
      rcases readN_only hb1 with ⟨y, l2, hy, he⟩ | ⟨hn, hno⟩
      · have hr : readN l1 true = (y, l2, true) := by rw [he]; exact readN_form hy l2
        by_cases hk : 1 ≤ y ∧ y ≤ 11
        · exact er_main K a n c w y l1 l2 true hr rfl hk he (by have := congrArg List.length he; rw [List.length_append] at this; rw [List.length_cons] at hl; omega) hB hf hK
        · refine er_nokind K a n c w y l1 l2 true hr (fun _ => by omega) ?_ hB hf hK
          have := noE_kind (l := l2) hy hk
          rw [← he, h1] at this
          exact this
      · refine er_nokind K a n c w 0 l1 l1 false hn (fun h => by cases h) ?_ hB hf hK
        have := noE_nokind hno
        rw [h1] at this
        exact this
    · exact er_ne K a n c w x l1 hx hB hf hK

theorem rread11_raw (l : List Nat) (a : Option Addr) (n c : Nat) (w : World) (hl : l.length ≤ 1000000) (hB : Bytes w a n c l) (hf : Formed a c) :
    ∃ K, Calls Tryz.prog 19 #[.agg #[.slice a n c, .bool false]] w (ErAny K w l) := by
  rcases Nat.eq_zero_or_pos n with rfl | hn
  · obtain rfl : l = [] := List.length_eq_zero_iff.1 hB.len
    exact ⟨fun _ => True, er_short0 (fun _ => True) a 0 c w hB ⟨hf, fun _ _ => trivial⟩⟩
  · refine ⟨fun b => b < w.heap.size, rread11_any _ l a n c w hl (fun _ h => h) hB ⟨hf, fun x hx => ?_⟩⟩
    obtain ⟨b, o, e, hc⟩ := hB.cell hn
    rw [e] at hx
    cases hx
    exact World.block_lt_of_cell? _ _ (hc 0 hn)
end Go.Proofs.YtmcdfmhciinocaaGreatDoor

/- How a statement that answers true, and writes into new memory only, is lifted from its contract; how byte slices that come in are read as lists. -/
namespace Go.Proofs.YtmcdfmhciinocaaGreatDoor
open Go.ChangeShapes Go.WideShapes Go.ChangeAt Go.RowKit Go.Deep

section
variable {H : Type} {enc : TypeId × Value → H} {P : Program}

theorem below_trodAll (hl : laidOutB P = true) {W W' : World} (hb : Below W.heap.size W W') : ∀ {ts : List TypeId} {vs : List Value} {ds : List (DataW H)} {ps : List MemPlace},
    ts.all (fun t => P.readableRec t && decide (t < P.types.size)) = true → DataW.TrodAll enc P W 0 (fun _ => true) true ts vs ds ps →
    DataW.TrodAll enc P W' 0 (fun b => decide (b < W.heap.size)) true ts vs ds ps
  | [], vs, ds, ps, _, h => by
    obtain ⟨rfl, rfl, rfl⟩ := trodAll_nil h
    exact rfl
  | t :: ts, vs, ds, ps, ht, h => by
    obtain ⟨v, vs', d, ds', p, q, rfl, rfl, rfl, h0, h1⟩ := trodAll_cons h
    simp only [List.all_cons, Bool.and_eq_true, decide_eq_true_eq] at ht
    have hlt : ∀ x ∈ p, x.block < W.heap.size := fun x hx => h.lt x (by simp [hx])
    exact ⟨p, q, Below.trod hl ht.1.1 ht.1.2 h0 hb hlt, below_trodAll hl hb ht.2 h1, rfl⟩

theorem law_post {fn : Func} {s : ChangeSpec} {tb : TypeId} (hl : laidOutB P = true) (hrd : fn.params.toList.all (fun t => P.readableRec t && decide (t < P.types.size)) = true)
    (hvars : s.vars = []) (hrt : fn.resultTypes = #[tb]) (htb : P.underlying tb = some .bool)
    {W W' : World} {args : Array Value} {ds gs : List (DataW H)} {before : List MemPlace} (hW : DataW.Whole enc P fn.params.toList s.vars false W args.toList ds gs before)
    (hspec : s.fn H (ds ++ []) = { results := [.lit (.bool true)], args := ds }) (hb : Below W.heap.size W W') :
    s.post enc P fn false true false false W args (.bool true) W' := by
  have hW' := hW
  obtain ⟨p, q, hA, hV, rfl, _, _⟩ := hW
  rw [hvars] at hV
  obtain ⟨rfl, rfl⟩ := trodVars_none hV
  refine ⟨ds, [], p ++ [], [], p, [], hW', ?_, ?_, ?_, hb.frame _, fun h => by cases h⟩
  · rw [hspec, hrt]
    exact trodAll_mk1 (shut_bool htb _)
  · rw [hspec]
    exact below_trodAll hl hb hrd hA
  · rw [hspec, hvars]
    exact rfl

theorem wf_u8 {n : Int} (h : (Lit.int .u8 n).wf = true) : 0 ≤ n ∧ n < 256 := by
  have h1 : IntKind.u8.min = 0 := rfl
  have h2 : IntKind.u8.max = 255 := rfl
  simp only [Lit.wf, Bool.and_eq_true, decide_eq_true_eq] at h
  omega

theorem bytes_of_ints {W : World} {A : Option Addr} {len cap : Nat} {zs : List Int} (hl : len ≤ cap) (hm : cap ≤ maxLen) (hz : zs.length = cap) (hnil : A = none → cap = 0)
    (hcell : ∀ a, A = some a → ∀ c, c < cap → W.cell? (a.add c) = some (.int .u8 (zs.getD c 0))) (hw : ∀ n ∈ zs, (Lit.int .u8 n).wf = true) :
    Bytes W A len cap ((zs.take len).map Int.toNat) := by
  refine ⟨by simp; omega, hl, hm, ?_, hnil, fun hn => ?_⟩
  · intro x hx
    obtain ⟨n, hn, rfl⟩ := List.mem_map.1 hx
    have := wf_u8 (hw n (List.mem_of_mem_take hn))
    omega
  · cases A with
    | none => have := hnil rfl; omega
    | some a =>
      obtain ⟨b, o, spot⟩ := a
      have hspot : spot = none := by simpa [Addr.add] using World.cell?_spot (hcell _ rfl 0 (by omega))
      subst hspot
      refine ⟨b, o, rfl, fun i hi => ?_⟩
      have hc := hcell _ rfl i (by omega)
      rw [add_plain] at hc
      have hi' : i < zs.length := by omega
      have e1 : zs.getD i 0 = zs[i] := by rw [List.getD_eq_getElem?_getD, List.getElem?_eq_getElem hi']; rfl
      have e2 : ((zs.take len).map Int.toNat).getD i 0 = zs[i].toNat := by
        rw [List.getD_eq_getElem?_getD, List.getElem?_map, List.getElem?_take, if_pos hi, List.getElem?_eq_getElem hi']; rfl
      have hwf := wf_u8 (hw zs[i] (List.getElem_mem _))
      rw [hc, e1, e2]
      congr 2
      omega

end
end Go.Proofs.YtmcdfmhciinocaaGreatDoor

/- Byte slices that came in, with the address of those that have room. -/
namespace Go.Proofs.YtmcdfmhciinocaaGreatDoor
open Go.ChangeShapes Go.WideShapes Go.ChangeAt Go.RowKit Go.Deep

section
variable {H : Type} {enc : TypeId × Value → H} {P : Program}

theorem open_bytesF {W : World} {t e : TypeId} {v : Value} {d : DataW H} {p : List MemPlace} (ht : P.underlying t = some (.slice e)) (he : P.underlying e = some (.int .u8)) (ce : P.cellsOf e = 1)
    {base : Nat} (hv : Value.okWide P W .any base t v) (h : DataW.Trod enc P W 0 (fun _ => true) true t v d p) : ∃ a n cap l, v = .slice a n cap ∧ Bytes W a n cap l ∧ Formed a cap := by
  obtain ⟨a0, len, cap, rfl⟩ := okWide_slice ht hv
  obtain ⟨fuel, hf⟩ := h
  rcases open_ints ht he ce hf with ⟨hcs, _⟩ | ⟨a, len', cap', zs, hcs, _, hl, hm, hz, _, hcell, hw⟩
  · simp [Value.cells] at hcs
    obtain ⟨rfl, rfl, rfl⟩ := hcs
    exact ⟨none, 0, 0, [], rfl, ⟨rfl, Nat.le_refl _, by omega, by simp, fun _ => rfl, fun h => absurd h (Nat.lt_irrefl _)⟩, formed_none 0 rfl⟩
  · simp [Value.cells] at hcs
    obtain ⟨rfl, rfl, rfl⟩ := hcs
    simp only [if_true] at hz
    refine ⟨some a, len, cap, _, rfl, bytes_of_ints (zs := zs) hl hm hz (fun h => by cases h) (fun a' ha' c hc => ?_) hw, fun h0 => ?_⟩
    · cases ha'
      exact hcell c (by omega)
    · obtain ⟨b, o, spot⟩ := a
      have hspot : spot = none := by simpa [Addr.add] using World.cell?_spot (hcell 0 (by omega))
      subst hspot
      exact ⟨b, o, rfl⟩
end
end Go.Proofs.YtmcdfmhciinocaaGreatDoor

/- What the listed package-level variables give the walks, and how a statement over them is lifted. -/
namespace Go.Proofs.YtmcdfmhciinocaaGreatDoor
open Go.RowKit

def deBruijn64 : List Int := [0, 1, 56, 2, 57, 49, 28, 3, 61, 58, 42, 50, 38, 29, 17, 4, 62, 47, 59, 36, 45, 43, 51, 22, 53, 39, 33, 30, 24, 18, 12, 5, 63, 55, 48, 27, 60, 41, 37, 16, 46, 35, 44, 21, 52, 32, 23, 11, 54, 26, 40, 15, 34, 20, 31, 10, 25, 14, 19, 9, 13, 8, 7, 6]

theorem gTab : Tryz.prog.globalNamed "math/bits.deBruijn64tab" = some 4 := by kernel_rfl

theorem tab_of_laid {d : DataW Unit} {rest : List (String × DataW Unit)} {W : World} (h : laidMet Tryz.prog (("math/bits.deBruijn32tab", d) :: ("math/bits.deBruijn64tab", Lib.tabData .u8 deBruijn64) :: rest) W) : Tab16 W :=
  Lib.TabIs.cell (Lib.tabIs_of_head gTab (by kernel_rfl : (Tryz.prog.globals[4]?).map (·.type) = some 193) Tryz.underlying193 Tryz.underlying5 (by kernel_rfl) (by kernel_rfl) (laidMet.tail h)) gTab 15 (by decide)
end Go.Proofs.YtmcdfmhciinocaaGreatDoor

/- What the listed table of powers of ten gives the walks. -/
namespace Go.Proofs.YtmcdfmhciinocaaGreatDoor
open Go.RowKit

theorem gPowW : Tryz.prog.globalNamed "internal/strconv.uint64pow10" = some 0 := by kernel_rfl

theorem pow10w_of_laid {d1 d2 : String × DataW Unit} {rest : List (String × DataW Unit)} {W : World} (h : laidMet Tryz.prog (d1 :: d2 :: ("internal/strconv.uint64pow10", Lib.tabData .u64 Lib.pow10Tab) :: rest) W) : Pow10 W :=
  Lib.tabIs_of_head gPowW (by kernel_rfl : (Tryz.prog.globals[0]?).map (·.type) = some 181) Tryz.underlying181 Tryz.underlying22 (by kernel_rfl) (by kernel_rfl) (laidMet.tail (laidMet.tail h))
end Go.Proofs.YtmcdfmhciinocaaGreatDoor

