import Derived.Test.YtpjadeihackkpaaGreatDoorMP3
import Derived.Test.YtpjadeihackkpaaGreatDoorMP13
import Derived.Test.YtpjadeihackkpaaGreatDoorMP24
import Derived.Test.YtpjadeihackkpaaGreatDoorMP9
import Derived.Lib.LaidTab
import Derived.Stop.LaidErr
import Derived.ProofKit
import Derived.LaidMore
import Derived.OpenShut
import Derived.Stop.Joined
import Derived.Test.YtpjadeihackkpaaGreatDoorMP11
import Derived.Test.YtpjadeihackkpaaGreatDoorMP12
/- Values that come in, read as trees. -/
namespace Go.Proofs.YtpjadeihackkpaaGreatDoor
open Go.ChangeShapes Go.WideShapes Go.ChangeAt Go.RowKit Go.Deep

section
variable {H : Type} {enc : TypeId × Value → H} {W : World}

theorem trod_f64 {P : Program} {w : World} {base : Nat} {spare : Nat → Bool} {held : Bool} {fuel : Nat} {t : TypeId} {cs : List Value} {x : DataW H × List MemPlace} (ht : P.underlying t = some (.float .f64)) (h : DataW.trod enc P w base spare held fuel t cs = some x) :
    ∃ b : Nat, cs = [.float .f64 b] ∧ (Lit.float .f64 b).wf = true := by
  cases fuel with
  | zero => simp [DataW.trod] at h
  | succ n =>
    unfold DataW.trod at h
    rw [ht] at h
    split at h <;> simp_all

theorem cells_value : Tryz.prog.cellsOf 25 = 5 := by kernel_rfl
theorem cells_int : Tryz.prog.cellsOf 3 = 1 := by kernel_rfl
theorem cells_i64 : Tryz.prog.cellsOf 2 = 1 := by kernel_rfl
theorem cells_f64 : Tryz.prog.cellsOf 22 = 1 := by kernel_rfl
theorem cells_str : Tryz.prog.cellsOf 9 = 1 := by kernel_rfl
theorem cells_vs : Tryz.prog.cellsOf 23 = 1 := by kernel_rfl

theorem vs_of {b : Nat} : ∀ (n o : Nat), (∀ i, i < n → ∃ (cs : List Value) (v : V), cs.length = 5 ∧ (∀ j, j < 5 → W.cell? ⟨b, o + i * 5 + j, none⟩ = cs[j]?) ∧ VIn W v cs.toArray) → ∃ l : List V, l.length = n ∧ VsIn W l b o
  | 0, _, _ => ⟨[], rfl, by rw [VsIn]; trivial⟩
  | n + 1, o, h => by
    obtain ⟨cs, v, hl, hc, hv⟩ := h 0 (by omega)
    obtain ⟨l, hn, hr⟩ := vs_of n (o + 5) (fun i hi => by
      obtain ⟨cs, v, hl, hc, hv⟩ := h (i + 1) (by omega)
      exact ⟨cs, v, hl, fun j hj => by rw [← hc j hj]; congr 2; omega, hv⟩)
    refine ⟨v :: l, by rw [List.length_cons, hn], ?_⟩
    rw [VsIn]
    refine ⟨⟨cs.toArray, by simpa using hl, fun j hj => ?_, hv⟩, hr⟩
    have := hc j hj
    simpa using this

set_option maxRecDepth 100000 in
theorem open_v : ∀ (fuel : Nat) (cs : List Value) (x : DataW H × List MemPlace), DataW.trod enc Tryz.prog W 0 (fun _ => true) true fuel 25 cs = some x → ∃ v : V, VIn W v cs.toArray := by
  intro fuel
  induction fuel using Nat.strongRecOn with
  | ind fuel ih =>
    intro cs x h
    obtain ⟨xs, n, rfl, _, hlen, hxl, hf⟩ := DataW.trod_struct Tryz.underlying25 h
    rw [cells_value] at hlen
    match cs, hlen, xs, hxl with
    | [c0, c1, c2, c3, c4], _, [y0, y1, y2, y3, y4], _ =>
      have f0 := hf 0 _ rfl
      have f1 := hf 1 _ rfl
      have f2 := hf 2 _ rfl
      have f3 := hf 3 _ rfl
      have f4 := hf 4 _ rfl
      simp [cells_int, cells_i64, cells_f64, cells_str, cells_vs] at f0 f1 f2 f3 f4
      obtain ⟨k, e0, _, w0⟩ := DataW.trod_int Tryz.underlying3 f0
      obtain ⟨m, e1, _, w1⟩ := DataW.trod_int Tryz.underlying2 f1
      obtain ⟨f, e2, w2⟩ := trod_f64 Tryz.underlying22 f2
      obtain ⟨s, e3, _, w3⟩ := DataW.trod_string Tryz.underlying9 f3
      obtain rfl := List.cons.inj e0 |>.1
      obtain rfl := List.cons.inj e1 |>.1
      obtain rfl := List.cons.inj e2 |>.1
      obtain rfl := List.cons.inj e3 |>.1
      obtain ⟨q, hq, rfl⟩ := str_of s
      have hk := wf_i64_of w0
      have hm := wf_i64_of w1
      have hff : f < 18446744073709551616 := by
        simp only [Lit.wf, decide_eq_true_eq] at w2
        exact w2
      have hqs : q.length ≤ 9223372036854775807 := by
        rw [str_size, maxLen_nat] at w3
        exact w3
      clear e0 e1 e2 e3 w0 w1 w2 w3 f0 f1 f2 f3 hf
      rcases DataW.trod_slice Tryz.underlying23 f4 with ⟨e, _⟩ | ⟨a, len, cap, elems, rest, r, rfl, e, _, _, hle, hcm, hel, hi, _, _⟩
      · obtain rfl := List.cons.inj e |>.1
        refine ⟨.mk k m f q [], ?_⟩
        rw [VIn]
        exact ⟨hk, hm, hff, hq, hqs, none, 0, rfl, Nat.le_refl _, by omega, .inl rfl⟩
      · obtain rfl := List.cons.inj e |>.1
        rw [maxLen_nat] at hcm
        rw [cells_value] at hi
        have hel2 : ∀ i, i < len → ∃ (cs : List Value) (v : V), cs.length = 5 ∧ (∀ j, j < 5 → W.cell? ((a.add (i * 5)).add j) = cs[j]?) ∧ VIn W v cs.toArray := by
          intro i hlt
          have h1 := hi i hlt
          rw [List.getElem?_eq_getElem (by omega)] at h1
          obtain ⟨cs', h2, h3⟩ := Option.bind_eq_some_iff.1 h1
          obtain ⟨_, h4, h5⟩ := World.cells?_some h2
          obtain ⟨v, hv⟩ := ih r (by omega) cs' _ h3
          exact ⟨cs', v, h4, h5, hv⟩
        by_cases h0 : len = 0
        · subst h0
          refine ⟨.mk k m f q [], ?_⟩
          rw [VIn]
          exact ⟨hk, hm, hff, hq, hqs, some a, cap, rfl, hle, hcm, .inl rfl⟩
        · obtain ⟨b, o, spot⟩ := a
          have hspot : spot = none := by
            obtain ⟨cs', v, g1, g2, _⟩ := hel2 0 (by omega)
            have g3 := g2 0 (by omega)
            rw [List.getElem?_eq_getElem (by omega)] at g3
            simpa [Addr.add] using World.cell?_spot g3
          subst hspot
          obtain ⟨l, hl, hvs⟩ := vs_of (W := W) (b := b) len o (fun i hlt => by
            obtain ⟨cs', v, g1, g2, g3⟩ := hel2 i hlt
            refine ⟨cs', v, g1, fun j hj => ?_, g3⟩
            have g4 := g2 j hj
            rw [add_plain, add_plain] at g4
            exact g4)
          refine ⟨.mk k m f q l, ?_⟩
          rw [VIn]
          refine ⟨hk, hm, hff, hq, hqs, some ⟨b, o, none⟩, cap, ?_, by omega, hcm, .inr ⟨b, o, rfl, hvs⟩⟩
          rw [hl]

set_option maxRecDepth 100000 in
/-- A value that came in. -/
theorem open_value {v : Value} {d : DataW H} {p : List MemPlace} {base : Nat} (hv : Value.okWide Tryz.prog W .any base 25 v) (h : DataW.Trod enc Tryz.prog W 0 (fun _ => true) true 25 v d p) : ∃ (x : Array Value) (u : V), v = .agg x ∧ VIn W u x := by
  obtain ⟨x, rfl, _⟩ := okWide_struct Tryz.underlying25 hv
  obtain ⟨fuel, hf⟩ := h
  obtain ⟨u, hu⟩ := open_v fuel _ _ hf
  have e : (Value.agg x).cells.toList.toArray = x := Array.toArray_toList
  rw [e] at hu
  exact ⟨x, u, rfl, hu⟩

theorem nat_u8 {n : Int} (h : (Lit.int .u8 n).wf = true) : ∃ x : Nat, x < 256 ∧ n = (x : Int) := by
  have := wf_u8 h
  exact ⟨n.toNat, by omega, by omega⟩
end
end Go.Proofs.YtpjadeihackkpaaGreatDoor

/- What the listed package-level variables give the walks, and how a statement over them is lifted. -/
namespace Go.Proofs.YtpjadeihackkpaaGreatDoor
open Go.RowKit

def deBruijn64 : List Int := [0, 1, 56, 2, 57, 49, 28, 3, 61, 58, 42, 50, 38, 29, 17, 4, 62, 47, 59, 36, 45, 43, 51, 22, 53, 39, 33, 30, 24, 18, 12, 5, 63, 55, 48, 27, 60, 41, 37, 16, 46, 35, 44, 21, 52, 32, 23, 11, 54, 26, 40, 15, 34, 20, 31, 10, 25, 14, 19, 9, 13, 8, 7, 6]

theorem gTab : Tryz.prog.globalNamed "math/bits.deBruijn64tab" = some 6 := by kernel_rfl

theorem tab_of_laid {d : DataW Unit} {rest : List (String × DataW Unit)} {W : World} (h : laidMet Tryz.prog (("math/bits.deBruijn32tab", d) :: ("math/bits.deBruijn64tab", Lib.tabData .u8 deBruijn64) :: rest) W) : Tab16 W :=
  Lib.TabIs.cell (Lib.tabIs_of_head gTab (by kernel_rfl : (Tryz.prog.globals[6]?).map (·.type) = some 169) Tryz.underlying169 Tryz.underlying5 (by kernel_rfl) (by kernel_rfl) (laidMet.tail h)) gTab 15 (by decide)
end Go.Proofs.YtpjadeihackkpaaGreatDoor

/- What the listed variables of the library's errors give the walks. -/
namespace Go.Proofs.YtpjadeihackkpaaGreatDoor
open Go.RowKit

theorem star : "*" ++ "errors.errorString" = "*errors.errorString" := by decide
theorem rowE (u : TypeId) (h : Tryz.prog.typeName? 3 u = some "*errors.errorString") : u = 157 :=
  typeName_ptr_named (nm := "errors.errorString") (by rw [star]; kernel_rfl) (by kernel_rfl) (by decide) u (by rw [star]; exact h)
theorem gSyn : Tryz.prog.globalNamed "strconv.ErrSyntax" = some 2 := by kernel_rfl
theorem gRan : Tryz.prog.globalNamed "strconv.ErrRange" = some 3 := by kernel_rfl

theorem errs_of_laid {d1 d2 d3 : String × DataW Unit} {x y : List UInt8} {rest : List (String × DataW Unit)} {W : World}
    (h : laidMet Tryz.prog (d1 :: d2 :: d3 :: ("strconv.ErrRange", .iface "*errors.errorString" (.ptr (.agg [.lit (.string x)]))) :: ("strconv.ErrSyntax", .iface "*errors.errorString" (.ptr (.agg [.lit (.string y)]))) :: rest) W) : Errs W := by
  have h1 := h.tail.tail.tail
  obtain ⟨a, _, v, _, _, _⟩ := laid_sentinel h1 gRan (by kernel_rfl : (Tryz.prog.globals[3]?).map (·.type) = some 104) Tryz.underlying104 rowE Tryz.underlying157 Tryz.underlying159 rfl rfl Tryz.underlying9 (by kernel_rfl) (by kernel_rfl)
  obtain ⟨a', _, v', _, _, _⟩ := laid_sentinel h1.tail gSyn (by kernel_rfl : (Tryz.prog.globals[2]?).map (·.type) = some 104) Tryz.underlying104 rowE Tryz.underlying157 Tryz.underlying159 rfl rfl Tryz.underlying9 (by kernel_rfl) (by kernel_rfl)
  have c := World.var?_cell gRan v 0
  have c' := World.var?_cell gSyn v' 0
  exact ⟨⟨_, _, by simpa using c'⟩, ⟨_, _, by simpa using c⟩⟩
end Go.Proofs.YtpjadeihackkpaaGreatDoor

/- What the listed table of powers of ten gives the walks. -/
namespace Go.Proofs.YtpjadeihackkpaaGreatDoor
open Go.RowKit

theorem gPow : Tryz.prog.globalNamed "internal/strconv.uint64pow10" = some 4 := by kernel_rfl

theorem pow10_of_laid {d1 d2 : String × DataW Unit} {rest : List (String × DataW Unit)} {W : World} (h : laidMet Tryz.prog (d1 :: d2 :: ("internal/strconv.uint64pow10", Lib.tabData .u64 Lib.pow10Tab) :: rest) W) : Pow10 W :=
  Lib.tabIs_of_head gPow (by kernel_rfl : (Tryz.prog.globals[4]?).map (·.type) = some 161) Tryz.underlying161 Tryz.underlying45 (by kernel_rfl) (by kernel_rfl) (laidMet.tail (laidMet.tail h))
end Go.Proofs.YtpjadeihackkpaaGreatDoor

