/- Slices of ints that came in, as lists of integers. -/
import Derived.Test.YtmmiommfbkcebaaLift
namespace Go.Proofs.Ytmmiommfbkcebaa
open Go.ChangeShapes Go.WideShapes Go.ChangeAt Go.RowKit Go.Deep

/-- The ints l lie at the start of a slice's value. -/
structure Nums (w : World) (a : Option Addr) (n cap : Nat) (l : List Int) : Prop where
  len : l.length = n
  le : n ≤ cap
  capmax : cap ≤ 9223372036854775807
  wf : ∀ x ∈ l, -9223372036854775808 ≤ x ∧ x ≤ 9223372036854775807
  cell : 0 < n → ∃ b o, a = some ⟨b, o, none⟩ ∧ ∀ i, i < n → w.cell? ⟨b, o + i, none⟩ = some (.int .i64 (l.getD i 0))

theorem Nums.grow {w w' : World} {a : Option Addr} {n cap : Nat} {l : List Int} (h : Nums w a n cap l) (hw : Below w.heap.size w w') : Nums w' a n cap l := by
  obtain ⟨h1, h2, h3, h4, h6⟩ := h
  refine ⟨h1, h2, h3, h4, fun hn => ?_⟩
  obtain ⟨b, o, rfl, hc⟩ := h6 hn
  exact ⟨b, o, rfl, fun i hi => by rw [hw.cell (p := ⟨b, o + i, none⟩) (World.block_lt_of_cell? _ _ (hc i hi))]; exact hc i hi⟩

theorem Nums.get {w : World} {a : Option Addr} {n cap : Nat} {l : List Int} (h : Nums w a n cap l) {i : Nat} (hi : i < n) : -9223372036854775808 ≤ l.getD i 0 ∧ l.getD i 0 ≤ 9223372036854775807 := by
  have h1 := h.len
  rw [List.getD_eq_getElem?_getD, List.getElem?_eq_getElem (by omega)]
  exact h.wf _ (List.getElem_mem _)

section
variable {H : Type} {enc : TypeId × Value → H} {P : Program}

theorem nums_of_ints {W : World} {A : Option Addr} {len cap : Nat} {zs : List Int} (hl : len ≤ cap) (hm : cap ≤ maxLen) (hz : zs.length = cap)
    (hcell : ∀ a, A = some a → ∀ c, c < cap → W.cell? (a.add c) = some (.int .i64 (zs.getD c 0))) (hnil : A = none → cap = 0) (hw : ∀ n ∈ zs, (Lit.int .i64 n).wf = true) :
    Nums W A len cap (zs.take len) := by
  refine ⟨by simp; omega, hl, hm, fun x hx => wf_i64_of (hw x (List.mem_of_mem_take hx)), fun hn => ?_⟩
  cases A with
  | none => have := hnil rfl; omega
  | some a =>
    obtain ⟨b, o, spot⟩ := a
    have hspot : spot = none := by simpa [Addr.add] using World.cell?_spot (hcell _ rfl 0 (by omega))
    subst hspot
    refine ⟨b, o, rfl, fun i hi => ?_⟩
    have hc := hcell _ rfl i (by omega)
    rw [add_plain] at hc
    rw [hc, List.getD_eq_getElem?_getD, List.getD_eq_getElem?_getD, List.getElem?_take, if_pos hi]

/-- A slice of ints that came in. -/
theorem open_nums {W : World} {t e : TypeId} {v : Value} {d : DataW H} {p : List MemPlace} (ht : P.underlying t = some (.slice e)) (he : P.underlying e = some (.int .i64)) (ce : P.cellsOf e = 1)
    {base : Nat} (hv : Value.okWide P W .any base t v) (h : DataW.Trod enc P W 0 (fun _ => true) true t v d p) : ∃ a n cap l, v = .slice a n cap ∧ Nums W a n cap l := by
  obtain ⟨a0, len, cap, rfl⟩ := okWide_slice ht hv
  obtain ⟨fuel, hf⟩ := h
  rcases open_ints ht he ce hf with ⟨hcs, _⟩ | ⟨a, len', cap', zs, hcs, _, hl, hm, hz, _, hcell, hw⟩
  · simp [Value.cells] at hcs
    obtain ⟨rfl, rfl, rfl⟩ := hcs
    exact ⟨none, 0, 0, [], rfl, rfl, Nat.le_refl _, by omega, by simp, fun h => absurd h (Nat.lt_irrefl _)⟩
  · simp [Value.cells] at hcs
    obtain ⟨rfl, rfl, rfl⟩ := hcs
    simp only [if_true] at hz
    refine ⟨some a, len, cap, _, rfl, nums_of_ints (zs := zs) hl hm hz (fun a' ha' c hc => ?_) (fun h => by cases h) hw⟩
    cases ha'
    exact hcell c (by omega)
end
end Go.Proofs.Ytmmiommfbkcebaa
