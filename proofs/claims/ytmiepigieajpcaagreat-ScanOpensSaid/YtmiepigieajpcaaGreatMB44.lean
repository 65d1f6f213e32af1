import Derived.Test.YtmiepigieajpcaaGreatMB9
import Derived.Test.YtmiepigieajpcaaGreatMB7
import Derived.Test.YtmiepigieajpcaaGreatMB34
import Derived.Test.YtmiepigieajpcaaGreatMB38
import Derived.Test.YtmiepigieajpcaaGreatMB39
import Derived.Test.YtmiepigieajpcaaGreatMB41
import Derived.Test.YtmiepigieajpcaaGreatMB40
import Derived.Test.YtmiepigieajpcaaGreatMB42
import Derived.Test.YtmiepigieajpcaaGreatMB43
/- A byte that came in. -/
namespace Go.Proofs.YtmiepigieajpcaaGreat
open Go.ChangeShapes Go.WideShapes Go.ChangeAt Go.RowKit Go.Deep

theorem nat_u8 {n : Int} (h : (Lit.int .u8 n).wf = true) : ∃ x : Nat, x < 256 ∧ n = (x : Int) := by
  have := wf_u8 h
  exact ⟨n.toNat, by omega, by omega⟩
end Go.Proofs.YtmiepigieajpcaaGreat

/- Byte slices that came in, with the address of those that have room. -/
namespace Go.Proofs.YtmiepigieajpcaaGreat
open Go.ChangeShapes Go.WideShapes Go.ChangeAt Go.RowKit Go.Deep

section
variable {H : Type} {enc : TypeId × Value → H} {P : Program}

theorem open_bytesF {W : World} {t e : TypeId} {v : Value} {d : DataW H} {p : List MemPlace} (ht : P.underlying t = some (.slice e)) (he : P.underlying e = some (.int .u8)) (ce : P.cellsOf e = 1)
    {base : Nat} (hv : Value.okWide P W .any base t v) (h : DataW.Trod enc P W 0 (fun _ => true) true t v d p) : ∃ a n cap l, v = .slice a n cap ∧ Bytes W a n cap l ∧ Formed a cap := by
  obtain ⟨a0, len, cap, rfl⟩ := okWide_slice ht hv
  obtain ⟨fuel, hf⟩ := h
  rcases open_ints ht he ce hf with ⟨hcs, _⟩ | ⟨a, len', cap', zs, hcs, _, hl, hm, hz, _, hcell, hw⟩
  · simp [Value.cells] at hcs
    obtain ⟨rfl, rfl, rfl⟩ := hcs
    exact ⟨none, 0, 0, [], rfl, ⟨rfl, Nat.le_refl _, by omega, by simp, fun _ => rfl, fun h => absurd h (Nat.lt_irrefl _)⟩, formed_none 0 rfl⟩
  · simp [Value.cells] at hcs
    obtain ⟨rfl, rfl, rfl⟩ := hcs
    simp only [if_true] at hz
    refine ⟨some a, len, cap, _, rfl, bytes_of_ints (zs := zs) hl hm hz (fun h => by cases h) (fun a' ha' c hc => ?_) hw, fun h0 => ?_⟩
    · cases ha'
      exact hcell c (by omega)
    · obtain ⟨b, o, spot⟩ := a
      have hspot : spot = none := by simpa [Addr.add] using World.cell?_spot (hcell 0 (by omega))
      subst hspot
      exact ⟨b, o, rfl⟩
end
end Go.Proofs.YtmiepigieajpcaaGreat

/- All that the statements of layer 8 stand on. -/

