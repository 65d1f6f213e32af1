import Derived.Test.YtjoolocdejnohaaGreatSSB9
import Derived.Test.YtjoolocdejnohaaGreatSSB1
import Derived.Test.YtjoolocdejnohaaGreatSSB7
import Derived.OpenShut
/- slices.Equal of two rows that hold the same strings. -/
namespace Go.Proofs.YtjoolocdejnohaaGreat
open Go.RowKit Go.Maps Go.Shelf

/-- The strings ss lie at the start of a slice's value. -/
structure StrsQ (w : World) (p : Option Addr) (n c : Nat) (ss : List (List UInt8)) : Prop where
  len : ss.length = n
  le : n ≤ c
  max : c ≤ 9223372036854775807
  cell : 0 < n → ∃ b o, p = some ⟨b, o, none⟩ ∧ ∀ i (hi : i < ss.length), w.cell? ⟨b, o + i, none⟩ = some (.string ⟨ss[i].toArray⟩)

theorem StrsQ.grow {w w' : World} {p : Option Addr} {n c : Nat} {ss : List (List UInt8)} (h : StrsQ w p n c ss) (hb : Below w.heap.size w w') : StrsQ w' p n c ss :=
  ⟨h.len, h.le, h.max, fun hn => by
    obtain ⟨b, o, e, hc⟩ := h.cell hn
    exact ⟨b, o, e, fun i hi => cell_keep hb (hc i hi)⟩⟩

theorem strsQ_of_own {w : World} {base : Nat} {e : TypeId} {v : Value} {m : Nat} {ss : List (List UInt8)} (h : w.ownsRow base e 1 v m (ss.map encStr)) : ∃ p c, v = .slice p m c ∧ StrsQ w p m c ss := by
  have hlen : ss.length = m := by have := h.1; simpa using this
  rcases h.2 with ⟨rfl, rfl⟩ | ⟨g, cap', cur, rfl, _, hg, hle, hcm, hsz, htake⟩
  · exact ⟨none, 0, rfl, hlen, Nat.le_refl _, by omega, fun h => absurd h (Nat.lt_irrefl _)⟩
  · refine ⟨_, cap', rfl, hlen, hle, hcm, fun _ => ⟨g, 0, rfl, fun i hi => ?_⟩⟩
    rw [Nat.zero_add, cell_of_row w g i cur e (0, 0) hg]
    have e1 : (ss.map encStr)[i]? = some (.string ⟨ss[i].toArray⟩) := by
      rw [List.getElem?_map, List.getElem?_eq_getElem hi]; rfl
    rw [← htake, List.getElem?_take, if_pos (by omega)] at e1
    simpa using e1

set_option maxHeartbeats 800000 in
theorem sequal_any (a a' : Option Addr) (n cap cap' : Nat) (ss : List (List UInt8)) (w : World) (hl : StrsQ w a n cap ss) (hl' : StrsQ w a' n cap' ss) :
    Calls Tryz.prog 40 #[.slice a n cap, .slice a' n cap'] w fun e w' => e = .returned (.bool true) ∧ Below w.heap.size w w' := by
  have hnm : n ≤ 9223372036854775807 := Nat.le_trans hl.le hl.max
  have hB := Lib.hid hl
  have hB' := Lib.hid hl'
  clear hl hl'
  have hq : ((n : Int) != (n : Int)) = false := by simp
  go_enter Tryz.func40, Tryz.ntmps40
  go_wp2
  go_loopw [13] (fun i wr => ∃ k : Nat, k ≤ n ∧ i = .int .i64 k ∧ Below w.heap.size w wr) (fun i _ => n - (intOf i).toNat)
  case atStart => exact ⟨0, Nat.zero_le _, rfl, Below.refl _ _⟩
  case round =>
    obtain ⟨k, hk, rfl, hbel⟩ := hrel
    by_cases hlt : k < n
    · obtain ⟨b, o, rfl, hc0⟩ := (hB.out.grow hbel).cell (by omega)
      obtain ⟨b', o', rfl, hc0'⟩ := (hB'.out.grow hbel).cell (by omega)
      have hc := hc0 k (by rw [hB.out.len]; exact hlt)
      have hc' := hc0' k (by rw [hB.out.len]; exact hlt)
      clear hc0 hc0'
      have hks : k < ss.length := by rw [hB.out.len]; exact hlt
      obtain ⟨y, hy⟩ : ∃ y : ByteArray, y = ⟨ss[k].toArray⟩ := ⟨_, rfl⟩
      rw [← hy] at hc hc'
      clear hy
      go_wp2
      go_quiet (fail)
      go_wp2
      go_roundw
      case rel => exact ⟨k + 1, by omega, by go_num, below_drewN hbel _⟩
      case measure => simp [intOf]; omega
    · obtain rfl : k = n := by omega
      go_wp2
      go_ret
      exact ⟨rfl, hbel⟩
end Go.Proofs.YtjoolocdejnohaaGreat

/- Two numbers of 16 bits that came in as an array. -/
namespace Go.Proofs.YtjoolocdejnohaaGreat
open Go.ChangeShapes Go.WideShapes Go.ChangeAt Go.RowKit Go.Deep

section
variable {H : Type} {enc : TypeId × Value → H} {W : World}

theorem cells_u1 : Tryz.prog.cellsOf 69 = 1 := by kernel_rfl
theorem cells_uu2 : Tryz.prog.cellsOf 70 = 2 := by kernel_rfl

set_option maxRecDepth 100000 in
theorem open_pairu {v : Value} {d : DataW H} {p : List MemPlace} {base : Nat} (hv : Value.okWide Tryz.prog W .any base 70 v) (h : DataW.Trod enc Tryz.prog W 0 (fun _ => true) true 70 v d p) :
    ∃ a b : Int, v = .agg #[.int .u16 a, .int .u16 b] ∧ (Lit.int .u16 a).wf = true ∧ (Lit.int .u16 b).wf = true := by
  have hv' : ∃ cs, v = .agg cs ∧ cs.size = 2 := by
    simp only [Value.okWide, Tryz.underlying70] at hv
    obtain ⟨cs, h1, h2, _⟩ := hv
    rw [cells_uu2] at h2
    exact ⟨cs, h1, h2⟩
  obtain ⟨cs, rfl, hsz⟩ := hv'
  obtain ⟨fuel, hf⟩ := h
  obtain ⟨xs, m, rfl, _, _, hxl, hfs⟩ := DataW.trod_array Tryz.underlying70 hf
  match xs, hxl with
  | [y0, y1], _ =>
    have g0 := hfs 0 (by omega)
    have g1 := hfs 1 (by omega)
    rw [cells_u1] at g0 g1
    simp only [List.getElem?_cons_zero, List.getElem?_cons_succ] at g0 g1
    obtain ⟨a, e0, _, ha⟩ := DataW.trod_int Tryz.underlying69 g0
    obtain ⟨b, e1, _, hb⟩ := DataW.trod_int Tryz.underlying69 g1
    refine ⟨a, b, ?_, ha, hb⟩
    congr 1
    obtain ⟨l⟩ := cs
    simp at hsz
    match l, hsz with
    | [u0, u1], _ =>
      simp [Value.cells] at e0 e1
      rw [e0, e1]
end
end Go.Proofs.YtjoolocdejnohaaGreat

/- A byte that came in. -/
namespace Go.Proofs.YtjoolocdejnohaaGreat
open Go.ChangeShapes Go.WideShapes Go.ChangeAt Go.RowKit Go.Deep

theorem nat_u8 {n : Int} (h : (Lit.int .u8 n).wf = true) : ∃ x : Nat, x < 256 ∧ n = (x : Int) := by
  have := wf_u8 h
  exact ⟨n.toNat, by omega, by omega⟩
end Go.Proofs.YtjoolocdejnohaaGreat

