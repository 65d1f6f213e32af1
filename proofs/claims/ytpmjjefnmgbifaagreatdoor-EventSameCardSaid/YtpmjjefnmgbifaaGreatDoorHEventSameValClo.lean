/- The walk of the reference's Clone. -/
import Derived.Test.YtpmjjefnmgbifaaGreatDoorHEventSameValO
import Derived.Deep.RegionLaw
import Derived.Deep.AppendLies
namespace Go.Proofs.YtpmjjefnmgbifaaGreatDoor
open Go.RowKit Fl

theorem info_value : (Tryz.prog.info? 26).map (fun i => (i.zero, i.size, i.bytes)) = some (some (.agg #[.int .i64 0, .int .i64 0, .float .f64 0, .string ⟨#[]⟩, .slice none 0 0]), 5, 64) := by kernel_rfl

theorem bulkL_mem : ∀ {l : List V} {u : V}, u ∈ l → bulkV u ≤ bulkL l
  | v :: r, u, h => by
    rw [bulkL]
    rcases List.mem_cons.1 h with e | e
    · rw [e]; omega
    · have := bulkL_mem e; omega

theorem bulk_pos (v : V) : 1 ≤ bulkV v := by
  obtain ⟨k, n, f, s, l⟩ := v
  rw [bulkV]; omega

theorem bulkL_len : ∀ l : List V, l.length ≤ bulkL l
  | [] => by simp [bulkL]
  | v :: r => by
    rw [bulkL, List.length_cons]
    have := bulkL_len r
    have := bulk_pos v
    omega

theorem OwnVs.keep {w w' : World} {base : Nat} {v : Value} {l : List V} (h : OwnVs w base v l) (hb : ∀ b, base ≤ b → b < w.heap.size → w'.heap[b]? = w.heap[b]?) (hs : w.heap.size ≤ w'.heap.size) : OwnVs w' base v l := by
  obtain ⟨cs, hlen, ⟨hx, hrow⟩, hel⟩ := h
  refine ⟨cs, hlen, ⟨hx, ?_⟩, fun i x u hi hu => VInP.turn (fun b hq => ⟨hq.1, hq.2.1, by omega⟩) (fun p hp => ?_) u x (hel i x u hi hu)⟩
  · rcases hrow with hn | ⟨g, cap, cur, e, hbg, hg, rest⟩
    · exact .inl hn
    · exact .inr ⟨g, cap, cur, e, hbg, (hb g hbg (Array.getElem?_eq_some_iff.1 hg).1).trans hg, rest⟩
  · unfold World.cell?
    rw [hb p.block hp.1 hp.2.2]

theorem OwnVs.block {w : World} {base : Nat} {v : Value} {l : List V} (h : OwnVs w base v l) {g : Nat} (hg : v.ownBlock = some g) : base ≤ g ∧ g < w.heap.size := by
  obtain ⟨cs, hlen, ⟨hx, hrow⟩, hel⟩ := h
  rcases hrow with ⟨e, _⟩ | ⟨g', cap, cur, e, hbg, hg', rest⟩
  · rw [e] at hg
    cases hg
  · rw [e] at hg
    have e2 : g' = g := Option.some.inj hg
    rw [← e2]
    exact ⟨hbg, (Array.getElem?_eq_some_iff.1 hg').1⟩

/-- The three blocks of a call of Clone: its argument, its result, the value that it fills. -/
structure CloH (w wr : World) (k n : Int) (f : Nat) (s : List Nat) (a : Option Addr) (m cap : Nat) (acc : Value) : Prop where
  box : wr.heap[w.heap.size]? = some (.cells #[.int .i64 k, .int .i64 n, .float .f64 f, .string (str s), .slice a m cap] 26 (0, 0))
  res : wr.heap[w.heap.size + 1]? = some (.cells #[.int .i64 0, .int .i64 0, .float .f64 0, .string ⟨#[]⟩, .slice none 0 0] 26 (0, 0))
  out : wr.heap[w.heap.size + 2]? = some (.cells #[.int .i64 k, .int .i64 n, .float .f64 f, .string (str s), acc] 26 (0, 0))
  below : Below w.heap.size w wr

theorem CloH.size {w wr : World} {k n : Int} {f : Nat} {s : List Nat} {a : Option Addr} {m cap : Nat} {acc : Value} (h : CloH w wr k n f s a m cap acc) : w.heap.size + 3 ≤ wr.heap.size := by
  have := (Array.getElem?_eq_some_iff.1 h.out).1
  omega

theorem CloH.go {w wr w' : World} {k n : Int} {f : Nat} {s : List Nat} {a : Option Addr} {m cap : Nat} {acc : Value} (h : CloH w wr k n f s a m cap acc) (hb : Below wr.heap.size wr w') : CloH w w' k n f s a m cap acc := by
  have hs := h.size
  exact ⟨(hb.block _ (by omega)).trans h.box, (hb.block _ (by omega)).trans h.res, (hb.block _ (by omega)).trans h.out, h.below.trans (hb.mono (by omega))⟩

theorem CloH.grown {w wr w' : World} {k n : Int} {f : Nat} {s : List Nat} {a : Option Addr} {m cap : Nat} {acc : Value} (h : CloH w wr k n f s a m cap acc) (hg : wr.grownBy w' acc.ownBlock) (hb : ∀ g, acc.ownBlock = some g → w.heap.size + 3 ≤ g) : CloH w w' k n f s a m cap acc := by
  have hs := h.size
  have hne : ∀ g, g < w.heap.size + 3 → some g ≠ acc.ownBlock := fun g hg e => by have := hb g e.symm; omega
  exact ⟨(hg.block _ (by omega) (hne _ (by omega))).trans h.box, (hg.block _ (by omega) (hne _ (by omega))).trans h.res, (hg.block _ (by omega) (hne _ (by omega))).trans h.out, h.below.grown hg (by omega) (fun g e => by have := hb g e; omega)⟩

theorem CloH.store {w wr : World} {k n : Int} {f : Nat} {s : List Nat} {a : Option Addr} {m cap : Nat} {acc : Value} (h : CloH w wr k n f s a m cap acc) (acc' : Value) : CloH w (wr.setCell ⟨w.heap.size + 2, 4, none⟩ acc') k n f s a m cap acc' := by
  refine ⟨(Below.heap_setCell _ _ _ _ (by simp)).trans h.box, (Below.heap_setCell _ _ _ _ (by simp)).trans h.res, ?_, h.below.setCell (by simp) _⟩
  simp [World.setCell, Array.getElem?_modify, h.out]

theorem CloH.cells {w wr : World} {k n : Int} {f : Nat} {s : List Nat} {a : Option Addr} {m cap : Nat} {acc : Value} (h : CloH w wr k n f s a m cap acc) :
    wr.cell? ⟨w.heap.size, 4, none⟩ = some (.slice a m cap) ∧ wr.cell? ⟨w.heap.size + 2, 4, none⟩ = some acc ∧ wr.frozen? ⟨w.heap.size + 2, 4, none⟩ = false := by
  refine ⟨?_, ?_, ?_⟩
  · rw [cell_of_row _ _ _ _ _ _ h.box]; rfl
  · rw [cell_of_row _ _ _ _ _ _ h.out]; rfl
  · simp [World.frozen?, h.out]

theorem CloH.all {w wr : World} {k n : Int} {f : Nat} {s : List Nat} {a : Option Addr} {m cap : Nat} {acc : Value} (h : CloH w wr k n f s a m cap acc) :
    (wr.cell? ⟨w.heap.size + 2, 0, none⟩ = some (.int .i64 k) ∧ wr.cell? ⟨w.heap.size + 2, 1, none⟩ = some (.int .i64 n) ∧ wr.cell? ⟨w.heap.size + 2, 2, none⟩ = some (.float .f64 f) ∧ wr.cell? ⟨w.heap.size + 2, 3, none⟩ = some (.string (str s))) ∧
    (wr.cell? ⟨w.heap.size + 1, 0, none⟩ = some (.int .i64 0) ∧ wr.cell? ⟨w.heap.size + 1, 1, none⟩ = some (.int .i64 0) ∧ wr.cell? ⟨w.heap.size + 1, 2, none⟩ = some (.float .f64 0) ∧ wr.cell? ⟨w.heap.size + 1, 3, none⟩ = some (.string ⟨#[]⟩) ∧ wr.cell? ⟨w.heap.size + 1, 4, none⟩ = some (.slice none 0 0)) ∧
    (∀ j, wr.frozen? ⟨w.heap.size + 1, j, none⟩ = false) := by
  refine ⟨⟨?_, ?_, ?_, ?_⟩, ⟨?_, ?_, ?_, ?_, ?_⟩, fun j => ?_⟩
  · rw [cell_of_row _ _ _ _ _ _ h.out]; rfl
  · rw [cell_of_row _ _ _ _ _ _ h.out]; rfl
  · rw [cell_of_row _ _ _ _ _ _ h.out]; rfl
  · rw [cell_of_row _ _ _ _ _ _ h.out]; rfl
  · rw [cell_of_row _ _ _ _ _ _ h.res]; rfl
  · rw [cell_of_row _ _ _ _ _ _ h.res]; rfl
  · rw [cell_of_row _ _ _ _ _ _ h.res]; rfl
  · rw [cell_of_row _ _ _ _ _ _ h.res]; rfl
  · rw [cell_of_row _ _ _ _ _ _ h.res]; rfl
  · simp [World.frozen?, h.res]

/-- The value that the call fills, at its end. -/
theorem vin_done {base : Nat} {k n : Int} {f : Nat} {s : List Nat} {l : List V} {acc : Value} {wr w' : World} (hk : -9223372036854775808 ≤ k ∧ k ≤ 9223372036854775807) (hn : -9223372036854775808 ≤ n ∧ n ≤ 9223372036854775807)
    (hf : f < 18446744073709551616) (hs : ∀ c ∈ s, c < 256) (hss : s.length ≤ 9223372036854775807) (hO : OwnVs wr (base + 3) acc l) (hw : ∀ b, base + 3 ≤ b → b < wr.heap.size → w'.heap[b]? = wr.heap[b]?) (hz : wr.heap.size ≤ w'.heap.size) :
    VInP (fun b => base ≤ b ∧ b < w'.heap.size) w' (V.mk k n f s l) #[.int .i64 k, .int .i64 n, .float .f64 f, .string (str s), acc] := by
  obtain ⟨a, cap, rfl, hcap, hmax, hl⟩ := (hO.keep hw hz).lies
  rw [VInP]
  refine ⟨hk, hn, hf, hs, hss, a, cap, rfl, hcap, hmax, ?_⟩
  rcases hl with hl | ⟨g, ha, hg, hv⟩
  · exact .inl hl
  · exact .inr ⟨g, 0, ha, ⟨by omega, hg.2⟩, VsInP.turn (fun b hb => ⟨by omega, hb.2⟩) (fun _ _ => rfl) l g 0 hg hv⟩

theorem VInP.parts5 {q : Nat → Prop} {w : World} {v : V} {x : Array Value} (h : VInP q w v x) : ∃ a cap, x = #[.int .i64 v.kind, .int .i64 v.n, .float .f64 v.f, .string (str v.s), .slice a v.l.length cap] := by
  obtain ⟨_, _, _, _, _, a, cap, e, _⟩ := (VInP.weak v x h).parts
  exact ⟨a, cap, e⟩

end Go.Proofs.YtpmjjefnmgbifaaGreatDoor
