import Derived.Test.YtcapbaocchaenaaGreatDoorSG31
import Derived.Test.YtcapbaocchaenaaGreatDoorSG26
import Derived.Test.YtcapbaocchaenaaGreatDoorSG13
import Derived.Test.YtcapbaocchaenaaGreatDoorSG29
import Derived.Test.YtcapbaocchaenaaGreatDoorSG17
/- The walks of the readers of events' fields. -/
namespace Go.Proofs.YtcapbaocchaenaaGreatDoor
open Go.RowKit Go.Shelf Fl
attribute [local go_sem] run_store_func run_store_nilFunc

/-- Nothing but the blocks g and E, and new ones, has turned. -/
def TwoG (w w' : World) (g E : Nat) : Prop := w'.os = w.os ∧ w'.tape = w.tape ∧ w'.output = w.output ∧ w.heap.size ≤ w'.heap.size ∧ ∀ i, i < w.heap.size → i ≠ g → i ≠ E → w'.heap[i]? = w.heap[i]?

/-- Where the two captured variables of the readers lie, and what they point to. -/
structure Boxes (w : World) (A B g E : Nat) : Prop where
  a : w.heap[A]? = some (.cells #[.pointer (some ⟨g, 0, none⟩)] 63 (0, 0))
  b : w.heap[B]? = some (.cells #[.pointer (some ⟨E, 0, none⟩)] 110 (0, 0))

theorem Boxes.below {w w' : World} {A B g E : Nat} (h : Boxes w A B g E) (hb : Below w.heap.size w w') : Boxes w' A B g E :=
  ⟨(hb.block _ (Array.getElem?_eq_some_iff.1 h.a).1).trans h.a, (hb.block _ (Array.getElem?_eq_some_iff.1 h.b).1).trans h.b⟩
theorem froz {w : World} {E : Nat} {cs : Array Value} {t : TypeId} (h : w.heap[E]? = some (.cells cs t (0, 0))) (i : Nat) : w.frozen? ⟨E, i, none⟩ = false := by simp [World.frozen?, h]
theorem TwoG.below {w w1 w2 : World} {g E : Nat} (h : TwoG w w1 g E) (k : Below w1.heap.size w1 w2) : TwoG w w2 g E := by
  obtain ⟨a1, a2, a3, a4, a5⟩ := h
  exact ⟨k.os.trans a1, k.tape.trans a2, k.output.trans a3, Nat.le_trans a4 k.size, fun i hi hg hE => (k.block i (Nat.lt_of_lt_of_le hi a4)).trans (a5 i hi hg hE)⟩
end Go.Proofs.YtcapbaocchaenaaGreatDoor

/- Events whose values lie in blocks that a predicate allows; rows of events of a call's own, and how they grow. -/
namespace Go.Proofs.YtcapbaocchaenaaGreatDoor
open Go.RowKit Fl

/-- The cells x hold the event e; the rows of its value's lists lie in blocks that q allows. -/
def EvInP (q : Nat → Prop) (w : World) (e : Ev) (x : Array Value) : Prop :=
  (-9223372036854775808 ≤ e.k ∧ e.k ≤ 9223372036854775807) ∧ e.id < 18446744073709551616 ∧ (-9223372036854775808 ≤ e.n ∧ e.n ≤ 9223372036854775807) ∧ e.t < 18446744073709551616 ∧
  ((∀ c ∈ e.nm, c < 256) ∧ e.nm.length ≤ 9223372036854775807) ∧ ((∀ c ∈ e.tx, c < 256) ∧ e.tx.length ≤ 9223372036854775807) ∧
  ∃ a cap, x = evC e.k e.id e.n e.t e.nm e.tx e.v.kind e.v.n e.v.f e.v.s a e.v.l.length cap ∧ VInP q w e.v (cells5 e.v.kind e.v.n e.v.f e.v.s a e.v.l.length cap)

theorem EvInP.weak {q : Nat → Prop} {w : World} {e : Ev} {x : Array Value} (h : EvInP q w e x) : EvIn w e x := by
  obtain ⟨h1, h2, h3, h4, h5, h6, a, cap, h7, h8⟩ := h
  exact ⟨h1, h2, h3, h4, h5, h6, a, cap, h7, h8.weak⟩

theorem EvInP.turn {q q' : Nat → Prop} {w w' : World} (hq : ∀ b, q b → q' b) (hw : ∀ b, q b → w'.heap[b]? = w.heap[b]?) {e : Ev} {x : Array Value} (h : EvInP q w e x) : EvInP q' w' e x := by
  obtain ⟨h1, h2, h3, h4, h5, h6, a, cap, h7, h8⟩ := h
  exact ⟨h1, h2, h3, h4, h5, h6, a, cap, h7, VInP.turn hq (fun p hp => by unfold World.cell?; rw [hw p.block hp]) _ _ h8⟩

theorem EvInP.size {q : Nat → Prop} {w : World} {e : Ev} {x : Array Value} (h : EvInP q w e x) : x.size = 11 := by
  obtain ⟨_, _, _, _, _, _, a, cap, rfl, _⟩ := h
  rfl

/-- A list of events of the call's own: its row, and its values' rows in other blocks, of which Q holds. -/
def OwnEs (Q : Nat → Prop) (w : World) (base : Nat) (v : Value) (l : List Ev) : Prop :=
  ∃ cs : List (Array Value), cs.length = l.length ∧ w.ownsRow base 45 11 v l.length (cs.flatMap Array.toList) ∧
    ∀ (i : Nat) (x : Array Value) (u : Ev), cs[i]? = some x → l[i]? = some u → EvInP (fun b => (Q b ∧ some b ≠ v.ownBlock) ∧ b < w.heap.size) w u x

theorem OwnEs.nil (Q : Nat → Prop) (w : World) (base : Nat) : OwnEs Q w base (.slice none 0 0) [] := ⟨[], rfl, ⟨rfl, .inl ⟨rfl, rfl⟩⟩, fun i x u h => by simp at h⟩

theorem OwnEs.snoc {Q : Nat → Prop} {w w' : World} {base : Nat} {v v' : Value} {l : List Ev} {cs : List (Array Value)} {u : Ev} {x : Array Value} (hlen : cs.length = l.length)
    (hel : ∀ (i : Nat) (x : Array Value) (u : Ev), cs[i]? = some x → l[i]? = some u → EvInP (fun b => (Q b ∧ some b ≠ v.ownBlock) ∧ b < w.heap.size) w u x)
    (hu : EvInP (fun b => (Q b ∧ some b ≠ v.ownBlock) ∧ b < w.heap.size) w u x) (hown : w'.ownsRow base 45 11 v' (l.length + 1) (cs.flatMap Array.toList ++ x.toList))
    (hg : w.grownBy w' v.ownBlock) (hb : v'.ownBlock = v.ownBlock ∨ v'.ownBlock = some w.heap.size) : OwnEs Q w' base v' (l ++ [u]) := by
  have hs : w.heap.size ≤ w'.heap.size := hg.size
  have hturn : ∀ (y : Array Value) (z : Ev), EvInP (fun b => (Q b ∧ some b ≠ v.ownBlock) ∧ b < w.heap.size) w z y → EvInP (fun b => (Q b ∧ some b ≠ v'.ownBlock) ∧ b < w'.heap.size) w' z y := by
    intro y z hz
    refine hz.turn (fun b hb1 => ⟨⟨hb1.1.1, ?_⟩, by omega⟩) (fun b hb1 => hg.block b hb1.2 hb1.1.2)
    rcases hb with e | e
    · rw [e]; exact hb1.1.2
    · rw [e]
      intro e2
      have e3 : b = w.heap.size := Option.some.inj e2
      omega
  refine ⟨cs ++ [x], by rw [List.length_append, List.length_append, hlen]; rfl, ?_, fun i y z hy hz => ?_⟩
  · rw [List.length_append, List.flatMap_append]
    simpa using hown
  · rcases Nat.lt_or_ge i cs.length with hi | hi
    · rw [List.getElem?_append_left hi] at hy
      rw [List.getElem?_append_left (by omega)] at hz
      exact hturn y z (hel i y z hy hz)
    · rw [List.getElem?_append_right hi] at hy
      rw [List.getElem?_append_right (by omega), ← hlen] at hz
      cases hk : i - cs.length with
      | zero =>
        rw [hk] at hy hz
        simp at hy hz
        subst hy
        subst hz
        exact hturn x u hu
      | succ m => rw [hk] at hy; simp at hy

theorem OwnEs.keep {Q : Nat → Prop} {w w' : World} {base : Nat} {v : Value} {l : List Ev} (h : OwnEs Q w base v l) (hb : ∀ b, base ≤ b ∨ Q b → b < w.heap.size → w'.heap[b]? = w.heap[b]?) (hs : w.heap.size ≤ w'.heap.size) : OwnEs Q w' base v l := by
  obtain ⟨cs, hlen, ⟨hx, hrow⟩, hel⟩ := h
  refine ⟨cs, hlen, ⟨hx, ?_⟩, fun i x u hi hu => (hel i x u hi hu).turn (fun b hq => ⟨hq.1, by omega⟩) (fun b hq => hb b (.inr hq.1.1) hq.2)⟩
  rcases hrow with hn | ⟨g, cap, cur, e, hbg, hg, rest⟩
  · exact .inl hn
  · exact .inr ⟨g, cap, cur, e, hbg, (hb g (.inl hbg) (Array.getElem?_eq_some_iff.1 hg).1).trans hg, rest⟩

theorem OwnEs.below {Q : Nat → Prop} {w w' : World} {base : Nat} {v : Value} {l : List Ev} (h : OwnEs Q w base v l) (hb : Below w.heap.size w w') : OwnEs Q w' base v l := h.keep (fun b _ hlt => hb.block b hlt) hb.size

theorem OwnEs.block {Q : Nat → Prop} {w : World} {base : Nat} {v : Value} {l : List Ev} (h : OwnEs Q w base v l) {g : Nat} (hg : v.ownBlock = some g) : base ≤ g ∧ g < w.heap.size := by
  obtain ⟨cs, hlen, ⟨hx, hrow⟩, hel⟩ := h
  rcases hrow with ⟨e, _⟩ | ⟨g', cap, cur, e, hbg, hg', rest⟩
  · rw [e] at hg
    cases hg
  · rw [e] at hg
    have e2 : g' = g := Option.some.inj hg
    rw [← e2]
    exact ⟨hbg, (Array.getElem?_eq_some_iff.1 hg').1⟩

theorem flat_at11 : ∀ (cs : List (Array Value)), (∀ x ∈ cs, x.size = 11) → ∀ (i : Nat) (x : Array Value), cs[i]? = some x → ∀ j, j < 11 → (cs.flatMap Array.toList)[i * 11 + j]? = x[j]?
  | [], _, i, x, h, _, _ => by simp at h
  | y :: r, hs, i, x, h, j, hj => by
    have hy : y.toList.length = 11 := by rw [Array.length_toList]; exact hs y (by simp)
    rw [List.flatMap_cons]
    cases i with
    | zero =>
      simp at h
      subst h
      rw [List.getElem?_append_left (by omega)]
      simp
    | succ i =>
      have ih := flat_at11 r (fun z hz => hs z (by simp [hz])) i x (by simpa using h) j hj
      rw [List.getElem?_append_right (by omega), hy, show (i + 1) * 11 + j - 11 = i * 11 + j by omega]
      exact ih

/-- A row of the call's own, as events in memory; with the blocks of each one's values. -/
theorem OwnEs.evs {Q : Nat → Prop} {w : World} {base : Nat} {v : Value} {l : List Ev} (h : OwnEs Q w base v l) : ∃ a cap, v = .slice a l.length cap ∧ Evs w a l.length cap l ∧ (l = [] ∨ ∃ g, a = some ⟨g, 0, none⟩ ∧ base ≤ g ∧ g < w.heap.size) := by
  obtain ⟨cs, hlen, ⟨_, hrow⟩, hel⟩ := h
  rcases hrow with ⟨rfl, h0⟩ | ⟨g, cap, cur, rfl, hbg, hg, hle, hcm, hsz, htake⟩
  · have e : l = [] := List.length_eq_zero_iff.1 h0
    subst e
    exact ⟨none, 0, rfl, evs_nil w, .inl rfl⟩
  · have hglt : g < w.heap.size := (Array.getElem?_eq_some_iff.1 hg).1
    refine ⟨_, cap, rfl, ⟨rfl, hle, by rw [maxLen_nat] at hcm; exact hcm, fun _ => ⟨g, 0, rfl, fun i hi => ?_⟩⟩, .inr ⟨g, rfl, hbg, hglt⟩⟩
    have hx : cs[i]? = some (cs[i]'(by omega)) := List.getElem?_eq_getElem (by omega)
    have hsz11 : ∀ x ∈ cs, x.size = 11 := by
      intro x hx
      obtain ⟨k, hk, rfl⟩ := List.getElem_of_mem hx
      exact (hel k _ l[k] (List.getElem?_eq_getElem hk) (List.getElem?_eq_getElem (by omega))).size
    have hv := (hel i _ l[i] hx (List.getElem?_eq_getElem hi)).weak
    have hv2 := hv
    obtain ⟨_, _, _, _, _, _, a, c, e, _⟩ := hv2
    rw [e] at hv hx
    refine ⟨a, c, hv, fun j hj => ?_⟩
    rw [cell_of_row w g _ cur _ _ hg, ← flat_at11 cs hsz11 i _ hx j hj, ← htake, Nat.zero_add, List.getElem?_take, if_pos (by omega), Array.getElem?_toList]
end Go.Proofs.YtcapbaocchaenaaGreatDoor

/- The walk of the code's Read of an event, whatever the bytes. -/
namespace Go.Proofs.YtcapbaocchaenaaGreatDoor
open Go.RowKit Go.Shelf Fl
attribute [local go_sem] run_store_func run_store_nilFunc

/-- Eleven stores into one block. -/
abbrev sets11 (w : World) (E : Nat) (u0 u1 u2 u3 u4 u5 u6 u7 u8 u9 u10 : Value) : World :=
  ((((((((((w.setCell ⟨E, 0, none⟩ u0).setCell ⟨E, 1, none⟩ u1).setCell ⟨E, 2, none⟩ u2).setCell ⟨E, 3, none⟩ u3).setCell ⟨E, 4, none⟩ u4).setCell ⟨E, 5, none⟩ u5).setCell ⟨E, 6, none⟩ u6).setCell ⟨E, 7, none⟩ u7).setCell ⟨E, 8, none⟩ u8).setCell ⟨E, 9, none⟩ u9).setCell ⟨E, 10, none⟩ u10
theorem sets11_at {w : World} {E : Nat} {v0 v1 v2 v3 v4 v5 v6 v7 v8 v9 v10 : Value} {t : TypeId} {m : Nat × Nat} (h : w.heap[E]? = some (.cells #[v0, v1, v2, v3, v4, v5, v6, v7, v8, v9, v10] t m)) (u0 u1 u2 u3 u4 u5 u6 u7 u8 u9 u10 : Value) :
    (sets11 w E u0 u1 u2 u3 u4 u5 u6 u7 u8 u9 u10).heap[E]? = some (.cells #[u0, u1, u2, u3, u4, u5, u6, u7, u8, u9, u10] t m) := by
  have h' := set_headE (i := 10) (set_headE (i := 9) (set_headE (i := 8) (set_headE (i := 7) (set_headE (i := 6) (set_headE (i := 5) (set_headE (i := 4) (set_headE (i := 3) (set_headE (i := 2) (set_headE (i := 1) (set_headE (i := 0) h u0) u1) u2) u3) u4) u5) u6) u7) u8) u9) u10
  simp only [List.setIfInBounds_toArray, List.set_cons_zero, List.set_cons_succ] at h'
  exact h'
theorem sets11_other {w : World} {E j : Nat} (h : j ≠ E) (u0 u1 u2 u3 u4 u5 u6 u7 u8 u9 u10 : Value) : (sets11 w E u0 u1 u2 u3 u4 u5 u6 u7 u8 u9 u10).heap[j]? = w.heap[j]? := by
  simp [World.setCell, Array.getElem?_modify, Ne.symm h]
theorem sets11_below {w0 w : World} {E bs : Nat} (hb : Below bs w0 w) (h : bs ≤ E) (u0 u1 u2 u3 u4 u5 u6 u7 u8 u9 u10 : Value) : Below bs w0 (sets11 w E u0 u1 u2 u3 u4 u5 u6 u7 u8 u9 u10) :=
  ((((((((((hb.setCell (p := ⟨E, 0, none⟩) h u0).setCell (p := ⟨E, 1, none⟩) h u1).setCell (p := ⟨E, 2, none⟩) h u2).setCell (p := ⟨E, 3, none⟩) h u3).setCell (p := ⟨E, 4, none⟩) h u4).setCell (p := ⟨E, 5, none⟩) h u5).setCell (p := ⟨E, 6, none⟩) h u6).setCell (p := ⟨E, 7, none⟩) h u7).setCell (p := ⟨E, 8, none⟩) h u8).setCell (p := ⟨E, 9, none⟩) h u9).setCell (p := ⟨E, 10, none⟩) h u10
/-- All that a store of an event into a box wants. -/
theorem box11z {w : World} {E : Nat} {v0 v1 v2 v3 v4 v5 v6 v7 v8 v9 v10 : Value} {t : TypeId} (h : w.heap[E]? = some (.cells #[v0, v1, v2, v3, v4, v5, v6, v7, v8, v9, v10] t (0, 0))) :
    (w.frozen? ⟨E, 0, none⟩ = false ∧ w.frozen? ⟨E, 1, none⟩ = false ∧ w.frozen? ⟨E, 2, none⟩ = false ∧ w.frozen? ⟨E, 3, none⟩ = false ∧ w.frozen? ⟨E, 4, none⟩ = false ∧ w.frozen? ⟨E, 5, none⟩ = false) ∧ w.frozen? ⟨E, 6, none⟩ = false ∧ w.frozen? ⟨E, 7, none⟩ = false ∧ w.frozen? ⟨E, 8, none⟩ = false ∧ w.frozen? ⟨E, 9, none⟩ = false ∧ w.frozen? ⟨E, 10, none⟩ = false :=
  ⟨⟨froz h 0, froz h 1, froz h 2, froz h 3, froz h 4, froz h 5⟩, froz h 6, froz h 7, froz h 8, froz h 9, froz h 10⟩

end Go.Proofs.YtcapbaocchaenaaGreatDoor

