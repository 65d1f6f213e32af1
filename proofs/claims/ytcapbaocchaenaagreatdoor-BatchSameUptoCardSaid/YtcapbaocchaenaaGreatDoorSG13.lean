import Derived.Test.YtcapbaocchaenaaGreatDoorSG7
import Derived.Test.YtcapbaocchaenaaGreatDoorSG11
import Derived.Test.YtcapbaocchaenaaGreatDoorSG12
/- Events as plain data; which are valid; the walk of the code's Valid. -/
namespace Go.Proofs.YtcapbaocchaenaaGreatDoor
open Go.RowKit Fl

/-- An event. -/
structure Ev where
  k : Int
  id : Nat
  n : Int
  t : Nat
  nm : List Nat
  tx : List Nat
  v : V

/-- The cells x hold the event e. -/
def EvIn (w : World) (e : Ev) (x : Array Value) : Prop :=
  (-9223372036854775808 ≤ e.k ∧ e.k ≤ 9223372036854775807) ∧ e.id < 18446744073709551616 ∧ (-9223372036854775808 ≤ e.n ∧ e.n ≤ 9223372036854775807) ∧ e.t < 18446744073709551616 ∧
  ((∀ c ∈ e.nm, c < 256) ∧ e.nm.length ≤ 9223372036854775807) ∧ ((∀ c ∈ e.tx, c < 256) ∧ e.tx.length ≤ 9223372036854775807) ∧
  ∃ a cap, x = evC e.k e.id e.n e.t e.nm e.tx e.v.kind e.v.n e.v.f e.v.s a e.v.l.length cap ∧ VIn w e.v (cells5 e.v.kind e.v.n e.v.f e.v.s a e.v.l.length cap)

theorem EvIn.below {w w' : World} {e : Ev} {x : Array Value} (h : EvIn w e x) (hb : Below w.heap.size w w') : EvIn w' e x := by
  obtain ⟨h1, h2, h3, h4, h5, h6, a, cap, h7, h8⟩ := h
  exact ⟨h1, h2, h3, h4, h5, h6, a, cap, h7, h8.below hb⟩

/-- The value that is zero. -/
def zeroV : V := .mk 0 0 0 [] []
theorem zero_in (w : World) : VIn w zeroV (cells5 0 0 0 [] none 0 0) := by
  unfold zeroV
  rw [VIn]
  exact ⟨by omega, by omega, by omega, (fun c h => by cases h), by simp, none, 0, rfl, by simp, by omega, .inl rfl⟩

def rightE (e : Ev) (i : Nat) : Bool := if i = 0 then decide (e.id ≠ 0) else if i = 1 then decide (1 ≤ e.n ∧ e.n ≤ 2147483647) else if i = 2 then decide (e.t ≤ 9223372036854775807) else if i = 3 then decide (e.nm ≠ [] ∧ e.nm.length ≤ 1000) else if i = 4 then decide (e.tx.length ≤ 1000) else rightN 8 e.v
def emptyE (e : Ev) (i : Nat) : Bool := if i = 0 then decide (e.id = 0) else if i = 1 then decide (e.n = 0) else if i = 2 then decide (e.t = 0) else if i = 3 then decide (e.nm = []) else if i = 4 then decide (e.tx = []) else sameV e.v zeroV
/-- Valid events. -/
def okE (e : Ev) : Bool := decide (evName e.k ≠ []) && (List.range 6).all fun i => if i ∈ evFields e.k then rightE e i else emptyE e i

section
variable {k : Int} {id : Nat} {n : Int} {t : Nat} {nm tx : List Nat} {v : V} {a : Option Addr} {cap B : Nat} {w : World}

set_option maxRecDepth 100000 in
theorem e6_any (hv : VIn w v (cells5 v.kind v.n v.f v.s a v.l.length cap)) (h : w.heap[B]? = some (.cells (evC k id n t nm tx v.kind v.n v.f v.s a v.l.length cap) 45 (0, 0))) :
    Calls Tryz.prog 138 #[.pointer (some ⟨B, 0, none⟩)] w fun e w' => e = .returned (.bool (sameV v zeroV)) ∧ Below w.heap.size w w' := by
  obtain ⟨g0, g1, g2, g3, g4, g5, g6, g7, g8, g9, g10⟩ := box11 h
  have HS := Lib.hid (vsameC_any v zeroV _ _ w hv (zero_in w))
  unfold cells5 at HS
  clear h hv
  generalize sameV v zeroV = res at *
  go_enter Tryz.func138, Tryz.ntmps138
  go_wp2_with fail
  refine HS.out.mono ?_
  rintro e w1 ⟨rfl, hb⟩
  have Hb := Lib.hid hb
  clear hb
  go_wp2
  go_ret
  exact ⟨rfl, Hb.out⟩

set_option maxRecDepth 100000 in
theorem r6_any (q : Nat) (hq : q ≤ 1000) (hs : smallN q v = true) (hv : VIn w v (cells5 v.kind v.n v.f v.s a v.l.length cap)) (h : w.heap[B]? = some (.cells (evC k id n t nm tx v.kind v.n v.f v.s a v.l.length cap) 45 (0, 0))) :
    Calls Tryz.prog 144 #[.pointer (some ⟨B, 0, none⟩)] w fun e w' => e = .returned (.bool (rightN 8 v)) ∧ Below w.heap.size w w' := by
  obtain ⟨g0, g1, g2, g3, g4, g5, g6, g7, g8, g9, g10⟩ := box11 h
  have HS := Lib.hid (valid_any q hq v _ w hs hv)
  unfold cells5 at HS
  clear h hv hs hq
  generalize rightN 8 v = res at *
  go_enter Tryz.func144, Tryz.ntmps144
  go_wp2_with fail
  refine HS.out.mono ?_
  rintro e w1 ⟨rfl, hb⟩
  have Hb := Lib.hid hb
  clear hb
  go_wp2
  go_ret
  exact ⟨rfl, Hb.out⟩
end

theorem evalid_any (q : Nat) (hq : q ≤ 1000) (e : Ev) (x : Array Value) (w : World) (hs : smallN q e.v = true) (h : EvIn w e x) :
    Calls Tryz.prog 57 #[.agg x] w fun r w' => r = .returned (.bool (okE e)) ∧ Below w.heap.size w w' := by
  obtain ⟨_, _, _, _, _, _, a, cap, rfl, hv⟩ := h
  obtain ⟨k, id, n, t, nm, tx, v⟩ := e
  have still : ∀ {W : World} {b : Bool} {e : Ending} {w' : World}, (e = .returned (.bool b) ∧ w' = W) → e = .returned (.bool b) ∧ Below W.heap.size W w' := fun {W b e w'} h => ⟨h.1, by rw [h.2]; exact Below.refl _ _⟩
  refine valid_core k id n t nm tx v.kind v.n v.f v.s a v.l.length cap w (rightE ⟨k, id, n, t, nm, tx, v⟩) (emptyE ⟨k, id, n, t, nm, tx, v⟩) _ rfl ?_ ?_
  · intro i hi B W hW hB
    match i, hi with
    | 0, _ => exact (r1_any hB).mono fun _ _ h => still h
    | 1, _ => exact (r2_any hB).mono fun _ _ h => still h
    | 2, _ => exact (r3_any hB).mono fun _ _ h => still h
    | 3, _ => exact (r4_any hB).mono fun _ _ h => still h
    | 4, _ => exact (r5_any hB).mono fun _ _ h => still h
    | 5, _ => exact r6_any q hq hs (hv.below hW) hB
  · intro i hi B W hW hB
    match i, hi with
    | 0, _ => exact (e1_any hB).mono fun _ _ h => still h
    | 1, _ => exact (e2_any hB).mono fun _ _ h => still h
    | 2, _ => exact (e3_any hB).mono fun _ _ h => still h
    | 3, _ => exact (e4_any hB).mono fun _ _ h => still h
    | 4, _ => exact (e5_any hB).mono fun _ _ h => still h
    | 5, _ => exact e6_any (hv.below hW) hB
end Go.Proofs.YtcapbaocchaenaaGreatDoor

