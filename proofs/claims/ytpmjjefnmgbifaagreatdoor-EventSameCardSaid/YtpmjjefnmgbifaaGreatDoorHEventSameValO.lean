/- Lists of values that a call has made itself: where their rows lie, and how they grow. -/
import Derived.Test.YtpmjjefnmgbifaaGreatDoorMB9
import Derived.Maps.AppendAt
namespace Go.Proofs.YtpmjjefnmgbifaaGreatDoor
open Go.RowKit Fl

mutual
/-- The cells x hold the value v; the rows of its lists lie in blocks that q allows. -/
def VInP (q : Nat → Prop) (w : World) : V → Array Value → Prop
  | .mk k n f s l, x => (-9223372036854775808 ≤ k ∧ k ≤ 9223372036854775807) ∧ (-9223372036854775808 ≤ n ∧ n ≤ 9223372036854775807) ∧ f < 18446744073709551616 ∧ (∀ c ∈ s, c < 256) ∧ s.length ≤ 9223372036854775807 ∧
    ∃ a cap, x = cells5 k n f s a l.length cap ∧ l.length ≤ cap ∧ cap ≤ 9223372036854775807 ∧ (l = [] ∨ ∃ b o, a = some ⟨b, o, none⟩ ∧ q b ∧ VsInP q w l b o)
def VsInP (q : Nat → Prop) (w : World) : List V → Nat → Nat → Prop
  | [], _, _ => True
  | v :: r, b, o => (∃ x : Array Value, x.size = 5 ∧ (∀ j, j < 5 → w.cell? ⟨b, o + j, none⟩ = x[j]?) ∧ VInP q w v x) ∧ VsInP q w r b (o + 5)
end

mutual
theorem VInP.weak {q : Nat → Prop} {w : World} : ∀ (v : V) (x : Array Value), VInP q w v x → VIn w v x
  | .mk k n f s l, x, h => by
    rw [VInP] at h
    rw [VIn]
    obtain ⟨h1, h2, h3, h4, h5, a, cap, h6, h7, h8, h9⟩ := h
    refine ⟨h1, h2, h3, h4, h5, a, cap, h6, h7, h8, ?_⟩
    rcases h9 with h9 | ⟨b, o, ha, _, hv⟩
    · exact .inl h9
    · exact .inr ⟨b, o, ha, VsInP.weak l b o hv⟩
theorem VsInP.weak {q : Nat → Prop} {w : World} : ∀ (l : List V) (b o : Nat), VsInP q w l b o → VsIn w l b o
  | [], _, _, _ => by rw [VsIn]; trivial
  | v :: r, b, o, h => by
    rw [VsInP] at h
    rw [VsIn]
    obtain ⟨⟨x, hx, hc, hv⟩, hr⟩ := h
    exact ⟨⟨x, hx, hc, VInP.weak v x hv⟩, VsInP.weak r b (o + 5) hr⟩
end

mutual
theorem VInP.turn {q q' : Nat → Prop} {w w' : World} (hq : ∀ b, q b → q' b) (hw : ∀ p : Addr, q p.block → w'.cell? p = w.cell? p) : ∀ (v : V) (x : Array Value), VInP q w v x → VInP q' w' v x
  | .mk k n f s l, x, h => by
    rw [VInP] at h ⊢
    obtain ⟨h1, h2, h3, h4, h5, a, cap, h6, h7, h8, h9⟩ := h
    refine ⟨h1, h2, h3, h4, h5, a, cap, h6, h7, h8, ?_⟩
    rcases h9 with h9 | ⟨b, o, ha, hb, hv⟩
    · exact .inl h9
    · exact .inr ⟨b, o, ha, hq b hb, VsInP.turn hq hw l b o hb hv⟩
theorem VsInP.turn {q q' : Nat → Prop} {w w' : World} (hq : ∀ b, q b → q' b) (hw : ∀ p : Addr, q p.block → w'.cell? p = w.cell? p) : ∀ (l : List V) (b o : Nat), q b → VsInP q w l b o → VsInP q' w' l b o
  | [], _, _, _, _ => by rw [VsInP]; trivial
  | v :: r, b, o, hb, h => by
    rw [VsInP] at h ⊢
    obtain ⟨⟨x, hx, hc, hv⟩, hr⟩ := h
    exact ⟨⟨x, hx, fun j hj => by rw [hw ⟨b, o + j, none⟩ hb]; exact hc j hj, VInP.turn hq hw v x hv⟩, VsInP.turn hq hw r b (o + 5) hb hr⟩
end

theorem VInP.size {q : Nat → Prop} {w : World} {v : V} {x : Array Value} (h : VInP q w v x) : x.size = 5 := (VInP.weak v x h).size

/-- A list of values of the call's own: its row, and its elements' rows in other blocks. -/
def OwnVs (w : World) (base : Nat) (v : Value) (l : List V) : Prop :=
  ∃ cs : List (Array Value), cs.length = l.length ∧ w.ownsRow base 26 5 v l.length (cs.flatMap Array.toList) ∧
    ∀ (i : Nat) (x : Array Value) (u : V), cs[i]? = some x → l[i]? = some u → VInP (fun b => base ≤ b ∧ some b ≠ v.ownBlock ∧ b < w.heap.size) w u x

theorem OwnVs.nil (w : World) (base : Nat) : OwnVs w base (.slice none 0 0) [] := ⟨[], rfl, ⟨rfl, .inl ⟨rfl, rfl⟩⟩, fun i x u h => by simp at h⟩

theorem OwnVs.snoc {w w' : World} {base : Nat} {v v' : Value} {l : List V} {cs : List (Array Value)} {u : V} {x : Array Value} (hlen : cs.length = l.length)
    (hel : ∀ (i : Nat) (x : Array Value) (u : V), cs[i]? = some x → l[i]? = some u → VInP (fun b => base ≤ b ∧ some b ≠ v.ownBlock ∧ b < w.heap.size) w u x)
    (hu : VInP (fun b => base ≤ b ∧ some b ≠ v.ownBlock ∧ b < w.heap.size) w u x) (hown : w'.ownsRow base 26 5 v' (l.length + 1) (cs.flatMap Array.toList ++ x.toList))
    (hg : w.grownBy w' v.ownBlock) (hb : v'.ownBlock = v.ownBlock ∨ v'.ownBlock = some w.heap.size) : OwnVs w' base v' (l ++ [u]) := by
  have hs : w.heap.size ≤ w'.heap.size := hg.size
  have hturn : ∀ (y : Array Value) (z : V), VInP (fun b => base ≤ b ∧ some b ≠ v.ownBlock ∧ b < w.heap.size) w z y → VInP (fun b => base ≤ b ∧ some b ≠ v'.ownBlock ∧ b < w'.heap.size) w' z y := by
    intro y z hz
    have k1 : ∀ b, (base ≤ b ∧ some b ≠ v.ownBlock ∧ b < w.heap.size) → (base ≤ b ∧ some b ≠ v'.ownBlock ∧ b < w'.heap.size) := by
      intro b hb1
      refine ⟨hb1.1, ?_, by omega⟩
      rcases hb with e | e
      · rw [e]; exact hb1.2.1
      · rw [e]
        intro e2
        have e3 : b = w.heap.size := Option.some.inj e2
        omega
    have k2 : ∀ p : Addr, (base ≤ p.block ∧ some p.block ≠ v.ownBlock ∧ p.block < w.heap.size) → w'.cell? p = w.cell? p := by
      intro p hp
      unfold World.cell?
      rw [hg.block p.block hp.2.2 hp.2.1]
    exact VInP.turn k1 k2 z y hz
  refine ⟨cs ++ [x], by rw [List.length_append, List.length_append, hlen]; rfl, ?_, fun i y z hy hz => ?_⟩
  · rw [List.length_append, List.flatMap_append]
    simpa using hown
  · rcases Nat.lt_or_ge i cs.length with hi | hi
    · rw [List.getElem?_append_left hi] at hy
      rw [List.getElem?_append_left (by omega)] at hz
      exact hturn y z (hel i y z hy hz)
    · rw [List.getElem?_append_right hi] at hy
      rw [List.getElem?_append_right (by omega), ← hlen] at hz
      cases hk : i - cs.length with
      | zero =>
        rw [hk] at hy hz
        simp at hy hz
        subst hy
        subst hz
        exact hturn x u hu
      | succ m => rw [hk] at hy; simp at hy

theorem flat_at : ∀ (cs : List (Array Value)), (∀ x ∈ cs, x.size = 5) → ∀ (i : Nat) (x : Array Value), cs[i]? = some x → ∀ j, j < 5 → (cs.flatMap Array.toList)[i * 5 + j]? = x[j]?
  | [], _, i, x, h, _, _ => by simp at h
  | y :: r, hs, i, x, h, j, hj => by
    have hy : y.toList.length = 5 := by rw [Array.length_toList]; exact hs y (by simp)
    rw [List.flatMap_cons]
    cases i with
    | zero =>
      simp at h
      subst h
      rw [List.getElem?_append_left (by omega)]
      simp
    | succ i =>
      have ih := flat_at r (fun z hz => hs z (by simp [hz])) i x (by simpa using h) j hj
      rw [List.getElem?_append_right (by omega), hy, show (i + 1) * 5 + j - 5 = i * 5 + j by omega]
      exact ih

theorem VsInP.mk {q : Nat → Prop} {w : World} {b : Nat} : ∀ (l : List V) (o : Nat), (∀ (i : Nat) (u : V), l[i]? = some u → ∃ x : Array Value, x.size = 5 ∧ (∀ j, j < 5 → w.cell? ⟨b, o + i * 5 + j, none⟩ = x[j]?) ∧ VInP q w u x) → VsInP q w l b o
  | [], _, _ => by rw [VsInP]; trivial
  | v :: r, o, h => by
    rw [VsInP]
    obtain ⟨x, hx, hc, hv⟩ := h 0 v rfl
    refine ⟨⟨x, hx, fun j hj => by have := hc j hj; simpa using this, hv⟩, VsInP.mk r (o + 5) (fun i u hu => ?_)⟩
    obtain ⟨y, hy, hd, hz⟩ := h (i + 1) u (by simpa using hu)
    exact ⟨y, hy, fun j hj => by rw [← hd j hj]; congr 2; omega, hz⟩

/-- A list of the call's own, as a list in memory. -/
theorem OwnVs.lies {w : World} {base : Nat} {v : Value} {l : List V} (h : OwnVs w base v l) : ∃ a cap, v = .slice a l.length cap ∧ l.length ≤ cap ∧ cap ≤ 9223372036854775807 ∧
    (l = [] ∨ ∃ g, a = some ⟨g, 0, none⟩ ∧ (base ≤ g ∧ g < w.heap.size) ∧ VsInP (fun b => base ≤ b ∧ b < w.heap.size) w l g 0) := by
  obtain ⟨cs, hlen, ⟨_, hrow⟩, hel⟩ := h
  rcases hrow with ⟨rfl, h0⟩ | ⟨g, cap, cur, rfl, hbg, hg, hle, hcm, hsz, htake⟩
  · have e : l = [] := List.length_eq_zero_iff.1 h0
    subst e
    exact ⟨none, 0, rfl, Nat.le_refl _, by omega, .inl rfl⟩
  · have hglt : g < w.heap.size := (Array.getElem?_eq_some_iff.1 hg).1
    refine ⟨_, cap, rfl, hle, by rw [maxLen_nat] at hcm; exact hcm, .inr ⟨g, rfl, ⟨hbg, hglt⟩, VsInP.mk l 0 (fun i u hu => ?_)⟩⟩
    have hi : i < l.length := (List.getElem?_eq_some_iff.1 hu).1
    have hx : cs[i]? = some (cs[i]'(by omega)) := List.getElem?_eq_getElem (by omega)
    have hsz5 : ∀ x ∈ cs, x.size = 5 := by
      intro x hx
      obtain ⟨k, hk, rfl⟩ := List.getElem_of_mem hx
      exact (hel k _ l[k] (List.getElem?_eq_getElem hk) (List.getElem?_eq_getElem (by omega))).size
    have hv := hel i _ u hx hu
    refine ⟨_, hv.size, fun j hj => ?_, VInP.turn (fun b hb => ⟨hb.1, hb.2.2⟩) (fun _ _ => rfl) u _ hv⟩
    rw [cell_of_row w g _ cur _ _ hg, ← flat_at cs hsz5 i _ hx j hj, ← htake, Nat.zero_add, List.getElem?_take, if_pos (by omega), Array.getElem?_toList]
end Go.Proofs.YtpmjjefnmgbifaaGreatDoor
