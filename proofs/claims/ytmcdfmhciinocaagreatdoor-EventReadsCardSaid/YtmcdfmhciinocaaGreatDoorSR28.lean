import Derived.Test.YtmcdfmhciinocaaGreatDoorSR8
import Derived.Maps.AppendAt
import Derived.Deep.RegionLaw
import Derived.Deep.AppendLies
import Derived.Test.YtmcdfmhciinocaaGreatDoorSR15
import Derived.Test.YtmcdfmhciinocaaGreatDoorSR12
import Derived.Test.YtmcdfmhciinocaaGreatDoorSR27
import Derived.Below
import Derived.Test.YtmcdfmhciinocaaGreatDoorSR1
import Derived.Test.YtmcdfmhciinocaaGreatDoorSR20
/- Lists of values that a call has made itself: where their rows lie, and how they grow. -/
namespace Go.Proofs.YtmcdfmhciinocaaGreatDoor
open Go.RowKit Fl

mutual
/-- The cells x hold the value v; the rows of its lists lie in blocks that q allows. -/
def VInP (q : Nat → Prop) (w : World) : V → Array Value → Prop
  | .mk k n f s l, x => (-9223372036854775808 ≤ k ∧ k ≤ 9223372036854775807) ∧ (-9223372036854775808 ≤ n ∧ n ≤ 9223372036854775807) ∧ f < 18446744073709551616 ∧ (∀ c ∈ s, c < 256) ∧ s.length ≤ 9223372036854775807 ∧
    ∃ a cap, x = cells5 k n f s a l.length cap ∧ l.length ≤ cap ∧ cap ≤ 9223372036854775807 ∧ (l = [] ∨ ∃ b o, a = some ⟨b, o, none⟩ ∧ q b ∧ VsInP q w l b o)
def VsInP (q : Nat → Prop) (w : World) : List V → Nat → Nat → Prop
  | [], _, _ => True
  | v :: r, b, o => (∃ x : Array Value, x.size = 5 ∧ (∀ j, j < 5 → w.cell? ⟨b, o + j, none⟩ = x[j]?) ∧ VInP q w v x) ∧ VsInP q w r b (o + 5)
end

mutual
theorem VInP.weak {q : Nat → Prop} {w : World} : ∀ (v : V) (x : Array Value), VInP q w v x → VIn w v x
  | .mk k n f s l, x, h => by
    rw [VInP] at h
    rw [VIn]
    obtain ⟨h1, h2, h3, h4, h5, a, cap, h6, h7, h8, h9⟩ := h
    refine ⟨h1, h2, h3, h4, h5, a, cap, h6, h7, h8, ?_⟩
    rcases h9 with h9 | ⟨b, o, ha, _, hv⟩
    · exact .inl h9
    · exact .inr ⟨b, o, ha, VsInP.weak l b o hv⟩
theorem VsInP.weak {q : Nat → Prop} {w : World} : ∀ (l : List V) (b o : Nat), VsInP q w l b o → VsIn w l b o
  | [], _, _, _ => by rw [VsIn]; trivial
  | v :: r, b, o, h => by
    rw [VsInP] at h
    rw [VsIn]
    obtain ⟨⟨x, hx, hc, hv⟩, hr⟩ := h
    exact ⟨⟨x, hx, hc, VInP.weak v x hv⟩, VsInP.weak r b (o + 5) hr⟩
end

mutual
theorem VInP.turn {q q' : Nat → Prop} {w w' : World} (hq : ∀ b, q b → q' b) (hw : ∀ p : Addr, q p.block → w'.cell? p = w.cell? p) : ∀ (v : V) (x : Array Value), VInP q w v x → VInP q' w' v x
  | .mk k n f s l, x, h => by
    rw [VInP] at h ⊢
    obtain ⟨h1, h2, h3, h4, h5, a, cap, h6, h7, h8, h9⟩ := h
    refine ⟨h1, h2, h3, h4, h5, a, cap, h6, h7, h8, ?_⟩
    rcases h9 with h9 | ⟨b, o, ha, hb, hv⟩
    · exact .inl h9
    · exact .inr ⟨b, o, ha, hq b hb, VsInP.turn hq hw l b o hb hv⟩
theorem VsInP.turn {q q' : Nat → Prop} {w w' : World} (hq : ∀ b, q b → q' b) (hw : ∀ p : Addr, q p.block → w'.cell? p = w.cell? p) : ∀ (l : List V) (b o : Nat), q b → VsInP q w l b o → VsInP q' w' l b o
  | [], _, _, _, _ => by rw [VsInP]; trivial
  | v :: r, b, o, hb, h => by
    rw [VsInP] at h ⊢
    obtain ⟨⟨x, hx, hc, hv⟩, hr⟩ := h
    exact ⟨⟨x, hx, fun j hj => by rw [hw ⟨b, o + j, none⟩ hb]; exact hc j hj, VInP.turn hq hw v x hv⟩, VsInP.turn hq hw r b (o + 5) hb hr⟩
end

theorem VInP.size {q : Nat → Prop} {w : World} {v : V} {x : Array Value} (h : VInP q w v x) : x.size = 5 := (VInP.weak v x h).size

/-- A list of values of the call's own: its row, and its elements' rows in other blocks. -/
def OwnVs (w : World) (base : Nat) (v : Value) (l : List V) : Prop :=
  ∃ cs : List (Array Value), cs.length = l.length ∧ w.ownsRow base 26 5 v l.length (cs.flatMap Array.toList) ∧
    ∀ (i : Nat) (x : Array Value) (u : V), cs[i]? = some x → l[i]? = some u → VInP (fun b => base ≤ b ∧ some b ≠ v.ownBlock ∧ b < w.heap.size) w u x

theorem OwnVs.nil (w : World) (base : Nat) : OwnVs w base (.slice none 0 0) [] := ⟨[], rfl, ⟨rfl, .inl ⟨rfl, rfl⟩⟩, fun i x u h => by simp at h⟩

theorem OwnVs.snoc {w w' : World} {base : Nat} {v v' : Value} {l : List V} {cs : List (Array Value)} {u : V} {x : Array Value} (hlen : cs.length = l.length)
    (hel : ∀ (i : Nat) (x : Array Value) (u : V), cs[i]? = some x → l[i]? = some u → VInP (fun b => base ≤ b ∧ some b ≠ v.ownBlock ∧ b < w.heap.size) w u x)
    (hu : VInP (fun b => base ≤ b ∧ some b ≠ v.ownBlock ∧ b < w.heap.size) w u x) (hown : w'.ownsRow base 26 5 v' (l.length + 1) (cs.flatMap Array.toList ++ x.toList))
    (hg : w.grownBy w' v.ownBlock) (hb : v'.ownBlock = v.ownBlock ∨ v'.ownBlock = some w.heap.size) : OwnVs w' base v' (l ++ [u]) := by
  have hs : w.heap.size ≤ w'.heap.size := hg.size
  have hturn : ∀ (y : Array Value) (z : V), VInP (fun b => base ≤ b ∧ some b ≠ v.ownBlock ∧ b < w.heap.size) w z y → VInP (fun b => base ≤ b ∧ some b ≠ v'.ownBlock ∧ b < w'.heap.size) w' z y := by
    intro y z hz
    have k1 : ∀ b, (base ≤ b ∧ some b ≠ v.ownBlock ∧ b < w.heap.size) → (base ≤ b ∧ some b ≠ v'.ownBlock ∧ b < w'.heap.size) := by
      intro b hb1
      refine ⟨hb1.1, ?_, by omega⟩
      rcases hb with e | e
      · rw [e]; exact hb1.2.1
      · rw [e]
        intro e2
        have e3 : b = w.heap.size := Option.some.inj e2
        omega
    have k2 : ∀ p : Addr, (base ≤ p.block ∧ some p.block ≠ v.ownBlock ∧ p.block < w.heap.size) → w'.cell? p = w.cell? p := by
      intro p hp
      unfold World.cell?
      rw [hg.block p.block hp.2.2 hp.2.1]
    exact VInP.turn k1 k2 z y hz
  refine ⟨cs ++ [x], by rw [List.length_append, List.length_append, hlen]; rfl, ?_, fun i y z hy hz => ?_⟩
  · rw [List.length_append, List.flatMap_append]
    simpa using hown
  · rcases Nat.lt_or_ge i cs.length with hi | hi
    · rw [List.getElem?_append_left hi] at hy
      rw [List.getElem?_append_left (by omega)] at hz
      exact hturn y z (hel i y z hy hz)
    · rw [List.getElem?_append_right hi] at hy
      rw [List.getElem?_append_right (by omega), ← hlen] at hz
      cases hk : i - cs.length with
      | zero =>
        rw [hk] at hy hz
        simp at hy hz
        subst hy
        subst hz
        exact hturn x u hu
      | succ m => rw [hk] at hy; simp at hy

theorem flat_at : ∀ (cs : List (Array Value)), (∀ x ∈ cs, x.size = 5) → ∀ (i : Nat) (x : Array Value), cs[i]? = some x → ∀ j, j < 5 → (cs.flatMap Array.toList)[i * 5 + j]? = x[j]?
  | [], _, i, x, h, _, _ => by simp at h
  | y :: r, hs, i, x, h, j, hj => by
    have hy : y.toList.length = 5 := by rw [Array.length_toList]; exact hs y (by simp)
    rw [List.flatMap_cons]
    cases i with
    | zero =>
      simp at h
      subst h
      rw [List.getElem?_append_left (by omega)]
      simp
    | succ i =>
      have ih := flat_at r (fun z hz => hs z (by simp [hz])) i x (by simpa using h) j hj
      rw [List.getElem?_append_right (by omega), hy, show (i + 1) * 5 + j - 5 = i * 5 + j by omega]
      exact ih

theorem VsInP.mk {q : Nat → Prop} {w : World} {b : Nat} : ∀ (l : List V) (o : Nat), (∀ (i : Nat) (u : V), l[i]? = some u → ∃ x : Array Value, x.size = 5 ∧ (∀ j, j < 5 → w.cell? ⟨b, o + i * 5 + j, none⟩ = x[j]?) ∧ VInP q w u x) → VsInP q w l b o
  | [], _, _ => by rw [VsInP]; trivial
  | v :: r, o, h => by
    rw [VsInP]
    obtain ⟨x, hx, hc, hv⟩ := h 0 v rfl
    refine ⟨⟨x, hx, fun j hj => by have := hc j hj; simpa using this, hv⟩, VsInP.mk r (o + 5) (fun i u hu => ?_)⟩
    obtain ⟨y, hy, hd, hz⟩ := h (i + 1) u (by simpa using hu)
    exact ⟨y, hy, fun j hj => by rw [← hd j hj]; congr 2; omega, hz⟩

/-- A list of the call's own, as a list in memory. -/
theorem OwnVs.lies {w : World} {base : Nat} {v : Value} {l : List V} (h : OwnVs w base v l) : ∃ a cap, v = .slice a l.length cap ∧ l.length ≤ cap ∧ cap ≤ 9223372036854775807 ∧
    (l = [] ∨ ∃ g, a = some ⟨g, 0, none⟩ ∧ (base ≤ g ∧ g < w.heap.size) ∧ VsInP (fun b => base ≤ b ∧ b < w.heap.size) w l g 0) := by
  obtain ⟨cs, hlen, ⟨_, hrow⟩, hel⟩ := h
  rcases hrow with ⟨rfl, h0⟩ | ⟨g, cap, cur, rfl, hbg, hg, hle, hcm, hsz, htake⟩
  · have e : l = [] := List.length_eq_zero_iff.1 h0
    subst e
    exact ⟨none, 0, rfl, Nat.le_refl _, by omega, .inl rfl⟩
  · have hglt : g < w.heap.size := (Array.getElem?_eq_some_iff.1 hg).1
    refine ⟨_, cap, rfl, hle, by rw [maxLen_nat] at hcm; exact hcm, .inr ⟨g, rfl, ⟨hbg, hglt⟩, VsInP.mk l 0 (fun i u hu => ?_)⟩⟩
    have hi : i < l.length := (List.getElem?_eq_some_iff.1 hu).1
    have hx : cs[i]? = some (cs[i]'(by omega)) := List.getElem?_eq_getElem (by omega)
    have hsz5 : ∀ x ∈ cs, x.size = 5 := by
      intro x hx
      obtain ⟨k, hk, rfl⟩ := List.getElem_of_mem hx
      exact (hel k _ l[k] (List.getElem?_eq_getElem hk) (List.getElem?_eq_getElem (by omega))).size
    have hv := hel i _ u hx hu
    refine ⟨_, hv.size, fun j hj => ?_, VInP.turn (fun b hb => ⟨hb.1, hb.2.2⟩) (fun _ _ => rfl) u _ hv⟩
    rw [cell_of_row w g _ cur _ _ hg, ← flat_at cs hsz5 i _ hx j hj, ← htake, Nat.zero_add, List.getElem?_take, if_pos (by omega), Array.getElem?_toList]
end Go.Proofs.YtmcdfmhciinocaaGreatDoor

/- The walk of the reference's Clone. -/
namespace Go.Proofs.YtmcdfmhciinocaaGreatDoor
open Go.RowKit Fl

theorem info_value : (Tryz.prog.info? 26).map (fun i => (i.zero, i.size, i.bytes)) = some (some (.agg #[.int .i64 0, .int .i64 0, .float .f64 0, .string ⟨#[]⟩, .slice none 0 0]), 5, 64) := by kernel_rfl

theorem OwnVs.keep {w w' : World} {base : Nat} {v : Value} {l : List V} (h : OwnVs w base v l) (hb : ∀ b, base ≤ b → b < w.heap.size → w'.heap[b]? = w.heap[b]?) (hs : w.heap.size ≤ w'.heap.size) : OwnVs w' base v l := by
  obtain ⟨cs, hlen, ⟨hx, hrow⟩, hel⟩ := h
  refine ⟨cs, hlen, ⟨hx, ?_⟩, fun i x u hi hu => VInP.turn (fun b hq => ⟨hq.1, hq.2.1, by omega⟩) (fun p hp => ?_) u x (hel i x u hi hu)⟩
  · rcases hrow with hn | ⟨g, cap, cur, e, hbg, hg, rest⟩
    · exact .inl hn
    · exact .inr ⟨g, cap, cur, e, hbg, (hb g hbg (Array.getElem?_eq_some_iff.1 hg).1).trans hg, rest⟩
  · unfold World.cell?
    rw [hb p.block hp.1 hp.2.2]

theorem OwnVs.block {w : World} {base : Nat} {v : Value} {l : List V} (h : OwnVs w base v l) {g : Nat} (hg : v.ownBlock = some g) : base ≤ g ∧ g < w.heap.size := by
  obtain ⟨cs, hlen, ⟨hx, hrow⟩, hel⟩ := h
  rcases hrow with ⟨e, _⟩ | ⟨g', cap, cur, e, hbg, hg', rest⟩
  · rw [e] at hg
    cases hg
  · rw [e] at hg
    have e2 : g' = g := Option.some.inj hg
    rw [← e2]
    exact ⟨hbg, (Array.getElem?_eq_some_iff.1 hg').1⟩

/-- The three blocks of a call of Clone: its argument, its result, the value that it fills. -/
structure CloH (w wr : World) (k n : Int) (f : Nat) (s : List Nat) (a : Option Addr) (m cap : Nat) (acc : Value) : Prop where
  box : wr.heap[w.heap.size]? = some (.cells #[.int .i64 k, .int .i64 n, .float .f64 f, .string (str s), .slice a m cap] 26 (0, 0))
  res : wr.heap[w.heap.size + 1]? = some (.cells #[.int .i64 0, .int .i64 0, .float .f64 0, .string ⟨#[]⟩, .slice none 0 0] 26 (0, 0))
  out : wr.heap[w.heap.size + 2]? = some (.cells #[.int .i64 k, .int .i64 n, .float .f64 f, .string (str s), acc] 26 (0, 0))
  below : Below w.heap.size w wr

theorem CloH.store {w wr : World} {k n : Int} {f : Nat} {s : List Nat} {a : Option Addr} {m cap : Nat} {acc : Value} (h : CloH w wr k n f s a m cap acc) (acc' : Value) : CloH w (wr.setCell ⟨w.heap.size + 2, 4, none⟩ acc') k n f s a m cap acc' := by
  refine ⟨(Below.heap_setCell _ _ _ _ (by simp)).trans h.box, (Below.heap_setCell _ _ _ _ (by simp)).trans h.res, ?_, h.below.setCell (by simp) _⟩
  simp [World.setCell, Array.getElem?_modify, h.out]

/-- The value that the call fills, at its end. -/
theorem vin_done {base : Nat} {k n : Int} {f : Nat} {s : List Nat} {l : List V} {acc : Value} {wr w' : World} (hk : -9223372036854775808 ≤ k ∧ k ≤ 9223372036854775807) (hn : -9223372036854775808 ≤ n ∧ n ≤ 9223372036854775807)
    (hf : f < 18446744073709551616) (hs : ∀ c ∈ s, c < 256) (hss : s.length ≤ 9223372036854775807) (hO : OwnVs wr (base + 3) acc l) (hw : ∀ b, base + 3 ≤ b → b < wr.heap.size → w'.heap[b]? = wr.heap[b]?) (hz : wr.heap.size ≤ w'.heap.size) :
    VInP (fun b => base ≤ b ∧ b < w'.heap.size) w' (V.mk k n f s l) #[.int .i64 k, .int .i64 n, .float .f64 f, .string (str s), acc] := by
  obtain ⟨a, cap, rfl, hcap, hmax, hl⟩ := (hO.keep hw hz).lies
  rw [VInP]
  refine ⟨hk, hn, hf, hs, hss, a, cap, rfl, hcap, hmax, ?_⟩
  rcases hl with hl | ⟨g, ha, hg, hv⟩
  · exact .inl hl
  · exact .inr ⟨g, 0, ha, ⟨by omega, hg.2⟩, VsInP.turn (fun b hb => ⟨by omega, hb.2⟩) (fun _ _ => rfl) l g 0 hg hv⟩

end Go.Proofs.YtmcdfmhciinocaaGreatDoor

/- What a valid list and a valid value of a kind are made of. -/
namespace Go.Proofs.YtmcdfmhciinocaaGreatDoor
open Go Go.RowKit Fl

theorem bits_zero {f : Nat} (h : bitsB f = 0) : f = 0 := by
  unfold bitsB at h
  split at h
  · exact absurd h (by decide)
  · exact h

/-- A valid value is what whole makes of its content. -/
theorem whole_in {q : Nat → Prop} {w : World} {v : V} {a : Option Addr} {cap t : Nat} (hr : rightN t v = true) (hv : VInP q w v (cells5 v.kind v.n v.f v.s a v.l.length cap)) :
    ∃ a' cap', wholeOf v.kind v.n v.f v.s a v.l.length cap = cells5 v.kind v.n v.f v.s a' v.l.length cap' ∧ VInP q w v (cells5 v.kind v.n v.f v.s a' v.l.length cap') := by
  obtain ⟨k, n, f, s, l⟩ := v
  obtain ⟨⟨h1, h2, h3, h4⟩, h0, h5, _⟩ := right_parts hr
  change VInP q w (.mk k n f s l) (cells5 k n f s a l.length cap) at hv
  change ∃ a' cap', wholeOf k n f s a l.length cap = cells5 k n f s a' l.length cap' ∧ VInP q w (.mk k n f s l) (cells5 k n f s a' l.length cap')
  have hv' := hv
  rw [VInP] at hv'
  obtain ⟨b1, b2, b3, b4, b5, _⟩ := hv'
  by_cases hk : k = 4
  · have en : n = 0 := h1.resolve_left (by omega)
    have ef : f = 0 := bits_zero (h2.resolve_left (by omega))
    have es : s = [] := h3.resolve_left (by omega)
    subst hk en ef es
    exact ⟨a, cap, rfl, hv⟩
  · have el : l = [] := h4.resolve_left hk
    subst el
    refine ⟨none, 0, ?_, by rw [VInP]; exact ⟨b1, b2, b3, b4, b5, none, 0, rfl, Nat.le_refl _, by omega, .inl rfl⟩⟩
    unfold wholeOf
    by_cases k1 : k = 1
    · have ef : f = 0 := bits_zero (h2.resolve_left (by omega))
      have es : s = [] := h3.resolve_left (by omega)
      subst k1 ef es
      rfl
    rw [if_neg k1]
    have en : n = 0 := h1.resolve_left k1
    by_cases k2 : k = 2
    · have es : s = [] := h3.resolve_left (by omega)
      subst k2 en es
      rfl
    rw [if_neg k2]
    have ef : f = 0 := bits_zero (h2.resolve_left k2)
    by_cases k3 : k = 3
    · subst k3 en ef
      rfl
    have es : s = [] := h3.resolve_left k3
    have k0 : k = 0 := by omega
    subst k0 en ef es
    rfl

/-- A valid list in its parts. -/
theorem list_right {n : Int} {f : Nat} {s : List Nat} {us : List V} {t : Nat} (h : rightN (t + 1) (.mk 4 n f s us) = true) : n = 0 ∧ bitsB f = 0 ∧ s = [] ∧ ∀ u ∈ us, rightN t u = true := by
  obtain ⟨⟨h1, h2, h3, _⟩, _⟩ := right_parts h
  unfold rightN at h
  rw [Bool.and_eq_true, Bool.and_eq_true, List.all_eq_true] at h
  exact ⟨h1.resolve_left (by omega), h2.resolve_left (by omega), h3.resolve_left (by omega), h.1.2⟩

theorem list_is_right {vs : List V} {t : Nat} (h : ∀ v ∈ vs, rightN t v = true) : rightN (t + 1) (.mk 4 0 0 [] vs) = true := by
  rw [rightN_list (v := .mk 4 0 0 [] vs) ⟨.inr rfl, .inr (show bitsB 0 = 0 by decide), .inr rfl, .inl rfl⟩ rfl, List.all_eq_true]
  exact h

theorem con_iface {v : V} {a : Option Addr} {cap t : Nat} (hr : rightN t v = true) : ∃ T p, conOf v.kind v.n v.f v.s a v.l.length cap = .iface T p := by
  obtain ⟨k, n, f, s, l⟩ := v
  obtain ⟨_, h0, h5, _⟩ := right_parts hr
  change ∃ T p, conOf k n f s a l.length cap = .iface T p
  unfold conOf
  by_cases k0 : k = 0
  · rw [if_pos k0]; exact ⟨_, _, rfl⟩
  rw [if_neg k0]
  by_cases k1 : k = 1
  · rw [if_pos k1]; exact ⟨_, _, rfl⟩
  rw [if_neg k1]
  by_cases k2 : k = 2
  · rw [if_pos k2]; exact ⟨_, _, rfl⟩
  rw [if_neg k2]
  by_cases k3 : k = 3
  · rw [if_pos k3]; exact ⟨_, _, rfl⟩
  rw [if_neg k3, if_pos (by omega)]
  exact ⟨_, _, rfl⟩

end Go.Proofs.YtmcdfmhciinocaaGreatDoor

/- The walk of read for values that are no lists. -/
namespace Go.Proofs.YtmcdfmhciinocaaGreatDoor
open Go.RowKit Go.Shelf Fl

section
variable (K : Nat → Prop) (g : Nat) (T : Int) (rest : List Nat) (w : World)

set_option maxRecDepth 100000 in
theorem read_nil (hR : RdK K w g (form 0 ++ rest) true) :
    Calls Tryz.prog 149 #[.pointer (some ⟨g, 0, none⟩), .int .i64 T] w fun e w' => e = .returned (.iface 154 (.agg #[])) ∧ RdEndK K w g (rest, true) w' := by
  have HU := Lib.hid (mUintK _ g _ true w w (orNone_some g w) hR)
  rw [readN_form (by omega) rest] at HU
  clear hR
  go_enter Tryz.func149, Tryz.ntmps149
  go_wp2_with fail
  refine HU.out.mono ?_
  rintro e w1 ⟨rfl, h1⟩
  have H1 := Lib.hid h1
  clear h1
  go_wp2_with fail
  refine (mOk _ g rest true _ _ (orNone_some g _) H1.out.1.rd).mono ?_
  rintro e w2 ⟨rfl, rfl⟩
  go_wp2
  go_ret
  exact ⟨rfl, H1.out⟩

set_option maxRecDepth 100000 in
theorem read_int (n : Int) (h0 : -9223372036854775808 ≤ n) (h1 : n ≤ 9223372036854775807) (hR : RdK K w g (form 1 ++ (form (foldL n) ++ rest)) true) :
    Calls Tryz.prog 149 #[.pointer (some ⟨g, 0, none⟩), .int .i64 T] w fun e w' => e = .returned (.iface 155 (.int .i64 n)) ∧ RdEndK K w g (rest, true) w' := by
  have HU := Lib.hid (mUintK _ g _ true w w (orNone_some g w) hR)
  rw [readN_form (by omega) (form (foldL n) ++ rest)] at HU
  have HI := Lib.hid (fun W (h : RdK K W g (form (foldL n) ++ rest) true) => mIntK _ g _ true W W (orNone_some g W) h)
  rw [readN_form (fold_lt h0 h1) rest, unfold_fold] at HI
  clear hR h0 h1
  go_enter Tryz.func149, Tryz.ntmps149
  go_wp2_with fail
  refine HU.out.mono ?_
  rintro e w1 ⟨rfl, h1⟩
  have H1 := Lib.hid h1
  clear h1
  go_wp2_with fail
  refine (HI.out _ H1.out.1).mono ?_
  rintro e w2 ⟨rfl, h2⟩
  have H2 := Lib.hid h2
  clear h2
  go_wp2_with fail
  refine (mOk _ g rest true _ _ (orNone_some g _) H2.out.1.rd).mono ?_
  rintro e w3 ⟨rfl, rfl⟩
  go_wp2
  go_ret
  exact ⟨rfl, H1.out.go H2.out⟩

set_option maxRecDepth 100000 in
theorem read_float (x : Nat) (hx : x < 18446744073709551616) (hc : bitsB x = x) (hl : (form 2 ++ (be8 x ++ rest)).length ≤ 1000000) (hR : RdK K w g (form 2 ++ (be8 x ++ rest)) true) :
    Calls Tryz.prog 149 #[.pointer (some ⟨g, 0, none⟩), .int .i64 T] w fun e w' => e = .returned (.iface 156 (.float .f64 x)) ∧ RdEndK K w g (rest, true) w' := by
  have HU := Lib.hid (mUintK _ g _ true w w (orNone_some g w) hR)
  rw [readN_form (by omega) (be8 x ++ rest)] at HU
  have HI := Lib.hid (fun W (h : RdK K W g (be8 x ++ rest) true) => readFloat_any K g x rest W hx hc (by rw [List.length_append] at hl; omega) h)
  clear hR hx hc hl
  go_enter Tryz.func149, Tryz.ntmps149
  go_wp2_with fail
  refine HU.out.mono ?_
  rintro e w1 ⟨rfl, h1⟩
  have H1 := Lib.hid h1
  clear h1
  go_wp2_with fail
  refine (HI.out _ H1.out.1).mono ?_
  rintro e w2 ⟨rfl, h2⟩
  have H2 := Lib.hid h2
  clear h2
  go_wp2_with fail
  refine (mOk _ g rest true _ _ (orNone_some g _) H2.out.1.rd).mono ?_
  rintro e w3 ⟨rfl, rfl⟩
  go_wp2
  go_ret
  exact ⟨rfl, H1.out.go H2.out⟩

set_option maxRecDepth 100000 in
theorem read_text (s : List Nat) (hs : s.length < 18446744073709551616) (hR : RdK K w g (form 3 ++ (formB s ++ rest)) true) :
    Calls Tryz.prog 149 #[.pointer (some ⟨g, 0, none⟩), .int .i64 T] w fun e w' => e = .returned (.iface 157 (.string (str s))) ∧ RdEndK K w g (rest, true) w' := by
  have HU := Lib.hid (mUintK _ g _ true w w (orNone_some g w) hR)
  rw [readN_form (by omega) (formB s ++ rest)] at HU
  have HI := Lib.hid (fun W (h : RdK K W g (formB s ++ rest) true) => mTextK _ g _ true W W (orNone_some g W) h)
  rw [readB_form hs rest] at HI
  clear hR hs
  go_enter Tryz.func149, Tryz.ntmps149
  go_wp2_with fail
  refine HU.out.mono ?_
  rintro e w1 ⟨rfl, h1⟩
  have H1 := Lib.hid h1
  clear h1
  go_wp2_with fail
  refine (HI.out _ H1.out.1).mono ?_
  rintro e w2 ⟨rfl, h2⟩
  have H2 := Lib.hid h2
  clear h2
  go_wp2_with fail
  refine (mOk _ g rest true _ _ (orNone_some g _) H2.out.1.rd).mono ?_
  rintro e w3 ⟨rfl, rfl⟩
  go_wp2
  go_ret
  exact ⟨rfl, H1.out.go H2.out⟩
end

theorem vin_atom {q : Nat → Prop} (w : World) (k n : Int) (f : Nat) (s : List Nat) (hk : -9223372036854775808 ≤ k ∧ k ≤ 9223372036854775807) (hn : -9223372036854775808 ≤ n ∧ n ≤ 9223372036854775807) (hf : f < 18446744073709551616) (hs : ∀ c ∈ s, c < 256) (hl : s.length ≤ 9223372036854775807) :
    VInP q w (.mk k n f s []) (cells5 k n f s none 0 0) := by
  rw [VInP]
  exact ⟨hk, hn, hf, hs, hl, none, 0, rfl, Nat.le_refl _, by omega, .inl rfl⟩

end Go.Proofs.YtmcdfmhciinocaaGreatDoor

/- The walk of readList, where read does what it is to do at one level less. -/
namespace Go.Proofs.YtmcdfmhciinocaaGreatDoor
open Go.RowKit Go.Shelf Fl

theorem formsV_drop {l : List V} {j : Nat} (h : j < l.length) : formsV (l.drop j) = formV l[j] ++ formsV (l.drop (j + 1)) := by
  rw [List.drop_eq_getElem_cons h]
  rfl

theorem only_far {w w1 w2 : World} {g : Nat} {r : Option Nat} (h : w.grownBy w1 (some g)) (k : w1.grownBy w2 r) (hr : ∀ b, r = some b → w.heap.size ≤ b) : w.grownBy w2 (some g) :=
  ⟨k.os.trans h.os, k.tape.trans h.tape, k.output.trans h.output, Nat.le_trans h.size k.size, fun i hi hne => (k.block i (Nat.lt_of_lt_of_le hi h.size) (fun e => by have := hr i e.symm; omega)).trans (h.block i hi hne)⟩

end Go.Proofs.YtmcdfmhciinocaaGreatDoor

/- Five cells laid in one block leave the others. -/
namespace Go.Proofs.YtmcdfmhciinocaaGreatDoor
open Go Go.RowKit

theorem set5_block {w1 : World} {g b : Nat} (h : b ≠ g) (a1 a2 a3 a4 a5 : Value) : (((((w1.setCell ⟨g, 0, none⟩ a1).setCell ⟨g, 1, none⟩ a2).setCell ⟨g, 2, none⟩ a3).setCell ⟨g, 3, none⟩ a4).setCell ⟨g, 4, none⟩ a5).heap[b]? = w1.heap[b]? := by
  rw [Below.heap_setCell _ _ _ _ h, Below.heap_setCell _ _ _ _ h, Below.heap_setCell _ _ _ _ h, Below.heap_setCell _ _ _ _ h, Below.heap_setCell _ _ _ _ h]

end Go.Proofs.YtmcdfmhciinocaaGreatDoor

/- The walk of read and Read at forms of valid values. -/
namespace Go.Proofs.YtmcdfmhciinocaaGreatDoor
open Go.RowKit Go.Shelf Fl

theorem formV_pos (v : V) : 0 < (formV v).length := by
  rw [formV_is]
  unfold pieceV
  rw [List.length_append, List.length_append]
  have := form_pos v.kind.toNat
  omega

theorem formsV_count : ∀ l : List V, l.length ≤ (formsV l).length
  | [] => Nat.le_refl _
  | v :: r => by
    show r.length + 1 ≤ (formV v ++ formsV r).length
    rw [List.length_append]
    have := formV_pos v
    have := formsV_count r
    omega

end Go.Proofs.YtmcdfmhciinocaaGreatDoor

/- Forms of events: two events with the same form are the same. -/
namespace Go.Proofs.YtmcdfmhciinocaaGreatDoor
open Go.RowKit Fl

theorem form_split {x y : Nat} {r r' : List Nat} (hx : x < 18446744073709551616) (hy : y < 18446744073709551616) (h : form x ++ r = form y ++ r') : x = y ∧ r = r' := by
  have h1 := numL_of_form hx r
  have h2 := numL_of_form hy r'
  rw [h] at h1
  rw [h1] at h2
  have e : x = y := (Prod.mk.inj h2).1
  subst e
  exact ⟨rfl, List.append_cancel_left h⟩

theorem formB_split {s s' r r' : List Nat} (hs : s.length < 18446744073709551616) (hs' : s'.length < 18446744073709551616) (h : formB s ++ r = formB s' ++ r') : s = s' ∧ r = r' := by
  unfold formB at h
  rw [List.append_assoc, List.append_assoc] at h
  obtain ⟨e1, e2⟩ := form_split hs hs' h
  exact List.append_inj e2 e1

theorem be8_split {x y : Nat} {r r' : List Nat} (hx : x < 18446744073709551616) (hy : y < 18446744073709551616) (h : be8 x ++ r = be8 y ++ r') : x = y ∧ r = r' := by
  obtain ⟨e1, e2⟩ := List.append_inj h (by rw [be8_len, be8_len])
  refine ⟨?_, e2⟩
  have hd : ∀ j, j < 8 → x / 2 ^ (8 * (7 - j)) % 256 = y / 2 ^ (8 * (7 - j)) % 256 := fun j hj => by
    have hg : ∀ z, (be8 z).getD j 0 = z / 2 ^ (8 * (7 - j)) % 256 := fun z => by
      match j, hj with
      | 0, _ => simp [be8]
      | 1, _ => simp [be8]
      | 2, _ => simp [be8]
      | 3, _ => simp [be8]
      | 4, _ => simp [be8]
      | 5, _ => simp [be8]
      | 6, _ => simp [be8]
      | 7, _ => simp [be8]
    rw [← hg x, ← hg y, e1]
  have hs : ∀ z j, j < 8 → z / 2 ^ (8 * (8 - j)) * 256 + z / 2 ^ (8 * (7 - j)) % 256 = z / 2 ^ (8 * (8 - (j + 1))) := fun z j hj => by
    have e : 2 ^ (8 * (8 - j)) = 2 ^ (8 * (7 - j)) * 256 := by
      rw [show 8 * (8 - j) = 8 * (7 - j) + 8 by omega, Nat.pow_add]
    rw [e, ← Nat.div_div_eq_div_mul, show 8 - (j + 1) = 7 - j by omega]
    omega
  have hall : ∀ j, j ≤ 8 → x / 2 ^ (8 * (8 - j)) = y / 2 ^ (8 * (8 - j)) := by
    intro j
    induction j with
    | zero => intro _; rw [Nat.div_eq_of_lt (by omega), Nat.div_eq_of_lt (by omega)]
    | succ j ih => intro hj; rw [← hs x j (by omega), ← hs y j (by omega), ih (by omega), hd j (by omega)]
  have h8 := hall 8 (Nat.le_refl _)
  simpa using h8

theorem foldL_inj {a b : Int} (h : foldL a = foldL b) : a = b := by rw [← unfold_fold a, ← unfold_fold b, h]

theorem rightN_field {t : Nat} {v : V} (h : rightN t v = true) : FieldsOk v ∧ (0 ≤ v.kind ∧ v.kind ≤ 4) ∧ ∀ u ∈ v.l, ∃ t', rightN t' u = true := by
  cases t with
  | zero =>
    unfold rightN at h
    simp only [Bool.and_eq_true, decide_eq_true_eq] at h
    obtain ⟨⟨h1, h2⟩, h3⟩ := h
    exact ⟨h1, h3, fun u hu => by rw [h1.2.2.2.resolve_left h2] at hu; cases hu⟩
  | succ t =>
    unfold rightN at h
    simp only [Bool.and_eq_true, decide_eq_true_eq, List.all_eq_true] at h
    exact ⟨h.1.1, h.2, fun u hu => ⟨t, h.1.2 u hu⟩⟩

mutual
/-- What a tree's texts and lists are bounded by. -/
def boundV : V → Prop
  | .mk _ n f s l => (-9223372036854775808 ≤ n ∧ n ≤ 9223372036854775807) ∧ f < 18446744073709551616 ∧ s.length < 18446744073709551616 ∧ l.length < 18446744073709551616 ∧ boundL l
def boundL : List V → Prop
  | [] => True
  | v :: r => boundV v ∧ boundL r
end

mutual
theorem formV_split : ∀ (u v : V) (t t' : Nat) (r r' : List Nat), rightN t u = true → rightN t' v = true → boundV u → boundV v → formV u ++ r = formV v ++ r' → sameV u v = true ∧ r = r'
  | .mk k n f s l, .mk k' n' f' s' l', t, t', r, r', hr, hr', hs, hs', h => by
    obtain ⟨⟨a1, a2, a3, a4⟩, hk, hlr⟩ := rightN_field hr
    obtain ⟨⟨b1, b2, b3, b4⟩, hk', hlr'⟩ := rightN_field hr'
    rw [boundV] at hs hs'
    obtain ⟨c1, c2, c3, c4, c5⟩ := hs
    obtain ⟨d1, d2, d3, d4, d5⟩ := hs'
    change k = 1 ∨ n = 0 at a1
    change k = 2 ∨ bitsB f = 0 at a2
    change k = 3 ∨ s = [] at a3
    change k = 4 ∨ l = [] at a4
    change k' = 1 ∨ n' = 0 at b1
    change k' = 2 ∨ bitsB f' = 0 at b2
    change k' = 3 ∨ s' = [] at b3
    change k' = 4 ∨ l' = [] at b4
    change 0 ≤ k ∧ k ≤ 4 at hk
    change 0 ≤ k' ∧ k' ≤ 4 at hk'
    rw [formV_is, formV_is] at h
    change (form k.toNat ++ contF k n f s l.length) ++ formsV l ++ r = (form k'.toNat ++ contF k' n' f' s' l'.length) ++ formsV l' ++ r' at h
    rw [List.append_assoc, List.append_assoc, List.append_assoc, List.append_assoc] at h
    obtain ⟨e0, h⟩ := form_split (by omega) (by omega) h
    obtain rfl : k = k' := by omega
    rw [sameV, Bool.and_eq_true, decide_eq_true_eq]
    have hnil : k ≠ 4 → sameL l l' = true ∧ formsV l = [] ∧ formsV l' = [] := fun h4 => by rw [a4.resolve_left h4, b4.resolve_left h4]; exact ⟨by rw [sameL], rfl, rfl⟩
    unfold contF at h
    by_cases h1 : k = 1
    · rw [if_pos h1, if_pos h1] at h
      obtain ⟨e1, h⟩ := form_split (fold_lt c1.1 c1.2) (fold_lt d1.1 d1.2) h
      obtain ⟨g1, g2, g3⟩ := hnil (by omega)
      rw [g2, g3] at h
      exact ⟨⟨⟨rfl, foldL_inj e1, by rw [a3.resolve_left (by omega), b3.resolve_left (by omega)], by rw [a2.resolve_left (by omega), b2.resolve_left (by omega)]⟩, g1⟩, h⟩
    rw [if_neg h1, if_neg h1] at h
    have en : n = n' := by rw [a1.resolve_left h1, b1.resolve_left h1]
    by_cases h2 : k = 2
    · rw [if_pos h2, if_pos h2] at h
      obtain ⟨e1, h⟩ := be8_split (bitsB_lt c2) (bitsB_lt d2) h
      obtain ⟨g1, g2, g3⟩ := hnil (by omega)
      rw [g2, g3] at h
      exact ⟨⟨⟨rfl, en, by rw [a3.resolve_left (by omega), b3.resolve_left (by omega)], e1⟩, g1⟩, h⟩
    rw [if_neg h2, if_neg h2] at h
    have ef : bitsB f = bitsB f' := by rw [a2.resolve_left h2, b2.resolve_left h2]
    by_cases h3 : k = 3
    · rw [if_pos h3, if_pos h3] at h
      obtain ⟨e1, h⟩ := formB_split c3 d3 h
      obtain ⟨g1, g2, g3⟩ := hnil (by omega)
      rw [g2, g3] at h
      exact ⟨⟨⟨rfl, en, e1, ef⟩, g1⟩, h⟩
    rw [if_neg h3, if_neg h3] at h
    have es : s = s' := by rw [a3.resolve_left h3, b3.resolve_left h3]
    by_cases h4 : k = 4
    · rw [if_pos h4, if_pos h4] at h
      obtain ⟨e1, h⟩ := form_split c4 d4 h
      obtain ⟨g1, g2⟩ := formsV_split l l' r r' e1 hlr hlr' c5 d5 h
      exact ⟨⟨⟨rfl, en, es, ef⟩, g1⟩, g2⟩
    · rw [if_neg h4, if_neg h4] at h
      obtain ⟨g1, g2, g3⟩ := hnil h4
      rw [g2, g3] at h
      exact ⟨⟨⟨rfl, en, es, ef⟩, g1⟩, h⟩
theorem formsV_split : ∀ (l l' : List V) (r r' : List Nat), l.length = l'.length → (∀ u ∈ l, ∃ t, rightN t u = true) → (∀ u ∈ l', ∃ t, rightN t u = true) → boundL l → boundL l' → formsV l ++ r = formsV l' ++ r' → sameL l l' = true ∧ r = r'
  | [], [], r, r', _, _, _, _, _, h => ⟨by rw [sameL], h⟩
  | [], _ :: _, _, _, hl, _, _, _, _, _ => by simp at hl
  | _ :: _, [], _, _, hl, _, _, _, _, _ => by simp at hl
  | u :: l, v :: l', r, r', hl, hr, hr', hb, hb', h => by
    rw [boundL] at hb hb'
    obtain ⟨t, ht⟩ := hr u (by simp)
    obtain ⟨t', ht'⟩ := hr' v (by simp)
    have e1 : formsV (u :: l) = formV u ++ formsV l := rfl
    have e2 : formsV (v :: l') = formV v ++ formsV l' := rfl
    rw [e1, e2, List.append_assoc, List.append_assoc] at h
    obtain ⟨g1, g2⟩ := formV_split u v t t' _ _ ht ht' hb.1 hb'.1 h
    obtain ⟨g3, g4⟩ := formsV_split l l' r r' (by simpa using hl) (fun x hx => hr x (by simp [hx])) (fun x hx => hr' x (by simp [hx])) hb.2 hb'.2 g2
    exact ⟨by rw [sameL, g1, g3]; rfl, g4⟩
end

end Go.Proofs.YtmcdfmhciinocaaGreatDoor

