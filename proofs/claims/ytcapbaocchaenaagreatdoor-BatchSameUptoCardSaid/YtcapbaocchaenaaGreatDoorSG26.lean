import Derived.Test.YtcapbaocchaenaaGreatDoorSG13
import Derived.Test.YtcapbaocchaenaaGreatDoorSG19
import Derived.Test.YtcapbaocchaenaaGreatDoorSG24
import Derived.Test.YtcapbaocchaenaaGreatDoorSG15
/- Batches as plain data, and where they lie. -/
namespace Go.Proofs.YtcapbaocchaenaaGreatDoor
open Go.RowKit Fl

/-- A batch. -/
structure Bt where
  flow : List Nat
  at_ : Nat
  es : List Ev

/-- The event e lies in eleven cells. -/
def EvCells (w : World) (b o : Nat) (e : Ev) : Prop := ∃ a cap, EvIn w e (evC e.k e.id e.n e.t e.nm e.tx e.v.kind e.v.n e.v.f e.v.s a e.v.l.length cap) ∧
  ∀ j, j < 11 → w.cell? ⟨b, o + j, none⟩ = (evC e.k e.id e.n e.t e.nm e.tx e.v.kind e.v.n e.v.f e.v.s a e.v.l.length cap)[j]?

/-- The events es lie at the beginning of a slice. -/
structure Evs (w : World) (a : Option Addr) (n c : Nat) (es : List Ev) : Prop where
  len : es.length = n
  le : n ≤ c
  max : c ≤ 9223372036854775807
  cell : 0 < n → ∃ b o, a = some ⟨b, o, none⟩ ∧ ∀ i (hi : i < es.length), EvCells w b (o + i * 11) es[i]

theorem EvCells.below {w w' : World} {b o : Nat} {e : Ev} (h : EvCells w b o e) (hb : Below w.heap.size w w') : EvCells w' b o e := by
  obtain ⟨a, cap, h1, h2⟩ := h
  refine ⟨a, cap, h1.below hb, fun j hj => ?_⟩
  have h3 := h2 j hj
  have hs : (evC e.k e.id e.n e.t e.nm e.tx e.v.kind e.v.n e.v.f e.v.s a e.v.l.length cap).size = 11 := rfl
  obtain ⟨y, hy⟩ : ∃ y, (evC e.k e.id e.n e.t e.nm e.tx e.v.kind e.v.n e.v.f e.v.s a e.v.l.length cap)[j]? = some y := ⟨_, Array.getElem?_eq_getElem (by rw [hs]; exact hj)⟩
  rw [hy] at h3 ⊢
  exact cell_below hb h3

theorem Evs.below {w w' : World} {a : Option Addr} {n c : Nat} {es : List Ev} (h : Evs w a n c es) (hb : Below w.heap.size w w') : Evs w' a n c es :=
  ⟨h.len, h.le, h.max, fun hn => by obtain ⟨b, o, e, hc⟩ := h.cell hn; exact ⟨b, o, e, fun i hi => (hc i hi).below hb⟩⟩

theorem evs_nil (w : World) : Evs w none 0 0 [] := ⟨rfl, Nat.le_refl _, by omega, fun h => absurd h (Nat.lt_irrefl _)⟩

/-- The cells x hold the batch t. -/
def BtIn (w : World) (t : Bt) (x : Array Value) : Prop :=
  ((∀ c ∈ t.flow, c < 256) ∧ t.flow.length ≤ 9223372036854775807) ∧ t.at_ < 18446744073709551616 ∧
  ∃ a n c, x = #[.string (str t.flow), .int .u64 (t.at_ : Int), .slice a n c] ∧ Evs w a n c t.es

theorem BtIn.below {w w' : World} {t : Bt} {x : Array Value} (h : BtIn w t x) (hb : Below w.heap.size w w') : BtIn w' t x := by
  obtain ⟨h1, h2, a, n, c, h3, h4⟩ := h
  exact ⟨h1, h2, a, n, c, h3, h4.below hb⟩

/-- Valid batches. -/
def okB (t : Bt) : Bool := decide (t.flow ≠ [] ∧ t.flow.length ≤ 1000) && decide (t.at_ ≤ 9223372036854775807) && decide (t.es ≠ []) && t.es.all okE

/-- The eleven cells of an event in a slice, one by one. -/
theorem EvCells.all {w : World} {b o : Nat} {e : Ev} (h : EvCells w b o e) : ∃ a cap, EvIn w e (evC e.k e.id e.n e.t e.nm e.tx e.v.kind e.v.n e.v.f e.v.s a e.v.l.length cap) ∧
    (w.cell? ⟨b, o, none⟩ = some (.int .i64 e.k) ∧ w.cell? ⟨b, o + 1, none⟩ = some (.int .u64 (e.id : Int)) ∧ w.cell? ⟨b, o + 2, none⟩ = some (.int .i64 e.n) ∧ w.cell? ⟨b, o + 3, none⟩ = some (.int .u64 (e.t : Int)) ∧ w.cell? ⟨b, o + 4, none⟩ = some (.string (str e.nm)) ∧ w.cell? ⟨b, o + 5, none⟩ = some (.string (str e.tx))) ∧
    w.cell? ⟨b, o + 6, none⟩ = some (.int .i64 e.v.kind) ∧ w.cell? ⟨b, o + 7, none⟩ = some (.int .i64 e.v.n) ∧ w.cell? ⟨b, o + 8, none⟩ = some (.float .f64 e.v.f) ∧ w.cell? ⟨b, o + 9, none⟩ = some (.string (str e.v.s)) ∧ w.cell? ⟨b, o + 10, none⟩ = some (.slice a e.v.l.length cap) := by
  obtain ⟨a, cap, h1, h2⟩ := h
  exact ⟨a, cap, h1, ⟨h2 0 (by omega), h2 1 (by omega), h2 2 (by omega), h2 3 (by omega), h2 4 (by omega), h2 5 (by omega)⟩, h2 6 (by omega), h2 7 (by omega), h2 8 (by omega), h2 9 (by omega), h2 10 (by omega)⟩

theorem box3 {w : World} {B : Nat} {v0 v1 v2 : Value} {t : TypeId} (h : w.heap[B]? = some (.cells #[v0, v1, v2] t (0, 0))) : w.cell? ⟨B, 0, none⟩ = some v0 ∧ w.cell? ⟨B, 1, none⟩ = some v1 ∧ w.cell? ⟨B, 2, none⟩ = some v2 := by
  refine ⟨?_, ?_, ?_⟩ <;> (rw [cell_of_row _ _ _ _ _ (0, 0) h]; rfl)
end Go.Proofs.YtcapbaocchaenaaGreatDoor

/- Forms of events: two events with the same form are the same. -/
namespace Go.Proofs.YtcapbaocchaenaaGreatDoor
open Go.RowKit Fl

theorem form_split {x y : Nat} {r r' : List Nat} (hx : x < 18446744073709551616) (hy : y < 18446744073709551616) (h : form x ++ r = form y ++ r') : x = y ∧ r = r' := by
  have h1 := numL_of_form hx r
  have h2 := numL_of_form hy r'
  rw [h] at h1
  rw [h1] at h2
  have e : x = y := (Prod.mk.inj h2).1
  subst e
  exact ⟨rfl, List.append_cancel_left h⟩

theorem formB_split {s s' r r' : List Nat} (hs : s.length < 18446744073709551616) (hs' : s'.length < 18446744073709551616) (h : formB s ++ r = formB s' ++ r') : s = s' ∧ r = r' := by
  unfold formB at h
  rw [List.append_assoc, List.append_assoc] at h
  obtain ⟨e1, e2⟩ := form_split hs hs' h
  exact List.append_inj e2 e1

theorem be8_split {x y : Nat} {r r' : List Nat} (hx : x < 18446744073709551616) (hy : y < 18446744073709551616) (h : be8 x ++ r = be8 y ++ r') : x = y ∧ r = r' := by
  obtain ⟨e1, e2⟩ := List.append_inj h (by rw [be8_len, be8_len])
  refine ⟨?_, e2⟩
  have hd : ∀ j, j < 8 → x / 2 ^ (8 * (7 - j)) % 256 = y / 2 ^ (8 * (7 - j)) % 256 := fun j hj => by
    have hg : ∀ z, (be8 z).getD j 0 = z / 2 ^ (8 * (7 - j)) % 256 := fun z => by
      match j, hj with
      | 0, _ => simp [be8]
      | 1, _ => simp [be8]
      | 2, _ => simp [be8]
      | 3, _ => simp [be8]
      | 4, _ => simp [be8]
      | 5, _ => simp [be8]
      | 6, _ => simp [be8]
      | 7, _ => simp [be8]
    rw [← hg x, ← hg y, e1]
  have hs : ∀ z j, j < 8 → z / 2 ^ (8 * (8 - j)) * 256 + z / 2 ^ (8 * (7 - j)) % 256 = z / 2 ^ (8 * (8 - (j + 1))) := fun z j hj => by
    have e : 2 ^ (8 * (8 - j)) = 2 ^ (8 * (7 - j)) * 256 := by
      rw [show 8 * (8 - j) = 8 * (7 - j) + 8 by omega, Nat.pow_add]
    rw [e, ← Nat.div_div_eq_div_mul, show 8 - (j + 1) = 7 - j by omega]
    omega
  have hall : ∀ j, j ≤ 8 → x / 2 ^ (8 * (8 - j)) = y / 2 ^ (8 * (8 - j)) := by
    intro j
    induction j with
    | zero => intro _; rw [Nat.div_eq_of_lt (by omega), Nat.div_eq_of_lt (by omega)]
    | succ j ih => intro hj; rw [← hs x j (by omega), ← hs y j (by omega), ih (by omega), hd j (by omega)]
  have h8 := hall 8 (Nat.le_refl _)
  simpa using h8

theorem foldL_inj {a b : Int} (h : foldL a = foldL b) : a = b := by rw [← unfold_fold a, ← unfold_fold b, h]

theorem rightN_field {t : Nat} {v : V} (h : rightN t v = true) : FieldsOk v ∧ (0 ≤ v.kind ∧ v.kind ≤ 4) ∧ ∀ u ∈ v.l, ∃ t', rightN t' u = true := by
  cases t with
  | zero =>
    unfold rightN at h
    simp only [Bool.and_eq_true, decide_eq_true_eq] at h
    obtain ⟨⟨h1, h2⟩, h3⟩ := h
    exact ⟨h1, h3, fun u hu => by rw [h1.2.2.2.resolve_left h2] at hu; cases hu⟩
  | succ t =>
    unfold rightN at h
    simp only [Bool.and_eq_true, decide_eq_true_eq, List.all_eq_true] at h
    exact ⟨h.1.1, h.2, fun u hu => ⟨t, h.1.2 u hu⟩⟩

mutual
/-- What a tree's texts and lists are bounded by. -/
def boundV : V → Prop
  | .mk _ n f s l => (-9223372036854775808 ≤ n ∧ n ≤ 9223372036854775807) ∧ f < 18446744073709551616 ∧ s.length < 18446744073709551616 ∧ l.length < 18446744073709551616 ∧ boundL l
def boundL : List V → Prop
  | [] => True
  | v :: r => boundV v ∧ boundL r
end

mutual
theorem formV_split : ∀ (u v : V) (t t' : Nat) (r r' : List Nat), rightN t u = true → rightN t' v = true → boundV u → boundV v → formV u ++ r = formV v ++ r' → sameV u v = true ∧ r = r'
  | .mk k n f s l, .mk k' n' f' s' l', t, t', r, r', hr, hr', hs, hs', h => by
    obtain ⟨⟨a1, a2, a3, a4⟩, hk, hlr⟩ := rightN_field hr
    obtain ⟨⟨b1, b2, b3, b4⟩, hk', hlr'⟩ := rightN_field hr'
    rw [boundV] at hs hs'
    obtain ⟨c1, c2, c3, c4, c5⟩ := hs
    obtain ⟨d1, d2, d3, d4, d5⟩ := hs'
    change k = 1 ∨ n = 0 at a1
    change k = 2 ∨ bitsB f = 0 at a2
    change k = 3 ∨ s = [] at a3
    change k = 4 ∨ l = [] at a4
    change k' = 1 ∨ n' = 0 at b1
    change k' = 2 ∨ bitsB f' = 0 at b2
    change k' = 3 ∨ s' = [] at b3
    change k' = 4 ∨ l' = [] at b4
    change 0 ≤ k ∧ k ≤ 4 at hk
    change 0 ≤ k' ∧ k' ≤ 4 at hk'
    rw [formV_is, formV_is] at h
    change (form k.toNat ++ contF k n f s l.length) ++ formsV l ++ r = (form k'.toNat ++ contF k' n' f' s' l'.length) ++ formsV l' ++ r' at h
    rw [List.append_assoc, List.append_assoc, List.append_assoc, List.append_assoc] at h
    obtain ⟨e0, h⟩ := form_split (by omega) (by omega) h
    obtain rfl : k = k' := by omega
    rw [sameV, Bool.and_eq_true, decide_eq_true_eq]
    have hnil : k ≠ 4 → sameL l l' = true ∧ formsV l = [] ∧ formsV l' = [] := fun h4 => by rw [a4.resolve_left h4, b4.resolve_left h4]; exact ⟨by rw [sameL], rfl, rfl⟩
    unfold contF at h
    by_cases h1 : k = 1
    · rw [if_pos h1, if_pos h1] at h
      obtain ⟨e1, h⟩ := form_split (fold_lt c1.1 c1.2) (fold_lt d1.1 d1.2) h
      obtain ⟨g1, g2, g3⟩ := hnil (by omega)
      rw [g2, g3] at h
      exact ⟨⟨⟨rfl, foldL_inj e1, by rw [a3.resolve_left (by omega), b3.resolve_left (by omega)], by rw [a2.resolve_left (by omega), b2.resolve_left (by omega)]⟩, g1⟩, h⟩
    rw [if_neg h1, if_neg h1] at h
    have en : n = n' := by rw [a1.resolve_left h1, b1.resolve_left h1]
    by_cases h2 : k = 2
    · rw [if_pos h2, if_pos h2] at h
      obtain ⟨e1, h⟩ := be8_split (bitsB_lt c2) (bitsB_lt d2) h
      obtain ⟨g1, g2, g3⟩ := hnil (by omega)
      rw [g2, g3] at h
      exact ⟨⟨⟨rfl, en, by rw [a3.resolve_left (by omega), b3.resolve_left (by omega)], e1⟩, g1⟩, h⟩
    rw [if_neg h2, if_neg h2] at h
    have ef : bitsB f = bitsB f' := by rw [a2.resolve_left h2, b2.resolve_left h2]
    by_cases h3 : k = 3
    · rw [if_pos h3, if_pos h3] at h
      obtain ⟨e1, h⟩ := formB_split c3 d3 h
      obtain ⟨g1, g2, g3⟩ := hnil (by omega)
      rw [g2, g3] at h
      exact ⟨⟨⟨rfl, en, e1, ef⟩, g1⟩, h⟩
    rw [if_neg h3, if_neg h3] at h
    have es : s = s' := by rw [a3.resolve_left h3, b3.resolve_left h3]
    by_cases h4 : k = 4
    · rw [if_pos h4, if_pos h4] at h
      obtain ⟨e1, h⟩ := form_split c4 d4 h
      obtain ⟨g1, g2⟩ := formsV_split l l' r r' e1 hlr hlr' c5 d5 h
      exact ⟨⟨⟨rfl, en, es, ef⟩, g1⟩, g2⟩
    · rw [if_neg h4, if_neg h4] at h
      obtain ⟨g1, g2, g3⟩ := hnil h4
      rw [g2, g3] at h
      exact ⟨⟨⟨rfl, en, es, ef⟩, g1⟩, h⟩
theorem formsV_split : ∀ (l l' : List V) (r r' : List Nat), l.length = l'.length → (∀ u ∈ l, ∃ t, rightN t u = true) → (∀ u ∈ l', ∃ t, rightN t u = true) → boundL l → boundL l' → formsV l ++ r = formsV l' ++ r' → sameL l l' = true ∧ r = r'
  | [], [], r, r', _, _, _, _, _, h => ⟨by rw [sameL], h⟩
  | [], _ :: _, _, _, hl, _, _, _, _, _ => by simp at hl
  | _ :: _, [], _, _, hl, _, _, _, _, _ => by simp at hl
  | u :: l, v :: l', r, r', hl, hr, hr', hb, hb', h => by
    rw [boundL] at hb hb'
    obtain ⟨t, ht⟩ := hr u (by simp)
    obtain ⟨t', ht'⟩ := hr' v (by simp)
    have e1 : formsV (u :: l) = formV u ++ formsV l := rfl
    have e2 : formsV (v :: l') = formV v ++ formsV l' := rfl
    rw [e1, e2, List.append_assoc, List.append_assoc] at h
    obtain ⟨g1, g2⟩ := formV_split u v t t' _ _ ht ht' hb.1 hb'.1 h
    obtain ⟨g3, g4⟩ := formsV_split l l' r r' (by simpa using hl) (fun x hx => hr x (by simp [hx])) (fun x hx => hr' x (by simp [hx])) hb.2 hb'.2 g2
    exact ⟨by rw [sameL, g1, g3]; rfl, g4⟩
end

mutual
theorem formV_same : ∀ (u v : V), sameV u v = true → formV u = formV v
  | .mk k n f s l, .mk k' n' f' s' l', h => by
    rw [sameV, Bool.and_eq_true, decide_eq_true_eq] at h
    obtain ⟨⟨rfl, rfl, rfl, e⟩, h⟩ := h
    rw [formV_is, formV_is]
    change (form k.toNat ++ contF k n f s l.length) ++ formsV l = (form k.toNat ++ contF k n f' s l'.length) ++ formsV l'
    rw [formsV_same l l' h, sameL_len h]
    unfold contF
    rw [e]
theorem formsV_same : ∀ (l l' : List V), sameL l l' = true → formsV l = formsV l'
  | [], [], _ => rfl
  | [], _ :: _, h => by simp [sameL] at h
  | _ :: _, [], h => by simp [sameL] at h
  | u :: l, v :: l', h => by
    rw [sameL, Bool.and_eq_true] at h
    have e1 : formsV (u :: l) = formV u ++ formsV l := rfl
    have e2 : formsV (v :: l') = formV v ++ formsV l' := rfl
    rw [e1, e2, formV_same u v h.1, formsV_same l l' h.2]
end
end Go.Proofs.YtcapbaocchaenaaGreatDoor

/- Events with the same form, or the same text, are the same. -/
namespace Go.Proofs.YtcapbaocchaenaaGreatDoor
open Go.RowKit Fl

/-- Two events are the same. -/
def sameE (a b : Ev) : Bool := decide (a.k = b.k ∧ a.id = b.id ∧ a.n = b.n ∧ a.t = b.t ∧ a.nm = b.nm ∧ a.tx = b.tx) && sameV a.v b.v

/-- What an event's parts are bounded by. -/
structure EvB (e : Ev) : Prop where
  id : e.id < 18446744073709551616
  t : e.t < 18446744073709551616
  nm : e.nm.length < 18446744073709551616
  tx : e.tx.length < 18446744073709551616
  v : boundV e.v
  nb : ∀ c ∈ e.nm, c < 256
  tb : ∀ c ∈ e.tx, c < 256
  w : wordsV e.v

mutual
theorem VIn.bound {w : World} : ∀ (v : V) (x : Array Value), VIn w v x → boundV v
  | .mk k n f s l, x, h => by
    rw [VIn] at h
    obtain ⟨_, h2, h3, _, h5, a, cap, _, h7, h8, h9⟩ := h
    rw [boundV]
    refine ⟨h2, h3, by omega, by omega, ?_⟩
    rcases h9 with rfl | ⟨b, o, _, hv⟩
    · rw [boundL]; trivial
    · exact VsIn.bound l b o hv
theorem VsIn.bound {w : World} : ∀ (l : List V) (b o : Nat), VsIn w l b o → boundL l
  | [], _, _, _ => by rw [boundL]; trivial
  | v :: r, b, o, h => by
    rw [VsIn] at h
    obtain ⟨⟨x, _, _, hv⟩, hr⟩ := h
    rw [boundL]
    exact ⟨VIn.bound v x hv, VsIn.bound r b (o + 5) hr⟩
end

theorem EvIn.bound {w : World} {e : Ev} {x : Array Value} (h : EvIn w e x) : EvB e := by
  obtain ⟨_, h2, _, h4, h5, h6, a, cap, _, hv⟩ := h
  exact ⟨h2, h4, by omega, by omega, VIn.bound _ _ hv, h5.1, h6.1, VIn.words _ _ hv⟩

/-- A field is the same in two events. -/
def eqF (a b : Ev) (i : Nat) : Prop := if i = 0 then a.id = b.id else if i = 1 then a.n = b.n else if i = 2 then a.t = b.t else if i = 3 then a.nm = b.nm else if i = 4 then a.tx = b.tx else sameV a.v b.v = true

theorem eqF_all {a b : Ev} (hk : a.k = b.k) (h : ∀ i, i < 6 → eqF a b i) : sameE a b = true := by
  unfold sameE
  rw [Bool.and_eq_true, decide_eq_true_eq]
  exact ⟨⟨hk, h 0 (by omega), h 1 (by omega), h 2 (by omega), h 3 (by omega), h 4 (by omega)⟩, h 5 (by omega)⟩

theorem eqF_empty {a b : Ev} {i : Nat} (hi : i < 6) (ha : emptyE a i = true) (hb : emptyE b i = true) : eqF a b i := by
  match i, hi with
  | 0, _ => have h1 : a.id = 0 := by simpa [emptyE] using ha
            have h2 : b.id = 0 := by simpa [emptyE] using hb
            show a.id = b.id; rw [h1, h2]
  | 1, _ => have h1 : a.n = 0 := by simpa [emptyE] using ha
            have h2 : b.n = 0 := by simpa [emptyE] using hb
            show a.n = b.n; rw [h1, h2]
  | 2, _ => have h1 : a.t = 0 := by simpa [emptyE] using ha
            have h2 : b.t = 0 := by simpa [emptyE] using hb
            show a.t = b.t; rw [h1, h2]
  | 3, _ => have h1 : a.nm = [] := by simpa [emptyE] using ha
            have h2 : b.nm = [] := by simpa [emptyE] using hb
            show a.nm = b.nm; rw [h1, h2]
  | 4, _ => have h1 : a.tx = [] := by simpa [emptyE] using ha
            have h2 : b.tx = [] := by simpa [emptyE] using hb
            show a.tx = b.tx; rw [h1, h2]
  | 5, _ => have h1 : sameV a.v zeroV = true := by simpa [emptyE] using ha
            have h2 : sameV b.v zeroV = true := by simpa [emptyE] using hb
            exact sameV_trans _ _ _ h1 (sameV_symm _ _ h2)

theorem same_of_fields {a b : Ev} (ha : okE a = true) (hb : okE b = true) (hk : a.k = b.k) (h : ∀ i ∈ evFields a.k, eqF a b i) : sameE a b = true := by
  refine eqF_all hk fun i hi => ?_
  by_cases hm : i ∈ evFields a.k
  · exact h i hm
  · have h1 := (okE_parts ha).2 i hi
    have h2 := (okE_parts hb).2 i hi
    rw [if_neg hm] at h1
    rw [if_neg (by rw [← hk]; exact hm)] at h2
    exact eqF_empty hi h1 h2

theorem piece_split {a b : Ev} (ha : EvB a) (hb : EvB b) {i : Nat} (hi : i < 6) (hra : rightE a i = true) (hrb : rightE b i = true) {r r' : List Nat} (h : pieceE a i ++ r = pieceE b i ++ r') : eqF a b i ∧ r = r' := by
  match i, hi with
  | 0, _ => exact form_split ha.id hb.id h
  | 1, _ =>
    have h1 : 1 ≤ a.n ∧ a.n ≤ 2147483647 := by simpa [rightE] using hra
    have h2 : 1 ≤ b.n ∧ b.n ≤ 2147483647 := by simpa [rightE] using hrb
    obtain ⟨e, h⟩ := form_split (x := a.n.toNat) (y := b.n.toNat) (by omega) (by omega) h
    exact ⟨by show a.n = b.n; omega, h⟩
  | 2, _ => exact form_split ha.t hb.t h
  | 3, _ => exact formB_split ha.nm hb.nm h
  | 4, _ => exact formB_split ha.tx hb.tx h
  | 5, _ =>
    have h1 : rightN 8 a.v = true := by simpa [rightE] using hra
    have h2 : rightN 8 b.v = true := by simpa [rightE] using hrb
    exact formV_split _ _ 8 8 _ _ h1 h2 ha.v hb.v h

theorem pieces_split {a b : Ev} (ha : EvB a) (hb : EvB b) : ∀ (fs : List Nat) (r r' : List Nat), (∀ i ∈ fs, i < 6 ∧ rightE a i = true ∧ rightE b i = true) → (fs.map (pieceE a)).flatten ++ r = (fs.map (pieceE b)).flatten ++ r' → (∀ i ∈ fs, eqF a b i) ∧ r = r'
  | [], r, r', _, h => ⟨fun i hi => (by cases hi), h⟩
  | i :: fs, r, r', hf, h => by
    rw [List.map_cons, List.map_cons, List.flatten_cons, List.flatten_cons, List.append_assoc, List.append_assoc] at h
    obtain ⟨h6, h1, h2⟩ := hf i (by simp)
    obtain ⟨e, h⟩ := piece_split ha hb h6 h1 h2 h
    obtain ⟨g, h⟩ := pieces_split ha hb fs r r' (fun j hj => hf j (by simp [hj])) h
    refine ⟨fun j hj => ?_, h⟩
    rcases List.mem_cons.1 hj with rfl | hj
    · exact e
    · exact g j hj

theorem piece_same {a b : Ev} (h : sameE a b = true) (i : Nat) : pieceE a i = pieceE b i := by
  unfold sameE at h
  rw [Bool.and_eq_true, decide_eq_true_eq] at h
  obtain ⟨⟨h0, h1, h2, h3, h4, h5⟩, h6⟩ := h
  unfold pieceE
  rw [h1, h2, h3, h4, h5, formV_same _ _ h6]

theorem formE_iff {a b : Ev} (ha : okE a = true) (hb : okE b = true) (ba : EvB a) (bb : EvB b) : decide (formE a = formE b) = sameE a b := by
  rw [Bool.eq_iff_iff, decide_eq_true_eq]
  constructor
  · intro h
    unfold formE at h
    obtain ⟨hk, _⟩ := okE_parts ha
    obtain ⟨hk', _⟩ := okE_parts hb
    rw [List.append_assoc, List.append_assoc] at h
    have h := List.append_cancel_left h
    obtain ⟨e, h⟩ := form_split (by omega) (by omega) h
    have hkk : a.k = b.k := by omega
    rw [← hkk] at h
    have h' : (List.map (pieceE a) (evFields a.k)).flatten ++ [] = (List.map (pieceE b) (evFields a.k)).flatten ++ [] := by simpa using h
    obtain ⟨g, _⟩ := pieces_split ba bb _ _ _ (fun i hi => ⟨evFields_lt _ _ hi, okE_right ha hi, okE_right hb (by rw [← hkk]; exact hi)⟩) h'
    exact same_of_fields ha hb hkk g
  · intro h
    have hk : a.k = b.k := by
      unfold sameE at h
      rw [Bool.and_eq_true, decide_eq_true_eq] at h
      exact h.1.1
    unfold formE
    rw [hk, List.map_congr_left (fun i _ => piece_same h i)]
end Go.Proofs.YtcapbaocchaenaaGreatDoor

