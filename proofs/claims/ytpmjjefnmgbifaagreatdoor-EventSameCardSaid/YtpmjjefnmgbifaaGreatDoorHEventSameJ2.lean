import Derived.Test.YtpmjjefnmgbifaaGreatDoorMB25
import Derived.Test.YtpmjjefnmgbifaaGreatDoorMB31
import Derived.Test.YtpmjjefnmgbifaaGreatDoorMB19
/- Forms of events: two events with the same form are the same. -/
namespace Go.Proofs.YtpmjjefnmgbifaaGreatDoor
open Go.RowKit Fl

theorem form_split {x y : Nat} {r r' : List Nat} (hx : x < 18446744073709551616) (hy : y < 18446744073709551616) (h : form x ++ r = form y ++ r') : x = y ∧ r = r' := by
  have h1 := numL_of_form hx r
  have h2 := numL_of_form hy r'
  rw [h] at h1
  rw [h1] at h2
  have e : x = y := (Prod.mk.inj h2).1
  subst e
  exact ⟨rfl, List.append_cancel_left h⟩

theorem formB_split {s s' r r' : List Nat} (hs : s.length < 18446744073709551616) (hs' : s'.length < 18446744073709551616) (h : formB s ++ r = formB s' ++ r') : s = s' ∧ r = r' := by
  unfold formB at h
  rw [List.append_assoc, List.append_assoc] at h
  obtain ⟨e1, e2⟩ := form_split hs hs' h
  exact List.append_inj e2 e1

theorem be8_split {x y : Nat} {r r' : List Nat} (hx : x < 18446744073709551616) (hy : y < 18446744073709551616) (h : be8 x ++ r = be8 y ++ r') : x = y ∧ r = r' := by
  obtain ⟨e1, e2⟩ := List.append_inj h (by rw [be8_len, be8_len])
  refine ⟨?_, e2⟩
  have hd : ∀ j, j < 8 → x / 2 ^ (8 * (7 - j)) % 256 = y / 2 ^ (8 * (7 - j)) % 256 := fun j hj => by
    have hg : ∀ z, (be8 z).getD j 0 = z / 2 ^ (8 * (7 - j)) % 256 := fun z => by
      match j, hj with
      | 0, _ => simp [be8]
      | 1, _ => simp [be8]
      | 2, _ => simp [be8]
      | 3, _ => simp [be8]
      | 4, _ => simp [be8]
      | 5, _ => simp [be8]
      | 6, _ => simp [be8]
      | 7, _ => simp [be8]
    rw [← hg x, ← hg y, e1]
  have hs : ∀ z j, j < 8 → z / 2 ^ (8 * (8 - j)) * 256 + z / 2 ^ (8 * (7 - j)) % 256 = z / 2 ^ (8 * (8 - (j + 1))) := fun z j hj => by
    have e : 2 ^ (8 * (8 - j)) = 2 ^ (8 * (7 - j)) * 256 := by
      rw [show 8 * (8 - j) = 8 * (7 - j) + 8 by omega, Nat.pow_add]
    rw [e, ← Nat.div_div_eq_div_mul, show 8 - (j + 1) = 7 - j by omega]
    omega
  have hall : ∀ j, j ≤ 8 → x / 2 ^ (8 * (8 - j)) = y / 2 ^ (8 * (8 - j)) := by
    intro j
    induction j with
    | zero => intro _; rw [Nat.div_eq_of_lt (by omega), Nat.div_eq_of_lt (by omega)]
    | succ j ih => intro hj; rw [← hs x j (by omega), ← hs y j (by omega), ih (by omega), hd j (by omega)]
  have h8 := hall 8 (Nat.le_refl _)
  simpa using h8

theorem foldL_inj {a b : Int} (h : foldL a = foldL b) : a = b := by rw [← unfold_fold a, ← unfold_fold b, h]

theorem rightN_field {t : Nat} {v : V} (h : rightN t v = true) : FieldsOk v ∧ (0 ≤ v.kind ∧ v.kind ≤ 4) ∧ ∀ u ∈ v.l, ∃ t', rightN t' u = true := by
  cases t with
  | zero =>
    unfold rightN at h
    simp only [Bool.and_eq_true, decide_eq_true_eq] at h
    obtain ⟨⟨h1, h2⟩, h3⟩ := h
    exact ⟨h1, h3, fun u hu => by rw [h1.2.2.2.resolve_left h2] at hu; cases hu⟩
  | succ t =>
    unfold rightN at h
    simp only [Bool.and_eq_true, decide_eq_true_eq, List.all_eq_true] at h
    exact ⟨h.1.1, h.2, fun u hu => ⟨t, h.1.2 u hu⟩⟩

mutual
/-- What a tree's texts and lists are bounded by. -/
def boundV : V → Prop
  | .mk _ n f s l => (-9223372036854775808 ≤ n ∧ n ≤ 9223372036854775807) ∧ f < 18446744073709551616 ∧ s.length < 18446744073709551616 ∧ l.length < 18446744073709551616 ∧ boundL l
def boundL : List V → Prop
  | [] => True
  | v :: r => boundV v ∧ boundL r
end

mutual
theorem formV_split : ∀ (u v : V) (t t' : Nat) (r r' : List Nat), rightN t u = true → rightN t' v = true → boundV u → boundV v → formV u ++ r = formV v ++ r' → sameV u v = true ∧ r = r'
  | .mk k n f s l, .mk k' n' f' s' l', t, t', r, r', hr, hr', hs, hs', h => by
    obtain ⟨⟨a1, a2, a3, a4⟩, hk, hlr⟩ := rightN_field hr
    obtain ⟨⟨b1, b2, b3, b4⟩, hk', hlr'⟩ := rightN_field hr'
    rw [boundV] at hs hs'
    obtain ⟨c1, c2, c3, c4, c5⟩ := hs
    obtain ⟨d1, d2, d3, d4, d5⟩ := hs'
    change k = 1 ∨ n = 0 at a1
    change k = 2 ∨ bitsB f = 0 at a2
    change k = 3 ∨ s = [] at a3
    change k = 4 ∨ l = [] at a4
    change k' = 1 ∨ n' = 0 at b1
    change k' = 2 ∨ bitsB f' = 0 at b2
    change k' = 3 ∨ s' = [] at b3
    change k' = 4 ∨ l' = [] at b4
    change 0 ≤ k ∧ k ≤ 4 at hk
    change 0 ≤ k' ∧ k' ≤ 4 at hk'
    rw [formV_is, formV_is] at h
    change (form k.toNat ++ contF k n f s l.length) ++ formsV l ++ r = (form k'.toNat ++ contF k' n' f' s' l'.length) ++ formsV l' ++ r' at h
    rw [List.append_assoc, List.append_assoc, List.append_assoc, List.append_assoc] at h
    obtain ⟨e0, h⟩ := form_split (by omega) (by omega) h
    obtain rfl : k = k' := by omega
    rw [sameV, Bool.and_eq_true, decide_eq_true_eq]
    have hnil : k ≠ 4 → sameL l l' = true ∧ formsV l = [] ∧ formsV l' = [] := fun h4 => by rw [a4.resolve_left h4, b4.resolve_left h4]; exact ⟨by rw [sameL], rfl, rfl⟩
    unfold contF at h
    by_cases h1 : k = 1
    · rw [if_pos h1, if_pos h1] at h
      obtain ⟨e1, h⟩ := form_split (fold_lt c1.1 c1.2) (fold_lt d1.1 d1.2) h
      obtain ⟨g1, g2, g3⟩ := hnil (by omega)
      rw [g2, g3] at h
      exact ⟨⟨⟨rfl, foldL_inj e1, by rw [a3.resolve_left (by omega), b3.resolve_left (by omega)], by rw [a2.resolve_left (by omega), b2.resolve_left (by omega)]⟩, g1⟩, h⟩
    rw [if_neg h1, if_neg h1] at h
    have en : n = n' := by rw [a1.resolve_left h1, b1.resolve_left h1]
    by_cases h2 : k = 2
    · rw [if_pos h2, if_pos h2] at h
      obtain ⟨e1, h⟩ := be8_split (bitsB_lt c2) (bitsB_lt d2) h
      obtain ⟨g1, g2, g3⟩ := hnil (by omega)
      rw [g2, g3] at h
      exact ⟨⟨⟨rfl, en, by rw [a3.resolve_left (by omega), b3.resolve_left (by omega)], e1⟩, g1⟩, h⟩
    rw [if_neg h2, if_neg h2] at h
    have ef : bitsB f = bitsB f' := by rw [a2.resolve_left h2, b2.resolve_left h2]
    by_cases h3 : k = 3
    · rw [if_pos h3, if_pos h3] at h
      obtain ⟨e1, h⟩ := formB_split c3 d3 h
      obtain ⟨g1, g2, g3⟩ := hnil (by omega)
      rw [g2, g3] at h
      exact ⟨⟨⟨rfl, en, e1, ef⟩, g1⟩, h⟩
    rw [if_neg h3, if_neg h3] at h
    have es : s = s' := by rw [a3.resolve_left h3, b3.resolve_left h3]
    by_cases h4 : k = 4
    · rw [if_pos h4, if_pos h4] at h
      obtain ⟨e1, h⟩ := form_split c4 d4 h
      obtain ⟨g1, g2⟩ := formsV_split l l' r r' e1 hlr hlr' c5 d5 h
      exact ⟨⟨⟨rfl, en, es, ef⟩, g1⟩, g2⟩
    · rw [if_neg h4, if_neg h4] at h
      obtain ⟨g1, g2, g3⟩ := hnil h4
      rw [g2, g3] at h
      exact ⟨⟨⟨rfl, en, es, ef⟩, g1⟩, h⟩
theorem formsV_split : ∀ (l l' : List V) (r r' : List Nat), l.length = l'.length → (∀ u ∈ l, ∃ t, rightN t u = true) → (∀ u ∈ l', ∃ t, rightN t u = true) → boundL l → boundL l' → formsV l ++ r = formsV l' ++ r' → sameL l l' = true ∧ r = r'
  | [], [], r, r', _, _, _, _, _, h => ⟨by rw [sameL], h⟩
  | [], _ :: _, _, _, hl, _, _, _, _, _ => by simp at hl
  | _ :: _, [], _, _, hl, _, _, _, _, _ => by simp at hl
  | u :: l, v :: l', r, r', hl, hr, hr', hb, hb', h => by
    rw [boundL] at hb hb'
    obtain ⟨t, ht⟩ := hr u (by simp)
    obtain ⟨t', ht'⟩ := hr' v (by simp)
    have e1 : formsV (u :: l) = formV u ++ formsV l := rfl
    have e2 : formsV (v :: l') = formV v ++ formsV l' := rfl
    rw [e1, e2, List.append_assoc, List.append_assoc] at h
    obtain ⟨g1, g2⟩ := formV_split u v t t' _ _ ht ht' hb.1 hb'.1 h
    obtain ⟨g3, g4⟩ := formsV_split l l' r r' (by simpa using hl) (fun x hx => hr x (by simp [hx])) (fun x hx => hr' x (by simp [hx])) hb.2 hb'.2 g2
    exact ⟨by rw [sameL, g1, g3]; rfl, g4⟩
end

mutual
theorem formV_same : ∀ (u v : V), sameV u v = true → formV u = formV v
  | .mk k n f s l, .mk k' n' f' s' l', h => by
    rw [sameV, Bool.and_eq_true, decide_eq_true_eq] at h
    obtain ⟨⟨rfl, rfl, rfl, e⟩, h⟩ := h
    rw [formV_is, formV_is]
    change (form k.toNat ++ contF k n f s l.length) ++ formsV l = (form k.toNat ++ contF k n f' s l'.length) ++ formsV l'
    rw [formsV_same l l' h, sameL_len h]
    unfold contF
    rw [e]
theorem formsV_same : ∀ (l l' : List V), sameL l l' = true → formsV l = formsV l'
  | [], [], _ => rfl
  | [], _ :: _, h => by simp [sameL] at h
  | _ :: _, [], h => by simp [sameL] at h
  | u :: l, v :: l', h => by
    rw [sameL, Bool.and_eq_true] at h
    have e1 : formsV (u :: l) = formV u ++ formsV l := rfl
    have e2 : formsV (v :: l') = formV v ++ formsV l' := rfl
    rw [e1, e2, formV_same u v h.1, formsV_same l l' h.2]
end
end Go.Proofs.YtpmjjefnmgbifaaGreatDoor

/- Events with the same form, or the same text, are the same. -/
namespace Go.Proofs.YtpmjjefnmgbifaaGreatDoor
open Go.RowKit Fl

/-- Two events are the same. -/
def sameE (a b : Ev) : Bool := decide (a.k = b.k ∧ a.id = b.id ∧ a.n = b.n ∧ a.t = b.t ∧ a.nm = b.nm ∧ a.tx = b.tx) && sameV a.v b.v

/-- What an event's parts are bounded by. -/
structure EvB (e : Ev) : Prop where
  id : e.id < 18446744073709551616
  t : e.t < 18446744073709551616
  nm : e.nm.length < 18446744073709551616
  tx : e.tx.length < 18446744073709551616
  v : boundV e.v
  nb : ∀ c ∈ e.nm, c < 256
  tb : ∀ c ∈ e.tx, c < 256
  w : wordsV e.v

mutual
theorem VIn.bound {w : World} : ∀ (v : V) (x : Array Value), VIn w v x → boundV v
  | .mk k n f s l, x, h => by
    rw [VIn] at h
    obtain ⟨_, h2, h3, _, h5, a, cap, _, h7, h8, h9⟩ := h
    rw [boundV]
    refine ⟨h2, h3, by omega, by omega, ?_⟩
    rcases h9 with rfl | ⟨b, o, _, hv⟩
    · rw [boundL]; trivial
    · exact VsIn.bound l b o hv
theorem VsIn.bound {w : World} : ∀ (l : List V) (b o : Nat), VsIn w l b o → boundL l
  | [], _, _, _ => by rw [boundL]; trivial
  | v :: r, b, o, h => by
    rw [VsIn] at h
    obtain ⟨⟨x, _, _, hv⟩, hr⟩ := h
    rw [boundL]
    exact ⟨VIn.bound v x hv, VsIn.bound r b (o + 5) hr⟩
end

theorem EvIn.bound {w : World} {e : Ev} {x : Array Value} (h : EvIn w e x) : EvB e := by
  obtain ⟨_, h2, _, h4, h5, h6, a, cap, _, hv⟩ := h
  exact ⟨h2, h4, by omega, by omega, VIn.bound _ _ hv, h5.1, h6.1, VIn.words _ _ hv⟩

/-- A field is the same in two events. -/
def eqF (a b : Ev) (i : Nat) : Prop := if i = 0 then a.id = b.id else if i = 1 then a.n = b.n else if i = 2 then a.t = b.t else if i = 3 then a.nm = b.nm else if i = 4 then a.tx = b.tx else sameV a.v b.v = true

theorem eqF_all {a b : Ev} (hk : a.k = b.k) (h : ∀ i, i < 6 → eqF a b i) : sameE a b = true := by
  unfold sameE
  rw [Bool.and_eq_true, decide_eq_true_eq]
  exact ⟨⟨hk, h 0 (by omega), h 1 (by omega), h 2 (by omega), h 3 (by omega), h 4 (by omega)⟩, h 5 (by omega)⟩

theorem eqF_empty {a b : Ev} {i : Nat} (hi : i < 6) (ha : emptyE a i = true) (hb : emptyE b i = true) : eqF a b i := by
  match i, hi with
  | 0, _ => have h1 : a.id = 0 := by simpa [emptyE] using ha
            have h2 : b.id = 0 := by simpa [emptyE] using hb
            show a.id = b.id; rw [h1, h2]
  | 1, _ => have h1 : a.n = 0 := by simpa [emptyE] using ha
            have h2 : b.n = 0 := by simpa [emptyE] using hb
            show a.n = b.n; rw [h1, h2]
  | 2, _ => have h1 : a.t = 0 := by simpa [emptyE] using ha
            have h2 : b.t = 0 := by simpa [emptyE] using hb
            show a.t = b.t; rw [h1, h2]
  | 3, _ => have h1 : a.nm = [] := by simpa [emptyE] using ha
            have h2 : b.nm = [] := by simpa [emptyE] using hb
            show a.nm = b.nm; rw [h1, h2]
  | 4, _ => have h1 : a.tx = [] := by simpa [emptyE] using ha
            have h2 : b.tx = [] := by simpa [emptyE] using hb
            show a.tx = b.tx; rw [h1, h2]
  | 5, _ => have h1 : sameV a.v zeroV = true := by simpa [emptyE] using ha
            have h2 : sameV b.v zeroV = true := by simpa [emptyE] using hb
            exact sameV_trans _ _ _ h1 (sameV_symm _ _ h2)

theorem same_of_fields {a b : Ev} (ha : okE a = true) (hb : okE b = true) (hk : a.k = b.k) (h : ∀ i ∈ evFields a.k, eqF a b i) : sameE a b = true := by
  refine eqF_all hk fun i hi => ?_
  by_cases hm : i ∈ evFields a.k
  · exact h i hm
  · have h1 := (okE_parts ha).2 i hi
    have h2 := (okE_parts hb).2 i hi
    rw [if_neg hm] at h1
    rw [if_neg (by rw [← hk]; exact hm)] at h2
    exact eqF_empty hi h1 h2

theorem piece_split {a b : Ev} (ha : EvB a) (hb : EvB b) {i : Nat} (hi : i < 6) (hra : rightE a i = true) (hrb : rightE b i = true) {r r' : List Nat} (h : pieceE a i ++ r = pieceE b i ++ r') : eqF a b i ∧ r = r' := by
  match i, hi with
  | 0, _ => exact form_split ha.id hb.id h
  | 1, _ =>
    have h1 : 1 ≤ a.n ∧ a.n ≤ 2147483647 := by simpa [rightE] using hra
    have h2 : 1 ≤ b.n ∧ b.n ≤ 2147483647 := by simpa [rightE] using hrb
    obtain ⟨e, h⟩ := form_split (x := a.n.toNat) (y := b.n.toNat) (by omega) (by omega) h
    exact ⟨by show a.n = b.n; omega, h⟩
  | 2, _ => exact form_split ha.t hb.t h
  | 3, _ => exact formB_split ha.nm hb.nm h
  | 4, _ => exact formB_split ha.tx hb.tx h
  | 5, _ =>
    have h1 : rightN 8 a.v = true := by simpa [rightE] using hra
    have h2 : rightN 8 b.v = true := by simpa [rightE] using hrb
    exact formV_split _ _ 8 8 _ _ h1 h2 ha.v hb.v h

theorem pieces_split {a b : Ev} (ha : EvB a) (hb : EvB b) : ∀ (fs : List Nat) (r r' : List Nat), (∀ i ∈ fs, i < 6 ∧ rightE a i = true ∧ rightE b i = true) → (fs.map (pieceE a)).flatten ++ r = (fs.map (pieceE b)).flatten ++ r' → (∀ i ∈ fs, eqF a b i) ∧ r = r'
  | [], r, r', _, h => ⟨fun i hi => (by cases hi), h⟩
  | i :: fs, r, r', hf, h => by
    rw [List.map_cons, List.map_cons, List.flatten_cons, List.flatten_cons, List.append_assoc, List.append_assoc] at h
    obtain ⟨h6, h1, h2⟩ := hf i (by simp)
    obtain ⟨e, h⟩ := piece_split ha hb h6 h1 h2 h
    obtain ⟨g, h⟩ := pieces_split ha hb fs r r' (fun j hj => hf j (by simp [hj])) h
    refine ⟨fun j hj => ?_, h⟩
    rcases List.mem_cons.1 hj with rfl | hj
    · exact e
    · exact g j hj

theorem piece_same {a b : Ev} (h : sameE a b = true) (i : Nat) : pieceE a i = pieceE b i := by
  unfold sameE at h
  rw [Bool.and_eq_true, decide_eq_true_eq] at h
  obtain ⟨⟨h0, h1, h2, h3, h4, h5⟩, h6⟩ := h
  unfold pieceE
  rw [h1, h2, h3, h4, h5, formV_same _ _ h6]

theorem formE_iff {a b : Ev} (ha : okE a = true) (hb : okE b = true) (ba : EvB a) (bb : EvB b) : decide (formE a = formE b) = sameE a b := by
  rw [Bool.eq_iff_iff, decide_eq_true_eq]
  constructor
  · intro h
    unfold formE at h
    obtain ⟨hk, _⟩ := okE_parts ha
    obtain ⟨hk', _⟩ := okE_parts hb
    rw [List.append_assoc, List.append_assoc] at h
    have h := List.append_cancel_left h
    obtain ⟨e, h⟩ := form_split (by omega) (by omega) h
    have hkk : a.k = b.k := by omega
    rw [← hkk] at h
    have h' : (List.map (pieceE a) (evFields a.k)).flatten ++ [] = (List.map (pieceE b) (evFields a.k)).flatten ++ [] := by simpa using h
    obtain ⟨g, _⟩ := pieces_split ba bb _ _ _ (fun i hi => ⟨evFields_lt _ _ hi, okE_right ha hi, okE_right hb (by rw [← hkk]; exact hi)⟩) h'
    exact same_of_fields ha hb hkk g
  · intro h
    have hk : a.k = b.k := by
      unfold sameE at h
      rw [Bool.and_eq_true, decide_eq_true_eq] at h
      exact h.1.1
    unfold formE
    rw [hk, List.map_congr_left (fun i _ => piece_same h i)]
end Go.Proofs.YtpmjjefnmgbifaaGreatDoor

/- Events with the same text are the same. -/
namespace Go.Proofs.YtpmjjefnmgbifaaGreatDoor
open Go.RowKit Fl

mutual
theorem textV_same : ∀ (u v : V), sameV u v = true → textV u = textV v
  | .mk k n f s l, .mk k' n' f' s' l', h => by
    rw [sameV, Bool.and_eq_true, decide_eq_true_eq] at h
    obtain ⟨⟨rfl, rfl, rfl, e⟩, h⟩ := h
    rw [textV, textV, e, textVs_same l l' h]
theorem textVs_same : ∀ (l l' : List V), sameL l l' = true → textVs l = textVs l'
  | [], [], _ => rfl
  | [], _ :: _, h => by simp [sameL] at h
  | _ :: _, [], h => by simp [sameL] at h
  | u :: l, v :: l', h => by
    rw [sameL, Bool.and_eq_true] at h
    rw [textVs, textVs, textV_same u v h.1, textVs_same l l' h.2]
end

mutual
theorem fields_same : ∀ (t : Nat) (u v : V), sameV u v = true → rightN t u = rightN t v
  | t, .mk k n f s l, .mk k' n' f' s' l', h => by
    rw [sameV, Bool.and_eq_true, decide_eq_true_eq] at h
    obtain ⟨⟨rfl, rfl, rfl, e⟩, h⟩ := h
    have hl : l = [] ↔ l' = [] := by
      have := sameL_len h
      constructor <;> (rintro rfl; simp at this)
      · exact List.eq_nil_of_length_eq_zero this.symm
      · exact this
    have hf : FieldsOk (.mk k n f s l) ↔ FieldsOk (.mk k n f' s l') := by
      unfold FieldsOk
      show ((k = 1 ∨ n = 0) ∧ (k = 2 ∨ bitsB f = 0) ∧ (k = 3 ∨ s = []) ∧ (k = 4 ∨ l = [])) ↔ ((k = 1 ∨ n = 0) ∧ (k = 2 ∨ bitsB f' = 0) ∧ (k = 3 ∨ s = []) ∧ (k = 4 ∨ l' = []))
      rw [e, hl]
    cases t with
    | zero =>
      unfold rightN
      simp only [hf]
      rfl
    | succ t =>
      unfold rightN
      simp only [hf]
      show (decide _ && l.all (rightN t) && _) = (decide _ && l'.all (rightN t) && _)
      rw [alls_same t l l' h]
      rfl
theorem alls_same : ∀ (t : Nat) (l l' : List V), sameL l l' = true → l.all (rightN t) = l'.all (rightN t)
  | _, [], [], _ => rfl
  | _, [], _ :: _, h => by simp [sameL] at h
  | _, _ :: _, [], h => by simp [sameL] at h
  | t, u :: l, v :: l', h => by
    rw [sameL, Bool.and_eq_true] at h
    rw [List.all_cons, List.all_cons, fields_same t u v h.1, alls_same t l l' h.2]
end

theorem decD_word (n : Nat) : Word (decD n) := fun c hc => by have := decD_digit n c hc; omega

theorem quoteL_is (s : List Nat) : quoteL s = 34 :: (hex2 s ++ [34]) := by
  unfold quoteL textB
  have h : rightN 8 (.mk 3 0 0 s []) = true := by
    have hz : bitsB 0 = 0 := by decide
    unfold rightN
    simp [FieldsOk, V.kind, V.n, V.f, V.s, V.l, hz]
  rw [if_pos h, textV]
  simp

theorem quoteL_word (s : List Nat) : Word (quoteL s) := by
  rw [quoteL_is]
  intro c hc
  rcases List.mem_cons.1 hc with rfl | hc
  · omega
  rcases List.mem_append.1 hc with hc | hc
  · exact hex2_word s c hc
  · rw [List.mem_singleton.1 hc]; omega

theorem quoteL_inj {s s' : List Nat} (h : quoteL s = quoteL s') : s = s' := by
  rw [quoteL_is, quoteL_is] at h
  exact hex2_inj (List.append_cancel_right (List.cons.inj h).2)

theorem evName_word (k : Int) : Word (evName k) := by
  unfold evName
  (repeat' split) <;> (unfold Word; decide)

theorem evName_inj {k k' : Int} (h : 1 ≤ k ∧ k ≤ 11) (h' : 1 ≤ k' ∧ k' ≤ 11) (e : evName k = evName k') : k = k' := by
  have c : k = 1 ∨ k = 2 ∨ k = 3 ∨ k = 4 ∨ k = 5 ∨ k = 6 ∨ k = 7 ∨ k = 8 ∨ k = 9 ∨ k = 10 ∨ k = 11 := by omega
  have c' : k' = 1 ∨ k' = 2 ∨ k' = 3 ∨ k' = 4 ∨ k' = 5 ∨ k' = 6 ∨ k' = 7 ∨ k' = 8 ∨ k' = 9 ∨ k' = 10 ∨ k' = 11 := by omega
  rcases c with rfl | rfl | rfl | rfl | rfl | rfl | rfl | rfl | rfl | rfl | rfl <;> rcases c' with rfl | rfl | rfl | rfl | rfl | rfl | rfl | rfl | rfl | rfl | rfl <;> first | rfl | (exfalso; revert e; decide)

theorem wordE_split {a b : Ev} (ha : EvB a) (hb : EvB b) {i : Nat} (hi : i < 6) (hra : rightE a i = true) (hrb : rightE b i = true) {r r' : List Nat} (er : Ends r) (er' : Ends r') (h : wordE a i ++ r = wordE b i ++ r') : eqF a b i ∧ r = r' := by
  match i, hi with
  | 0, _ =>
    obtain ⟨e, h⟩ := word_split (decD_word _) (decD_word _) er er' h
    exact ⟨decD_inj e, h⟩
  | 1, _ =>
    obtain ⟨e, h⟩ := word_split (decL_word _) (decL_word _) er er' h
    exact ⟨decL_inj e, h⟩
  | 2, _ =>
    obtain ⟨e, h⟩ := word_split (decD_word _) (decD_word _) er er' h
    exact ⟨decD_inj e, h⟩
  | 3, _ =>
    change quoteL a.nm ++ r = quoteL b.nm ++ r' at h
    obtain ⟨e, h⟩ := word_split (quoteL_word _) (quoteL_word _) er er' h
    exact ⟨quoteL_inj e, h⟩
  | 4, _ =>
    change quoteL a.tx ++ r = quoteL b.tx ++ r' at h
    obtain ⟨e, h⟩ := word_split (quoteL_word _) (quoteL_word _) er er' h
    exact ⟨quoteL_inj e, h⟩
  | 5, _ =>
    have h1 : rightN 8 a.v = true := by simpa [rightE] using hra
    have h2 : rightN 8 b.v = true := by simpa [rightE] using hrb
    change textB a.v ++ r = textB b.v ++ r' at h
    unfold textB at h
    rw [if_pos h1, if_pos h2] at h
    exact text_split _ _ 8 8 _ _ h1 h2 ha.w hb.w er er' h

theorem wordsT_ends (pc : Nat → List Nat) (fs : List Nat) : Ends (wordsT pc fs) := by
  cases fs with
  | nil => exact ends_nil
  | cons i fs => exact ends_32 _

theorem wordsT_split {a b : Ev} (ha : EvB a) (hb : EvB b) : ∀ (fs : List Nat), (∀ i ∈ fs, i < 6 ∧ rightE a i = true ∧ rightE b i = true) → wordsT (wordE a) fs = wordsT (wordE b) fs → ∀ i ∈ fs, eqF a b i
  | [], _, _ => fun i hi => (by cases hi)
  | i :: fs, hf, h => by
    have e : ∀ pc : Nat → List Nat, wordsT pc (i :: fs) = 32 :: (pc i ++ wordsT pc fs) := fun pc => by simp [wordsT]
    rw [e, e] at h
    obtain ⟨h6, h1, h2⟩ := hf i (by simp)
    obtain ⟨e, h⟩ := wordE_split ha hb h6 h1 h2 (wordsT_ends _ _) (wordsT_ends _ _) (List.cons.inj h).2
    have g := wordsT_split ha hb fs (fun j hj => hf j (by simp [hj])) h
    intro j hj
    rcases List.mem_cons.1 hj with rfl | hj
    · exact e
    · exact g j hj

theorem wordE_same {a b : Ev} (h : sameE a b = true) (i : Nat) : wordE a i = wordE b i := by
  unfold sameE at h
  rw [Bool.and_eq_true, decide_eq_true_eq] at h
  obtain ⟨⟨h0, h1, h2, h3, h4, h5⟩, h6⟩ := h
  unfold wordE
  have e : textB a.v = textB b.v := by
    unfold textB
    rw [fields_same 8 _ _ h6, textV_same _ _ h6]
  rw [h1, h2, h3, h4, h5, e]

theorem textE_iff {a b : Ev} (ha : okE a = true) (hb : okE b = true) (ba : EvB a) (bb : EvB b) : decide (textE a = textE b) = sameE a b := by
  unfold textE
  rw [if_pos ha, if_pos hb, Bool.eq_iff_iff, decide_eq_true_eq]
  constructor
  · intro h
    obtain ⟨hk, _⟩ := okE_parts ha
    obtain ⟨hk', _⟩ := okE_parts hb
    obtain ⟨e, h⟩ := word_split (evName_word _) (evName_word _) (wordsT_ends _ _) (wordsT_ends _ _) h
    have hkk := evName_inj hk hk' e
    rw [← hkk] at h
    exact same_of_fields ha hb hkk (wordsT_split ba bb _ (fun i hi => ⟨evFields_lt _ _ hi, okE_right ha hi, okE_right hb (by rw [← hkk]; exact hi)⟩) h)
  · intro h
    have hk : a.k = b.k := by
      unfold sameE at h
      rw [Bool.and_eq_true, decide_eq_true_eq] at h
      exact h.1.1
    unfold wordsT
    rw [hk, List.map_congr_left (fun i _ => by rw [wordE_same h i])]
end Go.Proofs.YtpmjjefnmgbifaaGreatDoor

