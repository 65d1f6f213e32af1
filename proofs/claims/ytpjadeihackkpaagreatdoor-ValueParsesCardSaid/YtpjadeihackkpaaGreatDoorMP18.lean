import Derived.Test.YtpjadeihackkpaaGreatDoorMP17
import Derived.Test.YtpjadeihackkpaaGreatDoorMP9
/- Lists of values and their texts, as guessList reads them: plain mathematics. -/
namespace Go.Proofs.YtpjadeihackkpaaGreatDoor
open Go.RowKit Fl

/-- What is left of a list's text: the values us, and what follows. -/
def tailT (first : Bool) (us : List V) (r : List Nat) : List Nat :=
  match us with
  | [] => 93 :: r
  | u :: q => (if first then [] else [32]) ++ (joinS (textVs (u :: q)) ++ 93 :: r)

def tsum : List V → Nat
  | [] => 0
  | v :: r => (textV v).length + 1 + tsum r

theorem tsum_append : ∀ (a b : List V), tsum (a ++ b) = tsum a + tsum b
  | [], b => by simp [tsum]
  | v :: r, b => by rw [List.cons_append, tsum, tsum, tsum_append r b]; omega

theorem joinS_tsum : ∀ (a : List V), (joinS (textVs a)).length ≤ tsum a
  | [] => by simp [textVs, joinS]
  | [v] => by simp [textVs, joinS, tsum]
  | v :: u :: r => by
    have ih := joinS_tsum (u :: r)
    rw [textVs, tsum]
    rw [textVs] at ih ⊢
    rw [joinS, List.length_append, List.length_cons]
    omega

/-- How far guessList has come. -/
structure GL (q : List Nat) (t : Nat) (vs : List V) (x : List Nat) : Prop where
  at_ : ∃ i, x = q.drop i ∧ i ≤ q.length
  right : ∀ v ∈ vs, rightN t v = true
  size : tsum vs + 3 * x.length ≤ 3 * q.length
  full : ∀ (us : List V) (r : List Nat), q = joinS (textVs us) ++ 93 :: r → (∀ u ∈ us, rightN t u = true) → soundL us → ∃ us1 us2, us = us1 ++ us2 ∧ sameL vs us1 = true ∧ x = tailT (vs.isEmpty) us2 r

theorem GL.start (q : List Nat) (t : Nat) : GL q t [] q where
  at_ := ⟨0, rfl, Nat.zero_le _⟩
  right := fun v h => by cases h
  size := by simp [tsum]
  full := fun us r e _ _ => by
    refine ⟨[], us, rfl, by rw [sameL], ?_⟩
    cases us with
    | nil => rw [e]; rfl
    | cons u q' => rw [e]; rfl

theorem soundL_mem : ∀ {l : List V}, soundL l → ∀ u ∈ l, soundV u
  | v :: r, h, u, hu => by
    rw [soundL] at h
    rcases List.mem_cons.1 hu with e | e
    · rw [e]; exact h.1
    · exact soundL_mem h.2 u e

theorem joinS_cons (u : V) (us : List V) (r : List Nat) : joinS (textVs (u :: us)) ++ 93 :: r = textV u ++ tailT false us r := by
  cases us with
  | nil => rw [textVs, textVs, joinS]; rfl
  | cons v q =>
    have e : tailT false (v :: q) r = 32 :: (joinS (textVs (v :: q)) ++ 93 :: r) := rfl
    rw [e, textVs, textVs, joinS]
    simp

theorem tail_ends (us : List V) (r : List Nat) : Ends (tailT false us r) := by
  intro c q e
  cases us with
  | nil => exact .inr (List.cons.inj e).1.symm
  | cons u p => exact .inl (List.cons.inj e).1.symm

/-- Without the space in front of it. -/
def trim32 : List Nat → List Nat
  | 32 :: y => y
  | x => x

theorem tail_trim {first : Bool} {u : V} {us : List V} {r : List Nat} {t : Nat} (h : rightN t u = true) : trim32 (tailT first (u :: us) r) = textV u ++ tailT false us r := by
  have e : tailT first (u :: us) r = (if first then [] else [32]) ++ (joinS (textVs (u :: us)) ++ 93 :: r) := rfl
  rw [e, joinS_cons]
  cases first with
  | false => rfl
  | true =>
    show trim32 (textV u ++ tailT false us r) = _
    unfold trim32
    split
    · rename_i y e
      exact absurd e (text_no_end h (.inl rfl))
    · rfl

theorem sameL_snoc : ∀ {a b : List V} {u v : V}, sameL a b = true → sameV u v = true → sameL (a ++ [u]) (b ++ [v]) = true
  | [], [], u, v, _, h => by simp [sameL, h]
  | [], _ :: _, _, _, h, _ => by simp [sameL] at h
  | _ :: _, [], _, _, h, _ => by simp [sameL] at h
  | x :: a, y :: b, u, v, h, h' => by
    rw [sameL, Bool.and_eq_true] at h
    rw [List.cons_append, List.cons_append, sameL, h.1, sameL_snoc h.2 h', Bool.and_self]

theorem trim32_len (x : List Nat) : (trim32 x).length ≤ x.length := by
  unfold trim32
  split
  · rw [List.length_cons]; omega
  · exact Nat.le_refl _

theorem trim32_drop (x : List Nat) : ∃ i, i ≤ x.length ∧ trim32 x = x.drop i := by
  unfold trim32
  split
  · exact ⟨1, by rw [List.length_cons]; omega, rfl⟩
  · exact ⟨0, Nat.zero_le _, rfl⟩

/-- One value more. -/
theorem GL.step {q : List Nat} {t : Nat} {vs : List V} {x : List Nat} {v : V} {rest : List Nat} (h : GL q t vs x) (h93 : ∀ d, x ≠ 93 :: d) (hr : rightN t v = true)
    (hat : ∃ i, rest = (trim32 x).drop i ∧ 0 < i ∧ i ≤ (trim32 x).length) (hsz : (textV v).length + 1 + 3 * rest.length ≤ 3 * (trim32 x).length)
    (hco : ∀ (u : V) (r : List Nat), trim32 x = textV u ++ r → rightN t u = true → soundV u → Ends r → sameV v u = true ∧ rest = r) : GL q t (vs ++ [v]) rest where
  at_ := by
    obtain ⟨i, e1, h1⟩ := h.at_
    obtain ⟨j, h2, e2⟩ := trim32_drop x
    obtain ⟨k, e3, _, h3⟩ := hat
    refine ⟨i + (j + k), by rw [e3, e2, e1, List.drop_drop, List.drop_drop], ?_⟩
    rw [e2, List.length_drop] at h3
    rw [e1, List.length_drop] at h2 h3
    omega
  right := fun u hu => by
    rcases List.mem_append.1 hu with h1 | h1
    · exact h.right u h1
    · rw [List.mem_singleton.1 h1]; exact hr
  size := by
    have h1 := h.size
    have h2 := trim32_len x
    rw [tsum_append]
    simp only [tsum]
    omega
  full := fun us r e hu hs => by
    obtain ⟨us1, us2, e1, h1, e2⟩ := h.full us r e hu hs
    cases us2 with
    | nil => exact absurd e2 (h93 _)
    | cons u us3 =>
      have hur : rightN t u = true := hu u (by rw [e1]; simp)
      have hus : soundV u := soundL_mem hs u (by rw [e1]; simp)
      have h3 : trim32 x = textV u ++ tailT false us3 r := by rw [e2]; exact tail_trim hur
      obtain ⟨h4, h5⟩ := hco u _ h3 hur hus (tail_ends us3 r)
      refine ⟨us1 ++ [u], us3, by rw [e1, List.append_assoc]; rfl, sameL_snoc h1 h4, ?_⟩
      rw [h5]
      cases vs <;> rfl

/-- No value: no list. -/
theorem GL.none {q : List Nat} {t : Nat} {vs : List V} {x : List Nat} (h : GL q t vs x) (h93 : ∀ d, x ≠ 93 :: d) (hno : ∀ (u : V) (r : List Nat), trim32 x = textV u ++ r → rightN t u = true → soundV u → Ends r → False) :
    ∀ (us : List V) (r : List Nat), q = joinS (textVs us) ++ 93 :: r → (∀ u ∈ us, rightN t u = true) → soundL us → False := by
  intro us r e hu hs
  obtain ⟨us1, us2, e1, h1, e2⟩ := h.full us r e hu hs
  cases us2 with
  | nil => exact absurd e2 (h93 _)
  | cons u us3 =>
    have hur : rightN t u = true := hu u (by rw [e1]; simp)
    exact hno u _ (by rw [e2]; exact tail_trim hur) hur (soundL_mem hs u (by rw [e1]; simp)) (tail_ends us3 r)

/-- The closing bracket. -/
theorem GL.end_ {q : List Nat} {t : Nat} {vs : List V} {rest : List Nat} (h : GL q t vs (93 :: rest)) :
    ∀ (us : List V) (r : List Nat), q = joinS (textVs us) ++ 93 :: r → (∀ u ∈ us, rightN t u = true) → soundL us → sameL vs us = true ∧ rest = r := by
  intro us r e hu hs
  obtain ⟨us1, us2, e1, h1, e2⟩ := h.full us r e hu hs
  cases us2 with
  | nil =>
    rw [List.append_nil] at e1
    rw [e1]
    exact ⟨h1, (List.cons.inj e2).2⟩
  | cons u us3 =>
    have hur : rightN t u = true := hu u (by rw [e1]; simp)
    have h3 := tail_trim (first := vs.isEmpty) (us := us3) (r := r) hur
    rw [← e2] at h3
    exact absurd h3.symm (text_no_end hur (.inr rfl))

/-- A list among the values: its text behind the first bracket. -/
theorem list_text {u : V} {q r : List Nat} {t : Nat} (e : 91 :: q = textV u ++ r) (hu : rightN t u = true) : ∃ us, u = .mk 4 u.n u.f u.s us ∧ u.l = us ∧ q = joinS (textVs us) ++ 93 :: r := by
  obtain ⟨k, n, f, s, l⟩ := u
  have hp := right_parts hu
  have hk : k = 4 := by
    by_cases hk : k = 4
    · exact hk
    · have hw := textV_word (n := n) (f := f) (s := s) (l := l) hk
      obtain ⟨c, p, e1, _⟩ := textV_head (n := n) (f := f) (s := s) (l := l) hp.2.1 hp.2.2.1
      rw [e1] at e
      have hc := (List.cons.inj e).1
      exact absurd hc.symm (hw c (by rw [e1]; simp)).2.2
  subst hk
  rw [textV_list] at e
  refine ⟨l, rfl, rfl, ?_⟩
  have := (List.cons.inj e).2
  simpa using this
end Go.Proofs.YtpjadeihackkpaaGreatDoor

/- Lists of values and their texts, as the reference's parse reads them: plain mathematics. -/
namespace Go.Proofs.YtpjadeihackkpaaGreatDoor
open Go.RowKit Fl

theorem tsum_join : ∀ (a : List V), a ≠ [] → (joinS (textVs a)).length + 1 = tsum a
  | [], h => absurd rfl h
  | [v], _ => by simp [textVs, joinS, tsum]
  | v :: u :: r, _ => by
    have ih := tsum_join (u :: r) (by simp)
    rw [textVs, tsum]
    rw [textVs] at ih ⊢
    rw [joinS, List.length_append, List.length_cons]
    omega

theorem len_tsum : ∀ (a : List V), a.length ≤ tsum a
  | [] => Nat.zero_le _
  | v :: r => by
    have ih := len_tsum r
    rw [tsum, List.length_cons]
    omega

/-- How far parse has come in a list. -/
structure RL (q : List Nat) (t : Nat) (vs : List V) (x : List Nat) : Prop where
  byte : ∀ c ∈ x, c < 256
  size : tsum vs + x.length = q.length
  full : ∀ (us : List V) (r : List Nat), q = joinS (textVs us) ++ 93 :: r → (∀ u ∈ us, rightN t u = true) → soundL us → ∃ (us1 : List V) (u : V) (us2 : List V), us = us1 ++ u :: us2 ∧ sameL vs us1 = true ∧ x = textV u ++ tailT false us2 r

theorem RL.start {q : List Nat} (hq : ∀ c ∈ q, c < 256) (t : Nat) (h93 : ∀ d, q ≠ 93 :: d) : RL q t [] q where
  byte := hq
  size := by simp [tsum]
  full := fun us r e _ _ => by
    cases us with
    | nil => exact absurd e (h93 r)
    | cons u us2 => exact ⟨[], u, us2, rfl, by rw [sameL], by rw [e, joinS_cons]⟩

/-- No value, or nothing behind it: no list. -/
theorem RL.none {q : List Nat} {t : Nat} {vs : List V} {x rest : List Nat} {v : V} {ok : Bool} (h : RL q t vs x) (hbad : ok = false ∨ rest = [])
    (hco : ∀ (u : V) (r : List Nat), x = textV u ++ r → rightN t u = true → soundV u → Ends r → ok = true ∧ rest = r ∧ sameV v u = true) :
    ∀ (us : List V) (r : List Nat), q = joinS (textVs us) ++ 93 :: r → (∀ u ∈ us, rightN t u = true) → soundL us → False := by
  intro us r e hu hs
  obtain ⟨us1, u, us2, e1, h1, e2⟩ := h.full us r e hu hs
  obtain ⟨h2, h3, _⟩ := hco u _ e2 (hu u (by rw [e1]; simp)) (soundL_mem hs u (by rw [e1]; simp)) (tail_ends us2 r)
  rcases hbad with hb | hb
  · rw [hb] at h2; cases h2
  · rw [hb] at h3
    cases us2 <;> cases h3

/-- One value more. -/
theorem RL.step {q : List Nat} {t : Nat} {vs : List V} {x rest : List Nat} {c : Nat} {v : V} (h : RL q t vs x) (hc : c ≠ 93) (hb : ∀ d ∈ c :: rest, d < 256) (hsz : (textV v).length + (c :: rest).length = x.length)
    (hco : ∀ (u : V) (r : List Nat), x = textV u ++ r → rightN t u = true → soundV u → Ends r → true = true ∧ c :: rest = r ∧ sameV v u = true) : RL q t (vs ++ [v]) rest where
  byte := fun d hd => hb d (by simp [hd])
  size := by
    have := h.size
    rw [List.length_cons] at hsz
    rw [tsum_append]
    simp only [tsum]
    omega
  full := fun us r e hu hs => by
    obtain ⟨us1, u, us2, e1, h1, e2⟩ := h.full us r e hu hs
    obtain ⟨_, h3, h4⟩ := hco u _ e2 (hu u (by rw [e1]; simp)) (soundL_mem hs u (by rw [e1]; simp)) (tail_ends us2 r)
    cases us2 with
    | nil => exact absurd (List.cons.inj h3).1 hc
    | cons u2 us3 =>
      have e3 : tailT false (u2 :: us3) r = 32 :: (joinS (textVs (u2 :: us3)) ++ 93 :: r) := rfl
      rw [e3, joinS_cons] at h3
      exact ⟨us1 ++ [u], u2, us3, by rw [e1, List.append_assoc]; rfl, sameL_snoc h1 h4, (List.cons.inj h3).2⟩

/-- The closing bracket. -/
theorem RL.end_ {q : List Nat} {t : Nat} {vs : List V} {x rest : List Nat} {v : V} (h : RL q t vs x) (hsz : (textV v).length + (93 :: rest).length = x.length)
    (hco : ∀ (u : V) (r : List Nat), x = textV u ++ r → rightN t u = true → soundV u → Ends r → true = true ∧ 93 :: rest = r ∧ sameV v u = true) :
    (joinS (textVs (vs ++ [v]))).length + 1 + rest.length = q.length ∧
    ∀ (us : List V) (r : List Nat), q = joinS (textVs us) ++ 93 :: r → (∀ u ∈ us, rightN t u = true) → soundL us → rest = r ∧ sameL (vs ++ [v]) us = true := by
  refine ⟨?_, fun us r e hu hs => ?_⟩
  · have h1 := h.size
    rw [List.length_cons] at hsz
    rw [tsum_join _ (by simp), tsum_append]
    simp only [tsum]
    omega
  · obtain ⟨us1, u, us2, e1, h1, e2⟩ := h.full us r e hu hs
    obtain ⟨_, h3, h4⟩ := hco u _ e2 (hu u (by rw [e1]; simp)) (soundL_mem hs u (by rw [e1]; simp)) (tail_ends us2 r)
    cases us2 with
    | nil => exact ⟨(List.cons.inj h3).2, by rw [e1]; exact sameL_snoc h1 h4⟩
    | cons u2 us3 =>
      have e3 : tailT false (u2 :: us3) r = 32 :: (joinS (textVs (u2 :: us3)) ++ 93 :: r) := rfl
      rw [e3] at h3
      exact absurd (List.cons.inj h3).1 (by omega)

/-- A valid list in its parts. -/
theorem rlist_right {n : Int} {f : Nat} {s : List Nat} {us : List V} {t : Nat} (h : rightN (t + 1) (.mk 4 n f s us) = true) : n = 0 ∧ bitsB f = 0 ∧ s = [] ∧ ∀ u ∈ us, rightN t u = true := by
  obtain ⟨⟨h1, h2, h3, _⟩, _⟩ := right_parts h
  unfold rightN at h
  rw [Bool.and_eq_true, Bool.and_eq_true, List.all_eq_true] at h
  exact ⟨h1.resolve_left (by omega), h2.resolve_left (by omega), h3.resolve_left (by omega), h.1.2⟩

/-- What parse owes at a list: its answer from what is known of the values. -/
theorem list_answer {q rest : List Nat} {t : Nat} {vs : List V} (hsz : (joinS (textVs vs)).length + 1 + rest.length = q.length)
    (hco : ∀ (us : List V) (r : List Nat), q = joinS (textVs us) ++ 93 :: r → (∀ u ∈ us, rightN t u = true) → soundL us → rest = r ∧ sameL vs us = true) :
    (true = true → (textV (.mk 4 0 0 [] vs)).length + rest.length = (91 :: q).length) ∧
    ∀ (u : V) (r : List Nat), 91 :: q = textV u ++ r → rightN (t + 1) u = true → soundV u → Ends r → true = true ∧ rest = r ∧ sameV (.mk 4 0 0 [] vs) u = true := by
  refine ⟨fun _ => ?_, fun u r e hu hsu _ => ?_⟩
  · rw [textV_list, List.length_cons, List.length_append, List.length_cons]
    simp only [List.length_cons, List.length_nil]
    omega
  · obtain ⟨us, e1, _, e3⟩ := list_text e hu
    rw [e1] at hu hsu
    rw [soundV] at hsu
    obtain ⟨h1, h2, h3, h4⟩ := rlist_right hu
    obtain ⟨h5, h6⟩ := hco us r e3 h4 hsu.2.2.2
    refine ⟨rfl, h5, ?_⟩
    rw [e1, sameV, h6, Bool.and_true, decide_eq_true_eq]
    exact ⟨rfl, h1.symm, h3.symm, by rw [h2]; decide⟩

theorem list_no {q : List Nat} {t : Nat} (hno : ∀ (us : List V) (r : List Nat), q = joinS (textVs us) ++ 93 :: r → (∀ u ∈ us, rightN t u = true) → soundL us → False) :
    ∀ (u : V) (r : List Nat), 91 :: q = textV u ++ r → rightN (t + 1) u = true → soundV u → Ends r → False := by
  intro u r e hu hsu _
  obtain ⟨us, e1, _, e3⟩ := list_text e hu
  rw [e1] at hu hsu
  rw [soundV] at hsu
  exact hno us r e3 (rlist_right hu).2.2.2 hsu.2.2.2

theorem empty_list {r0 : List Nat} : ∀ (us : List V) (r : List Nat) (t : Nat), 93 :: r0 = joinS (textVs us) ++ 93 :: r → (∀ u ∈ us, rightN t u = true) → us = [] ∧ r0 = r
  | [], r, t, e, _ => ⟨rfl, (List.cons.inj e).2⟩
  | u :: us, r, t, e, h => by
    rw [joinS_cons] at e
    exact absurd e.symm (text_no_end (h u (by simp)) (.inr rfl))
end Go.Proofs.YtpjadeihackkpaaGreatDoor

/- The walk of guessList, where guess does what it is to do at one level less. -/
namespace Go.Proofs.YtpjadeihackkpaaGreatDoor
open Go.RowKit Go.Shelf Fl

theorem bits_zero {f : Nat} (h : bitsB f = 0) : f = 0 := by
  unfold bitsB at h
  split at h
  · exact absurd h (by decide)
  · exact h

/-- A valid value is what whole makes of its content. -/
theorem whole_in {q : Nat → Prop} {w : World} {v : V} {a : Option Addr} {cap t : Nat} (hr : rightN t v = true) (hv : VInP q w v (cells5 v.kind v.n v.f v.s a v.l.length cap)) :
    ∃ a' cap', wholeOf v.kind v.n v.f v.s a v.l.length cap = cells5 v.kind v.n v.f v.s a' v.l.length cap' ∧ VInP q w v (cells5 v.kind v.n v.f v.s a' v.l.length cap') := by
  obtain ⟨k, n, f, s, l⟩ := v
  obtain ⟨⟨h1, h2, h3, h4⟩, h0, h5, _⟩ := right_parts hr
  change VInP q w (.mk k n f s l) (cells5 k n f s a l.length cap) at hv
  change ∃ a' cap', wholeOf k n f s a l.length cap = cells5 k n f s a' l.length cap' ∧ VInP q w (.mk k n f s l) (cells5 k n f s a' l.length cap')
  have hv' := hv
  rw [VInP] at hv'
  obtain ⟨b1, b2, b3, b4, b5, _⟩ := hv'
  by_cases hk : k = 4
  · have en : n = 0 := h1.resolve_left (by omega)
    have ef : f = 0 := bits_zero (h2.resolve_left (by omega))
    have es : s = [] := h3.resolve_left (by omega)
    subst hk en ef es
    exact ⟨a, cap, rfl, hv⟩
  · have el : l = [] := h4.resolve_left hk
    subst el
    refine ⟨none, 0, ?_, by rw [VInP]; exact ⟨b1, b2, b3, b4, b5, none, 0, rfl, Nat.le_refl _, by omega, .inl rfl⟩⟩
    unfold wholeOf
    by_cases k1 : k = 1
    · have ef : f = 0 := bits_zero (h2.resolve_left (by omega))
      have es : s = [] := h3.resolve_left (by omega)
      subst k1 ef es
      rfl
    rw [if_neg k1]
    have en : n = 0 := h1.resolve_left k1
    by_cases k2 : k = 2
    · have es : s = [] := h3.resolve_left (by omega)
      subst k2 en es
      rfl
    rw [if_neg k2]
    have ef : f = 0 := bits_zero (h2.resolve_left k2)
    by_cases k3 : k = 3
    · subst k3 en ef
      rfl
    have es : s = [] := h3.resolve_left k3
    have k0 : k = 0 := by omega
    subst k0 en ef es
    rfl

theorem trimp_any (x : List Nat) (w : World) (hx : ∀ c ∈ x, c < 256) :
    Calls Tryz.prog 73 #[.string (str x), .string ⟨#[32]⟩] w fun e w' => e = .returned (.string (str (trim32 x))) ∧ w = w' := by
  have h := Tryz.strings_TrimPrefix (str x) ⟨#[32]⟩ w
  have h1 : (str x).data.toList = x.map UInt8.ofNat := rfl
  have h2 : ((⟨#[32]⟩ : ByteArray)).data.toList = [32] := rfl
  rw [h1, h2] at h
  have e : (⟨(Lib.trimPrefix (x.map UInt8.ofNat) [32]).toArray⟩ : ByteArray) = str (trim32 x) := by
    unfold str
    congr 2
    unfold Lib.trimPrefix Lib.hasPrefix
    cases x with
    | nil => rfl
    | cons c r =>
      rw [List.map_cons, List.isPrefixOf_cons_cons]
      by_cases hc : c = 32
      · subst hc
        simp [trim32]
      · have hne : ((32 : UInt8) == UInt8.ofNat c) = false := by
          rw [beq_eq_false_iff_ne]
          intro e
          have e2 := congrArg UInt8.toNat e
          have h256 := hx c (by simp)
          rw [UInt8.toNat_ofNat'] at e2
          have : (32 : UInt8).toNat = 32 := rfl
          omega
        rw [hne, Bool.false_and]
        have ht : trim32 (c :: r) = c :: r := by
          unfold trim32
          split
          · rename_i y e
            exact absurd (List.cons.inj e).1 hc
          · rfl
        rw [ht]
        rfl
  rw [e] at h
  refine h.mono ?_
  rintro e w' ⟨rfl, rfl⟩
  exact ⟨rfl, rfl⟩

/-- guess does what it is to do at t levels. -/
def GuessAt (t : Nat) : Prop := ∀ (l : List Nat) (w : World), (∀ x ∈ l, x < 256) → l.length ≤ 100000 → Errs w → Tab16 w → (∀ i, IdxAt (l.drop i)) → Calls Tryz.prog 36 #[.string (str l), .int .i64 (t : Int)] w (GuessT w l t)

theorem glist_zero (q : List Nat) (w : World) : Calls Tryz.prog 57 #[.string (str q), .int .i64 0] w (GuessT w (91 :: q) 0) := by
  go_enter Tryz.func57, Tryz.ntmps57
  go_wp2
  go_ret2
  refine ⟨_, [], rfl, Below.refl _ _, .inl ⟨rfl, fun u r e hu _ _ => ?_⟩⟩
  obtain ⟨us, e1, _⟩ := list_text e hu
  rw [e1] at hu
  unfold rightN at hu
  simp [V.kind] at hu

/-- A valid list in its parts. -/
theorem list_right {n : Int} {f : Nat} {s : List Nat} {us : List V} {t : Nat} (h : rightN (t + 1) (.mk 4 n f s us) = true) : n = 0 ∧ bitsB f = 0 ∧ s = [] ∧ ∀ u ∈ us, rightN t u = true := by
  obtain ⟨⟨h1, h2, h3, _⟩, _⟩ := right_parts h
  unfold rightN at h
  rw [Bool.and_eq_true, Bool.and_eq_true, List.all_eq_true] at h
  exact ⟨h1.resolve_left (by omega), h2.resolve_left (by omega), h3.resolve_left (by omega), h.1.2⟩

theorem list_is_right {vs : List V} {t : Nat} (h : ∀ v ∈ vs, rightN t v = true) : rightN (t + 1) (.mk 4 0 0 [] vs) = true := by
  rw [rightN_list (v := .mk 4 0 0 [] vs) ⟨.inr rfl, .inr (show bitsB 0 = 0 by decide), .inr rfl, .inl rfl⟩ rfl, List.all_eq_true]
  exact h

/-- What guessList answers at the closing bracket. -/
theorem list_end {w wr : World} {q r : List Nat} {t : Nat} {vs : List V} {a : Option Addr} {cap : Nat} (hG : GL q t vs (93 :: r)) (hbr : Below w.heap.size w wr)
    (hle : vs.length ≤ cap ∧ cap ≤ 9223372036854775807 ∧ (vs = [] ∨ ∃ g, a = some ⟨g, 0, none⟩ ∧ (w.heap.size ≤ g ∧ g < wr.heap.size) ∧ VsInP (fun b => w.heap.size ≤ b ∧ b < wr.heap.size) wr vs g 0)) :
    GuessT w (91 :: q) (t + 1) (.returned (.tuple #[.iface 73 (.slice a vs.length cap), .string (str r)])) wr := by
  refine ⟨_, r, rfl, hbr, .inr ⟨.mk 4 0 0 [] vs, a, cap, rfl, ?_, list_is_right hG.right, ?_, ?_, fun u r0 e hu hsu _ => ?_⟩⟩
  · rw [VInP]
    exact ⟨by omega, by omega, by omega, by simp, by simp, a, cap, rfl, hle.1, hle.2.1, hle.2.2.imp id (fun ⟨g, e, hb, hv⟩ => ⟨g, 0, e, hb, hv⟩)⟩
  · obtain ⟨i, e1, hi⟩ := hG.at_
    have hlt : i < q.length := by
      rcases Nat.lt_or_ge i q.length with h | h
      · exact h
      · rw [List.drop_of_length_le h] at e1; cases e1
    refine ⟨i + 2, ?_, by omega, by rw [List.length_cons]; omega⟩
    rw [List.drop_succ_cons, ← List.drop_drop, ← e1]
    rfl
  · have h1 := hG.size
    have h2 := joinS_tsum vs
    rw [textV_list, List.length_cons, List.length_append]
    simp only [List.length_cons, List.length_nil] at h1 ⊢
    omega
  · obtain ⟨us, e1, _, e3⟩ := list_text e hu
    rw [e1] at hu hsu
    rw [soundV] at hsu
    obtain ⟨h1, h2, h3, h4⟩ := list_right hu
    obtain ⟨h5, h6⟩ := hG.end_ us r0 e3 h4 hsu.2.2.2
    refine ⟨?_, h6⟩
    rw [e1, sameV, h5, Bool.and_true, decide_eq_true_eq]
    exact ⟨rfl, h1.symm, h3.symm, by rw [h2]; decide⟩

/-- The string that is left, and the values so far. -/
def LsRel (w : World) (q : List Nat) (t : Nat) (d v : Value) (wr : World) : Prop :=
  ∃ (vs : List V) (x : List Nat), d = .string (str x) ∧ GL q t vs x ∧ OwnVs wr w.heap.size v vs ∧ Below w.heap.size w wr

theorem con_iface {v : V} {a : Option Addr} {cap t : Nat} (hr : rightN t v = true) : ∃ T p, conOf v.kind v.n v.f v.s a v.l.length cap = .iface T p := by
  obtain ⟨k, n, f, s, l⟩ := v
  obtain ⟨_, h0, h5, _⟩ := right_parts hr
  change ∃ T p, conOf k n f s a l.length cap = .iface T p
  unfold conOf
  by_cases k0 : k = 0
  · rw [if_pos k0]; exact ⟨_, _, rfl⟩
  rw [if_neg k0]
  by_cases k1 : k = 1
  · rw [if_pos k1]; exact ⟨_, _, rfl⟩
  rw [if_neg k1]
  by_cases k2 : k = 2
  · rw [if_pos k2]; exact ⟨_, _, rfl⟩
  rw [if_neg k2]
  by_cases k3 : k = 3
  · rw [if_pos k3]; exact ⟨_, _, rfl⟩
  rw [if_neg k3, if_pos (by omega)]
  exact ⟨_, _, rfl⟩

set_option maxRecDepth 100000 in
set_option maxHeartbeats 3200000 in
theorem glist_any (t : Nat) (ht : t ≤ 1000) (hA : GuessAt t) (q : List Nat) (w : World) (hq : ∀ x ∈ q, x < 256) (hn : q.length ≤ 100000) (he : Errs w) (hT : Tab16 w) (hix : ∀ i, IdxAt (q.drop i)) :
    Calls Tryz.prog 57 #[.string (str q), .int .i64 ((t + 1 : Nat) : Int)] w (GuessT w (91 :: q) (t + 1)) := by
  obtain ⟨T, hTe⟩ : ∃ T : Int, T = ((t + 1 : Nat) : Int) := ⟨_, rfl⟩
  have hT0 : (T == 0) = false := beq_eq_false_iff_ne.2 (by omega)
  have hT1 : T - 1 = (t : Int) := by omega
  have hT2 : 0 < T ∧ T ≤ 1001 := by omega
  rw [← hTe]
  have HA := Lib.hid hA
  have HQ := Lib.hid hq
  have HN := Lib.hid hn
  have HE := Lib.hid he
  have HT := Lib.hid hT
  have HX := Lib.hid hix
  clear hA hq hn he hT hix hTe
  go_enter Tryz.func57, Tryz.ntmps57
  go_wp2
  go_loopw [0, 6] (fun d v wr => LsRel w q t d v wr) (fun d _ _ => match d with | .string s => s.size | _ => 0)
  case atStart => exact ⟨[], q, rfl, GL.start q t, OwnVs.nil _ _, Below.refl _ _⟩
  case round =>
    obtain ⟨vs, x, rfl, hG, hO, hbr⟩ := hrel
    have HG := Lib.hid hG
    have HO := Lib.hid hO
    have Hbr := Lib.hid hbr
    obtain ⟨i, hxi, hi⟩ := hG.at_
    have hx8 : ∀ c ∈ x, c < 256 := fun c hc => HQ.out c (by rw [hxi] at hc; exact List.mem_of_mem_drop hc)
    have hxn : x.length ≤ q.length := by rw [hxi, List.length_drop]; omega
    by_cases h93 : ∃ r, x = 93 :: r
    · obtain ⟨r, rfl⟩ := h93
      have HC := Lib.hid (fun w => show Calls Tryz.prog 56 #[.string (str (93 :: r)), .string ⟨#[93]⟩] w _ from cut_yes 93 r w)
      obtain ⟨a, cap, rfl, hle⟩ := hO.lies
      have Hle := Lib.hid hle
      clear hG hO hbr hxi hx8 hxn hle
      generalize str (93 :: r) = S at *
      go_wp2_with fail
      refine (HC.out _).mono ?_
      rintro e w' ⟨rfl, rfl⟩
      go_wp2
      go_ret2
      exact list_end HG.out Hbr.out Hle.out
    · have hd93 : ∀ d, x ≠ 93 :: d := fun d e => h93 ⟨d, e⟩
      have HC := Lib.hid (fun w => show Calls Tryz.prog 56 #[.string (str x), .string ⟨#[93]⟩] w _ from cut_no 93 x w (by omega) hx8 hd93)
      have HP := Lib.hid (fun w => trimp_any x w hx8)
      obtain ⟨k, hk, hy⟩ := trim32_drop x
      have HA1 := Lib.hid (HA.out (trim32 x) wr (fun c hc => hx8 c (by rw [hy] at hc; exact List.mem_of_mem_drop hc)) (by have := trim32_len x; have := HN.out; omega) (HE.out.below Hbr.out) (tab_below HT.out Hbr.out)
        (fun j => by rw [hy, hxi, List.drop_drop, List.drop_drop]; exact HX.out _))
      have H93 := Lib.hid hd93
      have Hsz := Lib.hid (str_size x)
      clear hG hO hbr hxi hx8 hxn hk hy h93 hd93
      generalize str x = S at *
      generalize hY : str (trim32 x) = Y at *
      clear hY
      go_wp2_with fail
      refine (HC.out _).mono ?_
      rintro e w' ⟨rfl, rfl⟩
      go_wp2_with fail
      refine (HP.out _).mono ?_
      rintro e w' ⟨rfl, rfl⟩
      go_wp2_with fail
      refine HA1.out.mono ?_
      rintro e w2 ⟨con, rest, rfl, hb2, ⟨rfl, hno⟩ | ⟨v, a, cap, hc, hv, hr, hat, hsz, hco⟩⟩
      · have Hno := Lib.hid (HG.out.none H93.out hno)
        have Hb2 := Lib.hid (Hbr.out.trans (hb2.mono Hbr.out.size))
        clear hno hb2
        go_wp2
        go_ret2
        refine ⟨_, [], rfl, Hb2.out, .inl ⟨rfl, fun u r e hu hsu _ => ?_⟩⟩
        obtain ⟨us, e1, _, e3⟩ := list_text e hu
        rw [e1] at hu hsu
        rw [soundV] at hsu
        exact Hno.out us r e3 (list_right hu).2.2.2 hsu.2.2.2
      · obtain ⟨T', p', hci⟩ := con_iface (a := a) (cap := cap) hr
        obtain ⟨a2, cap2, hwh, hv2⟩ := whole_in hr hv
        have HW := Lib.hid (fun w => whole_any v.kind v.n v.f v.s a v.l.length cap w)
        rw [hwh] at HW
        rw [hc]
        rw [hci] at HW ⊢
        have HS := Lib.hid (HG.out.step H93.out hr hat hsz hco)
        have Hrl := Lib.hid (show rest.length < x.length from by
          obtain ⟨i1, e1, h1, h2⟩ := hat
          have := trim32_len x
          rw [e1, List.length_drop]
          omega)
        have Hb2 := Lib.hid hb2
        have Hv2 := Lib.hid hv2
        clear hc hci hwh hb2 hv hv2 hr hat hsz hco
        go_wp2_with fail
        refine (HW.out _).mono ?_
        rintro e w3 ⟨rfl, hb3⟩
        have hO2 := (HO.out.keep (fun b _ hb => Hb2.out.block b hb) Hb2.out.size).keep (fun b _ hb => hb3.block b hb) hb3.size
        have hal : Below w3.heap.size w3 (w3.alloc (.cells #[.int .i64 v.kind, .int .i64 v.n, .float .f64 v.f, .string (str v.s), .slice a2 v.l.length cap2] 25)) := (Below.refl _ _).alloc (Nat.le_refl _) _
        have hO3 := hO2.keep (fun b _ hb => hal.block b hb) hal.size
        have hblk := fun e => (HO.out.block (g := e))
        obtain ⟨cs, hcl, hrow, hel⟩ := hO3
        have hbw : Below w.heap.size w (w3.alloc (.cells #[.int .i64 v.kind, .int .i64 v.n, .float .f64 v.f, .string (str v.s), .slice a2 v.l.length cap2] 25)) := Hbr.out.trans ((Hb2.out.trans ((hb3.trans (hal.mono hb3.size)).mono Hb2.out.size)).mono Hbr.out.size)
        have hu : VInP (fun b => w.heap.size ≤ b ∧ some b ≠ u6.ownBlock ∧ b < (w3.alloc (.cells #[.int .i64 v.kind, .int .i64 v.n, .float .f64 v.f, .string (str v.s), .slice a2 v.l.length cap2] 25)).heap.size) (w3.alloc (.cells #[.int .i64 v.kind, .int .i64 v.n, .float .f64 v.f, .string (str v.s), .slice a2 v.l.length cap2] 25)) v (cells5 v.kind v.n v.f v.s a2 v.l.length cap2) :=
          VInP.turn (fun b hq => ⟨by have := Hbr.out.size; omega, (fun e => by have := (hblk _ e.symm).2; omega), by have := hal.size; have := hb3.size; omega⟩) (fun p hp => by unfold World.cell?; rw [hal.block p.block (by have := hb3.size; omega), hb3.block p.block hp.2]) v _ Hv2.out
        have Hcl := Lib.hid hcl
        have Hrow := Lib.hid hrow
        have Hel := Lib.hid hel
        have Hu := Lib.hid hu
        have Hbw := Lib.hid hbw
        have Hvl := Lib.hid (show vs.length ≤ 300001 from by
          have h1 := HG.out.size
          have h2 := joinS_tsum vs
          have h3 := join_len (textVs vs)
          rw [textVs_map, List.length_map, ← textVs_map] at h3
          have := HN.out
          omega)
        clear hb3 hO2 hal hblk hcl hrow hel hbw hu
        obtain ⟨i0, hi, hz0, hz1, hz2⟩ := info_parts info_value
        go_wp2_with (at_builtin; refine wpList_append_lies _ rfl _ _ 73 rfl w.heap.size 25 i0 _ 5 64 Tryz.underlying73 hi hz0 hz1 hz2 rfl (by decide) u6 vs.length _ rfl Hrow.out ⟨w3.heap.size, 0, none⟩ 1 1 [.int .i64 v.kind, .int .i64 v.n, .float .f64 v.f, .string (str v.s), .slice a2 v.l.length cap2] rfl rfl (World.news_of_block (heap_alloc_new w3 _)) (by simp [Value.oneCell']) (by decide) (by have := Hvl.out; rw [maxLen_nat]; omega) (by have := Hvl.out; omega) Hbw.out.size _ rfl ?_; intro g cap4 w4 g1 g2 g3 g4; have hO4 := OwnVs.snoc Hcl.out Hel.out Hu.out g1 g2 (g3.imp (fun e => e.symm) (fun e => by rw [e]; rfl)))
        case roundEnd =>
          refine ⟨⟨vs ++ [v], rest, rfl, HS.out, hO4, Hbw.out.grown g2 Hbw.out.size (fun k hk => (Hrow.out.lt k hk).1)⟩, ?_⟩
          show (str rest).size < S.size
          rw [str_size, Hsz.out]
          exact Hrl.out
end Go.Proofs.YtpjadeihackkpaaGreatDoor

/- Parse of the code. -/
namespace Go.Proofs.YtpjadeihackkpaaGreatDoor
open Go.RowKit Go.Shelf Fl

theorem guess_all : ∀ t, t ≤ 1000 → GuessAt t
  | 0, _ => fun l w hl hn he hT hix => vguess_any 0 l w hl hn he hT (hix 0) (fun d e => by rw [e]; exact glist_zero d w)
  | t + 1, h => fun l w hl hn he hT hix => vguess_any (t + 1) l w hl hn he hT (hix 0) (fun d e => by
      subst e
      exact glist_any t (by omega) (guess_all t (by omega)) d w (fun x hx => hl x (by simp [hx])) (by rw [List.length_cons] at hn; omega) he hT (fun i => hix (i + 1)))

mutual
/-- The same values have the same text. -/
theorem same_text : ∀ u v : V, sameV u v = true → textV u = textV v
  | .mk k n f s l, .mk k' n' f' s' l', h => by
    rw [sameV, Bool.and_eq_true, decide_eq_true_eq] at h
    obtain ⟨⟨rfl, rfl, rfl, hf⟩, hl⟩ := h
    rw [textV, textV, hf, same_texts l l' hl]
theorem same_texts : ∀ u v : List V, sameL u v = true → textVs u = textVs v
  | [], [], _ => rfl
  | [], _ :: _, h => by simp [sameL] at h
  | _ :: _, [], h => by simp [sameL] at h
  | a :: r, b :: q, h => by
    rw [sameL, Bool.and_eq_true] at h
    rw [textVs, textVs, same_text a b h.1, same_texts r q h.2]
end

/-- What Parse answers. -/
def VParseEnd (w : World) (l : List Nat) (e : Ending) (w' : World) : Prop :=
  ∃ (v : V) (x : Array Value) (ok : Bool), e = .returned (.tuple #[.agg x, .bool ok]) ∧ VIn w' v x ∧ Below w.heap.size w w' ∧ (ok = true → rightN 8 v = true ∧ textV v = l) ∧
    (ok = false → v = .mk 0 0 0 [] [] ∧ ∀ u, rightN 8 u = true → soundV u → textV u ≠ l)

theorem joinS_byte : ∀ a : List (List Nat), (∀ x ∈ a, ∀ c ∈ x, c < 256) → ∀ c ∈ joinS a, c < 256
  | [], _, c, hc => by simp [joinS] at hc
  | [y], h, c, hc => h y (by simp) c hc
  | y :: z :: r, h, c, hc => by
    rw [joinS] at hc
    rcases List.mem_append.1 hc with e | e
    · exact h y (by simp) c e
    · rcases List.mem_cons.1 e with e | e
      · omega
      · exact joinS_byte (z :: r) (fun x hx => h x (by simp [hx])) c e

theorem text_byte : ∀ v : V, soundV v → ∀ c ∈ textV v, c < 256 := by
  refine V.ind ?_
  rintro ⟨k, n, f, s, l⟩ ih hs c hc
  change ∀ u ∈ l, _ at ih
  rw [soundV] at hs
  rw [textV] at hc
  split at hc
  · exact decL_byte n c hc
  split at hc
  · rcases List.mem_cons.1 hc with e | e
    · omega
    · exact textL_byte _ c e
  split at hc
  · rcases List.mem_cons.1 hc with e | e
    · omega
    · rcases List.mem_append.1 e with e | e
      · exact hex2_byte hs.2.2.1 c e
      · have := List.mem_singleton.1 e; omega
  split at hc
  · rcases List.mem_cons.1 hc with e | e
    · omega
    · rcases List.mem_append.1 e with e | e
      · refine joinS_byte _ (fun x hx => ?_) c e
        rw [textVs_map] at hx
        obtain ⟨u, hu, rfl⟩ := List.mem_map.1 hx
        exact ih u hu (soundL_mem hs.2.2.2 u hu)
      · have := List.mem_singleton.1 e; omega
  · simp at hc; omega

theorem set5_block {w1 : World} {g b : Nat} (h : b ≠ g) (a1 a2 a3 a4 a5 : Value) : (((((w1.setCell ⟨g, 0, none⟩ a1).setCell ⟨g, 1, none⟩ a2).setCell ⟨g, 2, none⟩ a3).setCell ⟨g, 3, none⟩ a4).setCell ⟨g, 4, none⟩ a5).heap[b]? = w1.heap[b]? := by
  rw [Below.heap_setCell _ _ _ _ h, Below.heap_setCell _ _ _ _ h, Below.heap_setCell _ _ _ _ h, Below.heap_setCell _ _ _ _ h, Below.heap_setCell _ _ _ _ h]

theorem vin_zero (w : World) : VIn w (.mk 0 0 0 [] []) (cells5 0 0 0 [] none 0 0) := by
  rw [VIn]
  exact ⟨by omega, by omega, by omega, by simp, by simp, none, 0, rfl, Nat.le_refl _, by omega, .inl rfl⟩

set_option maxRecDepth 100000 in
set_option maxHeartbeats 1600000 in
theorem vparse_any (l : List Nat) (w : World) (hl : ∀ x ∈ l, x < 256) (hn : l.length ≤ 100000) (he : Errs w) (hT : Tab16 w) (hP : Pow10 w) (hix : ∀ i, IdxAt (l.drop i)) :
    Calls Tryz.prog 17 #[.string (str l)] w (VParseEnd w l) := by
  have hb0 := (Below.refl w.heap.size w).alloc (Nat.le_refl _) (.cells #[.int .i64 0, .int .i64 0, .float .f64 0, .string ⟨#[]⟩, .slice none 0 0] 25)
  have HA := Lib.hid (guess_all 8 (by omega) l _ hl hn (he.below hb0) (tab_below hT hb0) hix)
  have HT := Lib.hid (tab_below hT hb0)
  have HP := Lib.hid (hP.below hb0)
  have Hb0 := Lib.hid hb0
  have HN := Lib.hid hn
  have HL := Lib.hid hl
  have hfl : ∀ (w : World) (a : Addr) (m : Mode) (b : Nat), (store a (.float .f64 b) m).run Tryz.prog w = stored Tryz.prog w a (.float .f64 b) m := fun w a m b => run_store Tryz.prog w a _ m rfl
  have H0 := Lib.hid (heap_alloc_new w (.cells #[.int .i64 0, .int .i64 0, .float .f64 0, .string ⟨#[]⟩, .slice none 0 0] 25))
  have hwz : (w.alloc (.cells #[.int .i64 0, .int .i64 0, .float .f64 0, .string ⟨#[]⟩, .slice none 0 0] 25)).heap.size = w.heap.size + 1 := by simp
  have HLS := Lib.hid (str_eq l)
  clear hl hn he hT hP hix hb0
  go_enter Tryz.func17, Tryz.ntmps17
  go_wp2_with fail
  generalize w.alloc (.cells #[.int .i64 0, .int .i64 0, .float .f64 0, .string ⟨#[]⟩, .slice none 0 0] 25) = w1 at *
  refine HA.out.mono ?_
  rintro e w2 ⟨con, rest, rfl, hb2, hcon⟩
  have hres := (hb2.block w.heap.size (by omega)).trans H0.out
  obtain ⟨⟨z0, z1, z2, z3, z4⟩, ⟨y0, y1, y2, y3, y4⟩⟩ := res_cells hres
  have Hres := Lib.hid hres
  have Hb2 := Lib.hid hb2
  have Hbw := Lib.hid (Hb0.out.trans (hb2.mono (by omega)))
  clear hb2 hres
  rcases hcon with ⟨rfl, hno⟩ | ⟨v, a, cap, hc, hv, hr, hat, hsz, hco⟩
  · have Hno := Lib.hid hno
    clear hno
    go_wp2_with fail
    refine bodyPost_ret (v := .tuple #[.agg #[.int .i64 0, .int .i64 0, .float .f64 0, .string (str []), .slice none 0 0], .bool false]) (by simp [results, Tryz.results17, go_sem, *]; rfl) rfl ?_
    refine ⟨.mk 0 0 0 [] [], _, false, rfl, vin_zero _, set5 Hbw.out _ _ _ _ _, (fun h => by cases h), fun _ => ⟨rfl, fun u hu hsu e => ?_⟩⟩
    exact Hno.out u [] (by rw [List.append_nil, e]) hu hsu ends_nil
  · obtain ⟨T, pv, f, hci, hm, hen, hcall⟩ := textAt_any v 8 a cap w2 hr (VInP.weak v _ hv) (by have := HN.out; omega) (HP.out.below Hb2.out) (tab_below HT.out Hb2.out)
    rw [hci] at hc
    obtain ⟨a2, cap2, hwh, hv2⟩ := whole_in hr hv
    have HW := Lib.hid (fun w => whole_any v.kind v.n v.f v.s a v.l.length cap w)
    rw [hwh, hci] at HW
    subst hc
    have HM := Lib.hid hm
    have HK := Lib.hid hcall
    have Hco := Lib.hid hco
    have Hr := Lib.hid hr
    have Hv2 := Lib.hid hv2
    have HLt := Lib.hid (text_byte v (VIn.sound v _ (VInP.weak v _ hv)))
    clear hci hm hcall hwh hv hv2 hr hat hsz hco
    go_wp2_with fail
    rw [HM.out]
    go_wp2_with fail
    refine (HK.out _ (Below.refl _ _)).mono ?_
    rintro e w3 ⟨rfl, hb3⟩
    by_cases htx : textV v = l
    · have hq : ((str (textV v)).toList == (str l).toList) = true := by rw [htx]; exact HLS.out
      have Htx := Lib.hid htx
      have hres3 := (hb3.block w.heap.size (by have := Hb2.out.size; omega)).trans Hres.out
      have Hb3 := Lib.hid hb3
      have Hres3 := Lib.hid hres3
      generalize str (textV v) = S at *
      clear hb3 htx z0 z1 z2 z3 z4 y0 y1 y2 y3 y4 hres3
      go_wp2_with fail
      refine (HW.out _).mono ?_
      rintro e w4 ⟨rfl, hb4⟩
      obtain ⟨⟨z0, z1, z2, z3, z4⟩, ⟨y0, y1, y2, y3, y4⟩⟩ := res_cells ((hb4.block w.heap.size (by have := Hb2.out.size; have := Hb3.out.size; omega)).trans Hres3.out)
      have Hb4 := Lib.hid (Hb3.out.trans (hb4.mono Hb3.out.size))
      clear hb4
      unfold cells5 at *
      go_wp2
      refine bodyPost_ret (v := .tuple #[.agg #[.int .i64 v.kind, .int .i64 v.n, .float .f64 v.f, .string (str v.s), .slice a2 v.l.length cap2], .bool true]) (by simp [results, Tryz.results17, go_sem, *]) rfl ?_
      refine ⟨v, _, true, rfl, VInP.weak v _ (VInP.turn (fun _ h => h) (fun p hp => ?_) v _ Hv2.out), set5 (Hbw.out.trans (Hb4.out.mono Hbw.out.size)) _ _ _ _ _, fun _ => ⟨Hr.out, Htx.out⟩, (fun h => by cases h)⟩
      unfold World.cell?
      rw [set5_block (by omega), Hb4.out.block p.block hp.2]
    · have hq : ((str (textV v)).toList == (str l).toList) = false := str_ne HLt.out HL.out htx
      have Htx := Lib.hid htx
      have hres3 := (hb3.block w.heap.size (by have := Hb2.out.size; omega)).trans Hres.out
      have Hb3 := Lib.hid (Hbw.out.trans (hb3.mono Hbw.out.size))
      generalize str (textV v) = S at *
      clear hb3 htx z0 z1 z2 z3 z4 y0 y1 y2 y3 y4
      obtain ⟨⟨z0, z1, z2, z3, z4⟩, ⟨y0, y1, y2, y3, y4⟩⟩ := res_cells hres3
      clear hres3
      go_wp2
      refine bodyPost_ret (v := .tuple #[.agg #[.int .i64 0, .int .i64 0, .float .f64 0, .string (str []), .slice none 0 0], .bool false]) (by simp [results, Tryz.results17, go_sem, *]; rfl) rfl ?_
      refine ⟨.mk 0 0 0 [] [], _, false, rfl, vin_zero _, set5 Hb3.out _ _ _ _ _, (fun h => by cases h), fun _ => ⟨rfl, fun u hu hsu e => ?_⟩⟩
      have h1 := (Hco.out u [] (by rw [List.append_nil, e]) hu hsu ends_nil).1
      exact Htx.out ((same_text _ _ h1).trans e)
end Go.Proofs.YtpjadeihackkpaaGreatDoor

