/- Wheels as plain data: the place of a deadline, what the levels hold. No condition. -/
import Derived.Test.YthidinaflaogfaaLvM
namespace Go.Proofs.Ythidinaflaogfaa
open Go.RowKit

/-- Two ticks are in the same turn of level n. -/
def fitW (n a b : Nat) : Prop := a / 64 ^ (n + 1) = b / 64 ^ (n + 1)
/-- The digit of a tick that level n looks at. -/
def dgt (n a : Nat) : Nat := a / 64 ^ n % 64
/-- A tick as level n counts it. -/
def coarseN (n t : Nat) : Nat := t / 2 ^ (n / 4 * 24)

theorem fitW_def (n a b : Nat) : fitW n a b ↔ a / 64 ^ n / 64 = b / 64 ^ n / 64 := by
  unfold fitW
  rw [Nat.pow_succ, ← Nat.div_div_eq_div_mul, ← Nat.div_div_eq_div_mul]

theorem fitW_of (n a b : Nat) (h : a / 64 ^ n = b / 64 ^ n) : fitW n a b := (fitW_def n a b).2 (by rw [h])

theorem fitW_mono {n m a b : Nat} (hm : n ≤ m) (h : fitW n a b) : fitW m a b := by
  unfold fitW at *
  obtain ⟨k, rfl⟩ : ∃ k, m = n + k := ⟨m - n, by omega⟩
  rw [show n + k + 1 = (n + 1) + k by omega, Nat.pow_add, ← Nat.div_div_eq_div_mul, ← Nat.div_div_eq_div_mul, h]

theorem fitW_down {n a b : Nat} (h : fitW n a b) : a / 64 ^ (n + 1) = b / 64 ^ (n + 1) := h
theorem fitW_symm {n a b : Nat} (h : fitW n a b) : fitW n b a := Eq.symm h
theorem fitW_trans {n a b c : Nat} (h : fitW n a b) (h' : fitW n b c) : fitW n a c := Eq.trans h h'
theorem fitW_refl (n a : Nat) : fitW n a a := rfl

theorem two64 (n : Nat) : 2 ^ (n / 4 * 24) = 64 ^ (4 * (n / 4)) := by
  rw [show (64 : Nat) = 2 ^ 6 by decide, ← Nat.pow_mul, show 6 * (4 * (n / 4)) = n / 4 * 24 by omega]

theorem coarse_div (n t j : Nat) : coarseN n t / 64 ^ (n % 4 + j) = t / 64 ^ (n + j) := by
  unfold coarseN
  rw [two64, Nat.div_div_eq_div_mul, ← Nat.pow_add, show 4 * (n / 4) + (n % 4 + j) = n + j by omega]

theorem turn_coarse (n t : Nat) : turnN (n % 4) (coarseN n t) = t / 64 ^ (n + 1) := coarse_div n t 1
theorem slot_coarse (n t : Nat) : slotN (n % 4) (coarseN n t) = dgt n t := by
  have := coarse_div n t 0
  unfold slotN dgt
  rw [Nat.add_zero, Nat.add_zero] at this
  rw [this]
theorem coarse_le (n t : Nat) : coarseN n t ≤ t := Nat.div_le_self _ _
theorem coarse_zero (n t : Nat) (h : n < 4) : coarseN n t = t := by
  unfold coarseN
  rw [show n / 4 = 0 by omega]
  simp

instance (n a b : Nat) : Decidable (fitW n a b) := inferInstanceAs (Decidable (_ = _))

/-- n is the level of a tick a, the wheel's tick being now. -/
def IsPl (now a n : Nat) : Prop := fitW n now a ∧ ∀ m, m < n → ¬ fitW m now a

theorem IsPl.uniq {now a n m : Nat} (h : IsPl now a n) (h' : IsPl now a m) : n = m := by
  rcases Nat.lt_trichotomy n m with h1 | h1 | h1
  · exact absurd h.1 (h'.2 n h1)
  · exact h1
  · exact absurd h'.1 (h.2 m h1)

theorem fitW_ten {a b : Nat} (ha : a < 18446744073709551616) (hb : b < 18446744073709551616) : fitW 10 a b := by
  unfold fitW
  rw [Nat.div_eq_of_lt (Nat.lt_of_lt_of_le ha (by decide)), Nat.div_eq_of_lt (Nat.lt_of_lt_of_le hb (by decide))]

theorem pl_ex (now a : Nat) : ∀ n, fitW n now a → ∃ m, m ≤ n ∧ IsPl now a m := by
  intro n
  induction n with
  | zero => exact fun h => ⟨0, Nat.le_refl _, h, fun m hm => absurd hm (by omega)⟩
  | succ n ih =>
    intro h
    by_cases h1 : fitW n now a
    · obtain ⟨m, hm, hp⟩ := ih h1
      exact ⟨m, by omega, hp⟩
    · exact ⟨n + 1, Nat.le_refl _, h, fun m hm hf => h1 (fitW_mono (by omega) hf)⟩

theorem pl_le {now a : Nat} (hn : now < 18446744073709551616) (ha : a < 18446744073709551616) : ∃ m, m ≤ 10 ∧ IsPl now a m := pl_ex now a 10 (fitW_ten hn ha)

theorem div_gt {a b P : Nat} (hle : a ≤ b) (hne : a / P ≠ b / P) : a / P < b / P := Nat.lt_of_le_of_ne (Nat.div_le_div_right hle) hne
theorem gt_of_div {a b P : Nat} (h : a / P < b / P) : a < b := by
  rcases Nat.lt_or_ge a b with h1 | h1
  · exact h1
  · have := Nat.div_le_div_right (c := P) h1; omega

theorem dgt_div {n a b : Nat} (h : fitW n a b) : (a / 64 ^ n < b / 64 ^ n ↔ dgt n a < dgt n b) ∧ (a / 64 ^ n = b / 64 ^ n ↔ dgt n a = dgt n b) := by
  rw [fitW_def] at h
  unfold dgt
  omega

/-- What is not taken while the tick goes on to now' stays where it is, and is due later. -/
theorem stay_above {now now' a K n : Nat} (hle : now ≤ now') (hK : IsPl now now' K) (hp : IsPl now (max a now) n) (hn : K < n ∨ (n = K ∧ dgt K now' < dgt K (max a now))) : now' < a ∧ IsPl now' a n := by
  have hm : now ≤ max a now := Nat.le_max_right _ _
  rcases hn with h1 | ⟨rfl, h1⟩
  · obtain ⟨m, rfl⟩ : ∃ m, n = m + 1 := ⟨n - 1, by omega⟩
    have hne : ¬ now / 64 ^ (m + 1) = max a now / 64 ^ (m + 1) := hp.2 m (by omega)
    have e1 : now / 64 ^ (m + 1) = now' / 64 ^ (m + 1) := fitW_mono (by omega) hK.1
    have h2 := div_gt hm hne
    rw [e1] at h2
    have h3 := gt_of_div h2
    have h4 : max a now = a := by omega
    rw [h4] at hp h3
    refine ⟨h3, fitW_trans (fitW_symm (fitW_mono (by omega) hK.1)) hp.1, fun j hj hf => ?_⟩
    have h5 : fitW m now' a := fitW_mono (by omega) hf
    exact hp.2 m (by omega) (fitW_trans (fitW_mono (by omega) hK.1) h5)
  · have hf : fitW n now' (max a now) := fitW_trans (fitW_symm hK.1) hp.1
    have h2 := ((dgt_div hf).1).2 h1
    have h3 := gt_of_div h2
    have h4 : max a now = a := by omega
    rw [h4] at hf h2 h3
    refine ⟨h3, hf, fun j hj hfj => ?_⟩
    obtain ⟨m, rfl⟩ : ∃ m, n = m + 1 := ⟨n - 1, by omega⟩
    have : fitW m now' a := fitW_mono (by omega) hfj
    have := fitW_down this
    omega

/-- A timer as an item of level n. -/
def itW (now n : Nat) (t : It) : It := (t.1, coarseN n (max t.2 now))

/-- Timers: in order, no two with the same ID, with ticks. -/
structure TimW (T : List It) : Prop where
  srt : srtI T
  ids : ∀ a ∈ T, ∀ b ∈ T, a.1 = b.1 → a = b
  tick : ∀ a ∈ T, a.2 < 9223372036854775808
  idb : ∀ a ∈ T, a.1 < 18446744073709551616

/-- The levels hold the timers of which P holds, each in its place. -/
structure GoodP (now : Nat) (T : List It) (P : It → Prop) (L : Nat → List It) : Prop where
  srt : ∀ n, srtI (L n)
  mem : ∀ n x, x ∈ L n ↔ ∃ t ∈ T, P t ∧ IsPl now (max t.2 now) n ∧ x = itW now n t

theorem GoodP.congr {now : Nat} {T T' : List It} {P P' : It → Prop} {L : Nat → List It} (h : GoodP now T P L) (e : ∀ t, (t ∈ T ∧ P t) ↔ (t ∈ T' ∧ P' t)) : GoodP now T' P' L := by
  refine ⟨h.srt, fun n x => (h.mem n x).trans ⟨?_, ?_⟩⟩
  · rintro ⟨t, ht, hp, h1, h2⟩
    exact ⟨t, ((e t).1 ⟨ht, hp⟩).1, ((e t).1 ⟨ht, hp⟩).2, h1, h2⟩
  · rintro ⟨t, ht, hp, h1, h2⟩
    exact ⟨t, ((e t).2 ⟨ht, hp⟩).1, ((e t).2 ⟨ht, hp⟩).2, h1, h2⟩

/-- The item with an ID lies once. -/
theorem GoodP.one {now : Nat} {T : List It} {P : It → Prop} {L : Nat → List It} (h : GoodP now T P L) (hT : ∀ a ∈ T, ∀ b ∈ T, a.1 = b.1 → a = b) {n m : Nat} {x y : It} (hx : x ∈ L n) (hy : y ∈ L m) (e : x.1 = y.1) : n = m ∧ x = y := by
  obtain ⟨t, ht, _, h1, rfl⟩ := (h.mem n x).1 hx
  obtain ⟨u, hu, _, h2, rfl⟩ := (h.mem m y).1 hy
  obtain rfl := hT t ht u hu e
  obtain rfl := h1.uniq h2
  exact ⟨rfl, rfl⟩

theorem srt_nodup {L : List It} (h : srtI L) : L.Nodup := h.imp (fun h e => by rw [e, ltI_irr] at h; cases h)

theorem nodup_len {α : Type} : ∀ {l m : List α}, l.Nodup → (∀ x ∈ l, x ∈ m) → l.length ≤ m.length
  | [], _, _, _ => Nat.zero_le _
  | a :: l, m, hn, hs => by
    obtain ⟨h1, h2⟩ := List.nodup_cons.1 hn
    obtain ⟨u, v, rfl⟩ := List.append_of_mem (hs a List.mem_cons_self)
    have := nodup_len (l := l) (m := u ++ v) h2 (fun x hx => by
      have := hs x (List.mem_cons_of_mem _ hx)
      rw [List.mem_append, List.mem_cons] at this
      rw [List.mem_append]
      rcases this with h3 | rfl | h3
      · exact .inl h3
      · exact absurd hx h1
      · exact .inr h3)
    rw [List.length_append] at this
    rw [List.length_append, List.length_cons, List.length_cons]
    omega

theorem GoodP.len {now : Nat} {T : List It} {P : It → Prop} {L : Nat → List It} (h : GoodP now T P L) (n : Nat) : (L n).length ≤ T.length := by
  have := nodup_len (m := T.map (itW now n)) (srt_nodup (h.srt n)) (fun x hx => by
    obtain ⟨t, ht, _, _, rfl⟩ := (h.mem n x).1 hx
    exact List.mem_map_of_mem ht)
  rwa [List.length_map] at this

/-- One level's items, turned. -/
def updL (L : Nat → List It) (n : Nat) (l : List It) (m : Nat) : List It := if m = n then l else L m

theorem updL_same (L : Nat → List It) (n : Nat) (l : List It) : updL L n l n = l := if_pos rfl
theorem updL_other (L : Nat → List It) (n : Nat) (l : List It) {m : Nat} (h : m ≠ n) : updL L n l m = L m := if_neg h

/-- A timer is put. -/
theorem GoodP.put {now : Nat} {T : List It} {P : It → Prop} {L : Nat → List It} (h : GoodP now T P L) {t : It} (ht : t ∈ T) {n : Nat} (hn : IsPl now (max t.2 now) n) :
    GoodP now T (fun u => P u ∨ u = t) (updL L n (if itW now n t ∈ L n then L n else insI (itW now n t) (L n))) := by
  have hm : ∀ x, x ∈ (if itW now n t ∈ L n then L n else insI (itW now n t) (L n)) ↔ x = itW now n t ∨ x ∈ L n := by
    intro x
    by_cases hi : itW now n t ∈ L n
    · rw [if_pos hi]
      exact ⟨.inr, fun h => h.elim (fun e => e ▸ hi) id⟩
    · rw [if_neg hi, mem_ins (h.srt n)]
  refine ⟨fun m => ?_, fun m x => ?_⟩
  · unfold updL
    by_cases e : m = n
    · rw [if_pos e]
      by_cases hi : itW now n t ∈ L n
      · rw [if_pos hi]; exact h.srt n
      · rw [if_neg hi]; exact srt_ins (h.srt n) hi
    · rw [if_neg e]; exact h.srt m
  · unfold updL
    by_cases e : m = n
    · subst e
      rw [if_pos rfl, hm, h.mem]
      constructor
      · rintro (rfl | ⟨u, hu, hp, h1, h2⟩)
        · exact ⟨t, ht, .inr rfl, hn, rfl⟩
        · exact ⟨u, hu, .inl hp, h1, h2⟩
      · rintro ⟨u, hu, hp | rfl, h1, h2⟩
        · exact .inr ⟨u, hu, hp, h1, h2⟩
        · exact .inl h2
    · rw [if_neg e, h.mem]
      constructor
      · rintro ⟨u, hu, hp, h1, h2⟩
        exact ⟨u, hu, .inl hp, h1, h2⟩
      · rintro ⟨u, hu, hp | rfl, h1, h2⟩
        · exact ⟨u, hu, hp, h1, h2⟩
        · exact absurd (h1.uniq hn) e
end Go.Proofs.Ythidinaflaogfaa
