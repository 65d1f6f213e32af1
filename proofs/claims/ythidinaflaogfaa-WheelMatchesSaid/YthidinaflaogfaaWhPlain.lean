/- Wheels as plain data: the place of a deadline, what the levels hold; the map of the timers. No condition. -/
import Derived.Test.YthidinaflaogfaaLvM
import Derived.Maps.OwnOps
import Derived.Maps.OwnSet
import Derived.Maps.Views
import Derived.Test.YthidinaflaogfaaLvMat
namespace Go.Proofs.Ythidinaflaogfaa
open Go.RowKit

/-- Two ticks are in the same turn of level n. -/
def fitW (n a b : Nat) : Prop := a / 64 ^ (n + 1) = b / 64 ^ (n + 1)
/-- The digit of a tick that level n looks at. -/
def dgt (n a : Nat) : Nat := a / 64 ^ n % 64
/-- A tick as level n counts it. -/
def coarseN (n t : Nat) : Nat := t / 2 ^ (n / 4 * 24)

theorem fitW_def (n a b : Nat) : fitW n a b ↔ a / 64 ^ n / 64 = b / 64 ^ n / 64 := by
  unfold fitW
  rw [Nat.pow_succ, ← Nat.div_div_eq_div_mul, ← Nat.div_div_eq_div_mul]

theorem fitW_of (n a b : Nat) (h : a / 64 ^ n = b / 64 ^ n) : fitW n a b := (fitW_def n a b).2 (by rw [h])

theorem fitW_mono {n m a b : Nat} (hm : n ≤ m) (h : fitW n a b) : fitW m a b := by
  unfold fitW at *
  obtain ⟨k, rfl⟩ : ∃ k, m = n + k := ⟨m - n, by omega⟩
  rw [show n + k + 1 = (n + 1) + k by omega, Nat.pow_add, ← Nat.div_div_eq_div_mul, ← Nat.div_div_eq_div_mul, h]

theorem fitW_down {n a b : Nat} (h : fitW n a b) : a / 64 ^ (n + 1) = b / 64 ^ (n + 1) := h
theorem fitW_symm {n a b : Nat} (h : fitW n a b) : fitW n b a := Eq.symm h
theorem fitW_trans {n a b c : Nat} (h : fitW n a b) (h' : fitW n b c) : fitW n a c := Eq.trans h h'
theorem fitW_refl (n a : Nat) : fitW n a a := rfl

theorem two64 (n : Nat) : 2 ^ (n / 4 * 24) = 64 ^ (4 * (n / 4)) := by
  rw [show (64 : Nat) = 2 ^ 6 by decide, ← Nat.pow_mul, show 6 * (4 * (n / 4)) = n / 4 * 24 by omega]

theorem coarse_div (n t j : Nat) : coarseN n t / 64 ^ (n % 4 + j) = t / 64 ^ (n + j) := by
  unfold coarseN
  rw [two64, Nat.div_div_eq_div_mul, ← Nat.pow_add, show 4 * (n / 4) + (n % 4 + j) = n + j by omega]

theorem turn_coarse (n t : Nat) : turnN (n % 4) (coarseN n t) = t / 64 ^ (n + 1) := coarse_div n t 1
theorem slot_coarse (n t : Nat) : slotN (n % 4) (coarseN n t) = dgt n t := by
  have := coarse_div n t 0
  unfold slotN dgt
  rw [Nat.add_zero, Nat.add_zero] at this
  rw [this]
theorem coarse_le (n t : Nat) : coarseN n t ≤ t := Nat.div_le_self _ _
theorem coarse_zero (n t : Nat) (h : n < 4) : coarseN n t = t := by
  unfold coarseN
  rw [show n / 4 = 0 by omega]
  simp

instance (n a b : Nat) : Decidable (fitW n a b) := inferInstanceAs (Decidable (_ = _))

/-- n is the level of a tick a, the wheel's tick being now. -/
def IsPl (now a n : Nat) : Prop := fitW n now a ∧ ∀ m, m < n → ¬ fitW m now a

theorem IsPl.uniq {now a n m : Nat} (h : IsPl now a n) (h' : IsPl now a m) : n = m := by
  rcases Nat.lt_trichotomy n m with h1 | h1 | h1
  · exact absurd h.1 (h'.2 n h1)
  · exact h1
  · exact absurd h'.1 (h.2 m h1)

theorem fitW_ten {a b : Nat} (ha : a < 18446744073709551616) (hb : b < 18446744073709551616) : fitW 10 a b := by
  unfold fitW
  rw [Nat.div_eq_of_lt (Nat.lt_of_lt_of_le ha (by decide)), Nat.div_eq_of_lt (Nat.lt_of_lt_of_le hb (by decide))]

theorem pl_ex (now a : Nat) : ∀ n, fitW n now a → ∃ m, m ≤ n ∧ IsPl now a m := by
  intro n
  induction n with
  | zero => exact fun h => ⟨0, Nat.le_refl _, h, fun m hm => absurd hm (by omega)⟩
  | succ n ih =>
    intro h
    by_cases h1 : fitW n now a
    · obtain ⟨m, hm, hp⟩ := ih h1
      exact ⟨m, by omega, hp⟩
    · exact ⟨n + 1, Nat.le_refl _, h, fun m hm hf => h1 (fitW_mono (by omega) hf)⟩

theorem pl_le {now a : Nat} (hn : now < 18446744073709551616) (ha : a < 18446744073709551616) : ∃ m, m ≤ 10 ∧ IsPl now a m := pl_ex now a 10 (fitW_ten hn ha)

theorem div_gt {a b P : Nat} (hle : a ≤ b) (hne : a / P ≠ b / P) : a / P < b / P := Nat.lt_of_le_of_ne (Nat.div_le_div_right hle) hne
theorem gt_of_div {a b P : Nat} (h : a / P < b / P) : a < b := by
  rcases Nat.lt_or_ge a b with h1 | h1
  · exact h1
  · have := Nat.div_le_div_right (c := P) h1; omega

theorem dgt_div {n a b : Nat} (h : fitW n a b) : (a / 64 ^ n < b / 64 ^ n ↔ dgt n a < dgt n b) ∧ (a / 64 ^ n = b / 64 ^ n ↔ dgt n a = dgt n b) := by
  rw [fitW_def] at h
  unfold dgt
  omega

/-- What is not taken while the tick goes on to now' stays where it is, and is due later. -/
theorem stay_above {now now' a K n : Nat} (hle : now ≤ now') (hK : IsPl now now' K) (hp : IsPl now (max a now) n) (hn : K < n ∨ (n = K ∧ dgt K now' < dgt K (max a now))) : now' < a ∧ IsPl now' a n := by
  have hm : now ≤ max a now := Nat.le_max_right _ _
  rcases hn with h1 | ⟨rfl, h1⟩
  · obtain ⟨m, rfl⟩ : ∃ m, n = m + 1 := ⟨n - 1, by omega⟩
    have hne : ¬ now / 64 ^ (m + 1) = max a now / 64 ^ (m + 1) := hp.2 m (by omega)
    have e1 : now / 64 ^ (m + 1) = now' / 64 ^ (m + 1) := fitW_mono (by omega) hK.1
    have h2 := div_gt hm hne
    rw [e1] at h2
    have h3 := gt_of_div h2
    have h4 : max a now = a := by omega
    rw [h4] at hp h3
    refine ⟨h3, fitW_trans (fitW_symm (fitW_mono (by omega) hK.1)) hp.1, fun j hj hf => ?_⟩
    have h5 : fitW m now' a := fitW_mono (by omega) hf
    exact hp.2 m (by omega) (fitW_trans (fitW_mono (by omega) hK.1) h5)
  · have hf : fitW n now' (max a now) := fitW_trans (fitW_symm hK.1) hp.1
    have h2 := ((dgt_div hf).1).2 h1
    have h3 := gt_of_div h2
    have h4 : max a now = a := by omega
    rw [h4] at hf h2 h3
    refine ⟨h3, hf, fun j hj hfj => ?_⟩
    obtain ⟨m, rfl⟩ : ∃ m, n = m + 1 := ⟨n - 1, by omega⟩
    have : fitW m now' a := fitW_mono (by omega) hfj
    have := fitW_down this
    omega

/-- A timer as an item of level n. -/
def itW (now n : Nat) (t : It) : It := (t.1, coarseN n (max t.2 now))

/-- Timers: in order, no two with the same ID, with ticks. -/
structure TimW (T : List It) : Prop where
  srt : srtI T
  ids : ∀ a ∈ T, ∀ b ∈ T, a.1 = b.1 → a = b
  tick : ∀ a ∈ T, a.2 < 9223372036854775808
  idb : ∀ a ∈ T, a.1 < 18446744073709551616

/-- The levels hold the timers of which P holds, each in its place. -/
structure GoodP (now : Nat) (T : List It) (P : It → Prop) (L : Nat → List It) : Prop where
  srt : ∀ n, srtI (L n)
  mem : ∀ n x, x ∈ L n ↔ ∃ t ∈ T, P t ∧ IsPl now (max t.2 now) n ∧ x = itW now n t

theorem GoodP.congr {now : Nat} {T T' : List It} {P P' : It → Prop} {L : Nat → List It} (h : GoodP now T P L) (e : ∀ t, (t ∈ T ∧ P t) ↔ (t ∈ T' ∧ P' t)) : GoodP now T' P' L := by
  refine ⟨h.srt, fun n x => (h.mem n x).trans ⟨?_, ?_⟩⟩
  · rintro ⟨t, ht, hp, h1, h2⟩
    exact ⟨t, ((e t).1 ⟨ht, hp⟩).1, ((e t).1 ⟨ht, hp⟩).2, h1, h2⟩
  · rintro ⟨t, ht, hp, h1, h2⟩
    exact ⟨t, ((e t).2 ⟨ht, hp⟩).1, ((e t).2 ⟨ht, hp⟩).2, h1, h2⟩

/-- The item with an ID lies once. -/
theorem GoodP.one {now : Nat} {T : List It} {P : It → Prop} {L : Nat → List It} (h : GoodP now T P L) (hT : ∀ a ∈ T, ∀ b ∈ T, a.1 = b.1 → a = b) {n m : Nat} {x y : It} (hx : x ∈ L n) (hy : y ∈ L m) (e : x.1 = y.1) : n = m ∧ x = y := by
  obtain ⟨t, ht, _, h1, rfl⟩ := (h.mem n x).1 hx
  obtain ⟨u, hu, _, h2, rfl⟩ := (h.mem m y).1 hy
  obtain rfl := hT t ht u hu e
  obtain rfl := h1.uniq h2
  exact ⟨rfl, rfl⟩

theorem srt_nodup {L : List It} (h : srtI L) : L.Nodup := h.imp (fun h e => by rw [e, ltI_irr] at h; cases h)

theorem nodup_len {α : Type} : ∀ {l m : List α}, l.Nodup → (∀ x ∈ l, x ∈ m) → l.length ≤ m.length
  | [], _, _, _ => Nat.zero_le _
  | a :: l, m, hn, hs => by
    obtain ⟨h1, h2⟩ := List.nodup_cons.1 hn
    obtain ⟨u, v, rfl⟩ := List.append_of_mem (hs a List.mem_cons_self)
    have := nodup_len (l := l) (m := u ++ v) h2 (fun x hx => by
      have := hs x (List.mem_cons_of_mem _ hx)
      rw [List.mem_append, List.mem_cons] at this
      rw [List.mem_append]
      rcases this with h3 | rfl | h3
      · exact .inl h3
      · exact absurd hx h1
      · exact .inr h3)
    rw [List.length_append] at this
    rw [List.length_append, List.length_cons, List.length_cons]
    omega

theorem GoodP.len {now : Nat} {T : List It} {P : It → Prop} {L : Nat → List It} (h : GoodP now T P L) (n : Nat) : (L n).length ≤ T.length := by
  have := nodup_len (m := T.map (itW now n)) (srt_nodup (h.srt n)) (fun x hx => by
    obtain ⟨t, ht, _, _, rfl⟩ := (h.mem n x).1 hx
    exact List.mem_map_of_mem ht)
  rwa [List.length_map] at this

/-- One level's items, turned. -/
def updL (L : Nat → List It) (n : Nat) (l : List It) (m : Nat) : List It := if m = n then l else L m

theorem updL_same (L : Nat → List It) (n : Nat) (l : List It) : updL L n l n = l := if_pos rfl
theorem updL_other (L : Nat → List It) (n : Nat) (l : List It) {m : Nat} (h : m ≠ n) : updL L n l m = L m := if_neg h

/-- A timer is put. -/
theorem GoodP.put {now : Nat} {T : List It} {P : It → Prop} {L : Nat → List It} (h : GoodP now T P L) {t : It} (ht : t ∈ T) {n : Nat} (hn : IsPl now (max t.2 now) n) :
    GoodP now T (fun u => P u ∨ u = t) (updL L n (if itW now n t ∈ L n then L n else insI (itW now n t) (L n))) := by
  have hm : ∀ x, x ∈ (if itW now n t ∈ L n then L n else insI (itW now n t) (L n)) ↔ x = itW now n t ∨ x ∈ L n := by
    intro x
    by_cases hi : itW now n t ∈ L n
    · rw [if_pos hi]
      exact ⟨.inr, fun h => h.elim (fun e => e ▸ hi) id⟩
    · rw [if_neg hi, mem_ins (h.srt n)]
  refine ⟨fun m => ?_, fun m x => ?_⟩
  · unfold updL
    by_cases e : m = n
    · rw [if_pos e]
      by_cases hi : itW now n t ∈ L n
      · rw [if_pos hi]; exact h.srt n
      · rw [if_neg hi]; exact srt_ins (h.srt n) hi
    · rw [if_neg e]; exact h.srt m
  · unfold updL
    by_cases e : m = n
    · subst e
      rw [if_pos rfl, hm, h.mem]
      constructor
      · rintro (rfl | ⟨u, hu, hp, h1, h2⟩)
        · exact ⟨t, ht, .inr rfl, hn, rfl⟩
        · exact ⟨u, hu, .inl hp, h1, h2⟩
      · rintro ⟨u, hu, hp | rfl, h1, h2⟩
        · exact .inr ⟨u, hu, hp, h1, h2⟩
        · exact .inl h2
    · rw [if_neg e, h.mem]
      constructor
      · rintro ⟨u, hu, hp, h1, h2⟩
        exact ⟨u, hu, .inl hp, h1, h2⟩
      · rintro ⟨u, hu, hp | rfl, h1, h2⟩
        · exact ⟨u, hu, hp, h1, h2⟩
        · exact absurd (h1.uniq hn) e
end Go.Proofs.Ythidinaflaogfaa
namespace Go.Proofs.Ythidinaflaogfaa
open Go.RowKit Go.Maps

theorem keyU : Keyed Try.prog 22 := int_keyed Try.underlying22
theorem wfU {a : Nat} (h : a < 18446744073709551616) : (Lit.int .u64 (a : Int)).wf = true := by
  simp only [Lit.wf, Bool.and_eq_true, decide_eq_true_eq]
  have h1 : IntKind.min .u64 = 0 := by decide
  have h2 : IntKind.max .u64 = 18446744073709551615 := by decide
  rw [h1, h2]
  omega
theorem keyOfU {a : Nat} (h : a < 18446744073709551616) : keyOf Try.prog 22 (.int .u64 (a : Int)) = some (.int .u64 (a : Int)) := keyOf_int_mk Try.underlying22 (wfU h)
theorem zeroU (w : World) : (zeroValue 22).run Try.prog w = .ok (.int .u64 0) w := by kernel_rfl
theorem litU_ne {a b : Nat} (h : a ≠ b) : Lit.int .u64 (a : Int) ≠ Lit.int .u64 (b : Int) := fun e => h (Int.ofNat.inj (Lit.int.inj e).2)

/-- Whether there is a timer with an ID. -/
def hasW (T : List It) (id : Nat) : Bool := decide (∃ t, t ∈ T ∧ t.1 = id)
theorem hasW_iff {T : List It} {id : Nat} : hasW T id = true ↔ ∃ t, t ∈ T ∧ t.1 = id := by unfold hasW; rw [decide_eq_true_eq]
theorem hasW_no {T : List It} {id : Nat} : hasW T id = false ↔ ∀ t ∈ T, t.1 ≠ id := by
  rw [← Bool.not_eq_true, hasW_iff]
  exact ⟨fun h t ht e => h ⟨t, ht, e⟩, fun h ⟨t, ht, e⟩ => h t ht e⟩

/-- The datum holds the timers. -/
structure TM (T : List It) (D : DataW Unit) : Prop where
  tidy : Tidy D
  size : Maps.size D = T.length
  has : ∀ k : Nat, Maps.has D (.int .u64 (k : Int)) = hasW T k
  val : ∀ t ∈ T, ∀ z, D.atKey (.int .u64 (t.1 : Int)) z = .lit (.int .u64 (t.2 : Int))

/-- Block mb is the map of the timers. -/
def MapT (w : World) (mb : Nat) (T : List It) : Prop := ∃ D : DataW Unit, w.ownsMap Try.prog 22 (plainElem Try.prog 22) mb T.length D ∧ TM T D

theorem owns_tight {w : World} {mb n : Nat} {D : DataW Unit} {m : Nat} (h : w.ownsMap Try.prog 22 (plainElem Try.prog 22) mb n D) (e : Maps.size D = m) : w.ownsMap Try.prog 22 (plainElem Try.prog 22) mb m D := by
  obtain ⟨es, clock, hb, F, hs, rfl⟩ := h
  refine ⟨es, clock, hb, F, ?_, rfl⟩
  rw [← e]
  simp [Maps.size, length_sorted]

theorem MapT.kept {w w' : World} {mb : Nat} {T : List It} (h : MapT w mb T) (hb : w'.heap[mb]? = w.heap[mb]?) : MapT w' mb T := by
  obtain ⟨D, ⟨es, clock, h1, h2⟩, h3⟩ := h
  exact ⟨D, ⟨es, clock, hb.trans h1, h2⟩, h3⟩

theorem MapT.lt {w : World} {mb : Nat} {T : List It} (h : MapT w mb T) : mb < w.heap.size := by obtain ⟨D, h1, _⟩ := h; exact h1.lt

theorem MapT.made (w : World) : MapT (w.alloc (.map #[] 0)) w.heap.size [] :=
  ⟨.map [], World.ownsMap_made w _ _ _, ⟨tidy_empty, rfl, fun k => by rw [hasW_no.2 (fun t ht => by cases ht)]; rfl, fun t ht => by cases ht⟩⟩

set_option maxRecDepth 100000 in
theorem MapT.look {w : World} {mb : Nat} {T : List It} (h : MapT w mb T) (id : Nat) (hid : id < 18446744073709551616) :
    ∃ c : Int, (Instr.lookup 61 (.map (some mb)) (.int .u64 (id : Int)) true).run Try.prog w = .ok (.tuple #[.int .u64 c, .bool (hasW T id)]) w ∧ ∀ t ∈ T, t.1 = id → c = (t.2 : Int) := by
  obtain ⟨D, h1, h2⟩ := h
  obtain ⟨v, ps, hrun, hv⟩ := h1.look_ok keyU Try.underlying61 (zeroU w) (plainElem_int Try.underlying22 (by decide)) (keyOfU hid)
  obtain ⟨c, rfl, hc, _⟩ := plainElem_int_inv Try.underlying22 hv
  refine ⟨c, by rw [hrun, h2.has], fun t ht e => ?_⟩
  have h3 := h2.val t ht (.lit (.int .u64 0))
  rw [e] at h3
  have h4 : D.atKey (.int .u64 (id : Int)) (.lit (.int .u64 0)) = .lit (.int .u64 c) := congrArg Prod.fst hc
  exact (Lit.int.inj (DataW.lit.inj (h4.symm.trans h3))).2

set_option maxRecDepth 100000 in
theorem MapT.at {w : World} {mb : Nat} {T : List It} (h : MapT w mb T) (t : It) (ht : t ∈ T) (hid : t.1 < 18446744073709551616) :
    (Instr.lookup 61 (.map (some mb)) (.int .u64 (t.1 : Int)) false).run Try.prog w = .ok (.int .u64 (t.2 : Int)) w := by
  obtain ⟨D, h1, h2⟩ := h
  obtain ⟨c, hrun, hc, _⟩ := h1.lookup_int keyU Try.underlying61 Try.underlying22 (zeroU w) (keyOfU hid)
  rw [hrun, (Lit.int.inj (DataW.lit.inj ((h2.val t ht _).symm.trans hc))).2]

theorem MapT.len {w : World} {mb : Nat} {T : List It} (h : MapT w mb T) (ty : TypeId) : (Builtin.len_ #[61] ty #[.map (some mb)]).run Try.prog w = .ok (.int .i64 (T.length : Int)) w := by
  obtain ⟨D, h1, h2⟩ := h
  rw [h1.len Try.underlying61, h2.size]

theorem MapT.put {w : World} {mb : Nat} {T T' : List It} (h : MapT w mb T) (t : It) (hid : t.1 < 18446744073709551616) (ha : t.2 < 18446744073709551616) (hno : hasW T t.1 = false) (hl : T.length ≤ 1000) (hm : ∀ x, x ∈ T' ↔ x = t ∨ x ∈ T) (hn : T'.length = T.length + 1) :
    ∃ w', (Instr.mapUpdate 61 (.map (some mb)) (.int .u64 (t.1 : Int)) (.int .u64 (t.2 : Int))).run Try.prog w = .ok () w' ∧ MapT w' mb T' ∧ w.grownBy w' (some mb) := by
  obtain ⟨D, h1, h2⟩ := h
  obtain ⟨w', r1, g1, g2⟩ := h1.update keyU Try.underlying61 (Nat.lt_of_le_of_lt hl (by decide)) (keyOfU hid) (plainElem_int Try.underlying22 (wfU ha))
  have hk : WideAt.IsKeyLit (Lit.int .u64 (t.1 : Int)) := by first | trivial | exact rfl | decide
  have hs : Maps.size (D.put (.int .u64 (t.1 : Int)) (.lit (.int .u64 (t.2 : Int)))) = T'.length := by
    rw [size_put h2.tidy, h2.has, hno, if_neg (by decide), h2.size, hn]
  refine ⟨w', r1, ⟨_, owns_tight g1 hs, h2.tidy.put hk _, hs, fun k => ?_, fun u hu z => ?_⟩, g2⟩
  · by_cases e : k = t.1
    · subst e
      rw [has_put_same h2.tidy.isMap hk]
      exact (hasW_iff.2 ⟨t, (hm t).2 (.inl rfl), rfl⟩).symm
    · rw [has_put_other (litU_ne e), h2.has]
      rw [Bool.eq_iff_iff, hasW_iff, hasW_iff]
      constructor
      · rintro ⟨u, hu, hue⟩
        exact ⟨u, (hm u).2 (.inr hu), hue⟩
      · rintro ⟨u, hu, hue⟩
        rcases (hm u).1 hu with rfl | h3
        · exact absurd hue.symm e
        · exact ⟨u, h3, hue⟩
  · rcases (hm u).1 hu with rfl | h3
    · exact atKey_put_same h2.tidy.isMap hk _ _
    · rw [atKey_put_other (litU_ne (hasW_no.1 hno u h3)), h2.val u h3]

theorem MapT.del {w : World} {mb : Nat} {T T' : List It} (h : MapT w mb T) (t : It) (ht : t ∈ T) (hid : t.1 < 18446744073709551616) (hi : ∀ a ∈ T, ∀ b ∈ T, a.1 = b.1 → a = b) (hm : ∀ x, x ∈ T' ↔ x ∈ T ∧ x ≠ t) (hn : T'.length + 1 = T.length) (ty : TypeId) :
    ∃ w', (Builtin.delete_ #[61, 22] ty #[.map (some mb), .int .u64 (t.1 : Int)]).run Try.prog w = .ok (.tuple #[]) w' ∧ MapT w' mb T' ∧ w.grownBy w' (some mb) := by
  obtain ⟨D, h1, h2⟩ := h
  obtain ⟨w', r1, g1, g2⟩ := h1.drop keyU Try.underlying61 (keyOfU hid) ty
  have hs : Maps.size (D.del (.int .u64 (t.1 : Int))) = T'.length := by
    have := size_del (k := .int .u64 (t.1 : Int)) h2.tidy
    rw [h2.has, hasW_iff.2 ⟨t, ht, rfl⟩, if_pos rfl, h2.size] at this
    omega
  refine ⟨w', r1, ⟨_, owns_tight g1 hs, h2.tidy.del _, hs, fun k => ?_, fun u hu z => ?_⟩, g2.grown⟩
  · by_cases e : k = t.1
    · subst e
      rw [has_del_same]
      exact (hasW_no.2 (fun u hu e => ((hm u).1 hu).2 (hi u ((hm u).1 hu).1 t ht e))).symm
    · rw [has_del_other (litU_ne e), h2.has]
      rw [Bool.eq_iff_iff, hasW_iff, hasW_iff]
      constructor
      · rintro ⟨u, hu, hue⟩
        exact ⟨u, (hm u).2 ⟨hu, fun e' => e (by rw [← hue, e'])⟩, hue⟩
      · rintro ⟨u, hu, hue⟩
        exact ⟨u, ((hm u).1 hu).1, hue⟩
  · have h3 := (hm u).1 hu
    rw [atKey_del_other (litU_ne (fun e => h3.2 (hi u h3.1 t ht e))), h2.val u h3.1]
end Go.Proofs.Ythidinaflaogfaa
namespace Go.Proofs.Ythidinaflaogfaa
open Go.RowKit

theorem mem_del {x y : It} {L : List It} : y ∈ delI x L ↔ y ∈ L ∧ y ≠ x := by
  unfold delI
  rw [List.mem_filter]
  simp

/-- A timer is cancelled. -/
theorem GoodP.del {now : Nat} {T : List It} {P : It → Prop} {L : Nat → List It} (h : GoodP now T P L) (hT : ∀ a ∈ T, ∀ b ∈ T, a.1 = b.1 → a = b) {t : It} (ht : t ∈ T) {n : Nat} (hn : IsPl now (max t.2 now) n) :
    GoodP now T (fun u => P u ∧ u ≠ t) (updL L n (delI (itW now n t) (L n))) := by
  refine ⟨fun m => ?_, fun m x => ?_⟩
  · unfold updL
    by_cases e : m = n
    · rw [if_pos e]; exact List.Pairwise.filter _ (h.srt n)
    · rw [if_neg e]; exact h.srt m
  · unfold updL
    by_cases e : m = n
    · subst e
      rw [if_pos rfl, mem_del, h.mem]
      constructor
      · rintro ⟨⟨u, hu, hp, h1, rfl⟩, h2⟩
        exact ⟨u, hu, ⟨hp, fun e => h2 (by rw [e])⟩, h1, rfl⟩
      · rintro ⟨u, hu, ⟨hp, hne⟩, h1, rfl⟩
        exact ⟨⟨u, hu, hp, h1, rfl⟩, fun e => hne (hT u hu t ht (by have := congrArg Prod.fst e; exact this))⟩
    · rw [if_neg e, h.mem]
      constructor
      · rintro ⟨u, hu, hp, h1, h2⟩
        exact ⟨u, hu, ⟨hp, fun e' => e (by rw [e'] at h1; exact h1.uniq hn)⟩, h1, h2⟩
      · rintro ⟨u, hu, hp, h1, h2⟩
        exact ⟨u, hu, hp.1, h1, h2⟩

/-- A level's items from the slot s on. -/
def fromS (k : Nat) (l : List It) (s : Nat) : List It := l.filter fun y => decide (s ≤ slotN k y.2)

theorem fromS_zero (k : Nat) (l : List It) : fromS k l 0 = l := List.filter_eq_self.2 fun y _ => by simp
theorem fromS_srt {k : Nat} {l : List It} (h : srtI l) (s : Nat) : srtI (fromS k l s) := List.Pairwise.filter _ h
theorem mem_fromS {k : Nat} {l : List It} {s : Nat} {y : It} : y ∈ fromS k l s ↔ y ∈ l ∧ s ≤ slotN k y.2 := by unfold fromS; rw [List.mem_filter, decide_eq_true_eq]

theorem slF_fromS (k : Nat) (l : List It) (s t : Nat) : slF k (fromS k l s) t = if s ≤ t then slF k l t else [] := by
  unfold slF fromS
  rw [List.filter_filter]
  by_cases h : s ≤ t
  · rw [if_pos h]
    refine List.filter_congr fun a _ => ?_
    rw [Bool.eq_iff_iff]
    simp
    omega
  · rw [if_neg h]
    refine List.filter_eq_nil_iff.2 fun a _ => ?_
    simp
    omega

/-- The slots ahead of t are empty: they may be left out. -/
theorem fromS_skip {k : Nat} {l : List It} {s t : Nat} (hst : s ≤ t) (h : ∀ u, u < t → u < 64 → slF k (fromS k l s) u = []) : fromS k l s = fromS k l t := by
  refine List.filter_congr fun a ha => ?_
  rw [decide_eq_decide]
  constructor
  · intro h1
    rcases Nat.lt_or_ge (slotN k a.2) t with h2 | h2
    · have h3 := h (slotN k a.2) h2 (slotN_lt k a.2)
      have h4 : a ∈ slF k (fromS k l s) (slotN k a.2) := mem_slF.2 ⟨mem_fromS.2 ⟨ha, h1⟩, rfl⟩
      rw [h3] at h4
      cases h4
    · exact h2
  · intro h1
    omega

theorem take_slot (k : Nat) (l : List It) (t : Nat) : upd (slF k (fromS k l t)) t [] = slF k (fromS k l (t + 1)) := by
  funext u
  unfold upd
  rw [slF_fromS, slF_fromS]
  by_cases h : u = t
  · rw [if_pos h, if_neg (by omega)]
  · rw [if_neg h]
    by_cases h1 : t ≤ u
    · rw [if_pos h1, if_pos (by omega)]
    · rw [if_neg h1, if_neg (by omega)]

/-- What has been taken so far: R, out of the levels L, of which L' is left. -/
structure TakenW (L L' : Nat → List It) (R : List It) : Prop where
  mem : ∀ x, x ∈ R ↔ ∃ n, x ∈ L n ∧ x ∉ L' n
  nodup : (R.map Prod.fst).Nodup
  sub : ∀ n x, x ∈ L' n → x ∈ L n

/-- A slot is taken. -/
theorem TakenW.slot {now : Nat} {T : List It} {P : It → Prop} {L L' : Nat → List It} {R : List It} (h : TakenW L L' R) (hg : GoodP now T P L) (hT : ∀ a ∈ T, ∀ b ∈ T, a.1 = b.1 → a = b) {n t : Nat} (hsr : srtI (L' n)) {k : Nat} (hL : ∀ y ∈ L' n, t ≤ slotN k y.2) :
    TakenW L (updL L' n (fromS k (L' n) (t + 1))) (R ++ slF k (L' n) t) := by
  have hm : ∀ x, x ∈ slF k (L' n) t ↔ x ∈ L' n ∧ x ∉ fromS k (L' n) (t + 1) := fun x => by
    rw [mem_slF, mem_fromS]
    constructor
    · rintro ⟨h1, h2⟩
      exact ⟨h1, fun h3 => by omega⟩
    · rintro ⟨h1, h2⟩
      refine ⟨h1, ?_⟩
      have h3 := hL x h1
      rcases Nat.lt_or_ge t (slotN k x.2) with h4 | h4
      · exact absurd ⟨h1, h4⟩ h2
      · omega
  refine ⟨fun x => ?_, ?_, fun m x hx => ?_⟩
  · rw [List.mem_append, h.mem, hm]
    constructor
    · rintro (⟨m, h1, h2⟩ | ⟨h1, h2⟩)
      · refine ⟨m, h1, fun h3 => h2 ?_⟩
        unfold updL at h3
        split at h3
        · rename_i e; subst e; exact (mem_fromS.1 h3).1
        · exact h3
      · exact ⟨n, h.sub n x h1, by rw [updL_same]; exact h2⟩
    · rintro ⟨m, h1, h2⟩
      unfold updL at h2
      split at h2
      · rename_i e
        subst e
        by_cases h3 : x ∈ L' m
        · exact .inr ⟨h3, h2⟩
        · exact .inl ⟨m, h1, h3⟩
      · exact .inl ⟨m, h1, h2⟩
  · rw [List.map_append, List.nodup_append]
    refine ⟨h.nodup, ?_, fun a ha b hb e => ?_⟩
    · have hnd : (slF k (L' n) t).Nodup := srt_nodup (srt_slF hsr t)
      refine List.pairwise_map.2 ((List.Pairwise.and_mem.1 hnd).imp ?_)
      rintro x y ⟨hx, hy, hne⟩ e
      exact hne (hg.one hT (h.sub n x ((hm x).1 hx).1) (h.sub n y ((hm y).1 hy).1) e).2
    · obtain ⟨x, hx, rfl⟩ := List.mem_map.1 ha
      obtain ⟨y, hy, rfl⟩ := List.mem_map.1 hb
      obtain ⟨m, h1, h2⟩ := (h.mem x).1 hx
      have h3 := ((hm y).1 hy).1
      obtain ⟨rfl, rfl⟩ := hg.one hT h1 (h.sub n y h3) e
      exact h2 h3
  · unfold updL at hx
    split at hx
    · rename_i e; subst e; exact h.sub m x (mem_fromS.1 hx).1
    · exact h.sub m x hx

theorem TakenW.start (L : Nat → List It) : TakenW L L [] := ⟨fun x => ⟨fun h => (by cases h), fun ⟨n, h1, h2⟩ => absurd h1 h2⟩, List.Pairwise.nil, fun _ _ h => h⟩

theorem TakenW.len {L L' : Nat → List It} {R : List It} (h : TakenW L L' R) {now : Nat} {T : List It} {P : It → Prop} (hg : GoodP now T P L) : R.length ≤ T.length := by
  have := nodup_len (m := T.map Prod.fst) h.nodup (fun x hx => by
    obtain ⟨y, hy, rfl⟩ := List.mem_map.1 hx
    obtain ⟨n, h1, _⟩ := (h.mem y).1 hy
    obtain ⟨t, ht, _, _, rfl⟩ := (hg.mem n y).1 h1
    exact List.mem_map.2 ⟨t, ht, rfl⟩)
  rwa [List.length_map, List.length_map] at this

/-- What the levels hold behind Advance's first half. -/
def leftW (now' K : Nat) (L : Nat → List It) (n : Nat) : List It := if n < K then [] else if n = K then fromS (K % 4) (L K) (dgt K now' + 1) else L n

theorem slot_itW (now n : Nat) (t : It) : slotN (n % 4) (itW now n t).2 = dgt n (max t.2 now) := slot_coarse n _

/-- What is left is in its place for the new tick; what was taken is known by its IDs. -/
theorem left_good {now now' K : Nat} {T : List It} {L : Nat → List It} (hg : GoodP now T (fun _ => True) L) (hT : TimW T) (hle : now ≤ now') (hK : IsPl now now' K) (hb : now' < 9223372036854775808) {R : List It} (hR : TakenW L (leftW now' K L) R) :
    GoodP now' T (fun t => t.1 ∉ R.map Prod.fst) (leftW now' K L) ∧ (∀ r ∈ R, ∃ t ∈ T, t.1 = r.1) ∧ ∀ t ∈ T, t.2 ≤ now' → t.1 ∈ R.map Prod.fst := by
  have hpl : ∀ t ∈ T, ∃ n, IsPl now (max t.2 now) n := fun t ht => by
    have := hT.tick t ht
    obtain ⟨m, _, hm⟩ := pl_le (now := now) (a := max t.2 now) (by omega) (by omega)
    exact ⟨m, hm⟩
  have hmem : ∀ n x, x ∈ leftW now' K L n ↔ x ∈ L n ∧ (K < n ∨ (n = K ∧ dgt K now' < slotN (K % 4) x.2)) := fun n x => by
    unfold leftW
    split
    · rename_i h
      constructor
      · intro h1; cases h1
      · rintro ⟨_, h1⟩; omega
    · split
      · rename_i h1 h2
        subst h2
        rw [mem_fromS]
        constructor
        · rintro ⟨h3, h4⟩; exact ⟨h3, .inr ⟨rfl, by omega⟩⟩
        · rintro ⟨h3, h4⟩; exact ⟨h3, by omega⟩
      · rename_i h1 h2
        constructor
        · intro h3; exact ⟨h3, .inl (by omega)⟩
        · rintro ⟨h3, _⟩; exact h3
  have hnot : ∀ t ∈ T, ∀ n, IsPl now (max t.2 now) n → (t.1 ∉ R.map Prod.fst ↔ (K < n ∨ (n = K ∧ dgt K now' < dgt K (max t.2 now)))) := fun t ht n hn => by
    have hin : itW now n t ∈ L n := (hg.mem n _).2 ⟨t, ht, trivial, hn, rfl⟩
    constructor
    · intro h1
      have h2 : itW now n t ∈ leftW now' K L n := by
        by_cases h3 : itW now n t ∈ leftW now' K L n
        · exact h3
        · exact absurd (List.mem_map.2 ⟨_, (hR.mem _).2 ⟨n, hin, h3⟩, rfl⟩) h1
      have h3 := ((hmem n _).1 h2).2
      rcases h3 with h3 | ⟨rfl, h3⟩
      · exact .inl h3
      · exact .inr ⟨rfl, by rw [slot_itW] at h3; exact h3⟩
    · intro h1 h2
      obtain ⟨r, hr, hre⟩ := List.mem_map.1 h2
      obtain ⟨m, h3, h4⟩ := (hR.mem r).1 hr
      obtain ⟨rfl, rfl⟩ := hg.one hT.ids h3 hin hre
      refine h4 ((hmem m _).2 ⟨hin, ?_⟩)
      rcases h1 with h1 | ⟨rfl, h1⟩
      · exact .inl h1
      · exact .inr ⟨rfl, by rw [slot_itW]; exact h1⟩
  refine ⟨⟨fun n => ?_, fun n x => ?_⟩, fun r hr => ?_, fun t ht hle' => ?_⟩
  · unfold leftW
    split
    · exact List.Pairwise.nil
    · split
      · exact fromS_srt (hg.srt K) _
      · exact hg.srt n
  · constructor
    · intro hx
      obtain ⟨h1, h2⟩ := (hmem n x).1 hx
      obtain ⟨t, ht, _, hp, rfl⟩ := (hg.mem n x).1 h1
      have h3 : K < n ∨ (n = K ∧ dgt K now' < dgt K (max t.2 now)) := by
        rcases h2 with h2 | ⟨rfl, h2⟩
        · exact .inl h2
        · exact .inr ⟨rfl, by rw [slot_itW] at h2; exact h2⟩
      obtain ⟨h4, h5⟩ := stay_above hle hK hp h3
      have e1 : max t.2 now' = t.2 := by omega
      have e2 : max t.2 now = t.2 := by omega
      refine ⟨t, ht, (hnot t ht n hp).2 h3, by rw [e1]; exact h5, ?_⟩
      unfold itW
      rw [e1, e2]
    · rintro ⟨t, ht, hp, h1, rfl⟩
      obtain ⟨m, hm⟩ := hpl t ht
      have h3 := (hnot t ht m hm).1 hp
      obtain ⟨h4, h5⟩ := stay_above hle hK hm h3
      have e1 : max t.2 now' = t.2 := by omega
      have e2 : max t.2 now = t.2 := by omega
      rw [e1] at h1
      obtain rfl := h1.uniq h5
      have e3 : itW now' n t = itW now n t := by unfold itW; rw [e1, e2]
      rw [e3]
      refine (hmem n _).2 ⟨(hg.mem n _).2 ⟨t, ht, trivial, hm, rfl⟩, ?_⟩
      rcases h3 with h3 | ⟨rfl, h3⟩
      · exact .inl h3
      · exact .inr ⟨rfl, by rw [slot_itW]; exact h3⟩
  · obtain ⟨m, h3, _⟩ := (hR.mem r).1 hr
    obtain ⟨t, ht, _, _, rfl⟩ := (hg.mem m r).1 h3
    exact ⟨t, ht, rfl⟩
  · by_cases h1 : t.1 ∈ R.map Prod.fst
    · exact h1
    · obtain ⟨m, hm⟩ := hpl t ht
      have := (stay_above hle hK hm ((hnot t ht m hm).1 h1)).1
      omega
end Go.Proofs.Ythidinaflaogfaa
