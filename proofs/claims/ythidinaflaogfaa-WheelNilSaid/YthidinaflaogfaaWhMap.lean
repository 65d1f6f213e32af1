/- The map of a wheel: deadlines by ID. -/
import Derived.Test.YthidinaflaogfaaWhM
import Derived.Maps.OwnOps
import Derived.Maps.OwnSet
import Derived.Maps.Views
namespace Go.Proofs.Ythidinaflaogfaa
open Go.RowKit Go.Maps

theorem keyU : Keyed Try.prog 22 := int_keyed Try.underlying22
theorem wfU {a : Nat} (h : a < 18446744073709551616) : (Lit.int .u64 (a : Int)).wf = true := by
  simp only [Lit.wf, Bool.and_eq_true, decide_eq_true_eq]
  have h1 : IntKind.min .u64 = 0 := by decide
  have h2 : IntKind.max .u64 = 18446744073709551615 := by decide
  rw [h1, h2]
  omega
theorem keyOfU {a : Nat} (h : a < 18446744073709551616) : keyOf Try.prog 22 (.int .u64 (a : Int)) = some (.int .u64 (a : Int)) := keyOf_int_mk Try.underlying22 (wfU h)
theorem zeroU (w : World) : (zeroValue 22).run Try.prog w = .ok (.int .u64 0) w := by kernel_rfl
theorem litU_ne {a b : Nat} (h : a ≠ b) : Lit.int .u64 (a : Int) ≠ Lit.int .u64 (b : Int) := fun e => h (Int.ofNat.inj (Lit.int.inj e).2)

/-- Whether there is a timer with an ID. -/
def hasW (T : List It) (id : Nat) : Bool := decide (∃ t, t ∈ T ∧ t.1 = id)
theorem hasW_iff {T : List It} {id : Nat} : hasW T id = true ↔ ∃ t, t ∈ T ∧ t.1 = id := by unfold hasW; rw [decide_eq_true_eq]
theorem hasW_no {T : List It} {id : Nat} : hasW T id = false ↔ ∀ t ∈ T, t.1 ≠ id := by
  rw [← Bool.not_eq_true, hasW_iff]
  exact ⟨fun h t ht e => h ⟨t, ht, e⟩, fun h ⟨t, ht, e⟩ => h t ht e⟩

/-- The datum holds the timers. -/
structure TM (T : List It) (D : DataW Unit) : Prop where
  tidy : Tidy D
  size : Maps.size D = T.length
  has : ∀ k : Nat, Maps.has D (.int .u64 (k : Int)) = hasW T k
  val : ∀ t ∈ T, ∀ z, D.atKey (.int .u64 (t.1 : Int)) z = .lit (.int .u64 (t.2 : Int))

/-- Block mb is the map of the timers. -/
def MapT (w : World) (mb : Nat) (T : List It) : Prop := ∃ D : DataW Unit, w.ownsMap Try.prog 22 (plainElem Try.prog 22) mb T.length D ∧ TM T D

theorem owns_tight {w : World} {mb n : Nat} {D : DataW Unit} {m : Nat} (h : w.ownsMap Try.prog 22 (plainElem Try.prog 22) mb n D) (e : Maps.size D = m) : w.ownsMap Try.prog 22 (plainElem Try.prog 22) mb m D := by
  obtain ⟨es, clock, hb, F, hs, rfl⟩ := h
  refine ⟨es, clock, hb, F, ?_, rfl⟩
  rw [← e]
  simp [Maps.size, length_sorted]

theorem MapT.kept {w w' : World} {mb : Nat} {T : List It} (h : MapT w mb T) (hb : w'.heap[mb]? = w.heap[mb]?) : MapT w' mb T := by
  obtain ⟨D, ⟨es, clock, h1, h2⟩, h3⟩ := h
  exact ⟨D, ⟨es, clock, hb.trans h1, h2⟩, h3⟩

theorem MapT.lt {w : World} {mb : Nat} {T : List It} (h : MapT w mb T) : mb < w.heap.size := by obtain ⟨D, h1, _⟩ := h; exact h1.lt

theorem MapT.made (w : World) : MapT (w.alloc (.map #[] 0)) w.heap.size [] :=
  ⟨.map [], World.ownsMap_made w _ _ _, ⟨tidy_empty, rfl, fun k => by rw [hasW_no.2 (fun t ht => by cases ht)]; rfl, fun t ht => by cases ht⟩⟩

set_option maxRecDepth 100000 in
theorem MapT.look {w : World} {mb : Nat} {T : List It} (h : MapT w mb T) (id : Nat) (hid : id < 18446744073709551616) :
    ∃ c : Int, (Instr.lookup 61 (.map (some mb)) (.int .u64 (id : Int)) true).run Try.prog w = .ok (.tuple #[.int .u64 c, .bool (hasW T id)]) w ∧ ∀ t ∈ T, t.1 = id → c = (t.2 : Int) := by
  obtain ⟨D, h1, h2⟩ := h
  obtain ⟨v, ps, hrun, hv⟩ := h1.look_ok keyU Try.underlying61 (zeroU w) (plainElem_int Try.underlying22 (by decide)) (keyOfU hid)
  obtain ⟨c, rfl, hc, _⟩ := plainElem_int_inv Try.underlying22 hv
  refine ⟨c, by rw [hrun, h2.has], fun t ht e => ?_⟩
  have h3 := h2.val t ht (.lit (.int .u64 0))
  rw [e] at h3
  have h4 : D.atKey (.int .u64 (id : Int)) (.lit (.int .u64 0)) = .lit (.int .u64 c) := congrArg Prod.fst hc
  exact (Lit.int.inj (DataW.lit.inj (h4.symm.trans h3))).2

set_option maxRecDepth 100000 in
theorem MapT.at {w : World} {mb : Nat} {T : List It} (h : MapT w mb T) (t : It) (ht : t ∈ T) (hid : t.1 < 18446744073709551616) :
    (Instr.lookup 61 (.map (some mb)) (.int .u64 (t.1 : Int)) false).run Try.prog w = .ok (.int .u64 (t.2 : Int)) w := by
  obtain ⟨D, h1, h2⟩ := h
  obtain ⟨c, hrun, hc, _⟩ := h1.lookup_int keyU Try.underlying61 Try.underlying22 (zeroU w) (keyOfU hid)
  rw [hrun, (Lit.int.inj (DataW.lit.inj ((h2.val t ht _).symm.trans hc))).2]

theorem MapT.len {w : World} {mb : Nat} {T : List It} (h : MapT w mb T) (ty : TypeId) : (Builtin.len_ #[61] ty #[.map (some mb)]).run Try.prog w = .ok (.int .i64 (T.length : Int)) w := by
  obtain ⟨D, h1, h2⟩ := h
  rw [h1.len Try.underlying61, h2.size]

theorem MapT.put {w : World} {mb : Nat} {T T' : List It} (h : MapT w mb T) (t : It) (hid : t.1 < 18446744073709551616) (ha : t.2 < 18446744073709551616) (hno : hasW T t.1 = false) (hl : T.length ≤ 1000) (hm : ∀ x, x ∈ T' ↔ x = t ∨ x ∈ T) (hn : T'.length = T.length + 1) :
    ∃ w', (Instr.mapUpdate 61 (.map (some mb)) (.int .u64 (t.1 : Int)) (.int .u64 (t.2 : Int))).run Try.prog w = .ok () w' ∧ MapT w' mb T' ∧ w.grownBy w' (some mb) := by
  obtain ⟨D, h1, h2⟩ := h
  obtain ⟨w', r1, g1, g2⟩ := h1.update keyU Try.underlying61 (Nat.lt_of_le_of_lt hl (by decide)) (keyOfU hid) (plainElem_int Try.underlying22 (wfU ha))
  have hk : WideAt.IsKeyLit (Lit.int .u64 (t.1 : Int)) := by first | trivial | exact rfl | decide
  have hs : Maps.size (D.put (.int .u64 (t.1 : Int)) (.lit (.int .u64 (t.2 : Int)))) = T'.length := by
    rw [size_put h2.tidy, h2.has, hno, if_neg (by decide), h2.size, hn]
  refine ⟨w', r1, ⟨_, owns_tight g1 hs, h2.tidy.put hk _, hs, fun k => ?_, fun u hu z => ?_⟩, g2⟩
  · by_cases e : k = t.1
    · subst e
      rw [has_put_same h2.tidy.isMap hk]
      exact (hasW_iff.2 ⟨t, (hm t).2 (.inl rfl), rfl⟩).symm
    · rw [has_put_other (litU_ne e), h2.has]
      rw [Bool.eq_iff_iff, hasW_iff, hasW_iff]
      constructor
      · rintro ⟨u, hu, hue⟩
        exact ⟨u, (hm u).2 (.inr hu), hue⟩
      · rintro ⟨u, hu, hue⟩
        rcases (hm u).1 hu with rfl | h3
        · exact absurd hue.symm e
        · exact ⟨u, h3, hue⟩
  · rcases (hm u).1 hu with rfl | h3
    · exact atKey_put_same h2.tidy.isMap hk _ _
    · rw [atKey_put_other (litU_ne (hasW_no.1 hno u h3)), h2.val u h3]

theorem MapT.del {w : World} {mb : Nat} {T T' : List It} (h : MapT w mb T) (t : It) (ht : t ∈ T) (hid : t.1 < 18446744073709551616) (hi : ∀ a ∈ T, ∀ b ∈ T, a.1 = b.1 → a = b) (hm : ∀ x, x ∈ T' ↔ x ∈ T ∧ x ≠ t) (hn : T'.length + 1 = T.length) (ty : TypeId) :
    ∃ w', (Builtin.delete_ #[61, 22] ty #[.map (some mb), .int .u64 (t.1 : Int)]).run Try.prog w = .ok (.tuple #[]) w' ∧ MapT w' mb T' ∧ w.grownBy w' (some mb) := by
  obtain ⟨D, h1, h2⟩ := h
  obtain ⟨w', r1, g1, g2⟩ := h1.drop keyU Try.underlying61 (keyOfU hid) ty
  have hs : Maps.size (D.del (.int .u64 (t.1 : Int))) = T'.length := by
    have := size_del (k := .int .u64 (t.1 : Int)) h2.tidy
    rw [h2.has, hasW_iff.2 ⟨t, ht, rfl⟩, if_pos rfl, h2.size] at this
    omega
  refine ⟨w', r1, ⟨_, owns_tight g1 hs, h2.tidy.del _, hs, fun k => ?_, fun u hu z => ?_⟩, g2.grown⟩
  · by_cases e : k = t.1
    · subst e
      rw [has_del_same]
      exact (hasW_no.2 (fun u hu e => ((hm u).1 hu).2 (hi u ((hm u).1 hu).1 t ht e))).symm
    · rw [has_del_other (litU_ne e), h2.has]
      rw [Bool.eq_iff_iff, hasW_iff, hasW_iff]
      constructor
      · rintro ⟨u, hu, hue⟩
        exact ⟨u, (hm u).2 ⟨hu, fun e' => e (by rw [← hue, e'])⟩, hue⟩
      · rintro ⟨u, hu, hue⟩
        exact ⟨u, ((hm u).1 hu).1, hue⟩
  · have h3 := (hm u).1 hu
    rw [atKey_del_other (litU_ne (fun e => h3.2 (hi u h3.1 t ht e))), h2.val u h3.1]
end Go.Proofs.Ythidinaflaogfaa
