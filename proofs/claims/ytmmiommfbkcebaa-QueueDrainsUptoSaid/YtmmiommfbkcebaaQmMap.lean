/- A queue's map: each element has the number of its Push. -/
import Derived.Test.YtmmiommfbkcebaaQmDel
import Derived.Maps.OwnOps
import Derived.Maps.OwnSet
import Derived.Maps.Views
namespace Go.Proofs.Ytmmiommfbkcebaa
open Go.RowKit Go.Maps

theorem keyI : Keyed Try.prog 3 := int_keyed Try.underlying3
theorem wfI {x : Int} (h : InI x) : (Lit.int .i64 x).wf = true := by
  simp only [Lit.wf, Bool.and_eq_true, decide_eq_true_eq]
  have h1 : IntKind.min .i64 = -9223372036854775808 := by decide
  have h2 : IntKind.max .i64 = 9223372036854775807 := by decide
  rw [h1, h2]
  exact h
theorem keyOfI {x : Int} (h : InI x) : keyOf Try.prog 3 (.int .i64 x) = some (.int .i64 x) := keyOf_int_mk Try.underlying3 (wfI h)
theorem wfU {a : Nat} (h : a < 18446744073709551616) : (Lit.int .u64 (a : Int)).wf = true := by
  simp only [Lit.wf, Bool.and_eq_true, decide_eq_true_eq]
  have h1 : IntKind.min .u64 = 0 := by decide
  have h2 : IntKind.max .u64 = 18446744073709551615 := by decide
  rw [h1, h2]
  omega
theorem zeroU (w : World) : (zeroValue 55).run Try.prog w = .ok (.int .u64 0) w := by kernel_rfl

/-- Whether an element is there. -/
def hasE {α : Type} [DecidableEq α] (T : List (α × Nat)) (x : α) : Bool := decide (x ∈ T.map (·.1))
section
variable {α : Type} [DecidableEq α] {T : List (α × Nat)} {x : α}
theorem hasE_iff : hasE T x = true ↔ ∃ t, t ∈ T ∧ t.1 = x := by unfold hasE; rw [decide_eq_true_eq, List.mem_map]
theorem hasE_no : hasE T x = false ↔ ∀ t ∈ T, t.1 ≠ x := by
  rw [← Bool.not_eq_true, hasE_iff]
  exact ⟨fun h t ht e => h ⟨t, ht, e⟩, fun h ⟨t, ht, e⟩ => h t ht e⟩
end

/-- The datum holds the elements; el is an element as a key. -/
structure TM {α : Type} [DecidableEq α] (el : α → Lit) (T : List (α × Nat)) (D : DataW Unit) : Prop where
  tidy : Tidy D
  size : Maps.size D = T.length
  has : ∀ k : α, Maps.has D (el k) = hasE T k
  val : ∀ t ∈ T, ∀ z, D.atKey (el t.1) z = .lit (.int .u64 (t.2 : Int))

section
variable {α : Type} [DecidableEq α] {el : α → Lit}
theorem TM.none : TM el ([] : List (α × Nat)) (.map []) := ⟨tidy_empty, rfl, fun k => by rw [hasE_no.2 (fun t ht => by cases ht)]; rfl, fun t ht => by cases ht⟩

theorem TM.put {T T' : List (α × Nat)} {D : DataW Unit} (h : TM el T D) (inj : ∀ a b, el a = el b → a = b) (t : α × Nat) (hk : WideAt.IsKeyLit (el t.1)) (hno : hasE T t.1 = false) (hm : ∀ x, x ∈ T' ↔ x = t ∨ x ∈ T) (hn : T'.length = T.length + 1) :
    TM el T' (D.put (el t.1) (.lit (.int .u64 (t.2 : Int)))) := by
  have hs : Maps.size (D.put (el t.1) (.lit (.int .u64 (t.2 : Int)))) = T'.length := by
    rw [size_put h.tidy, h.has, hno, if_neg (by decide), h.size, hn]
  refine ⟨h.tidy.put hk _, hs, fun k => ?_, fun u hu z => ?_⟩
  · by_cases e : k = t.1
    · subst e
      rw [has_put_same h.tidy.isMap hk]
      exact (hasE_iff.2 ⟨t, (hm t).2 (.inl rfl), rfl⟩).symm
    · rw [has_put_other (fun e' => e (inj _ _ e')), h.has]
      rw [Bool.eq_iff_iff, hasE_iff, hasE_iff]
      constructor
      · rintro ⟨u, hu, hue⟩
        exact ⟨u, (hm u).2 (.inr hu), hue⟩
      · rintro ⟨u, hu, hue⟩
        rcases (hm u).1 hu with rfl | h3
        · exact absurd hue.symm e
        · exact ⟨u, h3, hue⟩
  · rcases (hm u).1 hu with rfl | h3
    · exact atKey_put_same h.tidy.isMap hk _ _
    · rw [atKey_put_other (fun e' => hasE_no.1 hno u h3 (inj _ _ e')), h.val u h3]

theorem TM.del {T T' : List (α × Nat)} {D : DataW Unit} (h : TM el T D) (inj : ∀ a b, el a = el b → a = b) (t : α × Nat) (ht : t ∈ T) (hi : ∀ a ∈ T, ∀ b ∈ T, a.1 = b.1 → a = b) (hm : ∀ x, x ∈ T' ↔ x ∈ T ∧ x ≠ t) (hn : T'.length + 1 = T.length) :
    TM el T' (D.del (el t.1)) := by
  have hs : Maps.size (D.del (el t.1)) = T'.length := by
    have := size_del (k := el t.1) h.tidy
    rw [h.has, hasE_iff.2 ⟨t, ht, rfl⟩, if_pos rfl, h.size] at this
    omega
  refine ⟨h.tidy.del _, hs, fun k => ?_, fun u hu z => ?_⟩
  · by_cases e : k = t.1
    · subst e
      rw [has_del_same]
      exact (hasE_no.2 (fun u hu e => ((hm u).1 hu).2 (hi u ((hm u).1 hu).1 t ht e))).symm
    · rw [has_del_other (fun e' => e (inj _ _ e')), h.has]
      rw [Bool.eq_iff_iff, hasE_iff, hasE_iff]
      constructor
      · rintro ⟨u, hu, hue⟩
        exact ⟨u, (hm u).2 ⟨hu, fun e' => e (by rw [← hue, e'])⟩, hue⟩
      · rintro ⟨u, hu, hue⟩
        exact ⟨u, ((hm u).1 hu).1, hue⟩
  · have h3 := (hm u).1 hu
    rw [atKey_del_other (fun e' => h3.2 (hi u h3.1 t ht (inj _ _ e'))), h.val u h3.1]
end

/-- An int as a key. -/
abbrev elI : Int → Lit := fun x => .int .i64 x
theorem elI_inj (a b : Int) (h : elI a = elI b) : a = b := (Lit.int.inj h).2

theorem owns_tight {k : TypeId} {w : World} {mb n : Nat} {D : DataW Unit} {m : Nat} (h : w.ownsMap Try.prog k (plainElem Try.prog 55) mb n D) (e : Maps.size D = m) : w.ownsMap Try.prog k (plainElem Try.prog 55) mb m D := by
  obtain ⟨es, clock, hb, F, hs, rfl⟩ := h
  refine ⟨es, clock, hb, F, ?_, rfl⟩
  rw [← e]
  simp [Maps.size, length_sorted]

/-- Block mb is the map of the elements; k is its keys' type. -/
def MapE {α : Type} [DecidableEq α] (el : α → Lit) (k : TypeId) (w : World) (mb : Nat) (T : List (α × Nat)) : Prop := ∃ D : DataW Unit, w.ownsMap Try.prog k (plainElem Try.prog 55) mb T.length D ∧ TM el T D

section
variable {α : Type} [DecidableEq α] {el : α → Lit} {k : TypeId} {w w' : World} {mb : Nat} {T T' : List (α × Nat)}
theorem MapE.kept (h : MapE el k w mb T) (hb : w'.heap[mb]? = w.heap[mb]?) : MapE el k w' mb T := by
  obtain ⟨D, ⟨es, clock, h1, h2⟩, h3⟩ := h
  exact ⟨D, ⟨es, clock, hb.trans h1, h2⟩, h3⟩
theorem MapE.lt (h : MapE el k w mb T) : mb < w.heap.size := by obtain ⟨D, h1, _⟩ := h; exact h1.lt
theorem MapE.below (h : MapE el k w mb T) (hm : mb < w.heap.size) (o : Obj) : MapE el k (w.alloc o) mb T := h.kept (Below.heap_alloc w o mb hm)
theorem MapE.made (w : World) : MapE el k (w.alloc (.map #[] 0)) w.heap.size ([] : List (α × Nat)) := ⟨.map [], World.ownsMap_made w _ _ _, TM.none⟩
end

section
variable {w w' : World} {mb : Nat} {T T' : List (Int × Nat)}

set_option maxRecDepth 100000 in
theorem MapE.look (h : MapE elI 3 w mb T) (x : Int) (hx : InI x) :
    ∃ c : Int, (Instr.lookup 53 (.map (some mb)) (.int .i64 x) true).run Try.prog w = .ok (.tuple #[.int .u64 c, .bool (hasE T x)]) w := by
  obtain ⟨D, h1, h2⟩ := h
  obtain ⟨v, ps, hrun, hv⟩ := h1.look_ok keyI Try.underlying53 (zeroU w) (plainElem_int Try.underlying55 (by decide)) (keyOfI hx)
  obtain ⟨c, rfl, hc, _⟩ := plainElem_int_inv Try.underlying55 hv
  exact ⟨c, by rw [hrun, ← h2.has]⟩

set_option maxRecDepth 100000 in
theorem MapE.at (h : MapE elI 3 w mb T) (t : Int × Nat) (ht : t ∈ T) (hx : InI t.1) :
    (Instr.lookup 53 (.map (some mb)) (.int .i64 t.1) false).run Try.prog w = .ok (.int .u64 (t.2 : Int)) w := by
  obtain ⟨D, h1, h2⟩ := h
  obtain ⟨c, hrun, hc, _⟩ := h1.lookup_int keyI Try.underlying53 Try.underlying55 (zeroU w) (keyOfI hx)
  rw [hrun, (Lit.int.inj (DataW.lit.inj ((h2.val t ht _).symm.trans hc))).2]

theorem MapE.put (h : MapE elI 3 w mb T) (t : Int × Nat) (hx : InI t.1) (ha : t.2 < 18446744073709551616) (hno : hasE T t.1 = false) (hl : T.length ≤ 2000000) (hm : ∀ x, x ∈ T' ↔ x = t ∨ x ∈ T) (hn : T'.length = T.length + 1) :
    ∃ w', (Instr.mapUpdate 53 (.map (some mb)) (.int .i64 t.1) (.int .u64 (t.2 : Int))).run Try.prog w = .ok () w' ∧ MapE elI 3 w' mb T' ∧ w.grownBy w' (some mb) := by
  obtain ⟨D, h1, h2⟩ := h
  obtain ⟨w', r1, g1, g2⟩ := h1.update keyI Try.underlying53 (Nat.lt_of_le_of_lt hl (by decide)) (keyOfI hx) (plainElem_int Try.underlying55 (wfU ha))
  have hk : WideAt.IsKeyLit (elI t.1) := by first | trivial | exact rfl | decide
  have h3 := h2.put elI_inj t hk hno hm hn
  exact ⟨w', r1, ⟨_, owns_tight g1 h3.size, h3⟩, g2⟩

theorem MapE.del (h : MapE elI 3 w mb T) (t : Int × Nat) (ht : t ∈ T) (hx : InI t.1) (hi : ∀ a ∈ T, ∀ b ∈ T, a.1 = b.1 → a = b) (hm : ∀ x, x ∈ T' ↔ x ∈ T ∧ x ≠ t) (hn : T'.length + 1 = T.length) (ty : TypeId) :
    ∃ w', (Builtin.delete_ #[53, 3] ty #[.map (some mb), .int .i64 t.1]).run Try.prog w = .ok (.tuple #[]) w' ∧ MapE elI 3 w' mb T' ∧ w.grownBy w' (some mb) := by
  obtain ⟨D, h1, h2⟩ := h
  obtain ⟨w', r1, g1, g2⟩ := h1.drop keyI Try.underlying53 (keyOfI hx) ty
  have h3 := h2.del elI_inj t ht hi hm hn
  exact ⟨w', r1, ⟨_, owns_tight g1 h3.size, h3⟩, g2.grown⟩
end
end Go.Proofs.Ytmmiommfbkcebaa
