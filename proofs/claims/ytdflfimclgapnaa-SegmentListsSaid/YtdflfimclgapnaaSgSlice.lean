/- Parts of slices of ints, and appending in a statement that draws its order. -/
import Derived.Test.YtdflfimclgapnaaSgInts
import Derived.Test.YtdflfimclgapnaaSlice
import Derived.Maps.AppendAt
import Derived.Deep.RegionLaw
namespace Go.Proofs.Ytdflfimclgapnaa
open Go.RowKit

theorem Ints.takeTo {w : World} {a : Option Addr} {n cap m c : Nat} {l : List Int} (h : Ints w a n cap l) (hm : m ≤ n) (hc : m ≤ c) (hc2 : c ≤ cap) : Ints w a m c (l.take m) := by
  refine ⟨by rw [List.length_take, h.len]; omega, hc, Nat.le_trans hc2 h.capmax, fun ha => ?_, fun h0 => ?_⟩
  · have := h.nil ha; omega
  · obtain ⟨b, o, e, hcell⟩ := h.cell (by omega)
    refine ⟨b, o, e, fun i hi => ?_⟩
    rw [hcell i (by omega), List.getD_eq_getElem?_getD, List.getD_eq_getElem?_getD, List.getElem?_take, if_pos hi]

theorem Ints.dropTo {w : World} {b o n cap m : Nat} {l : List Int} (h : Ints w (some ⟨b, o, none⟩) n cap l) (hm : m < n) : Ints w (some ⟨b, o + m, none⟩) (n - m) (cap - m) (l.drop m) := by
  have hle := h.le
  have hcm := h.capmax
  refine ⟨by rw [List.length_drop, h.len], by omega, by omega, fun ha => (by cases ha), fun h0 => ?_⟩
  obtain ⟨b', o', e, hcell⟩ := h.cell (by omega)
  cases e
  refine ⟨b, o + m, rfl, fun i hi => ?_⟩
  have := hcell (m + i) (by omega)
  rw [← Nat.add_assoc] at this
  rw [this, List.getD_eq_getElem?_getD, List.getD_eq_getElem?_getD, List.getElem?_drop]

theorem own_formed_i {w : World} {base : Nat} {e : TypeId} {p : Option Addr} {n c m : Nat} {l : List Int} (h : w.ownsRow base e 1 (.slice p n c) m (intsE l)) : Formed p c := by
  rcases h.2 with ⟨hv, _⟩ | ⟨g, cap', cur, hv, _⟩
  · cases hv; exact formed_none 0 rfl
  · cases hv; exact formed_at _ _ _

theorem ints_none {w : World} {a : Option Addr} {c : Nat} (hm : c ≤ 9223372036854775807) (h : a = none → c = 0) : Ints w a 0 c [] :=
  ⟨rfl, Nat.zero_le _, hm, h, fun h => absurd h (Nat.lt_irrefl _)⟩

section
variable {P : Program}

/-- 's[k:]'. -/
theorem ints_from {T E : TypeId} (hT : P.underlying T = some (.slice E)) (hin : (P.info? E).map (fun i => (i.zero, i.size, i.bytes)) = some (some (.int .i64 0), 1, 8)) {a : Option Addr} {n c k : Nat} (hk : k ≤ n) (hn : n ≤ c) (hf : Formed a c) :
    ∃ a', (∀ (w : World) (kl : IntKind), (Instr.slice T (.slice a n c) (some (.int kl (k : Int))) none none).run P w = .ok (.slice a' (n - k) (c - k)) w) ∧ ∀ (w : World) (l : List Int), Ints w a n c l → Ints w a' (n - k) (c - k) (l.drop k) := by
  obtain ⟨i, hi, _, hsz, _⟩ := info_parts hin
  have hT' : P.underlying T = some (.slice (P.elem T)) := by rw [hT]; simp [Program.elem, hT]
  have hE : P.elem T = E := by simp [Program.elem, hT]
  have hsize : ∀ w : World, (sizeOf (P.elem T)).run P w = .ok 1 w := fun w => by rw [hE]; simp [sizeOf, typeInfo, hi, hsz]
  refine ⟨if c = k then a else a.map (·.add (k * 1)), fun w kl => ?_, fun w l hl => ?_⟩
  · rw [run_slice_l w T a n c hT' kl (k : Int) (by omega) (by omega), hsize]
    rfl
  · have hcm := hl.capmax
    by_cases e : k = n
    · subst e
      rw [Nat.sub_self, List.drop_eq_nil_of_le (by rw [hl.len]; exact Nat.le_refl _)]
      refine ints_none (by omega) (fun h => ?_)
      by_cases hck : c = k
      · omega
      · rw [if_neg hck] at h
        obtain ⟨b, o, rfl⟩ := hf (by omega)
        cases h
    · obtain ⟨b, o, rfl⟩ := hf (by omega)
      rw [if_neg (by omega), Nat.mul_one]
      simp only [Option.map_some, addr_add]
      exact hl.dropTo (by omega)

/-- 's[:k]'. -/
theorem ints_to {T E : TypeId} (hT : P.underlying T = some (.slice E)) (hin : (P.info? E).map (fun i => (i.zero, i.size, i.bytes)) = some (some (.int .i64 0), 1, 8)) {a : Option Addr} {n c k : Nat} (hk : k ≤ n) (hn : n ≤ c) (hf : Formed a c) :
    ∃ a', (∀ (w : World) (kl : IntKind), (Instr.slice T (.slice a n c) none (some (.int kl (k : Int))) none).run P w = .ok (.slice a' k c) w) ∧ ∀ (w : World) (l : List Int), Ints w a n c l → Ints w a' k c (l.take k) := by
  obtain ⟨i, hi, _, hsz, _⟩ := info_parts hin
  have hT' : P.underlying T = some (.slice (P.elem T)) := by rw [hT]; simp [Program.elem, hT]
  have hE : P.elem T = E := by simp [Program.elem, hT]
  have hsize : ∀ w : World, (sizeOf (P.elem T)).run P w = .ok 1 w := fun w => by rw [hE]; simp [sizeOf, typeInfo, hi, hsz]
  have ha : (if c = 0 then a else a.map (·.add (0 * 1))) = a := by
    by_cases h : c = 0
    · rw [if_pos h]
    · rw [if_neg h]
      obtain ⟨b, o, rfl⟩ := hf (by omega)
      simp [addr_add]
  refine ⟨a, fun w kl => ?_, fun w l hl => ?_⟩
  · rw [run_slice_h w T a n c hT' kl (k : Int) (by omega) (by omega), hsize]
    show Result.ok (Value.slice (if c = 0 then a else a.map (·.add (0 * 1))) (k - 0) (c - 0)) w = _
    rw [ha]; rfl
  · exact hl.takeTo hk (by omega) (Nat.le_refl _)
end

/-- An append to the call's own ints, at a step of a statement that draws its order. -/
theorem step_append_ints {ops : Array Oper} {o : Oper} {a : Act} {w : World} {K : Act → World → Prop} {Q : Exit → Act → World → Prop} {E : Prop} (hgd : o.guard = none) (s x : Operand)
    (ho : o.op = .call { callee := .builtin .append, args := #[s, x], argTypes := #[30, 30] })
    (base : Nat) (v : Value) (n : Nat) (l : List Int) (hs : a.eval s = v) (hown : w.ownsRow base 3 1 v n (intsE l))
    (p : Option Addr) (m c : Nat) (l' : List Int) (hx : a.eval x = .slice p m c) (hB : Ints w p m c l')
    (hbytes : (n + m) * 8 ≤ 140737488355328) (hbase : base ≤ w.heap.size)
    (h : ∀ v' w', w'.ownsRow base 3 1 v' (n + m) (intsE (l ++ l')) → w.grownBy w' v.ownBlock → K (a.put o.dst v') w') :
    if Region.wanted o (yielded ops a.tmps) = true then Oper.wp Try.prog o a w K Q else E := by
  obtain ⟨i, hi, hz, hsz, hby⟩ := info_parts info_int
  have hw : Region.wanted o (yielded ops a.tmps) = true := by simp [Region.wanted, hgd]
  rw [if_pos hw]
  cases p with
  | none =>
    obtain rfl : c = 0 := hB.nil rfl
    obtain rfl : m = 0 := by have := hB.le; omega
    obtain rfl : l' = [] := List.length_eq_zero_iff.1 hB.len
    have hrun := run_append_owned_none (P := Try.prog) (w := w) base 30 o.type 3 i 1 Try.underlying30 hi v n (intsE l) hown
    unfold Oper.wp
    have hh := h v w (by simpa using hown) ⟨rfl, rfl, rfl, Nat.le_refl _, fun _ _ _ => rfl⟩
    simp [execOp, ho, resolve, invoke, builtin, hs, hx, hrun, Result.andThen]
    rw [Oper.upon_value]
    simpa using hh
  | some ad =>
    refine wp_append_own w s x 30 ho base 3 i (.int .i64 0) 1 8 Try.underlying30 hi hz hsz hby rfl (by omega) v n (intsE l) hs hown ad m c (intsE l') hx (by simp [intsE, hB.len]) (fun j u hu => ?_) (intsE_one l') (by rw [maxLen_nat]; omega) (by omega) hbase (fun v' w' g1 g2 _ => ?_)
    · obtain ⟨hj, rfl⟩ := intsE_get hu
      have hj' : j < m := by rw [← hB.len]; exact hj
      obtain ⟨b, o', e1, hc⟩ := hB.cell (by omega)
      cases e1
      rw [addr_add]
      exact hc j hj'
    · rw [← intsE_append] at g1
      exact h v' w' g1 g2

theorem heap_at (w : World) (o : Obj) (k : Nat) : (w.alloc o).heap[k]? = if k = w.heap.size then some o else w.heap[k]? := by
  show (w.heap.push o)[k]? = _
  rw [Array.getElem?_push]
theorem heap_dr (w : World) : w.drew.heap = w.heap := rfl

theorem row_ints {W : World} {g : Nat} {x : Int} {e : TypeId} (h : W.heap[g]? = some (.cells #[.int .i64 x] e (0, 0))) : Ints W (some ⟨g, 0, none⟩) 1 1 [x] :=
  ⟨rfl, Nat.le_refl _, by omega, fun h => (by cases h), fun _ => ⟨g, 0, rfl, fun i hi => by
    obtain rfl : i = 0 := by omega
    rw [Nat.zero_add, cell_of_row _ _ _ _ _ (0, 0) h]; rfl⟩⟩

theorem own_emp {W : World} {g base : Nat} (h : W.heap[g]? = some (.cells #[] 3 (0, 0))) (hb : base ≤ g) : W.ownsRow base 3 1 (.slice (some ⟨g, 0, none⟩) 0 0) 0 (intsE []) :=
  ⟨rfl, .inr ⟨g, 0, #[], rfl, hb, h, Nat.le_refl _, Nat.zero_le _, rfl, rfl⟩⟩
end Go.Proofs.Ytdflfimclgapnaa
