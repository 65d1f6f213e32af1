/- Parts of slices of files; appending to files. -/
import Derived.Test.YtdnbjpfapfnpaaaRfC
import Derived.Laws.OwnMore
namespace Go.Proofs.Ytdnbjpfapfnpaaa
open Go.RowKit Go.Maps Go.Shelf

section
variable {P : Program} {T E : TypeId}

theorem file_size (hin : (P.info? E).map (fun i => (i.zero, i.size, i.bytes)) = some (some (.agg #[.string ⟨#[]⟩, .slice none 0 0, .int .i64 0]), 3, 48)) (hT : P.underlying T = some (.slice E)) :
    P.underlying T = some (.slice (P.elem T)) ∧ ∀ w : World, (sizeOf (P.elem T)).run P w = .ok 3 w := by
  obtain ⟨i, hi, _, hsz, _⟩ := info_parts hin
  have hE : P.elem T = E := by simp [Program.elem, hT]
  exact ⟨by rw [hT]; simp [Program.elem, hT], fun w => by rw [hE]; simp [sizeOf, typeInfo, hi, hsz]⟩

/-- 's[:k]'. -/
theorem headF (hT : P.underlying T = some (.slice E)) (hin : (P.info? E).map (fun i => (i.zero, i.size, i.bytes)) = some (some (.agg #[.string ⟨#[]⟩, .slice none 0 0, .int .i64 0]), 3, 48)) {a : Option Addr} {n c k : Nat} (hk : k ≤ n) (hn : n ≤ c) (hf : Formed a c) :
    ∀ (w : World) (kl : IntKind), (Instr.slice T (.slice a n c) none (some (.int kl (k : Int))) none).run P w = .ok (.slice a k c) w := by
  obtain ⟨hT', hsize⟩ := file_size hin hT
  have ha : (if c = 0 then a else a.map (·.add (0 * 3))) = a := by
    by_cases h : c = 0
    · rw [if_pos h]
    · rw [if_neg h]
      obtain ⟨b, o, rfl⟩ := hf (by omega)
      simp [addr_add]
  intro w kl
  rw [run_slice_h w T a n c hT' kl (k : Int) (by omega) (by omega), hsize]
  show Result.ok (Value.slice (if c = 0 then a else a.map (·.add (0 * 3))) (k - 0) (c - 0)) w = _
  rw [ha]; rfl

/-- Where 's[k:]' lies. -/
def tailA (a : Option Addr) (c k : Nat) : Option Addr := if c = k then a else a.map (·.add (k * 3))

/-- 's[k:]'. -/
theorem tailF (hT : P.underlying T = some (.slice E)) (hin : (P.info? E).map (fun i => (i.zero, i.size, i.bytes)) = some (some (.agg #[.string ⟨#[]⟩, .slice none 0 0, .int .i64 0]), 3, 48)) {a : Option Addr} {n c k : Nat} (hk : k ≤ n) :
    ∀ (w : World) (kl : IntKind), (Instr.slice T (.slice a n c) (some (.int kl (k : Int))) none none).run P w = .ok (.slice (tailA a c k) (n - k) (c - k)) w := by
  obtain ⟨hT', hsize⟩ := file_size hin hT
  intro w kl
  rw [run_slice_l w T a n c hT' kl (k : Int) (by omega) (by omega), hsize]
  rfl
end

theorem flatF_take : ∀ (R : List FR) (k : Nat), k ≤ R.length → flatF (R.take k) = (flatF R).take (k * 3)
  | R, 0, _ => by simp [flatF]
  | [], k + 1, h => by simp at h
  | x :: R, k + 1, h => by
    rw [List.take_succ_cons, flatF_cons, flatF_cons, flatF_take R k (by simpa using h), List.take_append]
    have e : (cells3 x).length = 3 := rfl
    rw [e, List.take_of_length_le (show (cells3 x).length ≤ (k + 1) * 3 by rw [e]; omega), show (k + 1) * 3 - 3 = k * 3 by omega]

theorem flatF_drop : ∀ (R : List FR) (k : Nat), k ≤ R.length → flatF (R.drop k) = (flatF R).drop (k * 3)
  | R, 0, _ => by simp
  | [], k + 1, h => by simp at h
  | x :: R, k + 1, h => by
    rw [List.drop_succ_cons, flatF_cons, flatF_drop R k (by simpa using h), List.drop_append]
    have e : (cells3 x).length = 3 := rfl
    rw [e, List.drop_of_length_le (show (cells3 x).length ≤ (k + 1) * 3 by rw [e]; omega), show (k + 1) * 3 - 3 = k * 3 by omega, List.nil_append]

theorem RowF.take {X : Nat → Prop} {w : World} {a : Option Addr} {n c k : Nat} {R : List FR} (h : RowF X w a n c R) (hk : k ≤ n) : RowF X w a k c (R.take k) := by
  refine ⟨by rw [List.length_take, h.len]; omega, Nat.le_trans hk h.le, h.max, h.form, fun h0 => ?_, fun x hx => h.files x (List.mem_of_mem_take hx)⟩
  obtain ⟨b, o, e, hX, hc⟩ := h.cell (by omega)
  refine ⟨b, o, e, hX, fun j u hu => hc j u ?_⟩
  rw [flatF_take R k (by rw [h.len]; exact hk), List.getElem?_take] at hu
  split at hu
  · exact hu
  · cases hu

theorem RowF.drop {X : Nat → Prop} {w : World} {a : Option Addr} {n c k : Nat} {R : List FR} (h : RowF X w a n c R) (hk : k ≤ n) : RowF X w (tailA a c k) (n - k) (c - k) (R.drop k) := by
  have hle := h.le
  refine ⟨by rw [List.length_drop, h.len], by omega, by have := h.max; omega, fun hc => ?_, fun h0 => ?_, fun x hx => h.files x (List.mem_of_mem_drop hx)⟩
  · obtain ⟨b, o, rfl⟩ := h.form (by omega)
    unfold tailA
    rw [if_neg (by omega)]
    exact ⟨b, o + k * 3, by simp [addr_add]⟩
  · obtain ⟨b, o, rfl, hX, hcl⟩ := h.cell (by omega)
    unfold tailA
    rw [if_neg (by omega)]
    refine ⟨b, o + k * 3, by simp [addr_add], hX, fun j u hu => ?_⟩
    rw [flatF_drop R k (by rw [h.len]; exact hk), List.getElem?_drop] at hu
    have := hcl (k * 3 + j) u hu
    rw [← Nat.add_assoc] at this
    exact this

theorem run_appendF {w : World} {base : Nat} (t ty : TypeId) (ht : Try.prog.underlying t = some (.slice 67)) {X : Nat → Prop} {v : Value} {R1 R2 : List FR} (hown : w.ownsRow base 67 3 v R1.length (flatF R1))
    {p : Option Addr} {m c : Nat} (hR : RowF X w p m c R2) (hlim : R1.length + m ≤ 2000000) (hbase : base ≤ w.heap.size) :
    ∃ v' w', (Builtin.append_ #[t, t] ty #[v, .slice p m c]).run Try.prog w = .ok v' w' ∧ w'.ownsRow base 67 3 v' (R1 ++ R2).length (flatF (R1 ++ R2)) ∧ w.grownBy w' v.ownBlock := by
  obtain ⟨i0, hi, hz0, hz1, hz2⟩ := info_parts info_file
  have hl2 := hR.len
  rw [List.length_append, hl2, flatF_append]
  cases p with
  | none =>
    have hc0 : c = 0 := by
      rcases Nat.eq_zero_or_pos c with e | e
      · exact e
      · obtain ⟨_, _, h⟩ := hR.form e; cases h
    obtain rfl : m = 0 := by have := hR.le; omega
    subst hc0
    obtain rfl : R2 = [] := List.length_eq_zero_iff.1 hl2
    exact ⟨v, w, run_append_owned_none (P := Try.prog) (w := w) base t ty 67 i0 3 ht hi v R1.length (flatF R1) hown, by simpa [flatF] using hown, ⟨rfl, rfl, rfl, Nat.le_refl _, fun _ _ _ => rfl⟩⟩
  | some ad =>
    obtain ⟨v', w', hr, h2, h3, _, _⟩ := run_append_own_at (P := Try.prog) w base t ty 67 i0 _ 3 48 ht hi hz0 hz1 hz2 rfl (by omega) v R1.length (flatF R1) hown ad m c (flatF R2) (by rw [flatF_length, hl2]) (fun j u hu => by
      have hm : 0 < m := by
        rcases Nat.eq_zero_or_pos m with e | e
        · rw [e] at hl2
          rw [List.length_eq_zero_iff.1 hl2] at hu
          cases hu
        · exact e
      obtain ⟨b, o, e, _, hc⟩ := hR.cell hm
      cases e
      rw [addr_add]
      exact hc j u hu) (flatF_one R2) (by rw [maxLen_nat]; omega) (by omega) hbase
    exact ⟨v', w', hr, h2, h3⟩

/-- .. at a step of a region that draws its order. -/
theorem step_appendF {w : World} {base : Nat} {ops : Array Oper} {o : Oper} {a : Act} {K : Act → World → Prop} {Q : Exit → Act → World → Prop} {E' : Prop} (hgd : o.guard = none) (s x : Operand) (t : TypeId)
    (ho : o.op = .call { callee := .builtin .append, args := #[s, x], argTypes := #[t, t] }) (ht : Try.prog.underlying t = some (.slice 67)) {X : Nat → Prop} {v : Value} {R1 R2 : List FR} (hs : a.eval s = v) (hown : w.ownsRow base 67 3 v R1.length (flatF R1))
    {p : Option Addr} {m c : Nat} (hx : a.eval x = .slice p m c) (hR : RowF X w p m c R2) (hlim : R1.length + m ≤ 2000000) (hbase : base ≤ w.heap.size)
    (h : ∀ v' w', w'.ownsRow base 67 3 v' (R1 ++ R2).length (flatF (R1 ++ R2)) → w.grownBy w' v.ownBlock → K (a.put o.dst v') w') : if Region.wanted o (yielded ops a.tmps) = true then Oper.wp Try.prog o a w K Q else E' := by
  have hw : Region.wanted o (yielded ops a.tmps) = true := by simp [Region.wanted, hgd]
  rw [if_pos hw]
  obtain ⟨v', w', hr, h2, h3⟩ := run_appendF t o.type ht hown hR hlim hbase
  unfold Oper.wp execOp
  simp only [ho, resolve, invoke, builtin, Sem.run_bind, Sem.run_pure, Result.andThen_ok, List.map_toArray, List.map_cons, List.map_nil, hs, hx, hr]
  exact h v' w' h2 h3
end Go.Proofs.Ytdnbjpfapfnpaaa
