/- Appending to byte slices; new memory that holds bytes. -/
import Derived.Test.YtdflfimclgapnaaStr
namespace Go.Proofs.Ytdflfimclgapnaa
open Go.RowKit

section
variable {P : Program} (w : World)

/-- 'append(b[:n:n], p...)': at least one byte is appended, so a new row is made. -/
theorem wpList_append_capped {ops : Array Oper} {rest : List Oper} {o : Oper} {a : Act} {Q : Exit → Act → World → Prop} (hgd : o.guard = none) (s x : Operand) (t : TypeId)
    (ho : o.op = .call { callee := .builtin .append, args := #[s, x], argTypes := #[t, t] })
    (e : TypeId) (ht : P.underlying t = some (.slice e)) (hinfo : (P.info? e).map (fun i => (i.zero, i.size, i.bytes)) = some (some (.int .u8 0), 1, 1))
    (b : Option Addr) (n : Nat) (l : List Nat) (hs : a.eval s = .slice b n n) (hS : Bytes w b n n l)
    (p : Option Addr) (m c : Nat) (l' : List Nat) (hx : a.eval x = .slice p m c) (hB : Bytes w p m c l') (hm : 0 < m)
    (hbytes : n + m ≤ 140737488355328)
    (h : ∀ v' w', w'.ownsRow w.heap.size e 1 v' (n + m) (u8s (l ++ l')) → Below w.heap.size w w' → wpList P ops Q rest (a.put o.dst v') w') : wpList P ops Q (o :: rest) a w := by
  cases b with
  | none =>
    obtain rfl : n = 0 := hS.nil rfl
    obtain rfl : l = [] := List.length_eq_zero_iff.1 hS.len
    refine wpList_append_bytes w hgd s x t ho w.heap.size e ht hinfo (.slice none 0 0) 0 [] hs (World.ownsRow_nil _ _ _ _) p m c l' hx hB hbytes (Nat.le_refl _) ?_
    intro v' w' g1 g2
    exact h v' w' g1 ((Below.refl _ _).grown g2 (Nat.le_refl _) (fun k hk => by cases hk))
  | some bd =>
    obtain ⟨i, hi, hz, hsz, hby⟩ := info_parts hinfo
    obtain ⟨b', o', rfl, hc⟩ := hB.cell hm
    have hadd : ∀ (x y j : Nat), (⟨x, y, none⟩ : Addr).add j = ⟨x, y + j, none⟩ := fun x y j => by unfold Addr.add; split <;> simp_all
    have holds : ∀ j v, (u8s l)[j]? = some v → w.cell? (bd.add j) = some v := by
      intro j u hu
      obtain ⟨hj, rfl⟩ := u8s_get hu
      have hj' : j < n := by rw [← hS.len]; exact hj
      obtain ⟨b2, o2, e1, hc2⟩ := hS.cell (by omega)
      cases e1
      rw [hadd]
      exact hc2 j hj'
    have hnews : ∀ j v, (u8s l')[j]? = some v → w.cell? ((⟨b', o', none⟩ : Addr).add j) = some v := by
      intro j u hu
      obtain ⟨hj, rfl⟩ := u8s_get hu
      rw [hadd]
      exact hc j (by rw [← hB.len]; exact hj)
    have hr := run_append_grow (P := P) (w := w) t o.type e i (.int .u8 0) ht hi hz bd n n (u8s l) (by simp [u8s, hS.len, hsz]) holds ⟨b', o', none⟩ m c (u8s l') (by simp [u8s, hB.len, hsz]) hnews (by omega) (by omega) (growslice_fits (by omega) (by rw [hby]; omega))
    have hcap := grownCap_ge w (n + m) n e
    have hcm : grownCap w (n + m) n e ≤ maxLen := grownCap_le_maxLen w (n + m) n e (by rw [maxLen_nat]; omega)
    obtain ⟨g, hg⟩ : ∃ g, g = grownCap w (n + m) n e := ⟨_, rfl⟩
    rw [← hg] at hr hcap hcm
    refine wpList_plain hgd fun K hK => ?_
    unfold Oper.wp execOp
    simp only [ho, resolve, invoke, builtin, Sem.run_bind, Sem.run_pure, Result.andThen_ok, List.map_toArray, List.map_cons, List.map_nil, hs, hx, hr]
    refine hK _ _ (h _ _ ?_ ?_)
    · refine ⟨by simp [u8s, hS.len, hB.len], .inr ⟨w.heap.size, _, _, rfl, Nat.le_refl _, heap_alloc_new w.drew _, hcap, hcm, ?_, ?_⟩⟩
      · simp only [Array.size_append, List.size_toArray, size_zeroCells, u8s, List.length_map, hS.len, hB.len, Value.cells]
        simp
        omega
      · simp only [Array.toList_append, List.append_assoc, u8s_append]
        rw [← List.append_assoc, show (n + m) * 1 = (u8s l ++ u8s l').length by simp [u8s, hS.len, hB.len]]
        exact List.take_left
    · exact ((Below.refl _ _).drew).alloc (Nat.le_refl _) _
end

theorem info_u8 : (Try.prog.info? 5).map (fun i => (i.zero, i.size, i.bytes)) = some (some (.int .u8 0), 1, 1) := by kernel_rfl

/-- A value that is new memory holding bytes. -/
def OwnBytes (w w' : World) (v : Value) (l : List Nat) : Prop := w'.ownsRow w.heap.size 5 1 v l.length (u8s l) ∧ Below w.heap.size w w'
def NewBytes (w : World) (l : List Nat) (e : Ending) (w' : World) : Prop := ∃ v, e = .returned v ∧ OwnBytes w w' v l

theorem below_drewN {B : Nat} {a w : World} (h : Below B a w) (n : Nat) : Below B a (w.drewN n) := ⟨h.os, h.tape, h.output, h.size, h.block⟩

theorem new_row (w : World) (l : List Nat) (hm : l.length ≤ 9223372036854775807) : (w.alloc (.cells (u8s l).toArray 5)).ownsRow w.heap.size 5 1 (.slice (some ⟨w.heap.size, 0, none⟩) l.length l.length) l.length (u8s l) :=
  ⟨by simp [u8s], .inr ⟨w.heap.size, l.length, _, rfl, Nat.le_refl _, heap_alloc_new w _, Nat.le_refl _, hm, by simp [u8s], by rw [Nat.mul_one]; exact List.take_of_length_le (by simp [u8s])⟩⟩

theorem own_base {w : World} {base base' n : Nat} {e : TypeId} {v : Value} {xs : List Value} (h : w.ownsRow base e 1 v n xs) (hb : base' ≤ base) : w.ownsRow base' e 1 v n xs :=
  ⟨h.1, h.2.elim Or.inl (fun ⟨g, cap, cur, hv, hg, r⟩ => Or.inr ⟨g, cap, cur, hv, Nat.le_trans hb hg, r⟩)⟩

theorem own_below {w w' : World} {base n : Nat} {e : TypeId} {v : Value} {xs : List Value} (h : w.ownsRow base e 1 v n xs) (hb : Below w.heap.size w w') : w'.ownsRow base e 1 v n xs := by
  refine ⟨h.1, ?_⟩
  rcases h.2 with hn | ⟨g, cap, cur, rfl, hbg, hg, rest⟩
  · exact .inl hn
  · exact .inr ⟨g, cap, cur, rfl, hbg, (hb.block g (Array.getElem?_eq_some_iff.1 hg).1).trans hg, rest⟩

theorem Bytes.takeTo {w : World} {a : Option Addr} {n cap m c : Nat} {l : List Nat} (h : Bytes w a n cap l) (hm : m ≤ n) (hc : m ≤ c) (hc2 : c ≤ cap) : Bytes w a m c (l.take m) := by
  refine ⟨by rw [List.length_take, h.len]; omega, hc, Nat.le_trans hc2 h.capmax, fun x hx => h.byte x (List.mem_of_mem_take hx), fun ha => ?_, fun h0 => ?_⟩
  · have := h.nil ha; omega
  · obtain ⟨b, o, e, hcell⟩ := h.cell (by omega)
    refine ⟨b, o, e, fun i hi => ?_⟩
    rw [hcell i (by omega), List.getD_eq_getElem?_getD, List.getD_eq_getElem?_getD, List.getElem?_take, if_pos hi]

/-- The bytes behind the first m ones. -/
theorem Bytes.dropTo {w : World} {b o n cap m : Nat} {l : List Nat} (h : Bytes w (some ⟨b, o, none⟩) n cap l) (hm : m < n) : Bytes w (some ⟨b, o + m, none⟩) (n - m) (cap - m) (l.drop m) := by
  have hle := h.le
  have hcm := h.capmax
  refine ⟨by rw [List.length_drop, h.len], by omega, by omega, fun x hx => h.byte x (List.mem_of_mem_drop hx), fun ha => (by cases ha), fun h0 => ?_⟩
  obtain ⟨b', o', e, hcell⟩ := h.cell (by omega)
  cases e
  refine ⟨b, o + m, rfl, fun i hi => ?_⟩
  have := hcell (m + i) (by omega)
  rw [← Nat.add_assoc] at this
  rw [this, List.getD_eq_getElem?_getD, List.getD_eq_getElem?_getD, List.getElem?_drop]

end Go.Proofs.Ytdflfimclgapnaa
