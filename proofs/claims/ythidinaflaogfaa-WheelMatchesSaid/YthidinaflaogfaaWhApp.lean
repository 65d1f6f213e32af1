/- Rows of items of the call's own: append. No condition. -/
import Derived.Test.YthidinaflaogfaaLevelEmpties
namespace Go.Proofs.Ythidinaflaogfaa
open Go.RowKit

/-- A row of items in memory of the call's own. -/
abbrev OwnL (w : World) (base : Nat) (v : Value) (l : List It) : Prop := w.ownsRow base 44 2 v l.length (flatI l)

theorem OwnL.below {w w' : World} {base : Nat} {v : Value} {l : List It} (h : OwnL w base v l) (hb : Below w.heap.size w w') : OwnL w' base v l :=
  World.ownsRow.kept (row := none) h ⟨hb.os, hb.tape, hb.output, hb.size, fun k hk _ => hb.block k hk⟩ (by cases v.ownBlock <;> simp)

theorem OwnL.kept {w w' : World} {base : Nat} {v : Value} {l : List It} (h : OwnL w base v l) (hk : ∀ b, v.ownBlock = some b → w'.heap[b]? = w.heap[b]?) : OwnL w' base v l := by
  refine ⟨h.1, ?_⟩
  rcases h.2 with hn | ⟨g, cap, cur, rfl, hb, hg, rest⟩
  · exact .inl hn
  · exact .inr ⟨g, cap, cur, rfl, hb, (hk g rfl).trans hg, rest⟩

/-- 'append(v, x...)': where the row lies behind it. -/
theorem run_app3 {w : World} (ty : TypeId) {base : Nat} {v : Value} {l : List It} (hown : OwnL w base v l) {p : Option Addr} {m c : Nat} {ms : List It} (hI : Items w p m c ms) (hbase : base ≤ w.heap.size) (hl : l.length + m ≤ 100000) :
    ∃ v' w', (Builtin.append_ #[41, 41] ty #[v, .slice p m c]).run Try.prog w = .ok v' w' ∧ OwnL w' base v' (l ++ ms) ∧ w.grownBy w' v.ownBlock ∧ (v'.ownBlock = v.ownBlock ∨ v'.ownBlock = some w.heap.size) := by
  obtain ⟨i0, hi, hz, hsz, hby⟩ := info_parts info_it
  rcases Nat.eq_zero_or_pos m with rfl | hm
  · have hms : ms = [] := List.length_eq_zero_iff.1 hI.len
    obtain ⟨q, k, rfl, hq⟩ := items_own hown
    refine ⟨_, w, run_append_nothing w 41 41 ty 44 i0 Try.underlying41 hi q l.length k hq.le (.slice p 0 c) ?_, by rw [hms, List.append_nil]; exact hown, ⟨rfl, rfl, rfl, Nat.le_refl _, fun _ _ _ => rfl⟩, .inl rfl⟩
    cases p with
    | none => exact Src.ofNil w Try.underlying41 c
    | some ad => exact Src.ofSlice w Try.underlying41 ad 0 c [] (by simp) (fun j u h => by simp at h) (fun u h => by simp at h)
  · obtain ⟨b, o, rfl, _⟩ := hI.cell hm
    have hlen := hI.len
    obtain ⟨v', w', hr, h2, h3, _, h5⟩ := run_append_own_at (P := Try.prog) w base 41 ty 44 i0 (.agg #[.int .u64 0, .int .u64 0]) 2 16 Try.underlying41 hi hz hsz hby rfl (by decide) v l.length (flatI l) hown ⟨b, o, none⟩ m c (flatI ms) (by rw [flatI_len, hlen])
      (fun j u hj => by rw [Addr.add_lit]; exact items_flat hI hj) (flatI_one _) (by rw [maxLen_nat]; omega) (by omega) hbase
    refine ⟨v', w', hr, ?_, h3, h5⟩
    show w'.ownsRow base _ 2 v' _ _
    rw [flatI_append, List.length_append, hlen]
    exact h2

theorem wpl_app3 {ops : Array Oper} {rest : List Oper} {o : Oper} {a : Act} {Q : Exit → Act → World → Prop} {w : World} (hgd : o.guard = none) (s x : Operand)
    (ho : o.op = .call { callee := .builtin .append, args := #[s, x], argTypes := #[41, 41] })
    {base : Nat} {v : Value} {l : List It} (hs : a.eval s = v) (hown : OwnL w base v l) {p : Option Addr} {m c : Nat} {ms : List It} (hx : a.eval x = .slice p m c) (hI : Items w p m c ms) (hbase : base ≤ w.heap.size) (hl : l.length + m ≤ 100000)
    (h : ∀ v' w', OwnL w' base v' (l ++ ms) → w.grownBy w' v.ownBlock → (v'.ownBlock = v.ownBlock ∨ v'.ownBlock = some w.heap.size) → wpList Try.prog ops Q rest (a.put o.dst v') w') : wpList Try.prog ops Q (o :: rest) a w := by
  obtain ⟨v', w', hr, h2, h3, h4⟩ := run_app3 o.type hown hI hbase hl
  refine wpList_plain hgd fun K hK => ?_
  unfold Oper.wp execOp
  simp only [ho, resolve, invoke, builtin, Sem.run_bind, Sem.run_pure, Result.andThen_ok, List.map_toArray, List.map_cons, List.map_nil, hs, hx, hr]
  exact hK _ _ (h v' w' h2 h3 h4)

theorem OwnL.aside {w w' : World} {base : Nat} {v : Value} {l : List It} (h : OwnL w base v l) {u : Value} (hg : w.grownBy w' u.ownBlock) (hne : ∀ b, v.ownBlock = some b → u.ownBlock ≠ some b) : OwnL w' base v l :=
  World.ownsRow.kept h hg (by cases hb : v.ownBlock with | none => exact .inl rfl | some b => exact .inr (fun e => hne b hb e.symm))

theorem OwnL.items {w : World} {base : Nat} {v : Value} {l : List It} (h : OwnL w base v l) {n : Nat} (hn : l.length = n) : ∃ p c, v = .slice p n c ∧ Items w p n c l := by
  subst hn
  exact items_own h
end Go.Proofs.Ythidinaflaogfaa
