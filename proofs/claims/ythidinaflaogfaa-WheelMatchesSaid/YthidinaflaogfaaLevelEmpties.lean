/- The law LevelEmpties walked. -/
import Derived.Test.YthidinaflaogfaaLvOwn
namespace Go.Proofs.Ythidinaflaogfaa
open Go.RowKit

theorem OwnI.it {w : World} {base : Nat} {p : Option Addr} {n c : Nat} {l : List It} (h : OwnI w base (.slice p n c) l) : Items w p n c l ∧ (p = none → c = 0) ∧ ∀ a, p = some a → ∃ b o, a = ⟨b, o, none⟩ := by
  obtain ⟨p', c', e, hI⟩ := items_own h
  rw [Value.slice.injEq] at e
  obtain ⟨rfl, rfl, rfl⟩ := e
  refine ⟨hI, ?_⟩
  rcases h.2 with ⟨e, _⟩ | ⟨g, cap, cur, e, _⟩
  · rw [Value.slice.injEq] at e
    obtain ⟨rfl, _, rfl⟩ := e
    exact ⟨fun _ => rfl, fun a h => (by cases h)⟩
  · rw [Value.slice.injEq] at e
    obtain ⟨rfl, _, rfl⟩ := e
    exact ⟨fun h => (by cases h), fun a h => ⟨g, 0, (Option.some.inj h).symm⟩⟩

theorem OwnI.kept {w w' : World} {base : Nat} {v : Value} {l : List It} (h : OwnI w base v l) (hk : ∀ b, v.ownBlock = some b → w'.heap[b]? = w.heap[b]?) : OwnI w' base v l := by
  refine ⟨h.1, ?_⟩
  rcases h.2 with hn | ⟨g, cap, cur, rfl, hb, hg, rest⟩
  · exact .inl hn
  · exact .inr ⟨g, cap, cur, rfl, hb, (hk g rfl).trans hg, rest⟩

/-- 'append(v, x...)': where the row lies behind it. -/
theorem run_app2 {w : World} (ty : TypeId) {base : Nat} {v : Value} {l : List It} (hown : OwnI w base v l) {p : Option Addr} {m c : Nat} {ms : List It} (hI : Items w p m c ms) (hbase : base ≤ w.heap.size) (hl : l.length + m ≤ 100000) :
    ∃ v' w', (Builtin.append_ #[27, 27] ty #[v, .slice p m c]).run Try.prog w = .ok v' w' ∧ OwnI w' base v' (l ++ ms) ∧ w.grownBy w' v.ownBlock ∧ (v'.ownBlock = v.ownBlock ∨ v'.ownBlock = some w.heap.size) := by
  obtain ⟨i0, hi, hz, hsz, hby⟩ := info_parts info_rit
  rcases Nat.eq_zero_or_pos m with rfl | hm
  · have hms : ms = [] := List.length_eq_zero_iff.1 hI.len
    obtain ⟨q, k, rfl, hq⟩ := items_own hown
    refine ⟨_, w, run_append_nothing w 27 27 ty 36 i0 Try.underlying27 hi q l.length k hq.le (.slice p 0 c) ?_, by rw [hms, List.append_nil]; exact hown, ⟨rfl, rfl, rfl, Nat.le_refl _, fun _ _ _ => rfl⟩, .inl rfl⟩
    cases p with
    | none => exact Src.ofNil w Try.underlying27 c
    | some ad => exact Src.ofSlice w Try.underlying27 ad 0 c [] (by simp) (fun j u h => by simp at h) (fun u h => by simp at h)
  · obtain ⟨b, o, rfl, _⟩ := hI.cell hm
    have hlen := hI.len
    obtain ⟨v', w', hr, h2, h3, _, h5⟩ := run_append_own_at (P := Try.prog) w base 27 ty 36 i0 (.agg #[.int .u64 0, .int .u64 0]) 2 16 Try.underlying27 hi hz hsz hby rfl (by decide) v l.length (flatI l) hown ⟨b, o, none⟩ m c (flatI ms) (by rw [flatI_len, hlen])
      (fun j u hj => by rw [Addr.add_lit]; exact items_flat hI hj) (flatI_one _) (by rw [maxLen_nat]; omega) (by omega) hbase
    refine ⟨v', w', hr, ?_, h3, h5⟩
    show w'.ownsRow base _ 2 v' _ _
    rw [flatI_append, List.length_append, hlen]
    exact h2

theorem wpl_app2 {ops : Array Oper} {rest : List Oper} {o : Oper} {a : Act} {Q : Exit → Act → World → Prop} {w : World} (hgd : o.guard = none) (s x : Operand)
    (ho : o.op = .call { callee := .builtin .append, args := #[s, x], argTypes := #[27, 27] })
    {base : Nat} {v : Value} {l : List It} (hs : a.eval s = v) (hown : OwnI w base v l) {p : Option Addr} {m c : Nat} {ms : List It} (hx : a.eval x = .slice p m c) (hI : Items w p m c ms) (hbase : base ≤ w.heap.size) (hl : l.length + m ≤ 100000)
    (h : ∀ v' w', OwnI w' base v' (l ++ ms) → w.grownBy w' v.ownBlock → (v'.ownBlock = v.ownBlock ∨ v'.ownBlock = some w.heap.size) → wpList Try.prog ops Q rest (a.put o.dst v') w') : wpList Try.prog ops Q (o :: rest) a w := by
  obtain ⟨v', w', hr, h2, h3, h4⟩ := run_app2 o.type hown hI hbase hl
  refine wpList_plain hgd fun K hK => ?_
  unfold Oper.wp execOp
  simp only [ho, resolve, invoke, builtin, Sem.run_bind, Sem.run_pure, Result.andThen_ok, List.map_toArray, List.map_cons, List.map_nil, hs, hx, hr]
  exact hK _ _ (h v' w' h2 h3 h4)

/-- The items of all slots ahead of j, slot by slot. -/
def catS (k : Nat) (L : List It) (j : Nat) : List It := (List.range j).flatMap fun t => slF k L t
theorem catS_succ (k : Nat) (L : List It) (j : Nat) : catS k L (j + 1) = catS k L j ++ slF k L j := by
  unfold catS
  rw [List.range_succ, List.flatMap_append]
  simp
theorem catS_len (k : Nat) (L : List It) (j : Nat) : (catS k L j).length ≤ j * L.length := by
  induction j with
  | zero => simp [catS]
  | succ j ih =>
    rw [catS_succ, List.length_append, Nat.succ_mul]
    have := List.length_filter_le (fun y : It => decide ((slotN k y.2 : Int) = (j : Int))) L
    have h2 : (slF k L j).length ≤ L.length := this
    omega

/-- The slots from j on. -/
def fromF (k : Nat) (L : List It) (j t : Nat) : List It := if t < j then [] else slF k L t
theorem fromF_upd (k : Nat) (L : List It) (j : Nat) : upd (fromF k L j) j [] = fromF k L (j + 1) := by
  funext t
  unfold upd fromF
  by_cases h1 : t = j
  · rw [if_pos h1, if_pos (by omega)]
  · rw [if_neg h1]
    by_cases h2 : t < j
    · rw [if_pos h2, if_pos (by omega)]
    · rw [if_neg h2, if_neg (by omega)]

theorem OwnI.aside {w w' : World} {base : Nat} {v : Value} {l : List It} (h : OwnI w base v l) {u : Value} (hg : w.grownBy w' u.ownBlock) (hne : ∀ b, v.ownBlock = some b → u.ownBlock ≠ some b) : OwnI w' base v l :=
  World.ownsRow.kept h hg (by cases hb : v.ownBlock with | none => exact .inl rfl | some b => exact .inr (fun e => hne b hb e.symm))

/-- The rows g and h that are gathered, beside the row v and the level. -/
structure Em2 (w0 : World) (D k : Nat) (L : List It) (v : Value) (a b j : Nat) (g h : Value) (wr : World) : Prop where
  rg : OwnI wr w0.heap.size g (catS k L a)
  rh : OwnI wr w0.heap.size h (catS k L b)
  rv : OwnI wr w0.heap.size v L
  gh : ∀ x, g.ownBlock = some x → h.ownBlock ≠ some x ∧ v.ownBlock ≠ some x
  hv : ∀ x, h.ownBlock = some x → v.ownBlock ≠ some x
  lv : LvO w0 (fun x => g.ownBlock = some x ∨ h.ownBlock = some x ∨ v.ownBlock = some x) wr D k (fromF k L j)

theorem Em2.below {w0 w w' : World} {D k : Nat} {L : List It} {v : Value} {a b j : Nat} {g h : Value} (H : Em2 w0 D k L v a b j g h w) (hb : Below w.heap.size w w') : Em2 w0 D k L v a b j g h w' :=
  ⟨H.rg.below hb, H.rh.below hb, H.rv.below hb, H.gh, H.hv, H.lv.below hb⟩

theorem Em2.take {w0 w w' : World} {D k : Nat} {L : List It} {v : Value} {a b j : Nat} {g h : Value} (H : Em2 w0 D k L v a b j g h w) (hE : LvOEnd w0 (fun x => g.ownBlock = some x ∨ h.ownBlock = some x ∨ v.ownBlock = some x) w D k (upd (fromF k L j) j []) w') : Em2 w0 D k L v a b (j + 1) g h w' :=
  ⟨H.rg.kept (fun x hx => hE.keep x (.inl hx)), H.rh.kept (fun x hx => hE.keep x (.inr (.inl hx))), H.rv.kept (fun x hx => hE.keep x (.inr (.inr hx))), H.gh, H.hv, by rw [← fromF_upd]; exact hE.lv⟩

theorem Em2.app_g {w0 w w' : World} {D k : Nat} {L : List It} {v : Value} {a b j : Nat} {g h g' : Value} (H : Em2 w0 D k L v a b j g h w) (hr : OwnI w' w0.heap.size g' (catS k L a ++ slF k L a)) (hg : w.grownBy w' g.ownBlock) (ho : g'.ownBlock = g.ownBlock ∨ g'.ownBlock = some w.heap.size) : Em2 w0 D k L v (a + 1) b j g' h w' := by
  have hh : ∀ x, h.ownBlock = some x → x < w.heap.size := fun x hx => (World.ownsRow.lt H.rh x hx).2
  have hvv : ∀ x, v.ownBlock = some x → x < w.heap.size := fun x hx => (World.ownsRow.lt H.rv x hx).2
  refine ⟨by rw [catS_succ]; exact hr, H.rh.aside hg (fun x hx e => (H.gh x e).1 hx), H.rv.aside hg (fun x hx e => (H.gh x e).2 hx), fun x hx => ?_, H.hv, H.lv.grown hg (fun x hx => ⟨.inl hx, (World.ownsRow.lt H.rg x hx).1⟩) (fun x hx => ?_)⟩
  · rcases ho with e | e
    · exact H.gh x (e ▸ hx)
    · rw [e] at hx
      cases hx
      exact ⟨fun e => by have := hh _ e; omega, fun e => by have := hvv _ e; omega⟩
  · rcases hx with hx | hx | hx
    · refine ⟨?_, (World.ownsRow.lt hr x hx).2⟩
      rcases ho with e | e
      · exact .inl (.inl (e ▸ hx))
      · rw [e] at hx; cases hx; exact .inr (Nat.le_refl _)
    · exact ⟨.inl (.inr (.inl hx)), Nat.lt_of_lt_of_le (hh x hx) hg.size⟩
    · exact ⟨.inl (.inr (.inr hx)), Nat.lt_of_lt_of_le (hvv x hx) hg.size⟩

theorem Em2.app_h {w0 w w' : World} {D k : Nat} {L : List It} {v : Value} {a b j : Nat} {g h h' : Value} (H : Em2 w0 D k L v a b j g h w) (hr : OwnI w' w0.heap.size h' (catS k L b ++ slF k L b)) (hg : w.grownBy w' h.ownBlock) (ho : h'.ownBlock = h.ownBlock ∨ h'.ownBlock = some w.heap.size) : Em2 w0 D k L v a (b + 1) j g h' w' := by
  have hgg : ∀ x, g.ownBlock = some x → x < w.heap.size := fun x hx => (World.ownsRow.lt H.rg x hx).2
  have hvv : ∀ x, v.ownBlock = some x → x < w.heap.size := fun x hx => (World.ownsRow.lt H.rv x hx).2
  refine ⟨H.rg.aside hg (fun x hx e => (H.gh x hx).1 e), by rw [catS_succ]; exact hr, H.rv.aside hg (fun x hx e => H.hv x e hx), fun x hx => ⟨?_, (H.gh x hx).2⟩, fun x hx => ?_, H.lv.grown hg (fun x hx => ⟨.inr (.inl hx), (World.ownsRow.lt H.rh x hx).1⟩) (fun x hx => ?_)⟩
  · rcases ho with e | e
    · rw [e]; exact (H.gh x hx).1
    · rw [e]; intro e2; cases e2; have := hgg _ hx; omega
  · rcases ho with e | e
    · exact H.hv x (e ▸ hx)
    · rw [e] at hx
      cases hx
      exact fun e => by have := hvv _ e; omega
  · rcases hx with hx | hx | hx
    · exact ⟨.inl (.inl hx), Nat.lt_of_lt_of_le (hgg x hx) hg.size⟩
    · refine ⟨?_, (World.ownsRow.lt hr x hx).2⟩
      rcases ho with e | e
      · exact .inl (.inr (.inl (e ▸ hx)))
      · rw [e] at hx; cases hx; exact .inr (Nat.le_refl _)
    · exact ⟨.inl (.inr (.inr hx)), Nat.lt_of_lt_of_le (hvv x hx) hg.size⟩

/-- Behind j items. -/
def EmR (w0 : World) (D k : Nat) (items : List It) (j : Nat) (v : Value) (wr : World) : Prop := ∃ L : List It, srtI L ∧ L.length ≤ j ∧ (∀ y ∈ L, y ∈ items) ∧ OwnI wr w0.heap.size v L ∧ LvO w0 (fun b => v.ownBlock = some b) wr D k (slF k L)

end Go.Proofs.Ythidinaflaogfaa
