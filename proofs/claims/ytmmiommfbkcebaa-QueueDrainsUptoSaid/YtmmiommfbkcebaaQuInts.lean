/- Rows of ints: lists that lie in memory, rows of the call's own, appending to them. -/
import Derived.Test.YtmmiommfbkcebaaChecked
import Derived.Test.YtmmiommfbkcebaaLift
import Derived.WalkMore
import Derived.Below
import Derived.BigQuiet
import Derived.Lib.Hide
import Derived.Lib.SlBuf
import Derived.Lib.AppendZerosOnto
import Derived.Lib.SmallJoins
import Derived.Laws.NewBlocks
import Derived.Shelf.RegionOpenPlain
import Derived.Deep.RegionLaw
import Derived.Deep.Upon
namespace Go.Proofs.Ytmmiommfbkcebaa
open Go.RowKit

theorem cell_below {w w' : World} (hb : Below w.heap.size w w') {p : Addr} {v : Value} (h : w.cell? p = some v) : w'.cell? p = some v := by
  rw [hb.cell (World.block_lt_of_cell? _ _ h)]; exact h

theorem below_drewQ (w : World) (n : Nat) : Below w.heap.size w (w.drewN n) := ⟨(Below.refl w.heap.size w).os, (Below.refl w.heap.size w).tape, (Below.refl w.heap.size w).output, (Below.refl w.heap.size w).size, (Below.refl w.heap.size w).block⟩
theorem wrap_succQ (i : Nat) (h : i < 1000000) : IntKind.i64.wrap ((i : Int) + 1) = (i : Int) + 1 := by
  have h1 : ((2 : Int) ^ IntKind.i64.bits) = 18446744073709551616 := by decide
  have h2 : ((2 : Int) ^ (IntKind.i64.bits - 1)) = 9223372036854775808 := by decide
  simp only [IntKind.wrap, h1, h2]
  rw [if_neg (by simp; omega)]
  omega

/-- An int is a word. -/
def InI (x : Int) : Prop := -9223372036854775808 ≤ x ∧ x ≤ 9223372036854775807

def qE (l : List Int) : List Value := l.map (Value.int .i64)
theorem qE_one (l : List Int) : ∀ u ∈ qE l, u.oneCell' = true := by
  intro u hu
  obtain ⟨x, _, rfl⟩ := List.mem_map.1 hu
  rfl
theorem qE_append (a b : List Int) : qE (a ++ b) = qE a ++ qE b := List.map_append
theorem qE_len (l : List Int) : (qE l).length = l.length := List.length_map _
theorem qE_get {l : List Int} {i : Nat} {u : Value} (h : (qE l)[i]? = some u) : ∃ x, l[i]? = some x ∧ u = .int .i64 x := by
  unfold qE at h
  rw [List.getElem?_map] at h
  obtain ⟨x, hx, rfl⟩ := Option.map_eq_some_iff.1 h
  exact ⟨x, hx, rfl⟩

/-- The ints l lie at the beginning of a slice. -/
structure Qs (w : World) (p : Option Addr) (n c : Nat) (l : List Int) : Prop where
  len : l.length = n
  le : n ≤ c
  max : c ≤ 9223372036854775807
  cell : 0 < n → ∃ b o, p = some ⟨b, o, none⟩ ∧ ∀ (i : Nat) (x : Int), l[i]? = some x → w.cell? ⟨b, o + i, none⟩ = some (.int .i64 x)

theorem Qs.below {w w' : World} {p : Option Addr} {n c : Nat} {l : List Int} (h : Qs w p n c l) (hb : Below w.heap.size w w') : Qs w' p n c l :=
  ⟨h.len, h.le, h.max, fun hn => by
    obtain ⟨b, o, e, hc⟩ := h.cell hn
    exact ⟨b, o, e, fun i x hi => cell_below hb (hc i x hi)⟩⟩

theorem qs_same {w w' : World} {p : Option Addr} {n c : Nat} {l : List Int} (h : Qs w p n c l) (hk : ∀ b o, p = some ⟨b, o, none⟩ → w'.heap[b]? = w.heap[b]?) : Qs w' p n c l :=
  ⟨h.len, h.le, h.max, fun hn => by
    obtain ⟨b, o, e, hc⟩ := h.cell hn
    have h1 := hk b o e
    exact ⟨b, o, e, fun i x hi => by rw [← hc i x hi]; unfold World.cell?; rw [h1]⟩⟩

theorem qs_zero (w : World) (p : Option Addr) (c : Nat) (hc : c ≤ 9223372036854775807) : Qs w p 0 c [] := ⟨rfl, Nat.zero_le _, hc, fun h => absurd h (Nat.lt_irrefl _)⟩

theorem qs_take {w : World} {p : Option Addr} {n c : Nat} {l : List Int} (h : Qs w p n c l) {K : Nat} (hK : K ≤ n) : Qs w p K c (l.take K) :=
  ⟨by rw [List.length_take, h.len]; omega, Nat.le_trans hK h.le, h.max, fun hn => by
    obtain ⟨b, o, e, hc⟩ := h.cell (by omega)
    refine ⟨b, o, e, fun i x hi => hc i x ?_⟩
    rw [List.getElem?_take] at hi
    split at hi
    · exact hi
    · cases hi⟩

theorem qs_drop {w : World} {b o n c : Nat} {l : List Int} (h : Qs w (some ⟨b, o, none⟩) n c l) {K : Nat} (hK : K ≤ n) : Qs w (some ⟨b, o + K, none⟩) (n - K) (c - K) (l.drop K) :=
  ⟨by rw [List.length_drop, h.len], by have := h.le; omega, by have := h.max; omega, fun hn => by
    obtain ⟨b', o', e, hc⟩ := h.cell (by omega)
    cases e
    refine ⟨b, o + K, rfl, fun i x hi => ?_⟩
    rw [List.getElem?_drop] at hi
    have h5 := hc (K + i) x hi
    rwa [← Nat.add_assoc] at h5⟩

/-- The ints l, in a row that lies in Y. -/
structure RowQ (Y : Nat → Prop) (w : World) (p : Option Addr) (n c : Nat) (l : List Int) : Prop where
  items : Qs w p n c l
  zero : p = none → c = 0
  form : ∀ a, p = some a → ∃ b o, a = ⟨b, o, none⟩
  mem : ∀ b o, p = some ⟨b, o, none⟩ → Y b ∧ b < w.heap.size

theorem RowQ.kept {Y : Nat → Prop} {w w' : World} {p : Option Addr} {n c : Nat} {l : List Int} (h : RowQ Y w p n c l) (hk : ∀ b, Y b → w'.heap[b]? = w.heap[b]?) (hs : w.heap.size ≤ w'.heap.size) : RowQ Y w' p n c l :=
  ⟨qs_same h.items (fun b o e => hk b (h.mem b o e).1), h.zero, h.form, fun b o e => ⟨(h.mem b o e).1, Nat.lt_of_lt_of_le (h.mem b o e).2 hs⟩⟩
theorem RowQ.below {Y : Nat → Prop} {w w' : World} {p : Option Addr} {n c : Nat} {l : List Int} (h : RowQ Y w p n c l) (hb : Below w.heap.size w w') : RowQ Y w' p n c l :=
  ⟨h.items.below hb, h.zero, h.form, fun b o e => ⟨(h.mem b o e).1, Nat.lt_of_lt_of_le (h.mem b o e).2 hb.size⟩⟩
theorem RowQ.mono {Y Z : Nat → Prop} {w : World} {p : Option Addr} {n c : Nat} {l : List Int} (h : RowQ Y w p n c l) (hYZ : ∀ b, Y b → Z b) : RowQ Z w p n c l := ⟨h.items, h.zero, h.form, fun b o e => ⟨hYZ b (h.mem b o e).1, (h.mem b o e).2⟩⟩
theorem rowQ_nil (Y : Nat → Prop) (w : World) : RowQ Y w none 0 0 [] := ⟨qs_zero w none 0 (by decide), fun _ => rfl, fun a h => (by cases h), fun b o h => (by cases h)⟩

/-- A row of ints of the call's own. -/
abbrev OwnQ (w : World) (base : Nat) (v : Value) (l : List Int) : Prop := w.ownsRow base 3 1 v l.length (qE l)

theorem OwnQ.below {w w' : World} {base : Nat} {v : Value} {l : List Int} (h : OwnQ w base v l) (hb : Below w.heap.size w w') : OwnQ w' base v l :=
  World.ownsRow.kept (row := none) h ⟨hb.os, hb.tape, hb.output, hb.size, fun k hk _ => hb.block k hk⟩ (by cases v.ownBlock <;> simp)

theorem cell_inQ {w : World} {g i : Nat} {cur : Array Value} {t : TypeId} {xs : List Value} {v : Value} (hg : w.heap[g]? = some (.cells cur t (0, 0))) (ht : cur.toList.take xs.length = xs) (hv : xs[i]? = some v) : w.cell? ⟨g, i, none⟩ = some v := by
  rw [cell_of_row _ _ _ _ _ (0, 0) hg]
  rw [← ht, List.getElem?_take] at hv
  split at hv
  · simpa using hv
  · cases hv

theorem rowQ_own {w : World} {base : Nat} {v : Value} {l : List Int} (h : OwnQ w base v l) {n : Nat} (hn : l.length = n) : ∃ p c, v = .slice p n c ∧ RowQ (fun b => base ≤ b) w p n c l := by
  have hlt := World.ownsRow.lt h
  subst hn
  rcases h.2 with ⟨rfl, hn⟩ | ⟨g, cap, cur, rfl, hb, hg, hnc, hcm, hcs, htake⟩
  · rw [hn]
    obtain rfl : l = [] := List.length_eq_zero_iff.1 hn
    exact ⟨none, 0, rfl, rowQ_nil _ _⟩
  · rw [maxLen_nat] at hcm
    refine ⟨_, cap, rfl, ⟨rfl, hnc, hcm, fun _ => ⟨g, 0, rfl, fun i x hi => ?_⟩⟩, fun e => (by cases e), fun a e => ⟨g, 0, (Option.some.inj e).symm⟩, fun b o e => ?_⟩
    · rw [Nat.zero_add]
      exact cell_inQ (xs := qE l) hg (by rw [qE_len]; rw [Nat.mul_one] at htake; exact htake) (by unfold qE; rw [List.getElem?_map, hi]; rfl)
    · exact hlt b (by rw [e]; rfl)

theorem info_q : (Try.prog.info? 3).map (fun i => (i.zero, i.size, i.bytes)) = some (some (.int .i64 0), 1, 8) := by kernel_rfl

theorem ownQ_none (w : World) (base : Nat) (hb : base ≤ w.heap.size) : OwnQ (w.alloc (.cells #[] 3)) base (.slice (some ⟨w.heap.size, 0, none⟩) 0 0) [] :=
  World.ownsRow_lit w #[] 0 hb (Nat.zero_le _) rfl

/-- 'append(v, x...)' of ints. -/
theorem run_appq {w : World} (ty : TypeId) {base : Nat} {v : Value} {l : List Int} (hown : OwnQ w base v l) {p : Option Addr} {m c : Nat} {ms : List Int} (hI : Qs w p m c ms) (hbase : base ≤ w.heap.size) (hl : l.length + m ≤ 4000000) :
    ∃ v' w', (Builtin.append_ #[22, 22] ty #[v, .slice p m c]).run Try.prog w = .ok v' w' ∧ OwnQ w' base v' (l ++ ms) ∧ Below base w w' ∧ w.grownBy w' v.ownBlock ∧ (v'.ownBlock = v.ownBlock ∨ v'.ownBlock = some w.heap.size) := by
  obtain ⟨i0, hi, hz, hsz, hby⟩ := info_parts info_q
  rcases Nat.eq_zero_or_pos m with rfl | hm
  · have hms : ms = [] := List.length_eq_zero_iff.1 hI.len
    obtain ⟨q, k, rfl, hq⟩ := rowQ_own hown rfl
    refine ⟨_, w, run_append_nothing w 22 22 ty 3 i0 Try.underlying22 hi q l.length k hq.items.le (.slice p 0 c) ?_, by rw [hms, List.append_nil]; exact hown, Below.refl _ _, ⟨rfl, rfl, rfl, Nat.le_refl _, fun _ _ _ => rfl⟩, .inl rfl⟩
    cases p with
    | none => exact Src.ofNil w Try.underlying22 c
    | some ad => exact Src.ofSlice w Try.underlying22 ad 0 c [] (by simp) (fun j u h => by simp at h) (fun u h => by simp at h)
  · obtain ⟨b, o, rfl, hc⟩ := hI.cell hm
    have hlen := hI.len
    obtain ⟨v', w', hr, h2, h3, _, h5⟩ := run_append_own_at (P := Try.prog) w base 22 ty 3 i0 (.int .i64 0) 1 8 Try.underlying22 hi hz hsz hby rfl (by decide) v l.length (qE l) hown ⟨b, o, none⟩ m c (qE ms) (by rw [qE_len, hlen, Nat.mul_one])
      (fun j u hj => by
        obtain ⟨x, hx, rfl⟩ := qE_get hj
        rw [Addr.add_lit]; exact hc j x hx) (qE_one _) (by rw [maxLen_nat]; omega) (by omega) hbase
    refine ⟨v', w', hr, ?_, (Below.refl base w).grown h3 hbase (fun k hk => (World.ownsRow.lt hown k hk).1), h3, h5⟩
    show w'.ownsRow base _ 1 v' _ _
    rw [qE_append, List.length_append, hlen]
    exact h2

theorem wpl_appq {ops : Array Oper} {rest : List Oper} {o : Oper} {a : Act} {Q : Exit → Act → World → Prop} {w : World} (hgd : o.guard = none) (s x : Operand)
    (ho : o.op = .call { callee := .builtin .append, args := #[s, x], argTypes := #[22, 22] })
    {base : Nat} {v : Value} {l : List Int} (hs : a.eval s = v) (hown : OwnQ w base v l) {p : Option Addr} {m c : Nat} {ms : List Int} (hx : a.eval x = .slice p m c) (hI : Qs w p m c ms) (hbase : base ≤ w.heap.size) (hl : l.length + m ≤ 4000000)
    (h : ∀ v' w', OwnQ w' base v' (l ++ ms) → Below base w w' → w.grownBy w' v.ownBlock → (v'.ownBlock = v.ownBlock ∨ v'.ownBlock = some w.heap.size) → wpList Try.prog ops Q rest (a.put o.dst v') w') : wpList Try.prog ops Q (o :: rest) a w := by
  obtain ⟨v', w', hr, h2, h3, h4, h5⟩ := run_appq o.type hown hI hbase hl
  refine wpList_plain hgd fun K hK => ?_
  unfold Oper.wp execOp
  simp only [ho, resolve, invoke, builtin, Sem.run_bind, Sem.run_pure, Result.andThen_ok, List.map_toArray, List.map_cons, List.map_nil, hs, hx, hr]
  exact hK _ _ (h v' w' h2 h3 h4 h5)

theorem step_appq {ops : Array Oper} {o : Oper} {a : Act} {w : World} {K : Act → World → Prop} {Q : Exit → Act → World → Prop} {E : Prop} (hw : Region.wanted o (yielded ops a.tmps) = true) (s x : Operand)
    (ho : o.op = .call { callee := .builtin .append, args := #[s, x], argTypes := #[22, 22] })
    {base : Nat} {v : Value} {l : List Int} (hs : a.eval s = v) (hown : OwnQ w base v l) {p : Option Addr} {m c : Nat} {ms : List Int} (hx : a.eval x = .slice p m c) (hI : Qs w p m c ms) (hbase : base ≤ w.heap.size) (hl : l.length + m ≤ 4000000)
    (h : ∀ v' w', OwnQ w' base v' (l ++ ms) → Below base w w' → w.grownBy w' v.ownBlock → K (a.put o.dst v') w') : if Region.wanted o (yielded ops a.tmps) = true then Oper.wp Try.prog o a w K Q else E := by
  rw [if_pos hw]
  obtain ⟨v', w', hr, h2, h3, h4, _⟩ := run_appq o.type hown hI hbase hl
  unfold Oper.wp execOp
  simp only [ho, resolve, invoke, builtin, Sem.run_bind, Sem.run_pure, Result.andThen_ok, List.map_toArray, List.map_cons, List.map_nil, hs, hx, hr]
  exact h v' w' h2 h3 h4
theorem qs_box (w : World) (x : Int) : Qs (w.alloc (.cells #[.int .i64 x] 3)) (some ⟨w.heap.size, 0, none⟩) 1 1 [x] :=
  ⟨rfl, Nat.le_refl _, by omega, fun _ => ⟨w.heap.size, 0, rfl, fun i y hi => by
    cases i with
    | zero => cases hi; rw [cell_of_row _ _ _ _ _ (0, 0) (heap_alloc_new _ _)]; rfl
    | succ i => cases hi⟩⟩
theorem qs_box2 (w : World) (o : Obj) (x : Int) : Qs ((w.alloc o).alloc (.cells #[.int .i64 x] 3)) (some ⟨w.heap.size + 1, 0, none⟩) 1 1 [x] := by
  have h := qs_box (w.alloc o) x
  rwa [show (w.alloc o).heap.size = w.heap.size + 1 by simp] at h
end Go.Proofs.Ytmmiommfbkcebaa
