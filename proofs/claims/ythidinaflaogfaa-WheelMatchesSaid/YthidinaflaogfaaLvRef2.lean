/- The walks of slices.Equal of items, of the reference's Of and of the law's Back. -/
import Derived.Test.YthidinaflaogfaaLvRef1
namespace Go.Proofs.Ythidinaflaogfaa
open Go.RowKit

set_option maxRecDepth 100000 in
set_option maxHeartbeats 6400000 in
theorem equal_any (p p' : Option Addr) (n n' c c' : Nat) (l l' : List It) (w : World) (h : Items w p n c l) (h' : Items w p' n' c' l') :
    Calls Try.prog 21 #[.slice p n c, .slice p' n' c'] w fun r w' => r = .returned (.bool (decide (l = l'))) ∧ Below w.heap.size w w' := by
  have hlen := h.len
  have hlen' := h'.len
  have hmx := h.max
  have hmx' := h'.max
  have hle := h.le
  have hle' := h'.le
  obtain ⟨res, hr⟩ : ∃ res, res = decide (l = l') := ⟨_, rfl⟩
  rw [← hr]
  have Hr := Lib.hid hr
  have H := Lib.hid h
  have H' := Lib.hid h'
  clear h h' hr
  by_cases hn : n = n'
  rotate_left
  · have hq : ((n : Int) != (n' : Int)) = true := by rw [bne_iff_ne]; omega
    have Hf := Lib.hid (show res = false from by rw [Hr.out]; exact decide_eq_false (fun e => by rw [e] at hlen; omega))
    clear hn
    go_enter Try.func21, Try.ntmps21
    go_wp2
    go_ret
    exact ⟨ret_bool Hf.out.symm, Below.refl _ _⟩
  subst hn
  have hq : ((n : Int) != (n : Int)) = false := by simp
  go_enter Try.func21, Try.ntmps21
  go_wp2
  go_loopw [13] (fun i wr => ∃ j : Nat, j ≤ n ∧ i = .int .i64 (j : Int) ∧ (∀ k, k < j → l[k]? = l'[k]?) ∧ ∃ q, wr = w.drewN q) (fun i _ => n - (intOf i).toNat)
  case atStart => exact ⟨0, Nat.zero_le _, rfl, fun k h => absurd h (by omega), 0, rfl⟩
  case round =>
    obtain ⟨j, hj, rfl, hall, q, hqq⟩ := hrel
    have Hall := Lib.hid hall
    have Hq := Lib.hid hqq
    have hcells : ∀ a v, w.cell? a = some v → wr.cell? a = some v := fun a v h => by rw [hqq]; exact h
    clear hall hqq
    by_cases hlt : j < n
    · have hji : (j : Int) < (n : Int) := by omega
      obtain ⟨g, o, rfl, hc⟩ := H.out.cell (by omega)
      obtain ⟨g', o', rfl, hc'⟩ := H'.out.cell (by omega)
      obtain ⟨y, hy⟩ : ∃ y, l[j]? = some y := ⟨_, List.getElem?_eq_getElem (by omega)⟩
      obtain ⟨x, hx⟩ : ∃ x, l'[j]? = some x := ⟨_, List.getElem?_eq_getElem (by omega)⟩
      obtain ⟨c0, c1⟩ := hc j y hy
      obtain ⟨c2, c3⟩ := hc' j x hx
      have g0 := hcells _ _ c0
      have g1 := hcells _ _ c1
      have e0 := hcells _ _ c2
      have e1 := hcells _ _ c3
      have Hy := Lib.hid hy
      have Hx := Lib.hid hx
      have Hlt := Lib.hid hlt
      obtain ⟨y1, y2⟩ := y
      obtain ⟨x1, x2⟩ := x
      clear c0 c1 c2 c3 hc hc' hy hx hcells hlt
      change wr.cell? _ = some (.int .u64 (y1 : Int)) at g0
      change wr.cell? _ = some (.int .u64 (y2 : Int)) at g1
      change wr.cell? _ = some (.int .u64 (x1 : Int)) at e0
      change wr.cell? _ = some (.int .u64 (x2 : Int)) at e1
      by_cases hab : y1 = x1 ∧ y2 = x2
      · obtain ⟨rfl, rfl⟩ := hab
        have Hrel := Lib.hid (show ∀ k, k < j + 1 → l[k]? = l'[k]? from fun k hk => by
          rcases Nat.lt_or_eq_of_le (Nat.le_of_lt_succ hk) with h1 | h1
          · exact Hall.out k h1
          · rw [h1, Hy.out, Hx.out])
        go_wp2_with fail
        go_region_held3 (fun w' => (w'.cell? ⟨g, o + j * 2, none⟩ = some (.int .u64 (y1 : Int)) ∧ w'.cell? ⟨g, o + j * 2 + 1, none⟩ = some (.int .u64 (y2 : Int))) ∧ w'.cell? ⟨g', o' + j * 2, none⟩ = some (.int .u64 (y1 : Int)) ∧ w'.cell? ⟨g', o' + j * 2 + 1, none⟩ = some (.int .u64 (y2 : Int)))
          (first | exact ⟨⟨g0, g1⟩, e0, e1⟩) (first | fail)
        go_wp2
        go_roundw
        case rel => exact ⟨j + 1, Hlt.out, by go_num, Hrel.out, q + 1, by rw [Hq.out]; rfl⟩
        case measure => simp [intOf]; have := Hlt.out; omega
      · have Hf := Lib.hid (show res = false from by
          rw [Hr.out]
          refine decide_eq_false (fun e => hab ?_)
          have h1 := Hy.out
          rw [e, Hx.out] at h1
          cases h1
          exact ⟨rfl, rfl⟩)
        have hor : (y1 ≠ x1) ∨ (y1 = x1 ∧ y2 ≠ x2) := by omega
        clear hab
        rcases hor with ha | ⟨ha, hb⟩
        · have hq1 : ((y1 : Int) == (x1 : Int)) = false := by rw [beq_eq_false_iff_ne]; omega
          have hq2 : ¬ (y1 : Int) = (x1 : Int) := by omega
          go_wp2_with fail
          go_region_held3 (fun w' => (w'.cell? ⟨g, o + j * 2, none⟩ = some (.int .u64 (y1 : Int)) ∧ w'.cell? ⟨g, o + j * 2 + 1, none⟩ = some (.int .u64 (y2 : Int))) ∧ w'.cell? ⟨g', o' + j * 2, none⟩ = some (.int .u64 (x1 : Int)) ∧ w'.cell? ⟨g', o' + j * 2 + 1, none⟩ = some (.int .u64 (x2 : Int)))
            (first | exact ⟨⟨g0, g1⟩, e0, e1⟩) (first | fail)
          go_wp2
          go_ret
          exact ⟨ret_bool Hf.out.symm, by rw [Hq.out]; exact (below_drewN (Below.refl _ _) q).drew⟩
        · subst ha
          have hq1 : ((y2 : Int) == (x2 : Int)) = false := by rw [beq_eq_false_iff_ne]; omega
          have hq2 : ¬ (y2 : Int) = (x2 : Int) := by omega
          go_wp2_with fail
          go_region_held3 (fun w' => (w'.cell? ⟨g, o + j * 2, none⟩ = some (.int .u64 (y1 : Int)) ∧ w'.cell? ⟨g, o + j * 2 + 1, none⟩ = some (.int .u64 (y2 : Int))) ∧ w'.cell? ⟨g', o' + j * 2, none⟩ = some (.int .u64 (y1 : Int)) ∧ w'.cell? ⟨g', o' + j * 2 + 1, none⟩ = some (.int .u64 (x2 : Int)))
            (first | exact ⟨⟨g0, g1⟩, e0, e1⟩) (first | fail)
          go_wp2
          go_ret
          exact ⟨ret_bool Hf.out.symm, by rw [Hq.out]; exact (below_drewN (Below.refl _ _) q).drew⟩
    · have hji : ¬ (j : Int) < (n : Int) := by omega
      have Hg := Lib.hid (show res = true from by
        rw [Hr.out]
        refine decide_eq_true (List.ext_getElem? fun k => ?_)
        rcases Nat.lt_or_ge k j with h1 | h1
        · exact Hall.out k h1
        · rw [List.getElem?_eq_none (by omega), List.getElem?_eq_none (by omega)])
      go_wp2
      go_ret
      exact ⟨ret_bool Hg.out.symm, by rw [Hq.out]; exact below_drewN (Below.refl _ _) q⟩

/-- A row of the reference's items in memory of the call's own. -/
abbrev OwnI (w : World) (base : Nat) (v : Value) (l : List It) : Prop := w.ownsRow base 36 2 v l.length (flatI l)

theorem OwnI.below {w w' : World} {base : Nat} {v : Value} {l : List It} (h : OwnI w base v l) (hb : Below w.heap.size w w') : OwnI w' base v l :=
  World.ownsRow.kept (row := none) h ⟨hb.os, hb.tape, hb.output, hb.size, fun k hk _ => hb.block k hk⟩ (by cases v.ownBlock <;> simp)

/-- 'append(v, x)': v a row of the call's own, x one item. -/
theorem app_item {ops : Array Oper} {rest : List Oper} {o : Oper} {a : Act} {Q : Exit → Act → World → Prop} {w : World} (hgd : o.guard = none) (s x : Operand)
    (ho : o.op = .call { callee := .builtin .append, args := #[s, x], argTypes := #[27, 27] })
    {base : Nat} {v : Value} {l : List It} (hs : a.eval s = v) (hown : OwnI w base v l) {bx : Nat} {y : It} (hx : a.eval x = .slice (some ⟨bx, 0, none⟩) 1 1)
    (h0 : w.cell? ⟨bx, 0, none⟩ = some (.int .u64 (y.1 : Int))) (h1 : w.cell? ⟨bx, 1, none⟩ = some (.int .u64 (y.2 : Int))) (hbase : base ≤ w.heap.size) (hl : l.length ≤ 100000)
    (h : ∀ v' w', OwnI w' base v' (l ++ [y]) → Below base w w' → wpList Try.prog ops Q rest (a.put o.dst v') w') : wpList Try.prog ops Q (o :: rest) a w := by
  obtain ⟨i0, hi, hz, hsz, hby⟩ := info_parts info_rit
  refine wpList_append_own_at w hgd s x 27 ho base 36 i0 (.agg #[.int .u64 0, .int .u64 0]) 2 16 Try.underlying27 hi hz hsz hby rfl (by decide) v l.length (flatI l) hs hown ⟨bx, 0, none⟩ 1 1 (flatI [y]) hx (flatI_len [y])
    (fun j u hu => by
      rw [Addr.add_lit, Nat.zero_add]
      match j, hu with
      | 0, hu => cases hu; exact h0
      | 1, hu => cases hu; exact h1) (flatI_one _) (by rw [maxLen_nat]; omega) (by omega) hbase (fun v' w' g1 g2 _ _ => h v' w' ?_ ((Below.refl base w).grown g2 hbase (fun k hk => (World.ownsRow.lt hown k hk).1)))
  show w'.ownsRow base _ 2 v' _ _
  rw [flatI_append, List.length_append]
  exact g1
end Go.Proofs.Ythidinaflaogfaa
