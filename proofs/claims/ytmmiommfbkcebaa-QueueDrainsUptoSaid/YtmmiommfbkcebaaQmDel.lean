/- The walk of slices.Delete of one of a queue's items. -/
import Derived.Test.YtmmiommfbkcebaaQmRow
namespace Go.Proofs.Ytmmiommfbkcebaa
open Go.RowKit Go.Shelf

/-- An int, as a value. -/
abbrev evI : Int → Value := fun x => .int .i64 x
theorem evI_one (x : Int) : (evI x).oneCell' = true := rfl
/-- The items of a queue of ints. -/
abbrev ItI (w : World) (base : Nat) (v : Value) (l : List (Int × Nat)) : Prop := ItR evI 59 w base v l

theorem info_itq : (Try.prog.info? 59).map (fun i => (i.zero, i.size, i.bytes)) = some (some (.agg #[.int .i64 0, .int .u64 0]), 2, 16) := by kernel_rfl

section
variable {P : Program}
theorem step_appK {ops : Array Oper} {o : Oper} {a : Act} {w : World} {K : Act → World → Prop} {Q : Exit → Act → World → Prop} {E : Prop}
    (hg : o.guard = none) (d x : Operand) (dT sT : TypeId) (hop : o.op = Op.call { callee := Callee.builtin Builtin.append, args := #[d, x], argTypes := #[dT, sT] })
    (v u : Value) (hd : a.eval d = v) (hx : a.eval x = u) {v' : Value} {w' : World} (hr : (Builtin.append_ #[dT, sT] o.type #[v, u]).run P w = .ok v' w') (hK : K (a.put o.dst v') w') :
    if Region.wanted o (yielded ops a.tmps) = true then Oper.wp P o a w K Q else E := by
  have hw : Region.wanted o (yielded ops a.tmps) = true := by simp [Region.wanted, hg]
  rw [if_pos hw]
  unfold Oper.wp execOp
  simp only [hop, resolve, invoke, builtin, Sem.run_bind, Sem.run_pure, Result.andThen_ok, List.map_toArray, List.map_cons, List.map_nil, hd, hx, hr]
  exact hK
end

theorem run_clear_itq (w : World) (ty : TypeId) (g o c : Nat) (cur : Array Value) (hg : w.heap[g]? = some (.cells cur 59 (0, 0))) (hfit : o + 2 ≤ cur.size) :
    (Builtin.clear_ #[54] ty #[.slice (some ⟨g, o, none⟩) 1 c]).run Try.prog w = .ok (.tuple #[]) (w.setRow g (cur.toList.take o ++ [Value.int .i64 0, Value.int .u64 0] ++ cur.toList.drop (o + 2)).toArray) := by
  have hst := run_storeCells_at Try.prog g o 59 [.int .i64 0, .int .u64 0] 0 cur w hg (by simpa using hfit) (by simp [Value.oneCell'])
  have hzc : (Builtin.zeroCells (Value.agg #[.int .i64 0, .int .u64 0]).cells 1).toList = [Value.int .i64 0, Value.int .u64 0] := by kernel_rfl
  simp only [Nat.add_zero, List.length_cons, List.length_nil, Nat.zero_add] at hst
  simp [Builtin.clear_, run_underlying Try.underlying54, Try.zeroValue59, hzc, hst]

/-- What a change of the row leaves. -/
def RowE (w : World) (base : Nat) (v : Value) (L : List (Int × Nat)) (r : Ending) (w' : World) : Prop := ∃ v', r = .returned v' ∧ ItI w' base v' L ∧ w.grownBy w' v.ownBlock ∧ (v'.ownBlock = v.ownBlock)

set_option maxRecDepth 100000 in
set_option maxHeartbeats 3200000 in
theorem delete_any {w : World} {base : Nat} {v : Value} {l : List (Int × Nat)} (h : ItI w base v l) (hl : l.length ≤ 2000000) (i : Nat) (hi : i < l.length) :
    Calls Try.prog 32 #[v, .int .i64 (i : Int), .int .i64 ((i : Int) + 1)] w (RowE w base v (l.take i ++ l.drop (i + 1))) := by
  rcases h with ⟨rfl, rfl⟩ | ⟨g, o, c, cur, rfl, hbase, hg, hnc, hcm, hcs, htake⟩
  · cases hi
  obtain ⟨i0, hi0, hz0, hzs, hzb⟩ := info_parts info_itq
  obtain ⟨n, hn⟩ : ∃ n, n = l.length := ⟨_, rfl⟩
  have lD : (flatE evI (l.drop (i + 1))).length = (n - (i + 1)) * 2 := by rw [flatE_len, List.length_drop, hn]
  have lA : (flatE evI (l.take i)).length = i * 2 := by rw [flatE_len, List.length_take]; omega
  have eL : flatE evI (l.take i ++ l.drop (i + 1)) = flatE evI (l.take i) ++ flatE evI (l.drop (i + 1)) := flatE_append _ _ _
  have lL : (l.take i ++ l.drop (i + 1)).length = n - 1 := by rw [List.length_append, List.length_take, List.length_drop]; omega
  have hdrop : ∀ j u, (flatE evI (l.drop (i + 1)))[j]? = some u → w.cell? ⟨g, o + (i + 1) * 2 + j, none⟩ = some u := fun j u hu => by
    rw [flatE_drop, List.getElem?_drop] at hu
    rw [Nat.add_assoc]
    exact row_cells hg htake hu
  have hA : (cur.toList.drop o).take (i * 2) = flatE evI (l.take i) := by
    rw [flatE_take, ← htake, List.take_take, Nat.min_eq_left (by omega)]
  have h1D := flatE_one evI evI_one (l.drop (i + 1))
  generalize hLL : l.take i ++ l.drop (i + 1) = LL at *
  rw [← hn] at hi hl hnc ⊢
  generalize flatE evI (l.take i) = A at *
  generalize flatE evI (l.drop (i + 1)) = D at *
  obtain ⟨R1, hR1⟩ : ∃ R1, R1 = cur.toList.take (o + i * 2) ++ D ++ cur.toList.drop (o + i * 2 + D.length) := ⟨_, rfl⟩
  have kc : cur.toList.length = cur.size := Array.length_toList
  have k1 : R1.length = cur.size := by rw [hR1, List.length_append, List.length_append, List.length_take, List.length_drop, kc, lD]; omega
  have t1 : (R1.drop o).take ((n - 1) * 2) = A ++ D := by
    rw [hR1, show (n - 1) * 2 = i * 2 + D.length by rw [lD]; omega]
    exact take_room _ _ _ o _ hA lA (by rw [lD, kc]; omega)
  obtain ⟨R2, hR2⟩ : ∃ R2 : List Value, R2 = R1.take (o + (n - 1) * 2) ++ [Value.int .i64 0, Value.int .u64 0] ++ R1.drop (o + (n - 1) * 2 + 2) := ⟨_, rfl⟩
  have k2 : R2.length = cur.size := by rw [hR2, List.length_append, List.length_append, List.length_take, List.length_drop, k1]; simp; omega
  have lAD : (A ++ D).length = (n - 1) * 2 := by rw [List.length_append, lA, lD]; omega
  have t2 : (R2.drop o).take ((n - 1) * 2) = A ++ D := by
    have h5 := take_room R1 [Value.int .i64 0, Value.int .u64 0] (A ++ D) o ((n - 1) * 2) t1 lAD (by rw [k1]; simp; omega)
    have h6 := congrArg (List.take ((n - 1) * 2)) h5
    rw [List.take_take, Nat.min_eq_left (Nat.le_add_right _ _), List.take_left' lAD] at h6
    rw [hR2]
    exact h6
  obtain ⟨q, hq, hqs⟩ : ∃ q : Addr, (if c = i + 1 then (⟨g, o, none⟩ : Addr) else ⟨g, o + (i + 1) * 2, none⟩) = q ∧ ∀ j u, D[j]? = some u → w.drew.cell? (q.add j) = some u := by
    refine ⟨_, rfl, fun j u hu => ?_⟩
    by_cases e : c = i + 1
    · have h0 : D = [] := List.length_eq_zero_iff.1 (by rw [lD]; omega)
      rw [h0] at hu
      cases hu
    · rw [if_neg e, Addr.add_lit]
      exact hdrop j u hu
  have hap : ∀ ty sc, (Builtin.append_ #[54, 54] ty #[.slice (some ⟨g, o, none⟩) i c, .slice (some q) (n - (i + 1)) sc]).run Try.prog w.drew = .ok (.slice (some ⟨g, o, none⟩) (n - 1) c) (w.drew.setRow g R1.toArray) := fun ty sc => by
    have h := run_room_at (P := Try.prog) w.drew 54 ty 59 i0 Try.underlying54 hi0 g o i c cur hg q (n - (i + 1)) sc D (by rw [hzs]; exact lD) hqs h1D (by omega) (by rw [hzs, lD]; omega)
    rw [h, hzs, hR1, show i + (n - (i + 1)) = n - 1 by omega]
  obtain ⟨W1, hW1⟩ : ∃ W1, W1 = w.drew.setRow g R1.toArray := ⟨_, rfl⟩
  rw [← hW1] at hap
  have hN1 : W1.heap[g]? = some (.cells R1.toArray 59 (0, 0)) := by rw [hW1]; exact setRow_heap w.drew _ _ _ _ _ hg
  have hcl : ∀ ty, (Builtin.clear_ #[54] ty #[.slice (some ⟨g, o + (n - 1) * 2, none⟩) 1 (c - (n - 1))]).run Try.prog W1 = .ok (.tuple #[]) (W1.setRow g R2.toArray) := fun ty => by
    rw [run_clear_itq W1 ty g (o + (n - 1) * 2) (c - (n - 1)) R1.toArray hN1 (by show _ ≤ R1.length; rw [k1]; omega), hR2]
  obtain ⟨W2, hW2⟩ : ∃ W2, W2 = W1.setRow g R2.toArray := ⟨_, rfl⟩
  rw [← hW2] at hcl
  have Hend := Lib.hid (show RowE w base (.slice (some ⟨g, o, none⟩) n c) LL (.returned (.slice (some ⟨g, o, none⟩) (n - 1) c)) W2 from by
    refine ⟨_, rfl, .inr ⟨g, o, c, R2.toArray, by rw [lL], hbase, ?_, by rw [lL]; omega, hcm, ?_, ?_⟩, ?_, rfl⟩
    · rw [hW2]; exact setRow_heap W1 _ _ _ _ _ hN1
    · show _ ≤ R2.length; omega
    · show (R2.drop o).take _ = _; rw [lL, eL, t2]
    · refine ⟨by rw [hW2, hW1]; rfl, by rw [hW2, hW1]; rfl, by rw [hW2, hW1]; rfl, ?_, fun k _ hne => ?_⟩
      · rw [hW2, setRow_size, hW1, setRow_size, World.size_drew]; exact Nat.le_refl _
      · have hk : k ≠ g := fun e => hne (by rw [e]; rfl)
        rw [hW2, setRow_other _ _ _ _ hk, hW1, setRow_other _ _ _ _ hk]; rfl)
  have mixed : Try.prog.follows Departure.mixedOrders = true := by kernel_rfl
  have hz2 : ¬ ((i : Int) = (i : Int) + 1) := by omega
  have hw1 : IntKind.i64.wrap ((i : Int) + 1) = (i : Int) + 1 := by rw [IntKind.wrap_i64]; omega
  have hb1 : (0 : Int) ≤ (i : Int) + 1 := by omega
  have hin : i ≤ n := by omega
  have hic : i ≤ c := by omega
  have htn : ((i : Int) + 1).toNat = i + 1 := by omega
  have hb3 : (i : Int) ≤ (i : Int) + 1 := by omega
  have hb4 : (i : Int) + 1 ≤ (n : Int) := by omega
  have hb5 : i + 1 ≤ n := by omega
  have hb6 : i + 1 ≤ c := by omega
  have hnn : n - (n - 1) = 1 := by omega
  have hcn : ¬ c = n - 1 := by omega
  have hn1 : n - 1 ≤ n := by omega
  have HqA := Lib.hid hap
  have hclN := hcl
  have Hq := Lib.hid hq
  clear hap hcl hR1 hR2 k1 k2 t1 t2 kc hW1 hW2 hN1 hdrop eL lL lA lD lAD h1D hLL hg htake hi0 hz0 hzs hzb hn hcs hqs hA
  by_cases e : c = i + 1
  · have hq1 := Hq.out
    rw [if_pos e] at hq1
    subst hq1
    obtain rfl : n = i + 1 := by omega
    subst e
    have hs0 : i + 1 - (i + 1) = 0 := Nat.sub_self _
    have hs1 : i + 1 - 1 = i := rfl
    rw [hs0] at HqA
    rw [hs1] at HqA Hend hclN hnn hcn hn1
    have hcl2 : i + 1 - i = 1 := by omega
    rw [hcl2] at hclN
    go_enter Try.func32, Try.ntmps32
    go_wp2_with fail
    go_region_law_o (refine step_appK rfl (.tmp 22) (.tmp 25) 54 54 rfl (.slice (some ⟨g, o, none⟩) i (i + 1)) (.slice (some ⟨g, o, none⟩) 0 0) (by simp [Act.eval, Act.put]) (by simp [Act.eval, Act.put]) (HqA.out 54 0) ?_)
    go_wp2
    go_ret
    exact Hend.out
  · have hq1 := Hq.out
    rw [if_neg e] at hq1
    subst hq1
    go_enter Try.func32, Try.ntmps32
    go_wp2_with fail
    go_region_law_o (refine step_appK rfl (.tmp 22) (.tmp 25) 54 54 rfl (.slice (some ⟨g, o, none⟩) i c) (.slice (some ⟨g, o + (i + 1) * 2, none⟩) (n - (i + 1)) (c - (i + 1))) (by simp [Act.eval, Act.put]) (by simp [Act.eval, Act.put]) (HqA.out 54 (c - (i + 1))) ?_)
    go_wp2
    go_ret
    exact Hend.out
end Go.Proofs.Ytmmiommfbkcebaa
