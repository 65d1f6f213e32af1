/- The walk of slices.Delete of one item. -/
import Derived.Test.YthidinaflaogfaaLvIns3
namespace Go.Proofs.Ythidinaflaogfaa
open Go.RowKit Go.Shelf

section
variable {P : Program}
theorem step_appK {ops : Array Oper} {o : Oper} {a : Act} {w : World} {K : Act → World → Prop} {Q : Exit → Act → World → Prop} {E : Prop}
    (hg : o.guard = none) (d x : Operand) (dT sT : TypeId) (hop : o.op = Op.call { callee := Callee.builtin Builtin.append, args := #[d, x], argTypes := #[dT, sT] })
    (v u : Value) (hd : a.eval d = v) (hx : a.eval x = u) {v' : Value} {w' : World} (hr : (Builtin.append_ #[dT, sT] o.type #[v, u]).run P w = .ok v' w') (hK : K (a.put o.dst v') w') :
    if Region.wanted o (yielded ops a.tmps) = true then Oper.wp P o a w K Q else E := by
  have hw : Region.wanted o (yielded ops a.tmps) = true := by simp [Region.wanted, hg]
  rw [if_pos hw]
  unfold Oper.wp execOp
  simp only [hop, resolve, invoke, builtin, Sem.run_bind, Sem.run_pure, Result.andThen_ok, List.map_toArray, List.map_cons, List.map_nil, hd, hx, hr]
  exact hK
end

theorem run_clear_one (w : World) (ty : TypeId) (g o c : Nat) (cur : Array Value) (hg : w.heap[g]? = some (.cells cur 44 (0, 0))) (hfit : o + 2 ≤ cur.size) :
    (Builtin.clear_ #[41] ty #[.slice (some ⟨g, o, none⟩) 1 c]).run Try.prog w = .ok (.tuple #[]) (w.setRow g (cur.toList.take o ++ [Value.int .u64 0, Value.int .u64 0] ++ cur.toList.drop (o + 2)).toArray) := by
  have hst := run_storeCells_at Try.prog g o 44 [.int .u64 0, .int .u64 0] 0 cur w hg (by simpa using hfit) (by simp [Value.oneCell'])
  have hzc : (Builtin.zeroCells (Value.agg #[.int .u64 0, .int .u64 0]).cells 1).toList = [Value.int .u64 0, Value.int .u64 0] := by kernel_rfl
  simp only [Nat.add_zero, List.length_cons, List.length_nil, Nat.zero_add] at hst
  simp [Builtin.clear_, run_underlying Try.underlying41, Try.zeroValue44, hzc, hst]

set_option maxRecDepth 100000 in
set_option maxHeartbeats 3200000 in
theorem delete_any {w : World} {base : Nat} {v : Value} {l : List It} (h : w.ownsRow base 44 2 v l.length (flatI l)) (hl : l.length ≤ 1000) (i : Nat) (hi : i < l.length) :
    Calls Try.prog 47 #[v, .int .i64 (i : Int), .int .i64 ((i : Int) + 1)] w (RowEnd w base v (l.take i ++ l.drop (i + 1))) := by
  rcases h.2 with ⟨rfl, hn0⟩ | ⟨g, c, cur, rfl, hbase, hg, hnc, hcm, hcs, htake⟩
  · omega
  obtain ⟨i0, hi0, hz0, hzs, hzb⟩ := info_parts info_it
  obtain ⟨n, hn⟩ : ∃ n, n = l.length := ⟨_, rfl⟩
  have lD : (flatI (l.drop (i + 1))).length = (n - (i + 1)) * 2 := by rw [flatI_len, List.length_drop, hn]
  have lA : (flatI (l.take i)).length = i * 2 := by rw [flatI_len, List.length_take]; omega
  have eL : flatI (l.take i ++ l.drop (i + 1)) = flatI (l.take i) ++ flatI (l.drop (i + 1)) := flatI_append _ _
  have lL : (l.take i ++ l.drop (i + 1)).length = n - 1 := by rw [List.length_append, List.length_take, List.length_drop]; omega
  have hdrop : ∀ j u, (flatI (l.drop (i + 1)))[j]? = some u → w.cell? ⟨g, (i + 1) * 2 + j, none⟩ = some u := fun j u hu => by
    rw [flatI_drop, List.getElem?_drop] at hu
    exact cell_in hg htake hu
  have hA : cur.toList.take (i * 2) = flatI (l.take i) := by
    rw [flatI_take, ← htake, List.take_take, Nat.min_eq_left (by omega)]
  have h1D := flatI_one (l.drop (i + 1))
  generalize hLL : l.take i ++ l.drop (i + 1) = LL at *
  rw [← hn] at hi hl hnc ⊢
  generalize flatI (l.take i) = A at *
  generalize flatI (l.drop (i + 1)) = D at *
  obtain ⟨R1, hR1⟩ : ∃ R1, R1 = cur.toList.take (i * 2) ++ D ++ cur.toList.drop (i * 2 + D.length) := ⟨_, rfl⟩
  have kc : cur.toList.length = c * 2 := by rw [Array.length_toList, hcs]
  have k1 : R1.length = c * 2 := by rw [hR1, List.length_append, List.length_append, List.length_take, List.length_drop, kc, lD]; omega
  have t1 : R1.take ((n - 1) * 2) = A ++ D := by rw [hR1, hA, List.take_left' (by rw [List.length_append, lA, lD]; omega)]
  obtain ⟨R2, hR2⟩ : ∃ R2 : List Value, R2 = R1.take ((n - 1) * 2) ++ [Value.int .u64 0, Value.int .u64 0] ++ R1.drop ((n - 1) * 2 + 2) := ⟨_, rfl⟩
  have k2 : R2.length = c * 2 := by rw [hR2, List.length_append, List.length_append, List.length_take, List.length_drop, k1]; simp; omega
  have t2 : R2.take ((n - 1) * 2) = A ++ D := by rw [hR2, List.append_assoc, List.take_left' (by rw [List.length_take, k1]; omega), t1]
  obtain ⟨q, hq, hqs⟩ : ∃ q : Addr, (if c = i + 1 then (⟨g, 0, none⟩ : Addr) else ⟨g, (i + 1) * 2, none⟩) = q ∧ ∀ j u, D[j]? = some u → w.drew.cell? (q.add j) = some u := by
    refine ⟨_, rfl, fun j u hu => ?_⟩
    by_cases e : c = i + 1
    · have h0 : D = [] := List.length_eq_zero_iff.1 (by rw [lD]; omega)
      rw [h0] at hu
      cases hu
    · rw [if_neg e, Addr.add_lit]
      exact hdrop j u hu
  have hap : ∀ ty sc, (Builtin.append_ #[41, 41] ty #[.slice (some ⟨g, 0, none⟩) i c, .slice (some q) (n - (i + 1)) sc]).run Try.prog w.drew = .ok (.slice (some ⟨g, 0, none⟩) (n - 1) c) (w.drew.setRow g R1.toArray) := fun ty sc => by
    have h := run_append_room (P := Try.prog) w.drew 41 ty 44 i0 Try.underlying41 hi0 g i c cur hg q (n - (i + 1)) sc D (by rw [hzs]; exact lD) hqs h1D (by omega) (by rw [hzs, lD, hcs]; omega)
    rw [h, hzs, hR1, show i + (n - (i + 1)) = n - 1 by omega]
  obtain ⟨W1, hW1⟩ : ∃ W1, W1 = w.drew.setRow g R1.toArray := ⟨_, rfl⟩
  rw [← hW1] at hap
  have hN1 : W1.heap[g]? = some (.cells R1.toArray 44 (0, 0)) := by rw [hW1]; exact setRow_heap w.drew _ _ _ _ _ hg
  have hcl := run_clear_one W1 41 g ((n - 1) * 2) (c - (n - 1)) R1.toArray hN1 (by show _ ≤ R1.length; rw [k1]; omega)
  have hcl : ∀ ty, (Builtin.clear_ #[41] ty #[.slice (some ⟨g, (n - 1) * 2, none⟩) 1 (c - (n - 1))]).run Try.prog W1 = .ok (.tuple #[]) (W1.setRow g R2.toArray) := fun ty => by
    rw [run_clear_one W1 ty g ((n - 1) * 2) (c - (n - 1)) R1.toArray hN1 (by show _ ≤ R1.length; rw [k1]; omega), hR2]
  obtain ⟨W2, hW2⟩ : ∃ W2, W2 = W1.setRow g R2.toArray := ⟨_, rfl⟩
  rw [← hW2] at hcl
  have Hend := Lib.hid (show RowEnd w base (.slice (some ⟨g, 0, none⟩) n c) LL (.returned (.slice (some ⟨g, 0, none⟩) (n - 1) c)) W2 from by
    refine ⟨_, rfl, ⟨by rw [flatI_len], .inr ⟨g, c, R2.toArray, by rw [lL], hbase, ?_, by rw [lL]; omega, hcm, ?_, ?_⟩⟩, ?_, .inl rfl⟩
    · rw [hW2]; exact setRow_heap W1 _ _ _ _ _ hN1
    · show R2.length = _; exact k2
    · show R2.take _ = _; rw [lL, eL, t2]
    · refine grown_row (by rw [hW2, hW1]; rfl) (by rw [hW2, hW1]; rfl) (by rw [hW2, hW1]; rfl) ?_ (fun k _ hk => ?_)
      · rw [hW2, setRow_size, hW1, setRow_size, World.size_drew]; exact Nat.le_refl _
      · rw [hW2, setRow_other _ _ _ _ hk, hW1, setRow_other _ _ _ _ hk]; rfl)
  have mixed : Try.prog.follows Departure.mixedOrders = true := by kernel_rfl
  have hm : c ≤ 9223372036854775807 := by rw [maxLen_nat] at hcm; exact hcm
  have hz2 : ¬ ((i : Int) = (i : Int) + 1) := by omega
  have hw1 : IntKind.i64.wrap ((i : Int) + 1) = (i : Int) + 1 := by rw [IntKind.wrap_i64]; omega
  have hb1 : (0 : Int) ≤ (i : Int) + 1 := by omega
  have hin : i ≤ n := by omega
  have hic : i ≤ c := by omega
  have htn : ((i : Int) + 1).toNat = i + 1 := by omega
  have hb3 : (i : Int) ≤ (i : Int) + 1 := by omega
  have hb4 : (i : Int) + 1 ≤ (n : Int) := by omega
  have hb5 : i + 1 ≤ n := by omega
  have hb6 : i + 1 ≤ c := by omega
  have hnn : n - (n - 1) = 1 := by omega
  have hcn : ¬ c = n - 1 := by omega
  have hn1 : n - 1 ≤ n := by omega
  have HqA := Lib.hid hap
  have hclN := hcl
  have Hq := Lib.hid hq
  clear hap hcl hR1 hR2 k1 k2 t1 t2 kc hW1 hW2 hN1 hdrop eL lL lA lD h1D hLL hg htake hi0 hz0 hzs hzb hn hcs hqs hA h
  by_cases e : c = i + 1
  · have hq1 := Hq.out
    rw [if_pos e] at hq1
    subst hq1
    obtain rfl : n = i + 1 := by omega
    subst e
    have hs0 : i + 1 - (i + 1) = 0 := Nat.sub_self _
    have hs1 : i + 1 - 1 = i := rfl
    rw [hs0] at HqA
    rw [hs1] at HqA Hend hclN hnn hcn hn1
    have hcl2 : i + 1 - i = 1 := by omega
    rw [hcl2] at hclN
    go_enter Try.func47, Try.ntmps47
    go_wp2_with fail
    go_region_law_o (refine step_appK rfl (.tmp 22) (.tmp 25) 41 41 rfl (.slice (some ⟨g, 0, none⟩) i (i + 1)) (.slice (some ⟨g, 0, none⟩) 0 0) (by simp [Act.eval, Act.put]) (by simp [Act.eval, Act.put]) (HqA.out 41 0) ?_)
    go_wp2
    go_ret
    exact Hend.out
  · have hq1 := Hq.out
    rw [if_neg e] at hq1
    subst hq1
    go_enter Try.func47, Try.ntmps47
    go_wp2_with fail
    go_region_law_o (refine step_appK rfl (.tmp 22) (.tmp 25) 41 41 rfl (.slice (some ⟨g, 0, none⟩) i c) (.slice (some ⟨g, (i + 1) * 2, none⟩) (n - (i + 1)) (c - (i + 1))) (by simp [Act.eval, Act.put]) (by simp [Act.eval, Act.put]) (HqA.out 41 (c - (i + 1))) ?_)
    go_wp2
    go_ret
    exact Hend.out
end Go.Proofs.Ythidinaflaogfaa
