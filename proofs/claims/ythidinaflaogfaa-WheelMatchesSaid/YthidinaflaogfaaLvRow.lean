/- Rows of items in memory of the call's own; copying items. -/
import Derived.Test.YthidinaflaogfaaLvCmp
import Derived.Lib.SlBuf
import Derived.Lib.AppendZerosOnto
import Derived.Lib.Overlaps
import Derived.Laws.NewBlocks
import Derived.Shelf.RegionOpenPlain
import Derived.Lib.SmallJoins
namespace Go.Proofs.Ythidinaflaogfaa
open Go.RowKit

/-- Items: a number and a tick. -/
abbrev It := Nat × Nat
/-- The cells of items. -/
def flatI (l : List It) : List Value := l.flatMap fun x => [.int .u64 (x.1 : Int), .int .u64 (x.2 : Int)]

theorem flatI_nil : flatI [] = [] := rfl
theorem flatI_cons (x : It) (l : List It) : flatI (x :: l) = .int .u64 (x.1 : Int) :: .int .u64 (x.2 : Int) :: flatI l := rfl
theorem flatI_append (l m : List It) : flatI (l ++ m) = flatI l ++ flatI m := by unfold flatI; rw [List.flatMap_append]
theorem flatI_len (l : List It) : (flatI l).length = l.length * 2 := by
  induction l with
  | nil => rfl
  | cons x l ih => rw [flatI_cons, List.length_cons, List.length_cons, List.length_cons, ih]; omega
theorem flatI_one (l : List It) : ∀ v ∈ flatI l, v.oneCell' = true := by
  intro v hv
  obtain ⟨x, _, h⟩ := List.mem_flatMap.1 hv
  simp only [List.mem_cons, List.not_mem_nil, or_false] at h
  rcases h with rfl | rfl <;> rfl
theorem flatI_get (l : List It) (i : Nat) (x : It) (h : l[i]? = some x) : (flatI l)[i * 2]? = some (.int .u64 (x.1 : Int)) ∧ (flatI l)[i * 2 + 1]? = some (.int .u64 (x.2 : Int)) := by
  induction l generalizing i with
  | nil => cases h
  | cons y l ih =>
    rw [flatI_cons]
    cases i with
    | zero =>
      cases h
      exact ⟨rfl, rfl⟩
    | succ i =>
      rw [show (i + 1) * 2 = i * 2 + 1 + 1 by omega]
      exact ih i (by simpa using h)
theorem flatI_drop (l : List It) (i : Nat) : flatI (l.drop i) = (flatI l).drop (i * 2) := by
  rcases Nat.le_total i l.length with hi | hi
  · have e : flatI l = flatI (l.take i) ++ flatI (l.drop i) := by rw [← flatI_append, List.take_append_drop]
    rw [e, List.drop_left' (by rw [flatI_len, List.length_take]; omega)]
  · rw [List.drop_eq_nil_of_le hi, List.drop_eq_nil_of_le (by rw [flatI_len]; omega), flatI_nil]
theorem flatI_take (l : List It) (i : Nat) : flatI (l.take i) = (flatI l).take (i * 2) := by
  rcases Nat.le_total i l.length with hi | hi
  · have e : flatI l = flatI (l.take i) ++ flatI (l.drop i) := by rw [← flatI_append, List.take_append_drop]
    rw [e, List.take_left' (by rw [flatI_len, List.length_take]; omega)]
  · rw [List.take_of_length_le hi, List.take_of_length_le (by rw [flatI_len]; omega)]

section
variable {P : Program}

/-- 'copy(d, s)' of elements of some cells each, where it is known in which row d lies. -/
theorem run_copyK (w : World) (dT sT ty elem : TypeId) (k g o dLen dCap : Nat) (a : Addr) (sLen sCap m : Nat) (cur : Array Value) (t : TypeId) (cs : List Value)
    (hu : P.underlying dT = some (.slice elem)) (hs : (P.info? elem).map (·.size) = some k) (hg : w.heap[g]? = some (.cells cur t (0, 0))) (hm : m = Nat.min sLen dLen) (hn : cs.length = m * k)
    (hsrc : ∀ j v, cs[j]? = some v → w.cell? (a.add j) = some v) (hfit : o + cs.length ≤ cur.size) (h1 : ∀ v ∈ cs, v.oneCell' = true) :
    (Builtin.copy_ #[dT, sT] ty #[.slice (some ⟨g, o, none⟩) dLen dCap, .slice (some a) sLen sCap]).run P w =
      .ok (goInt m) (w.setRow g (cur.toList.take o ++ cs ++ cur.toList.drop (o + cs.length)).toArray) := by
  have hl := run_loadCells_list (P := P) w a cs hsrc
  have hst := run_storeCells_at P g o t cs 0 cur w hg (by simpa using hfit) h1
  cases hq : P.info? elem with
  | none => simp [hq] at hs
  | some i =>
    have hi : i.size = k := by simpa [hq] using hs
    simp [Builtin.copy_, run_underlying hu, Builtin.lenOf, Builtin.firstCells, sizeOf, typeInfo, hq, hi, ← hm, ← hn, hl, hst]

theorem step_copyK {ops : Array Oper} {o : Oper} {a : Act} {w : World} {K : Act → World → Prop} {Q : Exit → Act → World → Prop} {E : Prop}
    (hg : o.guard = none) (d x : Operand) (dT sT : TypeId) (hop : o.op = Op.call { callee := Callee.builtin Builtin.copy, args := #[d, x], argTypes := #[dT, sT] })
    (v u : Value) (hd : a.eval d = v) (hx : a.eval x = u) {v' : Value} {w' : World} (hr : (Builtin.copy_ #[dT, sT] o.type #[v, u]).run P w = .ok v' w') (hK : K (a.put o.dst v') w') :
    if Region.wanted o (yielded ops a.tmps) = true then Oper.wp P o a w K Q else E := by
  have hw : Region.wanted o (yielded ops a.tmps) = true := by simp [Region.wanted, hg]
  rw [if_pos hw]
  unfold Oper.wp execOp
  simp only [hop, resolve, invoke, builtin, Sem.run_bind, Sem.run_pure, Result.andThen_ok, List.map_toArray, List.map_cons, List.map_nil, hd, hx, hr]
  exact hK
end

theorem info_it : (Try.prog.info? 44).map (fun i => (i.zero, i.size, i.bytes)) = some (some (.agg #[.int .u64 0, .int .u64 0]), 2, 16) := by kernel_rfl
theorem info_rit : (Try.prog.info? 36).map (fun i => (i.zero, i.size, i.bytes)) = some (some (.agg #[.int .u64 0, .int .u64 0]), 2, 16) := by kernel_rfl
end Go.Proofs.Ythidinaflaogfaa
