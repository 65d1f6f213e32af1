/- The walk of slices.Insert of one item, amid a row without room. -/
import Derived.Test.YthidinaflaogfaaLvIns
namespace Go.Proofs.Ythidinaflaogfaa
open Go.RowKit Go.Shelf

theorem cell_in {w : World} {g n : Nat} {cur : Array Value} {t : TypeId} {L : List Value} (hg : w.heap[g]? = some (.cells cur t (0, 0))) (htake : cur.toList.take n = L) {j : Nat} {u : Value} (hu : L[j]? = some u) : w.cell? ⟨g, j, none⟩ = some u := by
  rw [cell_of_row _ _ _ _ _ (0, 0) hg]
  rw [← htake, List.getElem?_take] at hu
  split at hu
  · simpa using hu
  · cases hu

theorem rows_grow {a : Nat} {A Z X D : List Value} (hA : A.length = a) (hX : X.length = 2) (hZ : 2 + D.length ≤ Z.length) {R2 R3 : List Value} (h2 : R2 = (A ++ Z).take a ++ X ++ (A ++ Z).drop (a + 2)) (h3 : R3 = R2.take (a + 2) ++ D ++ R2.drop (a + 2 + D.length)) :
    R2.length = A.length + Z.length ∧ R3.length = A.length + Z.length ∧ R3.take (a + 2 + D.length) = A ++ X ++ D := by
  subst hA
  have e2 : R2 = A ++ X ++ Z.drop 2 := by
    rw [h2, List.take_left' rfl, List.drop_append, List.drop_eq_nil_of_le (by omega), List.nil_append, show A.length + 2 - A.length = 2 by omega]
  have l2 : R2.length = A.length + Z.length := by
    rw [e2, List.length_append, List.length_append, List.length_drop]; omega
  have e3 : R3 = A ++ X ++ D ++ R2.drop (A.length + 2 + D.length) := by
    rw [h3, e2, List.take_left' (by rw [List.length_append]; omega)]
  have l3 : (A ++ X ++ D).length = A.length + 2 + D.length := by rw [List.length_append, List.length_append]; omega
  refine ⟨l2, ?_, ?_⟩
  · rw [e3, List.length_append, l3, List.length_drop, l2]; omega
  · rw [e3, List.take_left' l3]

theorem grown_row {w W : World} {g : Nat} (os : W.os = w.os) (tape : W.tape = w.tape) (output : W.output = w.output) (hs : w.heap.size ≤ W.heap.size) (h : ∀ k, k < w.heap.size → k ≠ g → W.heap[k]? = w.heap[k]?) : w.grownBy W (some g) :=
  ⟨os, tape, output, hs, fun k hk hne => h k hk (fun e => hne (by rw [e]))⟩

set_option maxRecDepth 100000 in
set_option maxHeartbeats 3200000 in
theorem ins_grow {w : World} {base g i : Nat} {cur : Array Value} {l : List It} (hg : w.heap[g]? = some (.cells cur 44 (0, 0))) (htake : cur.toList.take (l.length * 2) = flatI l) (hi : i < l.length) (hl : l.length ≤ 1000) (hbase : base ≤ w.heap.size)
    (bx : Nat) (x : It) (hx : w.heap[bx]? = some (.cells #[.int .u64 (x.1 : Int), .int .u64 (x.2 : Int)] 44 (0, 0))) :
    Calls Try.prog 49 #[.slice (some ⟨g, 0, none⟩) l.length l.length, .int .i64 (i : Int), .slice (some ⟨bx, 0, none⟩) 1 1] w (RowEnd w base (.slice (some ⟨g, 0, none⟩) l.length l.length) (l.take i ++ x :: l.drop i)) := by
  obtain ⟨i0, hi0, hz0, hzs, hzb⟩ := info_parts info_it
  have hsz2 : (Try.prog.info? 44).map (·.size) = some 2 := by rw [hi0]; simp [hzs]
  obtain ⟨n, hn⟩ : ∃ n, n = l.length := ⟨_, rfl⟩
  have lD : (flatI (l.drop i)).length = (n - i) * 2 := by rw [flatI_len, List.length_drop, hn]
  have lA : (flatI (l.take i)).length = i * 2 := by rw [flatI_len, List.length_take]; omega
  have eL : flatI (l.take i ++ x :: l.drop i) = flatI (l.take i) ++ flatI [x] ++ flatI (l.drop i) := by rw [flatI_append, List.append_assoc]; rfl
  have lL : (l.take i ++ x :: l.drop i).length = n + 1 := by rw [List.length_append, List.length_cons, List.length_take, List.length_drop]; omega
  have hdrop : ∀ j u, (flatI (l.drop i))[j]? = some u → w.cell? ⟨g, i * 2 + j, none⟩ = some u := fun j u hu => by
    rw [flatI_drop, List.getElem?_drop] at hu
    exact cell_in hg htake hu
  have htk : ∀ j u, (flatI (l.take i))[j]? = some u → w.cell? ((⟨g, 0, none⟩ : Addr).add j) = some u := fun j u hu => by
    rw [Addr.add_lit, Nat.zero_add]
    rw [flatI_take, List.getElem?_take] at hu
    split at hu
    · exact cell_in hg htake hu
    · cases hu
  have hx1 := one_item hx
  have hglt : g < w.heap.size := (Array.getElem?_eq_some_iff.1 hg).1
  have hbxlt : bx < w.heap.size := (Array.getElem?_eq_some_iff.1 hx).1
  generalize hLL : l.take i ++ x :: l.drop i = LL at *
  rw [← hn] at hi hl ⊢
  have h1A := flatI_one (l.take i)
  have h1D := flatI_one (l.drop i)
  have h1x := flatI_one [x]
  have lX : (flatI [x]).length = 2 := flatI_len [x]
  generalize flatI (l.take i) = A at *
  generalize flatI (l.drop i) = D at *
  generalize flatI [x] = X at *
  have hold : (Builtin.firstCells i0.size i (.slice (some ⟨g, 0, none⟩) i n)).run Try.prog w.drew = .ok A.toArray w.drew := by
    rw [hzs]
    exact run_firstCells_some w.drew 2 i ⟨g, 0, none⟩ i n A lA htk
  have hkk : (n : Int) + 1 - (i : Int) = ((n + 1 - i : Nat) : Int) := by omega
  have hik : i + (n + 1 - i) = n + 1 := by omega
  have hGn : n + 1 ≤ grownCap w (n + 1) n 44 := grownCap_ge w _ _ _
  have hGm : grownCap w (n + 1) n 44 ≤ maxLen := grownCap_le_maxLen w (n + 1) n 44 (by rw [maxLen_nat]; omega)
  have hrz := fun ty => Lib.run_append_grow_zeros w 41 3 ty 44 i0 _ .i64 .i64 Try.underlying41 Try.underlying3 hi0 hz0 (some ⟨g, 0, none⟩) i n A hold (n + 1 - i) (by omega) (by omega) (by omega) (by omega) (by rw [hzb]; omega) (by rw [hzb, hik]; exact growslice_fits (by omega) (by omega))
  rw [hik, ← hkk] at hrz
  obtain ⟨G, hG⟩ : ∃ G, G = grownCap w (n + 1) n 44 := ⟨_, rfl⟩
  rw [← hG] at hrz hGn hGm
  obtain ⟨Z, hZ⟩ : ∃ Z : List Value, Z = (Builtin.zeroCells (Value.agg #[.int .u64 0, .int .u64 0]).cells (n + 1 - i)).toList ++ (Builtin.zeroCells (Value.agg #[.int .u64 0, .int .u64 0]).cells (G - (n + 1))).toList := ⟨_, rfl⟩
  have lZ : Z.length = (G - i) * 2 := by
    rw [hZ, List.length_append, Array.length_toList, Array.length_toList, size_zeroCells, size_zeroCells]
    simp [Value.cells]
    omega
  have hRow : A.toArray ++ Builtin.zeroCells (Value.agg #[.int .u64 0, .int .u64 0]).cells (n + 1 - i) ++ Builtin.zeroCells (Value.agg #[.int .u64 0, .int .u64 0]).cells (G - (n + 1)) = (A ++ Z).toArray := by
    apply Array.ext'
    simp [hZ]
  rw [hRow] at hrz
  obtain ⟨R2, hR2⟩ : ∃ R2, R2 = (A ++ Z).take (i * 2) ++ X ++ (A ++ Z).drop (i * 2 + 2) := ⟨_, rfl⟩
  obtain ⟨R3, hR3⟩ : ∃ R3, R3 = R2.take (i * 2 + 2) ++ D ++ R2.drop (i * 2 + 2 + D.length) := ⟨_, rfl⟩
  obtain ⟨k2, k3, k4⟩ := rows_grow lA lX (by rw [lZ, lD]; omega) hR2 hR3
  obtain ⟨W1, hW1⟩ : ∃ W1, W1 = w.drew.alloc (.cells (A ++ Z).toArray 44) := ⟨_, rfl⟩
  rw [← hW1] at hrz
  have hN1 : W1.heap[w.heap.size]? = some (.cells (A ++ Z).toArray 44 (0, 0)) := by rw [hW1]; exact heap_alloc_new w.drew _
  have hO1 : ∀ k, k < w.heap.size → W1.heap[k]? = w.heap[k]? := fun k hk => by rw [hW1]; exact heap_alloc_old w.drew _ hk
  have hS1 : W1.heap.size = w.heap.size + 1 := by rw [hW1]; simp
  have hcpA : ∀ ty dc, (Builtin.copy_ #[41, 41] ty #[.slice (some ⟨w.heap.size, i * 2, none⟩) (n + 1 - i) dc, .slice (some ⟨bx, 0, none⟩) 1 1]).run Try.prog W1 = .ok (goInt ((1 : Nat) : Int)) (W1.setRow w.heap.size R2.toArray) := fun ty dc => by
    have h := run_copyK (P := Try.prog) W1 41 41 ty 44 2 w.heap.size (i * 2) (n + 1 - i) dc ⟨bx, 0, none⟩ 1 1 1 (A ++ Z).toArray 44 X Try.underlying41 hsz2 hN1 (by simp only [Nat.min_def]; split <;> omega) lX
      (fun j v hj => by rw [World.cell?_of_block (hO1 _ (by rw [Addr.add_lit]; exact hbxlt))]; exact hx1 j v hj) (by rw [lX]; simp; omega) h1x
    rw [lX] at h
    rw [h, hR2]
  obtain ⟨W2, hW2⟩ : ∃ W2, W2 = W1.setRow w.heap.size R2.toArray := ⟨_, rfl⟩
  rw [← hW2] at hcpA
  have hN2 : W2.heap[w.heap.size]? = some (.cells R2.toArray 44 (0, 0)) := by rw [hW2]; exact setRow_heap W1 _ _ _ _ _ hN1
  have hO2 : ∀ k, k < w.heap.size → W2.heap[k]? = w.heap[k]? := fun k hk => by rw [hW2, setRow_other _ _ _ _ (by omega)]; exact hO1 k hk
  have hcpB : ∀ ty dc sc, (Builtin.copy_ #[41, 41] ty #[.slice (some ⟨w.heap.size, (i + 1) * 2, none⟩) (n + 1 - (i + 1)) dc, .slice (some ⟨g, i * 2, none⟩) (n - i) sc]).run Try.prog W2.drew = .ok (goInt ((n - i : Nat) : Int)) (W2.drew.setRow w.heap.size R3.toArray) := fun ty dc sc => by
    have h := run_copyK (P := Try.prog) W2.drew 41 41 ty 44 2 w.heap.size ((i + 1) * 2) (n + 1 - (i + 1)) dc ⟨g, i * 2, none⟩ (n - i) sc (n - i) R2.toArray 44 D Try.underlying41 hsz2 hN2 (by simp only [Nat.min_def]; split <;> omega) lD
      (fun j v hj => by rw [Addr.add_lit]; exact (World.cell?_of_block (w := w) (w' := W2.drew) (hO2 _ hglt)).trans (hdrop j v hj)) (by rw [lD]; simp [k2, lA, lZ]; omega) h1D
    rw [h, hR3, show (i + 1) * 2 = i * 2 + 2 by omega]
  obtain ⟨W3, hW3⟩ : ∃ W3, W3 = W2.drew.setRow w.heap.size R3.toArray := ⟨_, rfl⟩
  rw [← hW3] at hcpB
  have Hend := Lib.hid (show RowEnd w base (.slice (some ⟨g, 0, none⟩) n n) LL (.returned (.slice (some ⟨w.heap.size, 0, none⟩) (n + 1) G)) W3 from by
    refine ⟨_, rfl, ⟨by rw [flatI_len], .inr ⟨w.heap.size, G, R3.toArray, by rw [lL], hbase, ?_, by rw [lL]; exact hGn, hGm, ?_, ?_⟩⟩, ?_, .inr rfl⟩
    · rw [hW3]; exact setRow_heap W2.drew _ _ _ _ _ hN2
    · show R3.length = _; rw [k3, lA, lZ]; omega
    · show R3.take _ = _; rw [lL, eL, ← k4, lD]; congr 1; omega
    · refine grown_row (by rw [hW3, hW2, hW1]; rfl) (by rw [hW3, hW2, hW1]; rfl) (by rw [hW3, hW2, hW1]; rfl) ?_ (fun k hk _ => ?_)
      · rw [hW3, setRow_size, World.size_drew, hW2, setRow_size, hS1]; omega
      · rw [hW3, setRow_other _ _ _ _ (by omega)]; exact hO2 k hk)
  have mixed : Try.prog.follows Departure.mixedOrders = true := by kernel_rfl
  have hz2 : ¬ ((i : Int) = (n : Int)) := by omega
  have hz3 : (n : Int) < (n : Int) + 1 := by omega
  have hm : G ≤ 9223372036854775807 := by rw [maxLen_nat] at hGm; exact hGm
  have hGi : ¬ (G = i) := by omega
  have hGim : ¬ (G = i + 1) := by omega
  have hci : ¬ (n = i) := by omega
  have hw1 : IntKind.i64.wrap ((i : Int) + 1) = (i : Int) + 1 := by rw [IntKind.wrap_i64]; omega
  have hb1 : (0 : Int) ≤ (i : Int) + 1 := by omega
  have hin : i ≤ n := by omega
  have htn : ((i : Int) + 1).toNat = i + 1 := by omega
  have hb3 : (i : Int) ≤ (n : Int) := by omega
  have Hrz := Lib.hid hrz
  have hcA := hcpA 3 (G - i)
  have HcB := Lib.hid hcpB
  clear hrz hcpA hcpB hkk hik hold hRow hG hZ lZ hR2 hR3 k2 k3 k4 hW1 hW2 hW3 hN1 hN2 hO1 hO2 hS1 hx1 htk hdrop eL lL lA lD lX h1A h1D h1x hLL hg hx htake hsz2 hi0 hz0 hzs hzb hn
  go_enter Try.func49, Try.ntmps49
  go_wp2_with (at_builtin; refine Lib.wpList_append_run _ rfl _ _ _ _ rfl _ _ rfl rfl _ _ (Hrz.out _) ?_)
  go_region_law_o (refine step_copyK rfl _ _ 41 41 rfl (.slice (some ⟨w.heap.size, (i + 1) * 2, none⟩) (n + 1 - (i + 1)) (G - (i + 1))) (.slice (some ⟨g, i * 2, none⟩) (n - i) (n - i)) (by simp [Act.eval, Act.put]) (by simp [Act.eval, Act.put]) (HcB.out 3 (G - (i + 1)) (n - i)) ?_)
  go_wp2
  go_ret
  exact Hend.out
end Go.Proofs.Ythidinaflaogfaa
