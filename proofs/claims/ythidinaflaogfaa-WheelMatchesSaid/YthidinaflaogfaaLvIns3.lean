/- The walk of slices.Insert of one item, amid a row with room. -/
import Derived.Test.YthidinaflaogfaaLvIns2
namespace Go.Proofs.Ythidinaflaogfaa
open Go.RowKit Go.Shelf

theorem rows_room {a : Nat} {cur A X D : List Value} (hA : A.length = a) (hX : X.length = 2) (ht : cur.take (a + D.length) = A ++ D) (hc : a + D.length + 2 ≤ cur.length) {R1 R2 : List Value} (h1 : R1 = cur.take (a + 2) ++ D ++ cur.drop (a + 2 + D.length)) (h2 : R2 = R1.take a ++ X ++ R1.drop (a + 2)) :
    R1.length = cur.length ∧ R2.length = cur.length ∧ R2.take (a + D.length + 2) = A ++ X ++ D := by
  have l1 : R1.length = cur.length := by rw [h1, List.length_append, List.length_append, List.length_take, List.length_drop]; omega
  have eA : R1.take a = A := by
    have : cur.take a = A := by
      have h := congrArg (List.take a) ht
      rw [List.take_take, Nat.min_eq_left (by omega), List.take_left' hA] at h
      exact h
    rw [h1, List.append_assoc, List.take_append, List.take_take, Nat.min_eq_left (by omega), this, List.length_take, show a - min (a + 2) cur.length = 0 by omega, List.take_zero, List.append_nil]
  have eD : R1.drop (a + 2) = D ++ cur.drop (a + 2 + D.length) := by
    rw [h1, List.append_assoc, List.drop_left' (by rw [List.length_take]; omega)]
  have e2 : R2 = A ++ X ++ D ++ cur.drop (a + 2 + D.length) := by
    rw [h2, eA, eD, List.append_assoc, List.append_assoc, List.append_assoc]
  have l3 : (A ++ X ++ D).length = a + D.length + 2 := by rw [List.length_append, List.length_append]; omega
  refine ⟨l1, ?_, ?_⟩
  · rw [e2, List.length_append, l3, List.length_drop]; omega
  · rw [e2, List.take_left' l3]

set_option maxRecDepth 100000 in
set_option maxHeartbeats 3200000 in
theorem ins_room {w : World} {base g c i : Nat} {cur : Array Value} {l : List It} (hg : w.heap[g]? = some (.cells cur 44 (0, 0))) (htake : cur.toList.take (l.length * 2) = flatI l) (hcs : cur.size = c * 2) (hi : i < l.length) (hroom : l.length + 1 ≤ c) (hcm : c ≤ maxLen) (hl : l.length ≤ 1000) (hbase : base ≤ g)
    (bx : Nat) (x : It) (hx : w.heap[bx]? = some (.cells #[.int .u64 (x.1 : Int), .int .u64 (x.2 : Int)] 44 (0, 0))) (hne : bx ≠ g) :
    Calls Try.prog 49 #[.slice (some ⟨g, 0, none⟩) l.length c, .int .i64 (i : Int), .slice (some ⟨bx, 0, none⟩) 1 1] w (RowEnd w base (.slice (some ⟨g, 0, none⟩) l.length c) (l.take i ++ x :: l.drop i)) := by
  obtain ⟨i0, hi0, hz0, hzs, hzb⟩ := info_parts info_it
  have hsz2 : (Try.prog.info? 44).map (·.size) = some 2 := by rw [hi0]; simp [hzs]
  obtain ⟨n, hn⟩ : ∃ n, n = l.length := ⟨_, rfl⟩
  have lD : (flatI (l.drop i)).length = (n - i) * 2 := by rw [flatI_len, List.length_drop, hn]
  have lA : (flatI (l.take i)).length = i * 2 := by rw [flatI_len, List.length_take]; omega
  have eL : flatI (l.take i ++ x :: l.drop i) = flatI (l.take i) ++ flatI [x] ++ flatI (l.drop i) := by rw [flatI_append, List.append_assoc]; rfl
  have lL : (l.take i ++ x :: l.drop i).length = n + 1 := by rw [List.length_append, List.length_cons, List.length_take, List.length_drop]; omega
  have hdrop : ∀ j u, (flatI (l.drop i))[j]? = some u → w.cell? ⟨g, i * 2 + j, none⟩ = some u := fun j u hu => by
    rw [flatI_drop, List.getElem?_drop] at hu
    exact cell_in hg htake hu
  have hx1 := one_item hx
  have hglt : g < w.heap.size := (Array.getElem?_eq_some_iff.1 hg).1
  have hsplit : cur.toList.take (i * 2 + (flatI (l.drop i)).length) = flatI (l.take i) ++ flatI (l.drop i) := by
    rw [lD, show i * 2 + (n - i) * 2 = l.length * 2 by omega, htake, ← flatI_append, List.take_append_drop]
  have hov : ∀ lb cb, (callFunc 56 #[.slice (some ⟨bx, 0, none⟩) 1 1, .slice (some ⟨g, (i + 1) * 2, none⟩) lb cb]).run Try.prog w = .ok (.value (.bool false)) w := fun lb cb => by
    rw [run_callFunc_extern Try.func56 (by kernel_rfl) (by kernel_rfl) (e := Extern.SlicesOverlaps.overlaps #[41, 41] #[4]) (by kernel_rfl) (by kernel_rfl),
      Lib.run_overlaps_apart w 41 4 44 Try.underlying41 2 Try.sizeOf44 ⟨bx, 0, none⟩ ⟨g, (i + 1) * 2, none⟩ 1 1 lb cb hne 44 44 2 cur.size (by simp [World.shape?, hx]) (by simp [World.shape?, hg]) (by omega) (by simp [World.frozen?, hx]) (by simp [World.frozen?, hx])]
    rfl
  generalize hLL : l.take i ++ x :: l.drop i = LL at *
  rw [← hn] at hi hl hroom ⊢
  have h1D := flatI_one (l.drop i)
  have h1x := flatI_one [x]
  have lX : (flatI [x]).length = 2 := flatI_len [x]
  generalize flatI (l.take i) = A at *
  generalize flatI (l.drop i) = D at *
  generalize flatI [x] = X at *
  obtain ⟨R1, hR1⟩ : ∃ R1, R1 = cur.toList.take (i * 2 + 2) ++ D ++ cur.toList.drop (i * 2 + 2 + D.length) := ⟨_, rfl⟩
  obtain ⟨R2, hR2⟩ : ∃ R2, R2 = R1.take (i * 2) ++ X ++ R1.drop (i * 2 + 2) := ⟨_, rfl⟩
  obtain ⟨k1, k2, k3⟩ := rows_room lA lX hsplit (by rw [lD, Array.length_toList, hcs]; omega) hR1 hR2
  have kc : cur.toList.length = c * 2 := by rw [Array.length_toList, hcs]
  rw [kc] at k1 k2
  have hcpA : ∀ ty dc sc, (Builtin.copy_ #[41, 41] ty #[.slice (some ⟨g, (i + 1) * 2, none⟩) (n + 1 - (i + 1)) dc, .slice (some ⟨g, i * 2, none⟩) (n + 1 - i) sc]).run Try.prog w.drew = .ok (goInt ((n - i : Nat) : Int)) (w.drew.setRow g R1.toArray) := fun ty dc sc => by
    have h := run_copyK (P := Try.prog) w.drew 41 41 ty 44 2 g ((i + 1) * 2) (n + 1 - (i + 1)) dc ⟨g, i * 2, none⟩ (n + 1 - i) sc (n - i) cur 44 D Try.underlying41 hsz2 hg (by simp only [Nat.min_def]; split <;> omega) lD
      (fun j v hj => by rw [Addr.add_lit]; exact hdrop j v hj) (by rw [lD, hcs]; omega) h1D
    rw [h, hR1, show (i + 1) * 2 = i * 2 + 2 by omega]
  obtain ⟨W1, hW1⟩ : ∃ W1, W1 = w.drew.setRow g R1.toArray := ⟨_, rfl⟩
  rw [← hW1] at hcpA
  have hN1 : W1.heap[g]? = some (.cells R1.toArray 44 (0, 0)) := by rw [hW1]; exact setRow_heap w.drew _ _ _ _ _ hg
  have hO1 : ∀ k, k ≠ g → W1.heap[k]? = w.heap[k]? := fun k hk => by rw [hW1, setRow_other _ _ _ _ hk]; rfl
  have hcpB : ∀ ty dc, (Builtin.copy_ #[41, 41] ty #[.slice (some ⟨g, i * 2, none⟩) (n + 1 - i) dc, .slice (some ⟨bx, 0, none⟩) 1 1]).run Try.prog W1 = .ok (goInt ((1 : Nat) : Int)) (W1.setRow g R2.toArray) := fun ty dc => by
    have h := run_copyK (P := Try.prog) W1 41 41 ty 44 2 g (i * 2) (n + 1 - i) dc ⟨bx, 0, none⟩ 1 1 1 R1.toArray 44 X Try.underlying41 hsz2 hN1 (by simp only [Nat.min_def]; split <;> omega) lX
      (fun j v hj => by rw [World.cell?_of_block (hO1 _ (by rw [Addr.add_lit]; exact hne))]; exact hx1 j v hj) (by rw [lX]; show i * 2 + 2 ≤ R1.length; rw [k1]; omega) h1x
    rw [lX] at h
    rw [h, hR2]
  obtain ⟨W2, hW2⟩ : ∃ W2, W2 = W1.setRow g R2.toArray := ⟨_, rfl⟩
  rw [← hW2] at hcpB
  have Hend := Lib.hid (show RowEnd w base (.slice (some ⟨g, 0, none⟩) n c) LL (.returned (.slice (some ⟨g, 0, none⟩) (n + 1) c)) W2 from by
    refine ⟨_, rfl, ⟨by rw [flatI_len], .inr ⟨g, c, R2.toArray, by rw [lL], hbase, ?_, by rw [lL]; exact hroom, hcm, ?_, ?_⟩⟩, ?_, .inl rfl⟩
    · rw [hW2]; exact setRow_heap W1 _ _ _ _ _ hN1
    · show R2.length = _; exact k2
    · show R2.take _ = _; rw [lL, eL, ← k3, lD]; congr 1; omega
    · refine grown_row (by rw [hW2, hW1]; rfl) (by rw [hW2, hW1]; rfl) (by rw [hW2, hW1]; rfl) ?_ (fun k _ hk => ?_)
      · rw [hW2, setRow_size, hW1, setRow_size, World.size_drew]; exact Nat.le_refl _
      · rw [hW2, setRow_other _ _ _ _ hk]; exact hO1 k hk)
  have mixed : Try.prog.follows Departure.mixedOrders = true := by kernel_rfl
  have hz2 : ¬ ((i : Int) = (n : Int)) := by omega
  have hz3 : ¬ (c : Int) < (n : Int) + 1 := by omega
  have hm : c ≤ 9223372036854775807 := by rw [maxLen_nat] at hcm; exact hcm
  have hci : ¬ (c = i) := by omega
  have hci1 : ¬ (c = i + 1) := by omega
  have hw1 : IntKind.i64.wrap ((i : Int) + 1) = (i : Int) + 1 := by rw [IntKind.wrap_i64]; omega
  have hw2 : IntKind.i64.wrap ((n : Int) + 1) = (n : Int) + 1 := by rw [IntKind.wrap_i64]; omega
  have hb1 : (0 : Int) ≤ (i : Int) + 1 := by omega
  have hin : i ≤ n := by omega
  have htn : ((i : Int) + 1).toNat = i + 1 := by omega
  have htn2 : ((n : Int) + 1).toNat = n + 1 := by omega
  have hb3 : (i : Int) ≤ (n : Int) + 1 := by omega
  have hb4 : (n : Int) + 1 ≤ (c : Int) := by omega
  have hcB := hcpB 3 (c - i)
  have HcA := Lib.hid hcpA
  clear kc hcpA hcpB hR1 hR2 k1 k2 k3 hW1 hW2 hN1 hO1 hx1 hdrop eL lL lA lD lX h1D h1x hLL hg hx htake hsz2 hi0 hz0 hzs hzb hn hsplit hcs
  go_enter Try.func49, Try.ntmps49
  go_wp2_with (simp only [hov])
  go_region_law_o (refine step_copyK rfl _ _ 41 41 rfl (.slice (some ⟨g, (i + 1) * 2, none⟩) (n + 1 - (i + 1)) (c - (i + 1))) (.slice (some ⟨g, i * 2, none⟩) (n + 1 - i) (c - i)) (by simp [Act.eval, Act.put]) (by simp [Act.eval, Act.put]) (HcA.out 3 (c - (i + 1)) (c - i)) ?_)
  go_wp2
  go_ret
  exact Hend.out
end Go.Proofs.Ythidinaflaogfaa
