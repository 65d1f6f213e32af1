/- Rows of a queue's items: an element and the number of its Push, from some cell of a block of the queue's own on; what append, a store and clear leave of them. -/
import Derived.Test.YtmmiommfbkcebaaQuInts
namespace Go.Proofs.Ytmmiommfbkcebaa
open Go.RowKit

section
variable {α : Type} (ev : α → Value)
/-- The cells of items. -/
def flatE (l : List (α × Nat)) : List Value := l.flatMap fun x => [ev x.1, .int .u64 (x.2 : Int)]

theorem flatE_nil : flatE ev ([] : List (α × Nat)) = [] := rfl
theorem flatE_cons (x : α × Nat) (l : List (α × Nat)) : flatE ev (x :: l) = ev x.1 :: .int .u64 (x.2 : Int) :: flatE ev l := rfl
theorem flatE_append (l m : List (α × Nat)) : flatE ev (l ++ m) = flatE ev l ++ flatE ev m := by unfold flatE; rw [List.flatMap_append]
theorem flatE_len (l : List (α × Nat)) : (flatE ev l).length = l.length * 2 := by
  induction l with
  | nil => rfl
  | cons x l ih => rw [flatE_cons, List.length_cons, List.length_cons, List.length_cons, ih]; omega
theorem flatE_one (he : ∀ a, (ev a).oneCell' = true) (l : List (α × Nat)) : ∀ v ∈ flatE ev l, v.oneCell' = true := by
  intro v hv
  obtain ⟨x, _, h⟩ := List.mem_flatMap.1 hv
  simp only [List.mem_cons, List.not_mem_nil, or_false] at h
  rcases h with rfl | rfl
  · exact he _
  · rfl
theorem flatE_get (l : List (α × Nat)) (i : Nat) (x : α × Nat) (h : l[i]? = some x) : (flatE ev l)[i * 2]? = some (ev x.1) ∧ (flatE ev l)[i * 2 + 1]? = some (.int .u64 (x.2 : Int)) := by
  induction l generalizing i with
  | nil => cases h
  | cons y l ih =>
    rw [flatE_cons]
    cases i with
    | zero =>
      cases h
      exact ⟨rfl, rfl⟩
    | succ i =>
      rw [show (i + 1) * 2 = i * 2 + 1 + 1 by omega]
      exact ih i (by simpa using h)
theorem flatE_drop (l : List (α × Nat)) (i : Nat) : flatE ev (l.drop i) = (flatE ev l).drop (i * 2) := by
  rcases Nat.le_total i l.length with hi | hi
  · have e : flatE ev l = flatE ev (l.take i) ++ flatE ev (l.drop i) := by rw [← flatE_append, List.take_append_drop]
    rw [e, List.drop_left' (by rw [flatE_len, List.length_take]; omega)]
  · rw [List.drop_eq_nil_of_le hi, List.drop_eq_nil_of_le (by rw [flatE_len]; omega), flatE_nil]
theorem flatE_take (l : List (α × Nat)) (i : Nat) : flatE ev (l.take i) = (flatE ev l).take (i * 2) := by
  rcases Nat.le_total i l.length with hi | hi
  · have e : flatE ev l = flatE ev (l.take i) ++ flatE ev (l.drop i) := by rw [← flatE_append, List.take_append_drop]
    rw [e, List.take_left' (by rw [flatE_len, List.length_take]; omega)]
  · rw [List.take_of_length_le hi, List.take_of_length_le (by rw [flatE_len]; omega)]
end

/-- The items l are the elements of a slice, from the cell o of a block of the queue's own on. -/
def ItR {α : Type} (ev : α → Value) (e : TypeId) (w : World) (base : Nat) (v : Value) (l : List (α × Nat)) : Prop :=
  (v = .slice none 0 0 ∧ l = []) ∨
  ∃ g o c cur, v = .slice (some ⟨g, o, none⟩) l.length c ∧ base ≤ g ∧ w.heap[g]? = some (.cells cur e (0, 0)) ∧ l.length ≤ c ∧ c ≤ 9223372036854775807 ∧ o + c * 2 ≤ cur.size ∧ (cur.toList.drop o).take (l.length * 2) = flatE ev l

section
variable {α : Type} {ev : α → Value} {e : TypeId} {w w' : World} {base : Nat} {v : Value} {l : List (α × Nat)}

theorem itR_nil : ItR ev e w base (.slice none 0 0) [] := .inl ⟨rfl, rfl⟩
theorem ItR.kept (h : ItR ev e w base v l) (hb : ∀ b, v.ownBlock = some b → w'.heap[b]? = w.heap[b]?) : ItR ev e w' base v l := by
  rcases h with h | ⟨g, o, c, cur, rfl, h1, h2, h3⟩
  · exact .inl h
  · exact .inr ⟨g, o, c, cur, rfl, h1, (hb g rfl).trans h2, h3⟩
theorem ItR.lt (h : ItR ev e w base v l) {b : Nat} (hb : v.ownBlock = some b) : base ≤ b ∧ b < w.heap.size := by
  rcases h with ⟨rfl, _⟩ | ⟨g, o, c, cur, rfl, h1, h2, h3⟩
  · cases hb
  · cases hb
    exact ⟨h1, (Array.getElem?_eq_some_iff.1 h2).1⟩
theorem ItR.below (h : ItR ev e w base v l) (hb : Below w.heap.size w w') : ItR ev e w' base v l := h.kept fun b e => hb.block b (h.lt e).2
theorem ItR.slice (h : ItR ev e w base v l) : ∃ p c, v = .slice p l.length c ∧ l.length ≤ c ∧ c ≤ 9223372036854775807 := by
  rcases h with ⟨rfl, rfl⟩ | ⟨g, o, c, cur, rfl, h1, h2, h3, h4, h5⟩
  · exact ⟨_, _, rfl, Nat.le_refl _, by decide⟩
  · exact ⟨_, _, rfl, h3, h4⟩

theorem row_cells {g o : Nat} {cur : Array Value} {t : TypeId} {xs : List Value} {n : Nat} (hg : w.heap[g]? = some (.cells cur t (0, 0))) (ht : (cur.toList.drop o).take n = xs) {j : Nat} {u : Value} (hu : xs[j]? = some u) : w.cell? ⟨g, o + j, none⟩ = some u := by
  rw [cell_of_row _ _ _ _ _ (0, 0) hg]
  rw [← ht, List.getElem?_take] at hu
  split at hu
  · rw [List.getElem?_drop] at hu
    simpa using hu
  · cases hu

theorem ItR.cell (h : ItR ev e w base v l) (hn : 0 < l.length) : ∃ g o c, v = .slice (some ⟨g, o, none⟩) l.length c ∧ l.length ≤ c ∧ c ≤ 9223372036854775807 ∧ ∀ i x, l[i]? = some x → w.cell? ⟨g, o + i * 2, none⟩ = some (ev x.1) ∧ w.cell? ⟨g, o + i * 2 + 1, none⟩ = some (.int .u64 (x.2 : Int)) := by
  rcases h with ⟨rfl, rfl⟩ | ⟨g, o, c, cur, rfl, h1, h2, h3, h4, h5, h6⟩
  · cases hn
  · refine ⟨g, o, c, rfl, h3, h4, fun i x hi => ?_⟩
    obtain ⟨k1, k2⟩ := flatE_get ev l i x hi
    exact ⟨row_cells h2 h6 k1, row_cells h2 h6 k2⟩
end

theorem run_room_at {P : Program} (w : World) (t ty e : TypeId) (i : TypeInfo) (ht : P.underlying t = some (.slice e)) (hi : P.info? e = some i)
    (g o sLen sCap : Nat) (cur : Array Value) (hg : w.heap[g]? = some (.cells cur e (0, 0)))
    (a : Addr) (m c : Nat) (news : List Value) (hl : news.length = m * i.size) (hnews : ∀ j u, news[j]? = some u → w.cell? (a.add j) = some u) (h1 : ∀ u ∈ news, u.oneCell' = true)
    (hroom : sLen + m ≤ sCap) (hfit : o + sLen * i.size + news.length ≤ cur.size) :
    (Builtin.append_ #[t, t] ty #[.slice (some ⟨g, o, none⟩) sLen sCap, .slice (some a) m c]).run P w =
      .ok (.slice (some ⟨g, o, none⟩) (sLen + m) sCap) (w.setRow g (cur.toList.take (o + sLen * i.size) ++ news ++ cur.toList.drop (o + sLen * i.size + news.length)).toArray) := by
  have hf := run_firstCells_some (P := P) w i.size m a m c news hl hnews
  have hst := run_storeCells_at P g (o + sLen * i.size) e news 0 cur w hg (by simpa using hfit) h1
  simp only [Nat.add_zero] at hst
  simp [Builtin.append_, run_underlying ht, sizeOf, typeInfo, hi, Builtin.lenOf, hroom, hf, Addr.add_lit, hst]

theorem take_room {α : Type} (C N F : List α) (o a : Nat) (hF : (C.drop o).take a = F) (ha : F.length = a) (hfit : o + a + N.length ≤ C.length) :
    (((C.take (o + a) ++ N ++ C.drop (o + a + N.length)).drop o).take (a + N.length)) = F ++ N := by
  have h1 : (C.take (o + a)).drop o = F := by rw [List.drop_take, ← hF]; congr 1; omega
  rw [List.append_assoc, List.drop_append, List.length_take, h1, List.take_append, List.take_of_length_le (by omega), ha]
  congr 1
  rw [show o - min (o + a) C.length = 0 by omega, List.drop_zero, Nat.add_sub_cancel_left, List.take_left' rfl]

section
variable {α : Type} {ev : α → Value} {e : TypeId} {w : World} {base : Nat} {v : Value} {l : List (α × Nat)}

/-- 'append(v, item)'. -/
theorem run_app_it {P : Program} (he : ∀ a, (ev a).oneCell' = true) {t : TypeId} (ty : TypeId) {z : Value} {by' : Nat} (ht : P.underlying t = some (.slice e)) (hi : (P.info? e).map (fun i => (i.zero, i.size, i.bytes)) = some (some z, 2, by')) (hzc : z.cells.size = 2) (hby : by' ≤ 24)
    (h : ItR ev e w base v l) (x : α × Nat) (q : Nat) (hq0 : w.cell? ⟨q, 0, none⟩ = some (ev x.1)) (hq1 : w.cell? ⟨q, 1, none⟩ = some (.int .u64 (x.2 : Int))) (hbase : base ≤ w.heap.size) (hl : l.length ≤ 2000000) :
    ∃ v' w', (Builtin.append_ #[t, t] ty #[v, .slice (some ⟨q, 0, none⟩) 1 1]).run P w = .ok v' w' ∧ ItR ev e w' base v' (l ++ [x]) ∧ w.grownBy w' v.ownBlock ∧ (v'.ownBlock = v.ownBlock ∨ v'.ownBlock = some w.heap.size) := by
  obtain ⟨i, hi0, hz, hs, hb⟩ := info_parts hi
  have hN : ∀ j u, (flatE ev [x])[j]? = some u → w.cell? ((⟨q, 0, none⟩ : Addr).add j) = some u := fun j u hu => by
    rw [Addr.add_lit, Nat.zero_add]
    match j, hu with
    | 0, hu => cases hu; exact hq0
    | 1, hu => cases hu; exact hq1
    | j + 2, hu => cases hu
  have hN1 : (flatE ev [x]).length = 1 * i.size := by rw [hs]; rfl
  have hol := flatE_one ev he [x]
  have grown : ∀ (old : Nat), (w.drew.alloc (.cells ((flatE ev l).toArray ++ (flatE ev [x]).toArray ++ Builtin.zeroCells z.cells (grownCap w (l.length + 1) old e - (l.length + 1))) e)) |> fun w' => ItR ev e w' base (.slice (some ⟨w.heap.size, 0, none⟩) (l.length + 1) (grownCap w (l.length + 1) old e)) (l ++ [x]) := by
    intro old
    have hge := grownCap_ge w (l.length + 1) old e
    have hcm : grownCap w (l.length + 1) old e ≤ maxLen := grownCap_le_maxLen w (l.length + 1) old e (by rw [maxLen_nat]; omega)
    rw [maxLen_nat] at hcm
    refine .inr ⟨w.heap.size, 0, _, _, by rw [List.length_append]; rfl, hbase, heap_alloc_new w.drew _, by rw [List.length_append]; exact hge, hcm, ?_, ?_⟩
    · simp only [Array.size_append, List.size_toArray, size_zeroCells, hzc, flatE_len, List.length_singleton]
      omega
    · simp only [Array.toList_append, List.drop_zero]
      rw [flatE_append, show (l ++ [x]).length * 2 = (flatE ev l ++ flatE ev [x]).length by rw [← flatE_append, flatE_len]]
      exact List.take_left
  rcases h with ⟨rfl, rfl⟩ | ⟨g, o, c, cur, rfl, h1, h2, h3, h4, h5, h6⟩
  · refine ⟨_, _, run_append_nil w t ty e i z ht hi0 hz ⟨q, 0, none⟩ 1 1 _ hN1 hN (by decide) (by decide) (by omega), ?_, ⟨rfl, rfl, rfl, by simp, fun k hk _ => Below.heap_alloc w.drew _ k hk⟩, .inr rfl⟩
    exact grown 0
  · by_cases hr : l.length + 1 ≤ c
    · have hlen : (flatE ev l).length = l.length * 2 := flatE_len ev l
      refine ⟨_, _, run_room_at w t ty e i ht hi0 g o l.length c cur h2 ⟨q, 0, none⟩ 1 1 _ hN1 hN hol hr (by rw [hs, flatE_len]; simp; omega), .inr ⟨g, o, c, _, by rw [List.length_append]; rfl, h1, setRow_heap _ _ _ _ _ _ h2, by simpa using hr, h4, ?_, ?_⟩, ⟨rfl, rfl, rfl, by simp, fun k hk hne => setRow_other _ _ _ _ (fun e => hne (by rw [e]; rfl))⟩, .inl rfl⟩
      · rw [hs, flatE_len]
        simp
        omega
      · rw [hs, List.toList_toArray, flatE_append, List.length_append]
        rw [show (l.length + [x].length) * 2 = l.length * 2 + (flatE ev [x]).length by rw [flatE_len]; simp; omega]
        exact take_room _ _ _ o _ h6 hlen (by rw [flatE_len, Array.length_toList]; simp; omega)
    · have holds : ∀ j u, (flatE ev l)[j]? = some u → w.cell? ((⟨g, o, none⟩ : Addr).add j) = some u := fun j u hu => by
        rw [Addr.add_lit]; exact row_cells h2 h6 hu
      have hbb : (l.length + 1) * i.bytes ≤ (l.length + 1) * 24 := Nat.mul_le_mul_left _ (by omega)
      exact ⟨_, _, run_append_grow w t ty e i z ht hi0 hz ⟨g, o, none⟩ l.length c (flatE ev l) (by rw [hs, flatE_len]) holds ⟨q, 0, none⟩ 1 1 _ hN1 hN (by omega) (by omega) (growslice_fits (by omega) (by omega)), grown c, ⟨rfl, rfl, rfl, by simp, fun k hk _ => Below.heap_alloc w.drew _ k hk⟩, .inr rfl⟩
end
end Go.Proofs.Ytmmiommfbkcebaa
