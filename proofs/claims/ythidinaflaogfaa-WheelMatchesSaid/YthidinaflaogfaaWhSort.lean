/- slices.SortFunc of items by level.Compare. No condition but a bound of the length. -/
import Derived.Test.YthidinaflaogfaaSortLay
import Derived.Test.YthidinaflaogfaaWhApp
import Derived.Sort.LotA
namespace Go.Proofs.Ythidinaflaogfaa
open Go.RowKit Go.Sort

set_option maxRecDepth 100000 in
set_option maxHeartbeats 3200000 in
theorem cmpgrow_any (i a j b : Nat) (w : World) :
    Calls Try.prog 54 #[.agg #[.int .u64 (i : Int), .int .u64 (a : Int)], .agg #[.int .u64 (j : Int), .int .u64 (b : Int)]] w fun r w' => r = .returned (.int .i64 (cmpI i a j b)) ∧ ∃ q os, w' = grow (w.drewN q) os := by
  have HC := Lib.hid (fun a b w => cmp_any a b w)
  have e : cmpI i a j b = if cmpU a b = 0 then cmpU i j else cmpU a b := by
    unfold cmpI
    by_cases h : a = b
    · rw [if_pos h, if_pos (cmpU_zero.2 h)]
    · rw [if_neg h, if_neg (fun h' => h (cmpU_zero.1 h'))]
  rw [e]
  have HO := Lib.hid (fun (W : World) t => or_any W.heap.size (cmpU a b) (cmpU i j) (W.alloc (.cells #[.int .i64 (cmpU a b), .int .i64 (cmpU i j)] t)).drew (box2 W _ _ t).1 (box2 W _ _ t).2)
  clear e
  generalize (if cmpU a b = 0 then cmpU i j else cmpU a b) = R at *
  obtain ⟨W, hW, hsz, hbW, g0, g1, g2, g3⟩ := two_boxes w (.int .u64 (i : Int)) (.int .u64 (a : Int)) (.int .u64 (j : Int)) (.int .u64 (b : Int)) 44 44
  have HW := Lib.hid hW
  have Hsz := Lib.hid hsz
  clear hbW hsz
  go_enter Try.func54, Try.ntmps54
  go_wp2_with fail
  rw [← hW]
  clear hW
  go_region_held3 (fun w' => w'.cell? ⟨w.heap.size, 0, none⟩ = some (.int .u64 (i : Int)) ∧ w'.cell? ⟨w.heap.size, 1, none⟩ = some (.int .u64 (a : Int)) ∧ w'.cell? ⟨w.heap.size + 1, 0, none⟩ = some (.int .u64 (j : Int)) ∧ w'.cell? ⟨w.heap.size + 1, 1, none⟩ = some (.int .u64 (b : Int)))
    (first
      | exact ⟨g0, g1, g2, g3⟩
      | exact ⟨cell_below ((Below.refl _ _).alloc (Nat.le_refl _) _).drew g0, cell_below ((Below.refl _ _).alloc (Nat.le_refl _) _).drew g1, cell_below ((Below.refl _ _).alloc (Nat.le_refl _) _).drew g2, cell_below ((Below.refl _ _).alloc (Nat.le_refl _) _).drew g3⟩)
    (first
      | (go_at_call 69; (with_reducible refine (HC.out _ _ _).mono ?_); rintro r w2 ⟨rfl, rfl⟩)
      | (go_at_call 68; (with_reducible refine (HO.out _ _).mono ?_); rintro r w2 ⟨rfl, rfl⟩))
  go_wp2
  go_ret
  exact ⟨rfl, 1, _, by rw [HW.out, alloc_eq_grow, alloc_eq_grow, alloc_eq_grow, grow_grow, grow_grow]; rfl⟩

set_option maxRecDepth 100000 in
theorem lcompare_any (i a j b : Nat) (w : World) :
    Calls Try.prog 45 #[.agg #[.int .u64 (i : Int), .int .u64 (a : Int)], .agg #[.int .u64 (j : Int), .int .u64 (b : Int)]] w fun r w' => r = .returned (.int .i64 (cmpI i a j b)) ∧ ∃ q os, w' = grow (w.drewN q) os := by
  have HC := Lib.hid (fun w => cmpgrow_any i a j b w)
  generalize cmpI i a j b = R at *
  obtain ⟨W, hW, hsz, hbW, g0, g1, g2, g3⟩ := two_boxes w (.int .u64 (i : Int)) (.int .u64 (a : Int)) (.int .u64 (j : Int)) (.int .u64 (b : Int)) 44 44
  have HW := Lib.hid hW
  clear hbW hsz
  go_enter Try.func45, Try.ntmps45
  go_upto_region 1 with fail
  rw [← hW]
  clear hW
  go_wp2_with fail
  refine (HC.out _).mono ?_
  rintro r w2 ⟨rfl, q, os, hw2⟩
  have Hw2 := Lib.hid hw2
  clear hw2
  go_wp2
  go_ret
  exact ⟨rfl, q, #[_] ++ #[_] ++ os, by rw [Hw2.out, HW.out, alloc_eq_grow, alloc_eq_grow, grow_grow, show ∀ (W : World) (os : Array Obj) (q : Nat), (grow W os).drewN q = grow (W.drewN q) os from fun _ _ _ => rfl, grow_grow]⟩

/-- The cells of an item. -/
def encI (x : It) : List Value := [.int .u64 (x.1 : Int), .int .u64 (x.2 : Int)]
/-- The order of items. -/
def cfI (x y : It) : Int := cmpI x.1 x.2 y.1 y.2

theorem ltOf_cfI (x y : It) : ltOf cfI x y = ltI x y := rfl

theorem swoI : SWO (ltOf cfI) where
  irrefl x := ltI_irr x
  trans x y z h1 h2 := ltI_trans h1 h2
  ntrans x y z h1 h2 := by
    rw [ltOf_cfI] at *
    rw [Bool.eq_false_iff] at *
    intro h
    rw [ne_eq, ltI_iff] at h1 h2
    rw [ltI_iff] at h
    omega

theorem flatK_eq (l : List It) : flatK encI 2 l.toArray = (flatI l).toArray := by
  refine ext_get! (by simp [flatI_len]) fun t ht => ?_
  rw [size_flatK] at ht
  rw [get_flatK _ _ _ t ht]
  have hl : t / 2 < l.length := by simp at ht; omega
  obtain ⟨h1, h2⟩ := flatI_get l (t / 2) l[t / 2] (List.getElem?_eq_getElem hl)
  have e1 : l.toArray[t / 2]! = l[t / 2] := by simp [hl]
  rw [e1]
  have e2 : ∀ (v : Value), (flatI l)[t]? = some v → (flatI l).toArray[t]! = v := fun v h => by simp [h]
  rcases Nat.mod_two_eq_zero_or_one t with hm | hm
  · rw [hm, e2 _ (by rw [show t / 2 * 2 = t by omega] at h1; exact h1)]
    rfl
  · rw [hm, e2 _ (by rw [show t / 2 * 2 + 1 = t by omega] at h2; exact h2)]
    rfl

theorem isAggI (w : World) : (isAgg 44).run Try.prog w = .ok true w := by kernel_rfl
theorem sizeI (w : World) : (Go.sizeOf 44).run Try.prog w = .ok 2 w := by kernel_rfl

/-- What the sort leaves. -/
def SortEnd (w : World) (base blk n cap : Nat) (l : List It) (r : Ending) (w' : World) : Prop :=
  r = .returned (.tuple #[]) ∧ ∃ l', l'.Perm l ∧ l'.Pairwise (fun a b => ltI b a = false) ∧ OwnL w' base (.slice (some ⟨blk, 0, none⟩) n cap) l' ∧ w.grownBy w' (some blk)

set_option maxRecDepth 100000 in
theorem sort_any {w : World} {base blk n cap : Nat} {l : List It} (h : OwnL w base (.slice (some ⟨blk, 0, none⟩) n cap) l) (hn : l.length = n) (hl : n ≤ 100000) :
    Calls Try.prog 44 #[.slice (some ⟨blk, 0, none⟩) n cap, .func (.func 45) #[] #[]] w (SortEnd w base blk n cap l) := by
  subst hn
  have hlen : (flatI l).length = l.length * 2 := flatI_len l
  have hH : HoldsK encI 2 w blk 0 l.toArray := by
    intro j hj
    rw [size_flatK] at hj
    rw [Nat.zero_add, flatK_eq]
    refine ⟨?_, h.frozenAt j⟩
    rw [h.cellAt j hj]
    obtain ⟨v, hv⟩ : ∃ v, (flatI l)[j]? = some v := ⟨_, List.getElem?_eq_getElem (by rw [hlen]; simpa using hj)⟩
    rw [hv]
    simp [hv]
  have hblk := (World.ownsRow.lt h blk rfl).2
  have hcon := AnyQ.slices_SortFunc Try.sortIt 2 isAggI sizeI encI (fun _ => rfl) (fun x v hv => by simp [encI] at hv; rcases hv with rfl | rfl <;> rfl) cfI swoI 45 #[] blk 0 cap l.toArray w (enters_of Try.func45 (by kernel_rfl) rfl) (fun _ _ _ _ x y => lcompare_any x.1 x.2 y.1 y.2 _) hH hblk (by simp; omega)
  change Calls Try.prog 44 _ _ _ at hcon
  refine hcon.mono ?_
  rintro r w' ⟨e, d', m, os, ⟨hs, _, hperm⟩, hsort, hw'⟩
  have hsz : d'.size = l.length := by rw [hs]; simp
  refine ⟨e, d'.toList, ?_, ?_, ?_, ?_⟩
  · have e1 : d'.extract 0 l.toArray.size = d' := by rw [← hs]; simp
    rw [e1] at hperm
    simpa using hperm
  · rw [List.pairwise_iff_getElem]
    intro i j hi hj hij
    have := hsort i j (Nat.zero_le _) hij (by simp at hj ⊢; omega)
    rw [ltOf_cfI] at this
    simp at hi hj
    simpa [hi, hj] using this
  · have hH' := holdsK_sortWorldK encI 2 w blk 0 m l.toArray d' os hblk hH (by rw [hs])
    rw [← hw'] at hH'
    obtain ⟨h1, h2 | ⟨g, cap', cur, h2, h3, h4, h5, h6, h7, h8⟩⟩ := h
    · cases h2.1
    · cases h2
      have hb' : w'.heap[blk]? = some (.cells (putCells id 0 (flatK encI 2 d') cur) 44 (0, 0)) := by
        rw [hw']
        show (((Sort.ahead w m).heap.modify blk _) ++ os)[blk]? = _
        rw [Array.getElem?_append_left (by simpa [Sort.ahead] using hblk), Array.getElem?_modify, if_pos rfl]
        show Option.map _ w.heap[blk]? = _
        rw [h4]
        rfl
      refine ⟨by rw [flatI_len], .inr ⟨blk, cap, _, congrArg (fun n => Value.slice (some ⟨blk, 0, none⟩) n cap) (show l.length = d'.toList.length by simp [hsz]), h3, hb', by simpa [hsz] using h5, h6, by simp [putCells, h7], ?_⟩⟩
      refine List.ext_getElem? fun j => ?_
      rw [List.getElem?_take]
      by_cases hj : j < d'.toList.length * 2
      · rw [if_pos hj]
        have h9 := (hH' j (by simpa using hj)).1
        have h10 : flatK encI 2 d' = (flatI d'.toList).toArray := by
          have := flatK_eq d'.toList
          rwa [Array.toArray_toList] at this
        rw [h10] at hb' h9
        rw [Nat.zero_add, cell_of_row _ _ _ _ _ (0, 0) hb'] at h9
        rw [h10, Array.getElem?_toList, h9]
        obtain ⟨u, this⟩ : ∃ u, (flatI d'.toList)[j]? = some u := ⟨_, List.getElem?_eq_getElem (by rw [flatI_len]; exact hj)⟩
        rw [this]
        simp [this]
      · rw [if_neg hj, List.getElem?_eq_none (by rw [flatI_len]; omega)]
  · rw [hw']
    refine ⟨rfl, rfl, rfl, ?_, fun b hb hne => ?_⟩
    · show _ ≤ (((Sort.ahead w m).heap.modify blk _) ++ os).size
      simp [Sort.ahead]
    · show (((Sort.ahead w m).heap.modify blk _) ++ os)[b]? = _
      rw [Array.getElem?_append_left (by simpa [Sort.ahead] using hb), Array.getElem?_modify, if_neg (fun e => hne (by rw [e]))]
      rfl
end Go.Proofs.Ythidinaflaogfaa
