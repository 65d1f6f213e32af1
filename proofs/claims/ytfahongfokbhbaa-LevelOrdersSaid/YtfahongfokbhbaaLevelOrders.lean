/- The law LevelOrders walked. -/
import Derived.Test.YtfahongfokbhbaaLvCmp
import Derived.Test.YtfahongfokbhbaaReg
import Derived.Lib.SmallJoins
import Derived.Deep.Cut
import Derived.Deep.CutRange
import Derived.Deep.DeepCutAuto
namespace Go.Proofs.Ytfahongfokbhbaa
open Go.RowKit

set_option maxRecDepth 100000 in
theorem ccompare_any (i a j b : Nat) (w : World) :
    Calls Try.prog 28 #[.agg #[.int .u64 (i : Int), .int .u64 (a : Int)], .agg #[.int .u64 (j : Int), .int .u64 (b : Int)]] w fun r w' => r = .returned (.int .i64 (cmpI i a j b)) ∧ Below w.heap.size w w' := by
  have HC := Lib.hid (fun w => compare_any i a j b w)
  obtain ⟨W, hW, hsz, hbW, g0, g1, g2, g3⟩ := two_boxes w (.int .u64 (i : Int)) (.int .u64 (a : Int)) (.int .u64 (j : Int)) (.int .u64 (b : Int)) 41 41
  have HbW := Lib.hid hbW
  clear hbW hsz
  generalize cmpI i a j b = R at *
  go_enter Try.func28, Try.ntmps28
  go_upto_region 1 with fail
  rw [← hW]
  clear hW
  go_wp2_with fail
  refine (HC.out _).mono ?_
  rintro r w2 ⟨rfl, hb⟩
  have Hb := Lib.hid (HbW.out.trans (hb.mono HbW.out.size))
  clear hb
  go_wp2
  go_ret
  exact ⟨rfl, Hb.out⟩

theorem cmpU_cases (a b : Nat) : (a < b ∧ cmpU a b = -1) ∨ (a = b ∧ cmpU a b = 0) ∨ (b < a ∧ cmpU a b = 1) := by
  unfold cmpU
  split
  · exact .inl ⟨by assumption, rfl⟩
  · split
    · exact .inr (.inr ⟨by assumption, rfl⟩)
    · exact .inr (.inl ⟨by omega, rfl⟩)

theorem cmpI_cases (i a j b : Nat) : ((a < b ∨ (a = b ∧ i < j)) ∧ cmpI i a j b = -1) ∨ ((i = j ∧ a = b) ∧ cmpI i a j b = 0) ∨ ((b < a ∨ (a = b ∧ j < i)) ∧ cmpI i a j b = 1) := by
  unfold cmpI
  by_cases h : a = b
  · rw [if_pos h]
    rcases cmpU_cases i j with ⟨h1, h2⟩ | ⟨h1, h2⟩ | ⟨h1, h2⟩
    · exact .inl ⟨.inr ⟨h, h1⟩, h2⟩
    · exact .inr (.inl ⟨⟨h1, h⟩, h2⟩)
    · exact .inr (.inr ⟨.inr ⟨h, h1⟩, h2⟩)
  · rw [if_neg h]
    rcases cmpU_cases a b with ⟨h1, h2⟩ | ⟨h1, h2⟩ | ⟨h1, h2⟩
    · exact .inl ⟨.inl h1, h2⟩
    · exact absurd h1 h
    · exact .inr (.inr ⟨.inl h1, h2⟩)

theorem cmpI_neg (i a j b : Nat) : cmpI j b i a = -cmpI i a j b := by
  rcases cmpI_cases i a j b with ⟨h1, h2⟩ | ⟨h1, h2⟩ | ⟨h1, h2⟩ <;> rcases cmpI_cases j b i a with ⟨h3, h4⟩ | ⟨h3, h4⟩ | ⟨h3, h4⟩ <;> rw [h2, h4] <;> omega

/-- Three items lie in boxes. -/
def ThreeAt (w0 : World) (i a j b k c : Nat) (p q r : Value) (w : World) : Prop := ∃ x y z, p = .pointer (some ⟨x, 0, none⟩) ∧ q = .pointer (some ⟨y, 0, none⟩) ∧ r = .pointer (some ⟨z, 0, none⟩) ∧ Below w0.heap.size w0 w ∧ (w0.heap.size ≤ x ∧ w0.heap.size ≤ y ∧ w0.heap.size ≤ z) ∧
  w.heap[x]? = some (.cells (itC i a) 41 (0, 0)) ∧ w.heap[y]? = some (.cells (itC j b) 41 (0, 0)) ∧ w.heap[z]? = some (.cells (itC k c) 41 (0, 0))

/-- A box of an item that has been laid. -/
def BoxF (v : Value) (lo up : Nat) (W : World) : Prop := v = .pointer (some ⟨lo, 0, none⟩) ∧ lo < up ∧ W.heap[lo]? = some (.cells (itC 0 0) 41 (0, 0))

theorem box_at {W : World} {x i a : Nat} {t : TypeId} (h : W.heap[x]? = some (.cells (itC i a) t (0, 0))) : W.cell? ⟨x, 0, none⟩ = some (.int .u64 (i : Int)) ∧ W.cell? ⟨x, 1, none⟩ = some (.int .u64 (a : Int)) ∧ (∀ o, W.frozen? ⟨x, o, none⟩ = false) := by
  refine ⟨?_, ?_, fun o => by simp [World.frozen?, h]⟩
  · rw [cell_of_row _ _ _ _ _ (0, 0) h]; rfl
  · rw [cell_of_row _ _ _ _ _ (0, 0) h]; rfl

theorem box_set {W : World} {x i a : Nat} {t : TypeId} (h : W.heap[x]? = some (.cells (itC i a) t (0, 0))) (j b : Nat) (n : Nat) (hx : n ≤ x) : ((W.setCell ⟨x, 0, none⟩ (.int .u64 (j : Int))).setCell ⟨x, 1, none⟩ (.int .u64 (b : Int))).heap[x]? = some (.cells (itC j b) t (0, 0)) ∧
    (∀ y, y ≠ x → ((W.setCell ⟨x, 0, none⟩ (.int .u64 (j : Int))).setCell ⟨x, 1, none⟩ (.int .u64 (b : Int))).heap[y]? = W.heap[y]?) ∧ Below n W ((W.setCell ⟨x, 0, none⟩ (.int .u64 (j : Int))).setCell ⟨x, 1, none⟩ (.int .u64 (b : Int))) := by
  refine ⟨?_, fun y hy => ?_, (Below.refl n W).setCell hx _ |>.setCell hx _⟩
  · have h1 := Joins.block_setCell (i := 0) h (.int .u64 (j : Int))
    have h2 := Joins.block_setCell (i := 1) h1 (.int .u64 (b : Int))
    rw [h2]
    rfl
  · rw [heap_setCell_other _ _ _ _ hy, heap_setCell_other _ _ _ _ hy]

set_option maxRecDepth 100000 in
set_option maxHeartbeats 6400000 in
theorem levelOrders_any (i a j b k c : Nat) (w : World) :
    Calls Try.prog 5 #[.agg #[.int .u64 (i : Int), .int .u64 (a : Int)], .agg #[.int .u64 (j : Int), .int .u64 (b : Int)], .agg #[.int .u64 (k : Int), .int .u64 (c : Int)]] w fun r w' => r = .returned (.bool true) ∧ Below w.heap.size w w' := by
  obtain ⟨w3, hw3⟩ : ∃ w3, w3 = ((w.alloc (.cells #[.int .u64 (i : Int), .int .u64 (a : Int)] 36)).alloc (.cells #[.int .u64 (j : Int), .int .u64 (b : Int)] 36)).alloc (.cells #[.int .u64 (k : Int), .int .u64 (c : Int)] 36) := ⟨_, rfl⟩
  have c0 : w3.cell? ⟨w.heap.size, 0, none⟩ = some (.int .u64 (i : Int)) := by rw [hw3]; go_simp
  have c1 : w3.cell? ⟨w.heap.size, 1, none⟩ = some (.int .u64 (a : Int)) := by rw [hw3]; go_simp
  have c2 : w3.cell? ⟨w.heap.size + 1, 0, none⟩ = some (.int .u64 (j : Int)) := by rw [hw3]; go_simp
  have c3 : w3.cell? ⟨w.heap.size + 1, 1, none⟩ = some (.int .u64 (b : Int)) := by rw [hw3]; go_simp
  have c4 : w3.cell? ⟨w.heap.size + 1 + 1, 0, none⟩ = some (.int .u64 (k : Int)) := by rw [hw3]; go_simp
  have c5 : w3.cell? ⟨w.heap.size + 1 + 1, 1, none⟩ = some (.int .u64 (c : Int)) := by rw [hw3]; go_simp
  have Hb3 := Lib.hid (show Below w.heap.size w w3 from by rw [hw3]; exact (((Below.refl _ _).alloc (Nat.le_refl _) _).alloc (by simp) _).alloc (by simp; omega) _)
  have HK := Lib.hid (fun W (hW : Below w3.heap.size w3 W) => And.intro (And.intro (cell_below hW c0) (cell_below hW c1)) (And.intro (And.intro (cell_below hW c2) (cell_below hW c3)) (And.intro (cell_below hW c4) (cell_below hW c5))))
  clear c0 c1 c2 c3 c4 c5
  go_enter Try.func5, Try.ntmps5
  go_upto_region 1 with fail
  rw [← hw3]
  clear hw3
  go_cut [7, 8, 9] (fun p q r wx => ThreeAt w3 i a j b k c p q r wx)
  case first =>
    refine wp_region_held_drew (S := fun W => Below w3.heap.size w3 W) (by kernel_rfl) ((Below.refl _ _).drew) (fun hHeld => ?_)
    refine wpAnyH_take (i := 0) (oi := { dst := some 11, op := Op.load 36 (Operand.tmp 3), type := 36, pos := "law.go:98", after := #[], guard := none }) (v := .agg #[.int .u64 (i : Int), .int .u64 (a : Int)]) rfl (by kernel_rfl) (by kernel_rfl) (by kernel_rfl) (fun _ _ _ h => h) (Or.inl ⟨by rfl, ?y0⟩) hHeld ?r0
    case y0 =>
      intro W hW
      obtain ⟨⟨c0, c1⟩, ⟨c2, c3⟩, c4, c5⟩ := HK.out W hW
      go_simp
    try simp only [Act.put, List.setIfInBounds_toArray, List.set_cons_zero, List.set_cons_succ]
    refine wpAnyH_take (i := 1) (oi := { dst := some 12, op := Op.load 36 (Operand.tmp 4), type := 36, pos := "law.go:98", after := #[{ on := 6, ground := Ground.gcOnly Departure.lateStores }], guard := none }) (v := .agg #[.int .u64 (j : Int), .int .u64 (b : Int)]) rfl (by kernel_rfl) (by kernel_rfl) (by kernel_rfl) (fun _ _ _ h => h) (Or.inl ⟨by rfl, ?y1⟩) hHeld ?r1
    case y1 =>
      intro W hW
      obtain ⟨⟨c0, c1⟩, ⟨c2, c3⟩, c4, c5⟩ := HK.out W hW
      go_simp
    try simp only [Act.put, List.setIfInBounds_toArray, List.set_cons_zero, List.set_cons_succ]
    refine wpAnyH_take (i := 2) (oi := { dst := some 13, op := Op.load 36 (Operand.tmp 5), type := 36, pos := "law.go:98", after := #[{ on := 7, ground := Ground.gcOnly Departure.lateStores }], guard := none }) (v := .agg #[.int .u64 (k : Int), .int .u64 (c : Int)]) rfl (by kernel_rfl) (by kernel_rfl) (by kernel_rfl) (fun _ _ _ h => h) (Or.inl ⟨by rfl, ?y2⟩) hHeld ?r2
    case y2 =>
      intro W hW
      obtain ⟨⟨c0, c1⟩, ⟨c2, c3⟩, c4, c5⟩ := HK.out W hW
      go_simp
    try simp only [Act.put, List.setIfInBounds_toArray, List.set_cons_zero, List.set_cons_succ]
    refine wpAnyH_indepT (fuel := 3) [(3, 7), (4, 8), (5, 9)] (fun _ v lo up W => BoxF v lo up W) (fun _ => undef) rfl (by kernel_rfl) (by decide) (by kernel_rfl) ?hop ?hF ?hS ?cont
    case hop =>
      intro i hi us w4 K hb4 hK
      simp only [List.map_cons, List.map_nil, List.mem_cons, List.not_mem_nil, or_false] at hi
      rcases hi with rfl | rfl | rfl
      · refine wpOp_at (o := { dst := some 7, op := Op.alloc 41, type := 0, pos := "law.go:98", after := #[], guard := none }) rfl rfl ?_
        simp only [frT, List.foldl_cons, List.foldl_nil, Act.put, List.setIfInBounds_toArray, List.set_cons_zero, List.set_cons_succ]
        go_simp
        exact hK _ _ ((Below.refl _ _).alloc (Nat.le_refl _) _) ⟨rfl, by simp, heap_alloc_new _ _⟩
      · refine wpOp_at (o := { dst := some 8, op := Op.alloc 41, type := 0, pos := "law.go:98", after := #[], guard := none }) rfl rfl ?_
        simp only [frT, List.foldl_cons, List.foldl_nil, Act.put, List.setIfInBounds_toArray, List.set_cons_zero, List.set_cons_succ]
        go_simp
        exact hK _ _ ((Below.refl _ _).alloc (Nat.le_refl _) _) ⟨rfl, by simp, heap_alloc_new _ _⟩
      · refine wpOp_at (o := { dst := some 9, op := Op.alloc 41, type := 0, pos := "law.go:98", after := #[], guard := none }) rfl rfl ?_
        simp only [frT, List.foldl_cons, List.foldl_nil, Act.put, List.setIfInBounds_toArray, List.set_cons_zero, List.set_cons_succ]
        go_simp
        exact hK _ _ ((Below.refl _ _).alloc (Nat.le_refl _) _) ⟨rfl, by simp, heap_alloc_new _ _⟩
    case hF => intro i hi v lo hi W1 W2 h hb; exact ⟨h.1, h.2.1, (hb.block _ (Array.getElem?_eq_some_iff.1 h.2.2).1).trans h.2.2⟩
    case hS => intro W hW; exact hHeld.trans (hW.mono (Nat.le_refl _))
    case cont =>
      intro us lo hi w4 hb4 hf hd
      obtain ⟨⟨e3, l3, q3⟩, m3, n3⟩ := hf 3 (by decide)
      obtain ⟨⟨e4, l4, q4⟩, m4, n4⟩ := hf 4 (by decide)
      obtain ⟨⟨e5, l5, q5⟩, m5, n5⟩ := hf 5 (by decide)
      have d34 : lo 3 ≠ lo 4 := by have := hd 3 (by decide) 4 (by decide) (by decide); omega
      have d35 : lo 3 ≠ lo 5 := by have := hd 3 (by decide) 5 (by decide) (by decide); omega
      have d45 : lo 4 ≠ lo 5 := by have := hd 4 (by decide) 5 (by decide) (by decide); omega
      clear hf hd
      rw [World.size_drew] at m3 m4 m5
      simp only [frT, List.foldl_cons, List.foldl_nil, Act.put, List.setIfInBounds_toArray, List.set_cons_zero, List.set_cons_succ]
      rw [e3, e4, e5]
      generalize lo 3 = X at *
      generalize lo 4 = Y at *
      generalize lo 5 = Z at *
      have hbw : Below w3.heap.size w3 w4 := hHeld.trans hb4
      clear hb4
      obtain ⟨c0, c1, cf⟩ := box_at q3
      refine wpAnyH_ready (rs := [6]) (by kernel_rfl) (by simp) ?_
      refine AllReadyH.cons (o := { dst := none, op := Op.store 41 (Operand.tmp 7) (Operand.tmp 11), type := 0, pos := "law.go:98", after := #[{ on := 3, ground := Ground.data }, { on := 0, ground := Ground.data }, { on := 0, ground := Ground.phase }, { on := 1, ground := Ground.textOnly Departure.lateStores }, { on := 2, ground := Ground.textOnly Departure.lateStores }, { on := 3, ground := Ground.phase }, { on := 4, ground := Ground.phase }, { on := 5, ground := Ground.phase }], guard := none }) rfl (fun K hK => ?_) AllReadyH.nil
      go_simp
      obtain ⟨s1, s2, s3⟩ := box_set q3 i a _ m3
      generalize World.setCell (World.setCell w4 _ _) _ _ = w5 at *
      have hbw2 : Below w3.heap.size w3 w5 := hbw.trans s3
      refine hK.out _ _ hbw2 (fun _ => ?_)
      clear hK K c0 c1 cf
      replace q4 := (s2 Y d34.symm).trans q4
      replace q5 := (s2 Z d35.symm).trans q5
      replace q3 := s1
      clear s1 s2 s3 hbw
      rename Below w3.heap.size w3 w5 => hbw
      obtain ⟨c0, c1, cf⟩ := box_at q4
      refine wpAnyH_ready (rs := [7]) (by kernel_rfl) (by simp) ?_
      refine AllReadyH.cons (o := { dst := none, op := Op.store 41 (Operand.tmp 8) (Operand.tmp 12), type := 0, pos := "law.go:98", after := #[{ on := 4, ground := Ground.data }, { on := 1, ground := Ground.data }, { on := 6, ground := Ground.chain }, { on := 0, ground := Ground.phase }, { on := 1, ground := Ground.phase }, { on := 2, ground := Ground.textOnly Departure.lateStores }, { on := 3, ground := Ground.phase }, { on := 4, ground := Ground.phase }, { on := 5, ground := Ground.phase }, { on := 6, ground := Ground.phase }], guard := none }) rfl (fun K hK => ?_) AllReadyH.nil
      go_simp
      obtain ⟨s1, s2, s3⟩ := box_set q4 j b _ m4
      generalize World.setCell (World.setCell w5 _ _) _ _ = w6 at *
      have hbw2 : Below w3.heap.size w3 w6 := hbw.trans s3
      refine hK.out _ _ hbw2 (fun _ => ?_)
      clear hK K c0 c1 cf
      replace q3 := (s2 X d34).trans q3
      replace q5 := (s2 Z d45.symm).trans q5
      replace q4 := s1
      clear s1 s2 s3 hbw
      rename Below w3.heap.size w3 w6 => hbw
      obtain ⟨c0, c1, cf⟩ := box_at q5
      refine wpAnyH_ready (rs := [8]) (by kernel_rfl) (by simp) ?_
      refine AllReadyH.cons (o := { dst := none, op := Op.store 41 (Operand.tmp 9) (Operand.tmp 13), type := 0, pos := "law.go:98", after := #[{ on := 5, ground := Ground.data }, { on := 2, ground := Ground.data }, { on := 7, ground := Ground.chain }, { on := 0, ground := Ground.phase }, { on := 1, ground := Ground.phase }, { on := 2, ground := Ground.phase }, { on := 3, ground := Ground.phase }, { on := 4, ground := Ground.phase }, { on := 5, ground := Ground.phase }, { on := 6, ground := Ground.phase }, { on := 7, ground := Ground.phase }], guard := none }) rfl (fun K hK => ?_) AllReadyH.nil
      go_simp
      obtain ⟨s1, s2, s3⟩ := box_set q5 k c _ m5
      generalize World.setCell (World.setCell w6 _ _) _ _ = w7 at *
      have hbw2 : Below w3.heap.size w3 w7 := hbw.trans s3
      refine hK.out _ _ hbw2 (fun _ => ?_)
      clear hK K c0 c1 cf
      replace q3 := (s2 X d35).trans q3
      replace q4 := (s2 Y d45).trans q4
      replace q5 := s1
      clear s1 s2 s3 hbw
      rename Below w3.heap.size w3 w7 => hbw
      refine wpAnyH_done (by kernel_rfl) ?_ _
      go_wp2_with fail
      go_meet
      exact ⟨X, Y, Z, rfl, rfl, rfl, hbw, ⟨m3, m4, m5⟩, q3, q4, q5⟩
  case rest =>
    obtain ⟨X, Y, Z, rfl, rfl, rfl, hbw, ⟨m3, m4, m5⟩, q3, q4, q5⟩ := hcut
    have HW := Lib.hid (fun W (hW : Below wc.heap.size wc W) => And.intro (HK.out W (hbw.trans (hW.mono hbw.size))) (And.intro (box_at ((hW.block _ (Array.getElem?_eq_some_iff.1 q3).1).trans q3)) (And.intro (box_at ((hW.block _ (Array.getElem?_eq_some_iff.1 q4).1).trans q4)) (box_at ((hW.block _ (Array.getElem?_eq_some_iff.1 q5).1).trans q5)))))
    have HCC := Lib.hid (fun i a j b w => ccompare_any i a j b w)
    have HRC := Lib.hid (fun w => rcompare_any i a j b w)
    have HA := Lib.hid (fun w => alive_any w)
    have Hbb := Lib.hid (Hb3.out.trans (hbw.mono Hb3.out.size))
    have hng := cmpI_neg i a j b
    have hc1 := cmpI_cases i a j b
    have hc2 := cmpI_cases j b k c
    have hc3 := cmpI_cases i a k c
    clear q3 q4 q5 hbw HK Hb3 m3 m4 m5
    have HbS := Lib.hid Hbb.out.size
    generalize hN : w.heap.size = N at *
    have HN := Lib.hid hN
    clear hN
    have Hbwc := Lib.hid (Below.refl wc.heap.size wc)
    obtain ⟨⟨⟨c0, c1⟩, ⟨c2, c3⟩, c4, c5⟩, ⟨x0, x1, _⟩, ⟨y0, y1, _⟩, z0, z1, _⟩ := HW.out wc Hbwc.out
    obtain ⟨R1, hR1⟩ : ∃ R1, R1 = cmpI i a j b := ⟨_, rfl⟩
    obtain ⟨R2, hR2⟩ : ∃ R2, R2 = cmpI j b k c := ⟨_, rfl⟩
    obtain ⟨R3, hR3⟩ : ∃ R3, R3 = cmpI i a k c := ⟨_, rfl⟩
    have H1 := Lib.hid (fun w => (HCC.out i a j b w))
    have H2 := Lib.hid (fun w => (HCC.out j b k c w))
    have H3 := Lib.hid (fun w => (HCC.out i a k c w))
    have H4 := Lib.hid (fun w => (HCC.out j b i a w))
    rw [hng] at H4
    rw [← hR1] at hc1 H1 H4 HRC
    rw [← hR2] at hc2 H2
    rw [← hR3] at hc3 H3
    have heq : ((R1 == 0) == ((i : Int) == (j : Int) && (a : Int) == (b : Int))) = true := by
      rw [beq_iff_eq, Bool.eq_iff_iff]
      simp only [beq_iff_eq, Bool.and_eq_true]
      omega
    have Htr := Lib.hid (show 0 < R1 ∨ 0 < R2 ∨ R3 ≤ 0 from by omega)
    have hr : -1 ≤ R1 ∧ R1 ≤ 1 := by omega
    obtain ⟨hr0, hr1⟩ := hr
    have Heq := Lib.hid heq
    clear hc1 hc2 hc3 hng hR1 hR2 hR3 heq HCC
    go_wp2_with fail
    refine (H1.out _).mono ?_
    rintro r w5 ⟨rfl, hb⟩
    have Hbw5 := Lib.hid (Hbwc.out.trans (hb.mono Hbwc.out.size))
    clear hb c0 c1 c2 c3 c4 c5 x0 x1 y0 y1 z0 z1
    obtain ⟨⟨⟨c0, c1⟩, ⟨c2, c3⟩, c4, c5⟩, ⟨x0, x1, _⟩, ⟨y0, y1, _⟩, z0, z1, _⟩ := HW.out w5 Hbw5.out
    go_wp2_with fail
    refine (HA.out _).mono ?_
    rintro r w6 ⟨rfl, hb⟩
    have Hbw6 := Lib.hid (Hbw5.out.trans (hb.mono Hbw5.out.size))
    clear hb c0 c1 c2 c3 c4 c5 x0 x1 y0 y1 z0 z1
    obtain ⟨⟨⟨c0, c1⟩, ⟨c2, c3⟩, c4, c5⟩, ⟨x0, x1, _⟩, ⟨y0, y1, _⟩, z0, z1, _⟩ := HW.out w6 Hbw6.out
    go_wp2_with fail
    refine (HRC.out _).mono ?_
    rintro r w7 ⟨rfl, hb⟩
    have Hbw7 := Lib.hid (Hbw6.out.trans (hb.mono Hbw6.out.size))
    clear hb c0 c1 c2 c3 c4 c5 x0 x1 y0 y1 z0 z1
    obtain ⟨⟨⟨c0, c1⟩, ⟨c2, c3⟩, c4, c5⟩, ⟨x0, x1, _⟩, ⟨y0, y1, _⟩, z0, z1, _⟩ := HW.out w7 Hbw7.out
    go_wp2_with fail
    refine (H4.out _).mono ?_
    rintro r w8 ⟨rfl, hb⟩
    have Hbw8 := Lib.hid (Hbw7.out.trans (hb.mono Hbw7.out.size))
    clear hb c0 c1 c2 c3 c4 c5 x0 x1 y0 y1 z0 z1
    obtain ⟨⟨⟨c0, c1⟩, ⟨c2, c3⟩, c4, c5⟩, ⟨x0, x1, _⟩, ⟨y0, y1, _⟩, z0, z1, _⟩ := HW.out w8 Hbw8.out
    have hHeq := Heq.out
    by_cases hij : i = j
    · by_cases hab : a = b
      · subst hij
        subst hab
        have hR : R1 = 0 := by simpa using hHeq
        subst hR
        clear hHeq
        go_wp2_with fail
        refine (H2.out _).mono ?_
        rintro r w9 ⟨rfl, hb⟩
        have Hbw9 := Lib.hid (Hbw8.out.trans (hb.mono Hbw8.out.size))
        clear hb c0 c1 c2 c3 c4 c5 x0 x1 y0 y1 z0 z1
        obtain ⟨⟨⟨c0, c1⟩, ⟨c2, c3⟩, c4, c5⟩, ⟨x0, x1, _⟩, ⟨y0, y1, _⟩, z0, z1, _⟩ := HW.out w9 Hbw9.out
        by_cases hg : 0 < R2
        · go_wp2
          go_ret
          exact ⟨rfl, by rw [HN.out]; exact Hbb.out.trans (Hbw9.out.mono HbS.out)⟩
        · have hle : R3 ≤ 0 := by have := Htr.out; omega
          go_wp2_with fail
          refine (H3.out _).mono ?_
          rintro r w10 ⟨rfl, hb⟩
          have Hbw10 := Lib.hid (Hbw9.out.trans (hb.mono Hbw9.out.size))
          clear hb
          go_wp2
          go_ret
          exact ⟨rfl, by rw [HN.out]; exact Hbb.out.trans (Hbw10.out.mono HbS.out)⟩
      · subst hij
        have hq1 : ((a : Int) == (b : Int)) = false := by rw [beq_eq_false_iff_ne]; omega
        have hq2 : ¬ (a : Int) = (b : Int) := by omega
        have hR : R1 ≠ 0 := by rintro rfl; simp [hq1] at hHeq
        clear hHeq
        obtain rfl | rfl : R1 = -1 ∨ R1 = 1 := by omega
        · clear hR hr0 hr1
          go_wp2_with fail
          refine (H2.out _).mono ?_
          rintro r w9 ⟨rfl, hb⟩
          have Hbw9 := Lib.hid (Hbw8.out.trans (hb.mono Hbw8.out.size))
          clear hb c0 c1 c2 c3 c4 c5 x0 x1 y0 y1 z0 z1
          obtain ⟨⟨⟨c0, c1⟩, ⟨c2, c3⟩, c4, c5⟩, ⟨x0, x1, _⟩, ⟨y0, y1, _⟩, z0, z1, _⟩ := HW.out w9 Hbw9.out
          by_cases hg : 0 < R2
          · go_wp2
            go_ret
            exact ⟨rfl, by rw [HN.out]; exact Hbb.out.trans (Hbw9.out.mono HbS.out)⟩
          · have hle : R3 ≤ 0 := by have := Htr.out; omega
            go_wp2_with fail
            refine (H3.out _).mono ?_
            rintro r w10 ⟨rfl, hb⟩
            have Hbw10 := Lib.hid (Hbw9.out.trans (hb.mono Hbw9.out.size))
            clear hb
            go_wp2
            go_ret
            exact ⟨rfl, by rw [HN.out]; exact Hbb.out.trans (Hbw10.out.mono HbS.out)⟩
        · clear hR hr0 hr1
          go_wp2
          go_ret
          exact ⟨rfl, by rw [HN.out]; exact Hbb.out.trans (Hbw8.out.mono HbS.out)⟩
    · have hq1 : ((i : Int) == (j : Int)) = false := by rw [beq_eq_false_iff_ne]; omega
      have hq2 : ¬ (i : Int) = (j : Int) := by omega
      have hR : R1 ≠ 0 := by rintro rfl; simp [hq1] at hHeq
      clear hHeq
      obtain rfl | rfl : R1 = -1 ∨ R1 = 1 := by omega
      · clear hR hr0 hr1
        go_wp2_with fail
        refine (H2.out _).mono ?_
        rintro r w9 ⟨rfl, hb⟩
        have Hbw9 := Lib.hid (Hbw8.out.trans (hb.mono Hbw8.out.size))
        clear hb c0 c1 c2 c3 c4 c5 x0 x1 y0 y1 z0 z1
        obtain ⟨⟨⟨c0, c1⟩, ⟨c2, c3⟩, c4, c5⟩, ⟨x0, x1, _⟩, ⟨y0, y1, _⟩, z0, z1, _⟩ := HW.out w9 Hbw9.out
        by_cases hg : 0 < R2
        · go_wp2
          go_ret
          exact ⟨rfl, by rw [HN.out]; exact Hbb.out.trans (Hbw9.out.mono HbS.out)⟩
        · have hle : R3 ≤ 0 := by have := Htr.out; omega
          go_wp2_with fail
          refine (H3.out _).mono ?_
          rintro r w10 ⟨rfl, hb⟩
          have Hbw10 := Lib.hid (Hbw9.out.trans (hb.mono Hbw9.out.size))
          clear hb
          go_wp2
          go_ret
          exact ⟨rfl, by rw [HN.out]; exact Hbb.out.trans (Hbw10.out.mono HbS.out)⟩
      · clear hR hr0 hr1
        go_wp2
        go_ret
        exact ⟨rfl, by rw [HN.out]; exact Hbb.out.trans (Hbw8.out.mono HbS.out)⟩
end Go.Proofs.Ytfahongfokbhbaa
