import Derived.Test.YtcapbaocchaenaaGreatDoorSG5
import Derived.Test.YtcapbaocchaenaaGreatDoorSG6
import Derived.Deep.RegionHeld3
import Derived.Deep.DeepCutAuto
import Derived.Deep.CutBlock
import Derived.Shelf.Abstract
/- The arrays of an event's checks, made and kept. -/
namespace Go.Proofs.YtcapbaocchaenaaGreatDoor
open Go.RowKit

attribute [local go_sem] run_store_func run_store_nilFunc

abbrev nil6 : Obj := .cells #[.nilFunc, .nilFunc, .nilFunc, .nilFunc, .nilFunc, .nilFunc] 108
abbrev emp6 (B : Nat) : Array Value := #[capV 133 B, capV 134 B, capV 135 B, capV 136 B, capV 137 B, capV 138 B]
abbrev rig6 (B : Nat) : Array Value := #[capV 139 B, capV 140 B, capV 141 B, capV 142 B, capV 143 B, capV 144 B]

theorem evFields_lt (k : Int) : ∀ x ∈ evFields k, x < 6 := by
  unfold evFields
  intro x hx
  repeat' split at hx
  all_goals simp at hx
  all_goals omega

/-- The functions that check the fields. -/
def rigF (i : Nat) : FuncId := if i = 0 then 139 else if i = 1 then 140 else if i = 2 then 141 else if i = 3 then 142 else if i = 4 then 143 else 144
def empF (i : Nat) : FuncId := if i = 0 then 133 else if i = 1 then 134 else if i = 2 then 135 else if i = 3 then 136 else if i = 4 then 137 else 138
def chkF (D : List Nat) (i : Nat) : FuncId := if i ∈ D then rigF i else empF i
def chkB (D : List Nat) (B1 B2 i : Nat) : Nat := if i ∈ D then B2 else B1
def arr6 (D : List Nat) (B1 B2 : Nat) : Array Value := #[capV (chkF D 0) (chkB D B1 B2 0), capV (chkF D 1) (chkB D B1 B2 1), capV (chkF D 2) (chkB D B1 B2 2), capV (chkF D 3) (chkB D B1 B2 3), capV (chkF D 4) (chkB D B1 B2 4), capV (chkF D 5) (chkB D B1 B2 5)]

theorem arr6_nil (B1 B2 : Nat) : arr6 [] B1 B2 = emp6 B1 := by simp [arr6, chkF, chkB, empF]
theorem rig6_get (B : Nat) (i : Nat) (hi : i < 6) : (rig6 B)[i]? = some (capV (rigF i) B) := by
  match i, hi with
  | 0, _ => rfl
  | 1, _ => rfl
  | 2, _ => rfl
  | 3, _ => rfl
  | 4, _ => rfl
  | 5, _ => rfl
theorem arr6_get (D : List Nat) (B1 B2 i : Nat) (hi : i < 6) : (arr6 D B1 B2)[i]? = some (capV (chkF D i) (chkB D B1 B2 i)) := by
  match i, hi with
  | 0, _ => rfl
  | 1, _ => rfl
  | 2, _ => rfl
  | 3, _ => rfl
  | 4, _ => rfl
  | 5, _ => rfl
theorem chk_put {D : List Nat} {i j : Nat} (h : j ≠ i) (B1 B2 : Nat) : chkF (D ++ [i]) j = chkF D j ∧ chkB (D ++ [i]) B1 B2 j = chkB D B1 B2 j := by
  simp [chkF, chkB, h]
theorem chk_new (D : List Nat) (i : Nat) (B1 B2 : Nat) : chkF (D ++ [i]) i = rigF i ∧ chkB (D ++ [i]) B1 B2 i = B2 := by
  simp [chkF, chkB]
theorem arr6_set (D : List Nat) (B1 B2 i : Nat) : (arr6 D B1 B2).setIfInBounds i (capV (rigF i) B2) = arr6 (D ++ [i]) B1 B2 := by
  apply Array.ext_getElem?
  intro j
  by_cases hj : j < 6
  · rw [arr6_get _ _ _ _ hj, Array.getElem?_setIfInBounds]
    by_cases h : i = j
    · subst h
      rw [if_pos rfl, (chk_new D i B1 B2).1, (chk_new D i B1 B2).2, if_pos (show i < (arr6 D B1 B2).size from hj)]
    · rw [if_neg h, arr6_get _ _ _ _ hj, (chk_put (Ne.symm h) B1 B2).1, (chk_put (D := D) (Ne.symm h) B1 B2).2]
  · rw [Array.getElem?_eq_none (by rw [Array.size_setIfInBounds]; show 6 ≤ j; omega), Array.getElem?_eq_none (by show 6 ≤ j; omega)]

theorem enters_rig (i : Nat) (args : Array Value) (W : World) : (callFunc (rigF i) args).run Tryz.prog W = .ok (.enter (rigF i) args) W := by
  unfold rigF
  repeat' split
  · exact enters_of Tryz.func139 (by kernel_rfl) rfl args W
  · exact enters_of Tryz.func140 (by kernel_rfl) rfl args W
  · exact enters_of Tryz.func141 (by kernel_rfl) rfl args W
  · exact enters_of Tryz.func142 (by kernel_rfl) rfl args W
  · exact enters_of Tryz.func143 (by kernel_rfl) rfl args W
  · exact enters_of Tryz.func144 (by kernel_rfl) rfl args W
theorem enters_emp (i : Nat) (args : Array Value) (W : World) : (callFunc (empF i) args).run Tryz.prog W = .ok (.enter (empF i) args) W := by
  unfold empF
  repeat' split
  · exact enters_of Tryz.func133 (by kernel_rfl) rfl args W
  · exact enters_of Tryz.func134 (by kernel_rfl) rfl args W
  · exact enters_of Tryz.func135 (by kernel_rfl) rfl args W
  · exact enters_of Tryz.func136 (by kernel_rfl) rfl args W
  · exact enters_of Tryz.func137 (by kernel_rfl) rfl args W
  · exact enters_of Tryz.func138 (by kernel_rfl) rfl args W

theorem idx6_0 (v0 v1 v2 v3 v4 v5 : Value) (W : World) : (Instr.index 108 (.agg #[v0, v1, v2, v3, v4, v5]) (.int .i64 0)).run Tryz.prog W = .ok v0 W := by kernel_rfl
theorem idx6_1 (v0 v1 v2 v3 v4 v5 : Value) (W : World) : (Instr.index 108 (.agg #[v0, v1, v2, v3, v4, v5]) (.int .i64 1)).run Tryz.prog W = .ok v1 W := by kernel_rfl
theorem idx6_2 (v0 v1 v2 v3 v4 v5 : Value) (W : World) : (Instr.index 108 (.agg #[v0, v1, v2, v3, v4, v5]) (.int .i64 2)).run Tryz.prog W = .ok v2 W := by kernel_rfl
theorem idx6_3 (v0 v1 v2 v3 v4 v5 : Value) (W : World) : (Instr.index 108 (.agg #[v0, v1, v2, v3, v4, v5]) (.int .i64 3)).run Tryz.prog W = .ok v3 W := by kernel_rfl
theorem idx6_4 (v0 v1 v2 v3 v4 v5 : Value) (W : World) : (Instr.index 108 (.agg #[v0, v1, v2, v3, v4, v5]) (.int .i64 4)).run Tryz.prog W = .ok v4 W := by kernel_rfl
theorem idx6_5 (v0 v1 v2 v3 v4 v5 : Value) (W : World) : (Instr.index 108 (.agg #[v0, v1, v2, v3, v4, v5]) (.int .i64 5)).run Tryz.prog W = .ok v5 W := by kernel_rfl

/-- Six stores into one block. -/
theorem set6 {w : World} {b : Nat} {v0 v1 v2 v3 v4 v5 : Value} {t : TypeId} {m : Nat × Nat} (h : w.heap[b]? = some (.cells #[v0, v1, v2, v3, v4, v5] t m)) (u0 u1 u2 u3 u4 u5 : Value) {n : Nat} (hn : n ≤ b) :
    ((((((w.setCell ⟨b, 0, none⟩ u0).setCell ⟨b, 1, none⟩ u1).setCell ⟨b, 2, none⟩ u2).setCell ⟨b, 3, none⟩ u3).setCell ⟨b, 4, none⟩ u4).setCell ⟨b, 5, none⟩ u5).heap[b]? = some (.cells #[u0, u1, u2, u3, u4, u5] t m) ∧
    (∀ c, c ≠ b → ((((((w.setCell ⟨b, 0, none⟩ u0).setCell ⟨b, 1, none⟩ u1).setCell ⟨b, 2, none⟩ u2).setCell ⟨b, 3, none⟩ u3).setCell ⟨b, 4, none⟩ u4).setCell ⟨b, 5, none⟩ u5).heap[c]? = w.heap[c]?) ∧
    Below n w ((((((w.setCell ⟨b, 0, none⟩ u0).setCell ⟨b, 1, none⟩ u1).setCell ⟨b, 2, none⟩ u2).setCell ⟨b, 3, none⟩ u3).setCell ⟨b, 4, none⟩ u4).setCell ⟨b, 5, none⟩ u5) := by
  refine ⟨set_headE (set_headE (set_headE (set_headE (set_headE (set_headE h _) _) _) _) _) _, fun c hc => ?_, ?_⟩
  · rw [Below.heap_setCell _ _ _ _ hc, Below.heap_setCell _ _ _ _ hc, Below.heap_setCell _ _ _ _ hc, Below.heap_setCell _ _ _ _ hc, Below.heap_setCell _ _ _ _ hc, Below.heap_setCell _ _ _ _ hc]
  · exact Below.setCell (Below.setCell (Below.setCell (Below.setCell (Below.setCell (Below.setCell (Below.refl _ _) hn _) hn _) hn _) hn _) hn _) hn _

/-- Both arrays, and the event that each has captured. -/
def ChkCut (w0 : World) (x : Array Value) (t4 t5 : Value) (wx : World) : Prop :=
  ∃ A4 A5 B1 B2, t4 = .pointer (some ⟨A4, 0, none⟩) ∧ t5 = .pointer (some ⟨A5, 0, none⟩) ∧ (A4 ≠ A5 ∧ B1 ≠ A4 ∧ B2 ≠ A4) ∧ (w0.heap.size ≤ A4 ∧ w0.heap.size ≤ A5 ∧ w0.heap.size ≤ B1 ∧ w0.heap.size ≤ B2) ∧
    wx.heap[A4]? = some (.cells (emp6 B1) 108 (0, 0)) ∧ wx.heap[A5]? = some (.cells (rig6 B2) 108 (0, 0)) ∧ wx.heap[B1]? = some (.cells x 45 (0, 0)) ∧ wx.heap[B2]? = some (.cells x 45 (0, 0)) ∧ Below w0.heap.size w0 wx

/-- What the operations of event.Valid's second region leave. -/
def SixF (x : Array Value) (i : Nat) (v : Value) (lo up : Nat) (W : World) : Prop :=
  if i = 1 then v = .agg (emp6 lo) ∧ lo < up ∧ W.heap[lo]? = some (.cells x 45 (0, 0))
  else if i = 3 then v = .agg (rig6 lo) ∧ lo < up ∧ W.heap[lo]? = some (.cells x 45 (0, 0))
  else v = .pointer (some ⟨lo, 0, none⟩) ∧ lo < up ∧ W.heap[lo]? = some nil6

theorem SixF.below {x : Array Value} {i : Nat} {v : Value} {lo hi : Nat} {W W' : World} (h : SixF x i v lo hi W) (hb : Below W.heap.size W W') : SixF x i v lo hi W' := by
  unfold SixF at h ⊢
  have hk : ∀ {o : Obj}, W.heap[lo]? = some o → W'.heap[lo]? = some o := fun {o} h => (hb.block _ (Array.getElem?_eq_some_iff.1 h).1).trans h
  by_cases h1 : i = 1
  · rw [if_pos h1] at h ⊢
    exact ⟨h.1, h.2.1, hk h.2.2⟩
  · rw [if_neg h1] at h ⊢
    by_cases h3 : i = 3
    · rw [if_pos h3] at h ⊢
      exact ⟨h.1, h.2.1, hk h.2.2⟩
    · rw [if_neg h3] at h ⊢
      exact ⟨h.1, h.2.1, hk h.2.2⟩

set_option maxRecDepth 100000 in
set_option maxHeartbeats 25600000 in
theorem valid_core (k : Int) (id : Nat) (n : Int) (t : Nat) (nm tx : List Nat) (vk vn : Int) (vf : Nat) (vs : List Nat) (a : Option Addr) (len cap : Nat) (w : World)
    (rr ee : Nat → Bool) (ok : Bool) (hok : ok = (decide (evName k ≠ []) && (List.range 6).all fun i => if i ∈ evFields k then rr i else ee i))
    (hr : ∀ i, i < 6 → ∀ (B : Nat) (W : World), Below w.heap.size w W → W.heap[B]? = some (.cells (evC k id n t nm tx vk vn vf vs a len cap) 45 (0, 0)) → Calls Tryz.prog (rigF i) #[.pointer (some ⟨B, 0, none⟩)] W fun e w' => e = .returned (.bool (rr i)) ∧ Below W.heap.size W w')
    (he : ∀ i, i < 6 → ∀ (B : Nat) (W : World), Below w.heap.size w W → W.heap[B]? = some (.cells (evC k id n t nm tx vk vn vf vs a len cap) 45 (0, 0)) → Calls Tryz.prog (empF i) #[.pointer (some ⟨B, 0, none⟩)] W fun e w' => e = .returned (.bool (ee i)) ∧ Below W.heap.size W w') :
    Calls Tryz.prog 57 #[.agg (evC k id n t nm tx vk vn vf vs a len cap)] w fun e w' => e = .returned (.bool ok) ∧ Below w.heap.size w w' := by
  have Hok := Lib.hid hok
  clear hok
  have Hr := Lib.hid hr
  have He := Lib.hid he
  clear hr he
  have HE := Lib.hid (fun W => empty_six k id n t nm tx vk vn vf vs a len cap W)
  have HR := Lib.hid (fun W => right_six k id n t nm tx vk vn vf vs a len cap W)
  unfold sixEnd at HE HR
  go_enter Tryz.func57, Tryz.ntmps57
  go_wp2_with fail
  obtain ⟨wa, hwa⟩ : ∃ wa, wa = w.alloc (.cells (evC k id n t nm tx vk vn vf vs a len cap) 45) := ⟨_, rfl⟩
  have hE0 : wa.heap[w.heap.size]? = some (.cells (evC k id n t nm tx vk vn vf vs a len cap) 45 (0, 0)) := by rw [hwa]; exact heap_alloc_new _ _
  rw [← hwa]
  have HE0 := Lib.hid hE0
  have Hwa := Lib.hid (show Below w.heap.size w wa by rw [hwa]; exact (Below.refl _ _).alloc (Nat.le_refl _) _)
  clear hwa hE0
  refine (shape_any k _).mono ?_
  rintro e w1 ⟨hb1, a1, rfl, hf⟩
  have Hb1 := Lib.hid hb1
  have Hf := Lib.hid hf
  clear hb1 hf
  go_wp2_with fail
  obtain ⟨w2, hw2⟩ : ∃ w2, w2 = w1.alloc (.cells #[.string (str (evName k)), .slice a1 (evFields k).length (evFields k).length] 93) := ⟨_, rfl⟩
  rw [← hw2]
  have hb2 : Below wa.heap.size wa w2 := by rw [hw2]; exact Hb1.out.alloc Hb1.out.size _
  have hE2 := (hb2.block _ (Array.getElem?_eq_some_iff.1 HE0.out).1).trans HE0.out
  obtain ⟨g0, g1, g2, g3, g4, g5, g6, g7, g8, g9, g10⟩ := box11 hE2
  have hS2 : w2.heap[w1.heap.size]? = some (.cells #[.string (str (evName k)), .slice a1 (evFields k).length (evFields k).length] 93 (0, 0)) := by rw [hw2]; exact heap_alloc_new _ _
  have Hb12 : Below w1.heap.size w1 w2 := by rw [hw2]; exact (Below.refl _ _).alloc (Nat.le_refl _) _
  have Hb12 := Lib.hid Hb12
  have HS2 := Lib.hid hS2
  have Hww := Lib.hid (Hwa.out.trans (hb2.mono Hwa.out.size))
  have Hb2 := Lib.hid hb2
  have HE2 := Lib.hid hE2
  clear hw2 hb2 hE2 hS2
  go_cut [4, 5] (fun t4 t5 wx => ChkCut w2 (evC k id n t nm tx vk vn vf vs a len cap) t4 t5 wx)
  case first =>
    have HK := Lib.hid (fun W (hW : Below w2.heap.size w2 W) => box11 ((hW.block _ (Array.getElem?_eq_some_iff.1 HE2.out).1).trans HE2.out))
    clear g0 g1 g2 g3 g4 g5 g6 g7 g8 g9 g10
    refine wp_region_held_drew (S := fun W => Below w2.heap.size w2 W) (by kernel_rfl) ((Below.refl _ _).drew) (fun hHeld => ?_)
    refine wpAnyH_take (i := 0) (oi := { dst := some 13, op := Op.load 45 (Operand.tmp 1), type := 45, pos := "event.go:16", after := #[], guard := none }) (v := .agg (evC k id n t nm tx vk vn vf vs a len cap)) rfl (by kernel_rfl) (by kernel_rfl) (by kernel_rfl) (fun _ _ _ h => h) (Or.inl ⟨by rfl, ?y0⟩) hHeld ?r0
    case y0 =>
      intro W hW
      obtain ⟨g0, g1, g2, g3, g4, g5, g6, g7, g8, g9, g10⟩ := HK.out W hW
      go_simp
    try simp only [Act.put, List.setIfInBounds_toArray, List.set_cons_zero, List.set_cons_succ]
    refine wpAnyH_take (i := 2) (oi := { dst := some 15, op := Op.load 45 (Operand.tmp 1), type := 45, pos := "event.go:16", after := #[], guard := none }) (v := .agg (evC k id n t nm tx vk vn vf vs a len cap)) rfl (by kernel_rfl) (by kernel_rfl) (by kernel_rfl) (fun _ _ _ h => h) (Or.inl ⟨by rfl, ?y2⟩) hHeld ?r2
    case y2 =>
      intro W hW
      obtain ⟨g0, g1, g2, g3, g4, g5, g6, g7, g8, g9, g10⟩ := HK.out W hW
      go_simp
    try simp only [Act.put, List.setIfInBounds_toArray, List.set_cons_zero, List.set_cons_succ]
    refine wpAnyH_indepT (fuel := 2) [(1, 14), (3, 16), (4, 4), (5, 5)] (SixF (evC k id n t nm tx vk vn vf vs a len cap)) (fun _ => undef) rfl (by kernel_rfl) (by decide) (by kernel_rfl) ?hop ?hF ?hS ?cont
    case hop =>
      intro i hi us w3 K hb3 hK
      simp only [List.map_cons, List.map_nil, List.mem_cons, List.not_mem_nil, or_false] at hi
      rcases hi with rfl | rfl | rfl | rfl
      · refine wpOp_at (o := { dst := some 14, op := Op.call { callee := Callee.value (Operand.func 87), args := #[Operand.tmp 13], argTypes := #[45] }, type := 108, pos := "event.go:16", after := #[{ on := 0, ground := Ground.data }], guard := none }) rfl rfl ?_
        simp only [frT, List.foldl_cons, List.foldl_nil, Act.put, List.setIfInBounds_toArray, List.set_cons_zero, List.set_cons_succ]
        go_simp
        go_at_call 87
        refine (HE.out _).mono ?_
        rintro e w4 ⟨hb4, hq4, rfl⟩
        exact hK _ _ hb4 ⟨rfl, (Array.getElem?_eq_some_iff.1 hq4).1, hq4⟩
      · refine wpOp_at (o := { dst := some 16, op := Op.call { callee := Callee.value (Operand.func 88), args := #[Operand.tmp 15], argTypes := #[45] }, type := 108, pos := "event.go:16", after := #[{ on := 2, ground := Ground.data }, { on := 1, ground := Ground.chain }], guard := none }) rfl rfl ?_
        simp only [frT, List.foldl_cons, List.foldl_nil, Act.put, List.setIfInBounds_toArray, List.set_cons_zero, List.set_cons_succ]
        go_simp
        go_at_call 88
        refine (HR.out _).mono ?_
        rintro e w4 ⟨hb4, hq4, rfl⟩
        exact hK _ _ hb4 ⟨rfl, (Array.getElem?_eq_some_iff.1 hq4).1, hq4⟩
      · refine wpOp_at (o := { dst := some 4, op := Op.alloc 108, type := 0, pos := "event.go:16", after := #[], guard := none }) rfl rfl ?_
        simp only [frT, List.foldl_cons, List.foldl_nil, Act.put, List.setIfInBounds_toArray, List.set_cons_zero, List.set_cons_succ]
        go_simp
        exact hK _ _ ((Below.refl _ _).alloc (Nat.le_refl _) _) ⟨rfl, by simp, heap_alloc_new _ _⟩
      · refine wpOp_at (o := { dst := some 5, op := Op.alloc 108, type := 0, pos := "event.go:16", after := #[], guard := none }) rfl rfl ?_
        simp only [frT, List.foldl_cons, List.foldl_nil, Act.put, List.setIfInBounds_toArray, List.set_cons_zero, List.set_cons_succ]
        go_simp
        exact hK _ _ ((Below.refl _ _).alloc (Nat.le_refl _) _) ⟨rfl, by simp, heap_alloc_new _ _⟩
    case hF => intro i hi v lo hi W1 W2 h hb; exact h.below hb
    case hS => intro W hW; exact hHeld.trans (hW.mono (Nat.le_refl _))
    case cont =>
      intro us lo hi w3 hb3 hf hd
      obtain ⟨⟨e1, l1, q1⟩, m1, n1⟩ := hf 1 (by decide)
      obtain ⟨⟨e3, l3, q3⟩, m3, n3⟩ := hf 3 (by decide)
      obtain ⟨⟨e4, l4, q4⟩, m4, n4⟩ := hf 4 (by decide)
      obtain ⟨⟨e5, l5, q5⟩, m5, n5⟩ := hf 5 (by decide)
      have d45 : lo 4 ≠ lo 5 := by have := hd 4 (by decide) 5 (by decide) (by decide); omega
      have d14 : lo 1 ≠ lo 4 := by have := hd 1 (by decide) 4 (by decide) (by decide); omega
      have d34 : lo 3 ≠ lo 4 := by have := hd 3 (by decide) 4 (by decide) (by decide); omega
      have d15 : lo 1 ≠ lo 5 := by have := hd 1 (by decide) 5 (by decide) (by decide); omega
      have d35 : lo 3 ≠ lo 5 := by have := hd 3 (by decide) 5 (by decide) (by decide); omega
      clear hf hd
      rw [World.size_drew] at m1 m3 m4 m5
      simp only [frT, List.foldl_cons, List.foldl_nil, Act.put, List.setIfInBounds_toArray, List.set_cons_zero, List.set_cons_succ]
      rw [e1, e3, e4, e5]
      generalize lo 1 = B1 at *
      generalize lo 3 = B2 at *
      generalize lo 4 = A4 at *
      generalize lo 5 = A5 at *
      have d54 : A5 ≠ A4 := d45.symm
      obtain ⟨c0, c1, c2, c3, c4, c5, cf⟩ := box6 q4
      refine wpAnyH_ready (rs := [6]) (by kernel_rfl) (by simp) ?_
      refine AllReadyH.cons (o := { dst := none, op := Op.store 108 (Operand.tmp 4) (Operand.tmp 14), type := 0, pos := "event.go:16", after := #[{ on := 4, ground := Ground.data }, { on := 1, ground := Ground.data }, { on := 3, ground := Ground.chain }, { on := 0, ground := Ground.phase }, { on := 1, ground := Ground.phase }, { on := 2, ground := Ground.textOnly Departure.lateStores }, { on := 3, ground := Ground.textOnly Departure.lateStoresUnsure }, { on := 4, ground := Ground.phase }, { on := 5, ground := Ground.phase }], guard := none }) rfl (fun K hK => ?_) AllReadyH.nil
      go_simp
      obtain ⟨s1, s2, s3⟩ := set6 q4 (capV 133 B1) (capV 134 B1) (capV 135 B1) (capV 136 B1) (capV 137 B1) (capV 138 B1) m4
      generalize World.setCell (World.setCell (World.setCell (World.setCell (World.setCell (World.setCell w3 _ _) _ _) _ _) _ _) _ _) _ _ = w4 at *
      have hb4 : Below w2.heap.size w2 w4 := (hHeld.trans hb3).trans s3
      refine hK.out _ _ hb4 (fun _ => ?_)
      clear hK K
      have r5 := (s2 A5 d54).trans q5
      have r1 := (s2 B1 d14).trans q1
      have r3 := (s2 B2 d34).trans q3
      clear s2 s3 c0 c1 c2 c3 c4 c5 cf q4 q5 q1 q3
      obtain ⟨c0, c1, c2, c3, c4, c5, cf⟩ := box6 r5
      refine wpAnyH_ready (rs := [7]) (by kernel_rfl) (by simp) ?_
      refine AllReadyH.cons (o := { dst := none, op := Op.store 108 (Operand.tmp 5) (Operand.tmp 16), type := 0, pos := "event.go:16", after := #[{ on := 5, ground := Ground.data }, { on := 3, ground := Ground.data }, { on := 6, ground := Ground.chain }, { on := 0, ground := Ground.phase }, { on := 1, ground := Ground.phase }, { on := 2, ground := Ground.phase }, { on := 3, ground := Ground.phase }, { on := 4, ground := Ground.phase }, { on := 5, ground := Ground.phase }, { on := 6, ground := Ground.phase }], guard := none }) rfl (fun K hK => ?_) AllReadyH.nil
      go_simp
      obtain ⟨x1, x2, x3⟩ := set6 r5 (capV 139 B2) (capV 140 B2) (capV 141 B2) (capV 142 B2) (capV 143 B2) (capV 144 B2) m5
      generalize World.setCell (World.setCell (World.setCell (World.setCell (World.setCell (World.setCell w4 _ _) _ _) _ _) _ _) _ _) _ _ = w5 at *
      have hb5 : Below w2.heap.size w2 w5 := hb4.trans x3
      refine hK.out _ _ hb5 (fun _ => ?_)
      clear hK K
      have y4 := (x2 A4 d45).trans s1
      have y1 := (x2 B1 d15).trans r1
      have y3 := (x2 B2 d35).trans r3
      refine wpAnyH_done (by kernel_rfl) ?_ _
      go_wp2_with fail
      go_meet
      exact ⟨A4, A5, B1, B2, rfl, rfl, ⟨d45, d14, d34⟩, ⟨m4, m5, m1, m3⟩, y4, x1, y1, y3, hb5⟩
  case rest =>
    obtain ⟨A4, A5, B1, B2, rfl, rfl, ⟨d45, d14, d34⟩, ⟨m4, m5, m1, m3⟩, y4, y5, y1, y3, hb5⟩ := hcut
    have hS0 := (hb5.block _ (Array.getElem?_eq_some_iff.1 HS2.out).1).trans HS2.out
    have s0 : wc.cell? ⟨w1.heap.size, 0, none⟩ = some (.string (str (evName k))) := by rw [cell_of_row _ _ _ _ _ (0, 0) hS0]; rfl
    have s1 : wc.cell? ⟨w1.heap.size, 1, none⟩ = some (.slice a1 (evFields k).length (evFields k).length) := by rw [cell_of_row _ _ _ _ _ (0, 0) hS0]; rfl
    have HFS := Lib.hid (show ∀ W, Below w2.heap.size w2 W → ∀ j (hj : j < (evFields k).length), ∃ bF, a1 = some ⟨bF, 0, none⟩ ∧ bF < w2.heap.size ∧ W.cell? ⟨bF, j, none⟩ = some (.int .i64 ((evFields k)[j] : Int)) from fun W hW j hj => by
      rcases Hf.out with h0 | ⟨bF, rfl, _, hbF⟩
      · rw [h0] at hj; simp at hj
      · have hl := (Array.getElem?_eq_some_iff.1 hbF).1
        have hk2 := (hW.block bF (Nat.lt_of_lt_of_le hl Hb12.out.size)).trans ((Hb12.out.block bF hl).trans hbF)
        refine ⟨bF, rfl, Nat.lt_of_lt_of_le hl Hb12.out.size, ?_⟩
        rw [cell_of_row _ _ _ _ _ (0, 0) hk2]
        simp [hj])
    have HLT := Lib.hid (fun j (hj : j < (evFields k).length) => evFields_lt k _ (List.getElem_mem hj))
    have Hlen := Lib.hid (show (evFields k).length ≤ 6 from by
      unfold evFields
      repeat' split
      all_goals simp)
    have Hfe := Lib.hid (show ∃ fs, fs = evFields k from ⟨_, rfl⟩)
    obtain ⟨fs, hfs⟩ := Hfe.out
    have Hfs := Lib.hid hfs
    clear Hfe Hf
    rw [← hfs] at HFS HLT Hlen s1
    clear hfs
    go_wp2
    go_loopw [7, 20] (fun t7 t20 wr => ∃ j : Nat, j ≤ fs.length ∧ t20 = .int .i64 (j : Int) ∧ wr.heap[A4]? = some (.cells (arr6 (fs.take j) B1 B2) 108 (0, 0)) ∧ wr.heap[A5]? = some (.cells (rig6 B2) 108 (0, 0)) ∧ wr.heap[B1]? = some (.cells (evC k id n t nm tx vk vn vf vs a len cap) 45 (0, 0)) ∧ wr.heap[B2]? = some (.cells (evC k id n t nm tx vk vn vf vs a len cap) 45 (0, 0)) ∧ Below w2.heap.size w2 wr) (fun _ i _ => fs.length - (intOf i).toNat)
    case atStart => exact ⟨0, Nat.zero_le _, rfl, by rw [List.take_zero, arr6_nil]; exact y4, y5, y1, y3, hb5⟩
    case round =>
      obtain ⟨j, hj, rfl, z4, z5, z1, z3, hbr⟩ := hrel
      by_cases hlt : j < fs.length
      · obtain ⟨bF, rfl, hbF, hc⟩ := HFS.out _ hbr j hlt
        have hx6 := HLT.out j hlt
        obtain ⟨x, hx⟩ : ∃ x, x = fs[j] := ⟨_, rfl⟩
        have Htake := Lib.hid (show fs.take (j + 1) = fs.take j ++ [x] from by rw [hx, List.take_succ_eq_append_getElem hlt])
        rw [← hx] at hc hx6
        have hr5 : wr.cell? ⟨A5, x, none⟩ = some (capV (rigF x) B2) := by rw [cell_of_row _ _ _ _ _ (0, 0) z5]; exact rig6_get _ _ hx6
        have hr4 : wr.cell? ⟨A4, x, none⟩ = some (capV (chkF (fs.take j) x) (chkB (fs.take j) B1 B2 x)) := by rw [cell_of_row _ _ _ _ _ (0, 0) z4]; exact arr6_get _ _ _ _ hx6
        have hfr4 : wr.frozen? ⟨A4, x, none⟩ = false := by simp [World.frozen?, z4]
        have Hset := Lib.hid (show (wr.setCell ⟨A4, x, none⟩ (capV (rigF x) B2)).heap[A4]? = some (.cells (arr6 (fs.take (j + 1)) B1 B2) 108 (0, 0)) from by
          rw [Htake.out, ← arr6_set _ _ _ _]
          exact set_headE z4 _)
        have Hoth := Lib.hid (fun c (hc : c ≠ A4) => (Below.heap_setCell wr ⟨A4, x, none⟩ (capV (rigF x) B2) c hc))
        have Hbn := Lib.hid (show Below w2.heap.size w2 (wr.setCell ⟨A4, x, none⟩ (capV (rigF x) B2)) from hbr.setCell m4 _)
        have Hz := Lib.hid (And.intro z5 (And.intro z1 z3))
        have hxi : (x : Int) < 6 := by omega
        have hl6 : fs.length ≤ 6 := Hlen.out
        have hji : (j : Int) < (fs.length : Int) := by omega
        have hj6 : (j : Int) < 6 := by omega
        have Hlt := Lib.hid hlt
        clear hx hlt z4 z5 z1 z3 hbr hx6 y4 y5 y1 y3 hb5
        go_wp2
        go_roundw
        case rel => exact ⟨j + 1, Hlt.out, by go_num, Hset.out, (Hoth.out _ (Ne.symm d45)).trans Hz.out.1, (Hoth.out _ d14).trans Hz.out.2.1, (Hoth.out _ d34).trans Hz.out.2.2, Hbn.out⟩
        case measure => simp [intOf]; have := Hlt.out; omega
      · obtain rfl : j = fs.length := by omega
        rw [List.take_length] at z4
        obtain ⟨c0, c1, c2, c3, c4, c5, cf⟩ := box6 z4
        have Hz := Lib.hid (And.intro z1 (And.intro z3 hbr))
        have Hbr := Lib.hid hbr
        clear z1 z3 hbr z4 z5
        have hji : ¬ ((fs.length : Int) < (fs.length : Int)) := by omega
        clear y4 y5 y1 y3 hb5 hlt
        have Hz := Lib.hid (show ∀ W, Below wr.heap.size wr W → ∀ i, i < 6 → Calls Tryz.prog (chkF fs i) #[.pointer (some ⟨chkB fs B1 B2 i, 0, none⟩)] W fun e w' => e = .returned (.bool (if i ∈ fs then rr i else ee i)) ∧ Below W.heap.size W w' from fun W hW i hi => by
          have hl1 := (Array.getElem?_eq_some_iff.1 Hz.out.1).1
          have hl3 := (Array.getElem?_eq_some_iff.1 Hz.out.2.1).1
          have hwW : Below w.heap.size w W := Hww.out.trans ((Hz.out.2.2.trans (hW.mono Hz.out.2.2.size)).mono Hww.out.size)
          unfold chkF chkB
          by_cases h : i ∈ fs
          · rw [if_pos h, if_pos h, if_pos h]
            exact Hr.out i hi B2 W hwW ((hW.block _ hl3).trans Hz.out.2.1)
          · rw [if_neg h, if_neg h, if_neg h]
            exact He.out i hi B1 W hwW ((hW.block _ hl1).trans Hz.out.1))
        have Hent := Lib.hid (show ∀ i, ∀ args W, (callFunc (chkF fs i) args).run Tryz.prog W = .ok (.enter (chkF fs i) args) W from fun i args W => by
          unfold chkF
          split
          · exact enters_rig i args W
          · exact enters_emp i args W)
        generalize chkF fs = gF at *
        generalize chkB fs B1 B2 = gB at *
        have Hwr := Lib.hid (Hww.out.trans (Hbr.out.mono Hww.out.size))
        obtain ⟨res, hres⟩ : ∃ res, res = fun i => if i ∈ fs then rr i else ee i := ⟨_, rfl⟩
        have Hz := Lib.hid (show ∀ W, Below wr.heap.size wr W → ∀ i, i < 6 → Calls Tryz.prog (gF i) #[.pointer (some ⟨gB i, 0, none⟩)] W fun e w' => e = .returned (.bool (res i)) ∧ Below W.heap.size W w' from by rw [hres]; exact Hz.out)
        have Hgoal := Lib.hid (show ok = (decide (evName k ≠ []) && (List.range 6).all res) from by rw [Hok.out, hres, Hfs.out])
        clear hres
        obtain ⟨wq, rfl⟩ : ∃ wq, wq = wr := ⟨_, rfl⟩
        go_wp2
        go_loopw [9, 31] (fun t9 t31 wr => ∃ j : Nat, j ≤ 6 ∧ t31 = .int .i64 (j : Int) ∧ (∀ i, i < j → res i = true) ∧ Below wq.heap.size wq wr) (fun _ i _ => 6 - (intOf i).toNat)
        case atStart => exact ⟨0, Nat.zero_le _, rfl, fun i h => absurd h (by omega), Below.refl _ _⟩
        case round =>
          obtain ⟨j, hj, rfl, hall, hbq⟩ := hrel
          have Hall := Lib.hid hall
          have Hbq := Lib.hid hbq
          clear hall hbq
          have hcase : j = 0 ∨ j = 1 ∨ j = 2 ∨ j = 3 ∨ j = 4 ∨ j = 5 ∨ j = 6 := by omega
          clear hj s0 s1 c0 c1 c2 c3 c4 c5
          rcases hcase with rfl | rfl | rfl | rfl | rfl | rfl | rfl
          case inr.inr.inr.inr.inr.inr =>
            have hbw2 := Hbr.out.trans (Hbq.out.mono Hbr.out.size)
            have hS1 := (hbw2.block _ (Array.getElem?_eq_some_iff.1 HS2.out).1).trans HS2.out
            have s0 : wr.cell? ⟨w1.heap.size, 0, none⟩ = some (.string (str (evName k))) := by rw [cell_of_row _ _ _ _ _ (0, 0) hS1]; rfl
            have Hbz := Lib.hid (Hwr.out.trans (Hbq.out.mono Hwr.out.size))
            have Hok2 := Lib.hid (show ok = decide (evName k ≠ []) from by
              rw [Hgoal.out, show (List.range 6).all res = true from List.all_eq_true.2 fun i hi => Hall.out i (by simpa using hi), Bool.and_true])
            have hemp := emp_str (evName k)
            clear hbw2 hS1
            by_cases hn : evName k = []
            · rw [decide_eq_true hn] at hemp
              have Hok2 := Lib.hid (show ok = false from by rw [Hok2.out]; simp [hn])
              clear hn
              go_wp2
              go_ret
              exact ⟨ret_bool Hok2.out.symm, Hbz.out⟩
            · rw [decide_eq_false hn] at hemp
              have Hok2 := Lib.hid (show ok = true from by rw [Hok2.out]; simp [hn])
              clear hn
              go_wp2
              go_ret
              exact ⟨ret_bool Hok2.out.symm, Hbz.out⟩
          case inl =>
            have hent := Hent.out 0
            have hidx := idx6_0 (capV (gF 0) (gB 0)) (capV (gF 1) (gB 1)) (capV (gF 2) (gB 2)) (capV (gF 3) (gB 3)) (capV (gF 4) (gB 4)) (capV (gF 5) (gB 5)) wr
            have HC := Lib.hid (Hz.out wr Hbq.out 0 (by omega))
            cases hb : res 0 with
            | false =>
              rw [hb] at HC
              have Hf := Lib.hid (show ok = false from by
                rw [Hgoal.out]
                have h : (List.range 6).all res = false := by
                  cases h : (List.range 6).all res with
                  | false => rfl
                  | true =>
                    have := List.all_eq_true.1 h 0 (by simp)
                    rw [hb] at this
                    cases this
                rw [h, Bool.and_false])
              clear hb
              go_wp2_with fail
              refine HC.out.mono ?_
              rintro e wy ⟨rfl, hby⟩
              have Hby := Lib.hid (Hwr.out.trans ((Hbq.out.trans (hby.mono Hbq.out.size)).mono Hwr.out.size))
              clear hby
              go_wp2
              go_ret
              exact ⟨ret_bool Hf.out.symm, Hby.out⟩
            | true =>
              rw [hb] at HC
              have Hall2 := Lib.hid (show ∀ i, i < 1 → res i = true from fun i hi => by
                rcases Nat.lt_or_eq_of_le (Nat.le_of_lt_succ hi) with h | h
                · exact Hall.out i h
                · rw [h]; exact hb)
              clear hb
              go_wp2_with fail
              refine HC.out.mono ?_
              rintro e wy ⟨rfl, hby⟩
              have Hby := Lib.hid (Hbq.out.trans (hby.mono Hbq.out.size))
              clear hby
              go_wp2
              go_roundw
              case rel => exact ⟨1, by omega, by go_num, Hall2.out, Hby.out⟩
              case measure => simp [intOf]
          case inr.inl =>
            have hent := Hent.out 1
            have hidx := idx6_1 (capV (gF 0) (gB 0)) (capV (gF 1) (gB 1)) (capV (gF 2) (gB 2)) (capV (gF 3) (gB 3)) (capV (gF 4) (gB 4)) (capV (gF 5) (gB 5)) wr
            have HC := Lib.hid (Hz.out wr Hbq.out 1 (by omega))
            cases hb : res 1 with
            | false =>
              rw [hb] at HC
              have Hf := Lib.hid (show ok = false from by
                rw [Hgoal.out]
                have h : (List.range 6).all res = false := by
                  cases h : (List.range 6).all res with
                  | false => rfl
                  | true =>
                    have := List.all_eq_true.1 h 1 (by simp)
                    rw [hb] at this
                    cases this
                rw [h, Bool.and_false])
              clear hb
              go_wp2_with fail
              refine HC.out.mono ?_
              rintro e wy ⟨rfl, hby⟩
              have Hby := Lib.hid (Hwr.out.trans ((Hbq.out.trans (hby.mono Hbq.out.size)).mono Hwr.out.size))
              clear hby
              go_wp2
              go_ret
              exact ⟨ret_bool Hf.out.symm, Hby.out⟩
            | true =>
              rw [hb] at HC
              have Hall2 := Lib.hid (show ∀ i, i < 2 → res i = true from fun i hi => by
                rcases Nat.lt_or_eq_of_le (Nat.le_of_lt_succ hi) with h | h
                · exact Hall.out i h
                · rw [h]; exact hb)
              clear hb
              go_wp2_with fail
              refine HC.out.mono ?_
              rintro e wy ⟨rfl, hby⟩
              have Hby := Lib.hid (Hbq.out.trans (hby.mono Hbq.out.size))
              clear hby
              go_wp2
              go_roundw
              case rel => exact ⟨2, by omega, by go_num, Hall2.out, Hby.out⟩
              case measure => simp [intOf]
          case inr.inr.inl =>
            have hent := Hent.out 2
            have hidx := idx6_2 (capV (gF 0) (gB 0)) (capV (gF 1) (gB 1)) (capV (gF 2) (gB 2)) (capV (gF 3) (gB 3)) (capV (gF 4) (gB 4)) (capV (gF 5) (gB 5)) wr
            have HC := Lib.hid (Hz.out wr Hbq.out 2 (by omega))
            cases hb : res 2 with
            | false =>
              rw [hb] at HC
              have Hf := Lib.hid (show ok = false from by
                rw [Hgoal.out]
                have h : (List.range 6).all res = false := by
                  cases h : (List.range 6).all res with
                  | false => rfl
                  | true =>
                    have := List.all_eq_true.1 h 2 (by simp)
                    rw [hb] at this
                    cases this
                rw [h, Bool.and_false])
              clear hb
              go_wp2_with fail
              refine HC.out.mono ?_
              rintro e wy ⟨rfl, hby⟩
              have Hby := Lib.hid (Hwr.out.trans ((Hbq.out.trans (hby.mono Hbq.out.size)).mono Hwr.out.size))
              clear hby
              go_wp2
              go_ret
              exact ⟨ret_bool Hf.out.symm, Hby.out⟩
            | true =>
              rw [hb] at HC
              have Hall2 := Lib.hid (show ∀ i, i < 3 → res i = true from fun i hi => by
                rcases Nat.lt_or_eq_of_le (Nat.le_of_lt_succ hi) with h | h
                · exact Hall.out i h
                · rw [h]; exact hb)
              clear hb
              go_wp2_with fail
              refine HC.out.mono ?_
              rintro e wy ⟨rfl, hby⟩
              have Hby := Lib.hid (Hbq.out.trans (hby.mono Hbq.out.size))
              clear hby
              go_wp2
              go_roundw
              case rel => exact ⟨3, by omega, by go_num, Hall2.out, Hby.out⟩
              case measure => simp [intOf]
          case inr.inr.inr.inl =>
            have hent := Hent.out 3
            have hidx := idx6_3 (capV (gF 0) (gB 0)) (capV (gF 1) (gB 1)) (capV (gF 2) (gB 2)) (capV (gF 3) (gB 3)) (capV (gF 4) (gB 4)) (capV (gF 5) (gB 5)) wr
            have HC := Lib.hid (Hz.out wr Hbq.out 3 (by omega))
            cases hb : res 3 with
            | false =>
              rw [hb] at HC
              have Hf := Lib.hid (show ok = false from by
                rw [Hgoal.out]
                have h : (List.range 6).all res = false := by
                  cases h : (List.range 6).all res with
                  | false => rfl
                  | true =>
                    have := List.all_eq_true.1 h 3 (by simp)
                    rw [hb] at this
                    cases this
                rw [h, Bool.and_false])
              clear hb
              go_wp2_with fail
              refine HC.out.mono ?_
              rintro e wy ⟨rfl, hby⟩
              have Hby := Lib.hid (Hwr.out.trans ((Hbq.out.trans (hby.mono Hbq.out.size)).mono Hwr.out.size))
              clear hby
              go_wp2
              go_ret
              exact ⟨ret_bool Hf.out.symm, Hby.out⟩
            | true =>
              rw [hb] at HC
              have Hall2 := Lib.hid (show ∀ i, i < 4 → res i = true from fun i hi => by
                rcases Nat.lt_or_eq_of_le (Nat.le_of_lt_succ hi) with h | h
                · exact Hall.out i h
                · rw [h]; exact hb)
              clear hb
              go_wp2_with fail
              refine HC.out.mono ?_
              rintro e wy ⟨rfl, hby⟩
              have Hby := Lib.hid (Hbq.out.trans (hby.mono Hbq.out.size))
              clear hby
              go_wp2
              go_roundw
              case rel => exact ⟨4, by omega, by go_num, Hall2.out, Hby.out⟩
              case measure => simp [intOf]
          case inr.inr.inr.inr.inl =>
            have hent := Hent.out 4
            have hidx := idx6_4 (capV (gF 0) (gB 0)) (capV (gF 1) (gB 1)) (capV (gF 2) (gB 2)) (capV (gF 3) (gB 3)) (capV (gF 4) (gB 4)) (capV (gF 5) (gB 5)) wr
            have HC := Lib.hid (Hz.out wr Hbq.out 4 (by omega))
            cases hb : res 4 with
            | false =>
              rw [hb] at HC
              have Hf := Lib.hid (show ok = false from by
                rw [Hgoal.out]
                have h : (List.range 6).all res = false := by
                  cases h : (List.range 6).all res with
                  | false => rfl
                  | true =>
                    have := List.all_eq_true.1 h 4 (by simp)
                    rw [hb] at this
                    cases this
                rw [h, Bool.and_false])
              clear hb
              go_wp2_with fail
              refine HC.out.mono ?_
              rintro e wy ⟨rfl, hby⟩
              have Hby := Lib.hid (Hwr.out.trans ((Hbq.out.trans (hby.mono Hbq.out.size)).mono Hwr.out.size))
              clear hby
              go_wp2
              go_ret
              exact ⟨ret_bool Hf.out.symm, Hby.out⟩
            | true =>
              rw [hb] at HC
              have Hall2 := Lib.hid (show ∀ i, i < 5 → res i = true from fun i hi => by
                rcases Nat.lt_or_eq_of_le (Nat.le_of_lt_succ hi) with h | h
                · exact Hall.out i h
                · rw [h]; exact hb)
              clear hb
              go_wp2_with fail
              refine HC.out.mono ?_
              rintro e wy ⟨rfl, hby⟩
              have Hby := Lib.hid (Hbq.out.trans (hby.mono Hbq.out.size))
              clear hby
              go_wp2
              go_roundw
              case rel => exact ⟨5, by omega, by go_num, Hall2.out, Hby.out⟩
              case measure => simp [intOf]
          case inr.inr.inr.inr.inr.inl =>
            have hent := Hent.out 5
            have hidx := idx6_5 (capV (gF 0) (gB 0)) (capV (gF 1) (gB 1)) (capV (gF 2) (gB 2)) (capV (gF 3) (gB 3)) (capV (gF 4) (gB 4)) (capV (gF 5) (gB 5)) wr
            have HC := Lib.hid (Hz.out wr Hbq.out 5 (by omega))
            cases hb : res 5 with
            | false =>
              rw [hb] at HC
              have Hf := Lib.hid (show ok = false from by
                rw [Hgoal.out]
                have h : (List.range 6).all res = false := by
                  cases h : (List.range 6).all res with
                  | false => rfl
                  | true =>
                    have := List.all_eq_true.1 h 5 (by simp)
                    rw [hb] at this
                    cases this
                rw [h, Bool.and_false])
              clear hb
              go_wp2_with fail
              refine HC.out.mono ?_
              rintro e wy ⟨rfl, hby⟩
              have Hby := Lib.hid (Hwr.out.trans ((Hbq.out.trans (hby.mono Hbq.out.size)).mono Hwr.out.size))
              clear hby
              go_wp2
              go_ret
              exact ⟨ret_bool Hf.out.symm, Hby.out⟩
            | true =>
              rw [hb] at HC
              have Hall2 := Lib.hid (show ∀ i, i < 6 → res i = true from fun i hi => by
                rcases Nat.lt_or_eq_of_le (Nat.le_of_lt_succ hi) with h | h
                · exact Hall.out i h
                · rw [h]; exact hb)
              clear hb
              go_wp2_with fail
              refine HC.out.mono ?_
              rintro e wy ⟨rfl, hby⟩
              have Hby := Lib.hid (Hbq.out.trans (hby.mono Hbq.out.size))
              clear hby
              go_wp2
              go_roundw
              case rel => exact ⟨6, by omega, by go_num, Hall2.out, Hby.out⟩
              case measure => simp [intOf]
end Go.Proofs.YtcapbaocchaenaaGreatDoor

