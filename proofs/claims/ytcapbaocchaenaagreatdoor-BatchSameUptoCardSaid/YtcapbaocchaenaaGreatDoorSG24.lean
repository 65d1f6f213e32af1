import Derived.Test.YtcapbaocchaenaaGreatDoorSG23
import Derived.Test.YtcapbaocchaenaaGreatDoorSG7
import Derived.Deep.DeepCutAuto
import Derived.Deep.CutBlock
/- The walk of the code's Text of an event. -/
namespace Go.Proofs.YtcapbaocchaenaaGreatDoor
open Go.RowKit Go.Shelf Fl
attribute [local go_sem] run_store_func run_store_nilFunc

/-- The functions that write the fields' texts. -/
def twF (i : Nat) : FuncId := if i = 0 then 98 else if i = 1 then 99 else if i = 2 then 101 else if i = 3 then 102 else if i = 4 then 104 else 105

theorem enters_tw (i : Nat) (args : Array Value) (W : World) : (callFunc (twF i) args).run Tryz.prog W = .ok (.enter (twF i) args) W := by
  unfold twF
  repeat' split
  · exact enters_of Tryz.func98 (by kernel_rfl) rfl args W
  · exact enters_of Tryz.func99 (by kernel_rfl) rfl args W
  · exact enters_of Tryz.func101 (by kernel_rfl) rfl args W
  · exact enters_of Tryz.func102 (by kernel_rfl) rfl args W
  · exact enters_of Tryz.func104 (by kernel_rfl) rfl args W
  · exact enters_of Tryz.func105 (by kernel_rfl) rfl args W

abbrev tw6 (B : Nat) : Array Value := #[capV 98 B, capV 99 B, capV 101 B, capV 102 B, capV 104 B, capV 105 B]
theorem tw6_get (B : Nat) (i : Nat) (hi : i < 6) : (tw6 B)[i]? = some (capV (twF i) B) := by
  match i, hi with
  | 0, _ => rfl
  | 1, _ => rfl
  | 2, _ => rfl
  | 3, _ => rfl
  | 4, _ => rfl
  | 5, _ => rfl

/-- The texts of fields, each behind a space. -/
def wordsT (pc : Nat → List Nat) (fs : List Nat) : List Nat := (fs.map fun i => 32 :: pc i).flatten

abbrev nil6T : Obj := .cells #[.nilFunc, .nilFunc, .nilFunc, .nilFunc, .nilFunc, .nilFunc] 95
/-- What the operations of event.Text's region leave. -/
def TxtF (x : Array Value) (i : Nat) (v : Value) (lo up : Nat) (W : World) : Prop :=
  if i = 3 then v = .agg (tw6 lo) ∧ lo < up ∧ W.heap[lo]? = some (.cells x 45 (0, 0))
  else v = .pointer (some ⟨lo, 0, none⟩) ∧ lo < up ∧ W.heap[lo]? = some nil6T
theorem TxtF.below {x : Array Value} {i : Nat} {v : Value} {lo hi : Nat} {W W' : World} (h : TxtF x i v lo hi W) (hb : Below W.heap.size W W') : TxtF x i v lo hi W' := by
  unfold TxtF at h ⊢
  have hk : ∀ {o : Obj}, W.heap[lo]? = some o → W'.heap[lo]? = some o := fun {o} h => (hb.block _ (Array.getElem?_eq_some_iff.1 h).1).trans h
  by_cases h3 : i = 3
  · rw [if_pos h3] at h ⊢
    exact ⟨h.1, h.2.1, hk h.2.2⟩
  · rw [if_neg h3] at h ⊢
    exact ⟨h.1, h.2.1, hk h.2.2⟩
/-- The name, and the array of the writers. -/
def TxtCut (w0 : World) (x : Array Value) (s : ByteArray) (t4 t5 : Value) (wx : World) : Prop :=
  ∃ A B, t4 = .string s ∧ t5 = .pointer (some ⟨A, 0, none⟩) ∧ B ≠ A ∧ w0.heap.size ≤ A ∧ w0.heap.size ≤ B ∧ wx.heap[A]? = some (.cells (tw6 B) 95 (0, 0)) ∧ wx.heap[B]? = some (.cells x 45 (0, 0)) ∧ Below w0.heap.size w0 wx

set_option maxRecDepth 100000 in
set_option maxHeartbeats 25600000 in
theorem text_core (k : Int) (id : Nat) (n : Int) (t : Nat) (nm tx : List Nat) (vk vn : Int) (vf : Nat) (vs : List Nat) (a : Option Addr) (len cap : Nat) (w : World)
    (pc : Nat → List Nat) (hpl : ∀ i ∈ evFields k, (pc i).length ≤ 100000000)
    (hv : ∀ W, Below w.heap.size w W → Calls Tryz.prog 57 #[.agg (evC k id n t nm tx vk vn vf vs a len cap)] W fun e w' => e = .returned (.bool true) ∧ Below W.heap.size W w')
    (hp : ∀ i, i ∈ evFields k → ∀ (B : Nat) (W : World), Below w.heap.size w W → W.heap[B]? = some (.cells (evC k id n t nm tx vk vn vf vs a len cap) 45 (0, 0)) → Calls Tryz.prog (twF i) #[.pointer (some ⟨B, 0, none⟩)] W fun e w' => e = .returned (.string (str (pc i))) ∧ Below W.heap.size W w') :
    Calls Tryz.prog 35 #[.agg (evC k id n t nm tx vk vn vf vs a len cap)] w fun e w' => e = .returned (.string (str (evName k ++ wordsT pc (evFields k)))) ∧ Below w.heap.size w w' := by
  have Hv := Lib.hid hv
  have Hp := Lib.hid hp
  have Hpl := Lib.hid hpl
  clear hv hp hpl
  obtain ⟨res, hres⟩ : ∃ res, res = evName k ++ wordsT pc (evFields k) := ⟨_, rfl⟩
  rw [← hres]
  have Hres := Lib.hid hres
  clear hres
  go_enter Tryz.func35, Tryz.ntmps35
  go_wp2_with fail
  obtain ⟨wa, hwa⟩ : ∃ wa, wa = w.alloc (.cells (evC k id n t nm tx vk vn vf vs a len cap) 45) := ⟨_, rfl⟩
  have hE0 : wa.heap[w.heap.size]? = some (.cells (evC k id n t nm tx vk vn vf vs a len cap) 45 (0, 0)) := by rw [hwa]; exact heap_alloc_new _ _
  have Hwa := Lib.hid (show Below w.heap.size w wa by rw [hwa]; exact (Below.refl _ _).alloc (Nat.le_refl _) _)
  rw [← hwa]
  have HE0 := Lib.hid hE0
  clear hwa hE0
  refine (Hv.out _ Hwa.out).mono ?_
  rintro e w1 ⟨rfl, hb1⟩
  have hE1 := (hb1.block _ (Array.getElem?_eq_some_iff.1 HE0.out).1).trans HE0.out
  have Hb1 := Lib.hid (Hwa.out.trans (hb1.mono Hwa.out.size))
  obtain ⟨g0, g1, g2, g3, g4, g5, g6, g7, g8, g9, g10⟩ := box11 hE1
  have HE1 := Lib.hid hE1
  clear hb1 hE1
  go_wp2_with fail
  refine (shape_any k _).mono ?_
  rintro e w2 ⟨hb2, a1, rfl, hf2⟩
  have HFS := Lib.hid (show evFields k = [] ∨ ∃ b, a1 = some ⟨b, 0, none⟩ ∧ w2.heap[b]? = some (.cells ((evFields k).map fun (i : Nat) => Value.int .i64 (i : Int)).toArray 3 (0, 0)) from hf2.imp (fun h => h) (fun ⟨b, e1, _, e3⟩ => ⟨b, e1, e3⟩))
  have HE2 := Lib.hid ((hb2.block _ (Array.getElem?_eq_some_iff.1 HE1.out).1).trans HE1.out)
  have Hb2 := Lib.hid (Hb1.out.trans (hb2.mono Hb1.out.size))
  clear hb2 hf2 g0 g1 g2 g3 g4 g5 g6 g7 g8 g9 g10
  go_wp2_with fail
  obtain ⟨w3, hw3⟩ : ∃ w3, w3 = w2.alloc (.cells #[.string (str (evName k)), .slice a1 (evFields k).length (evFields k).length] 93) := ⟨_, rfl⟩
  rw [← hw3]
  have hb3 : Below w2.heap.size w2 w3 := by rw [hw3]; exact (Below.refl _ _).alloc (Nat.le_refl _) _
  have hS3 : w3.heap[w2.heap.size]? = some (.cells #[.string (str (evName k)), .slice a1 (evFields k).length (evFields k).length] 93 (0, 0)) := by rw [hw3]; exact heap_alloc_new _ _
  have HE3 := Lib.hid ((hb3.block _ (Array.getElem?_eq_some_iff.1 HE2.out).1).trans HE2.out)
  have Hb3 := Lib.hid (Hb2.out.trans (hb3.mono Hb2.out.size))
  have HFS := Lib.hid (show evFields k = [] ∨ ∃ b, a1 = some ⟨b, 0, none⟩ ∧ w3.heap[b]? = some (.cells ((evFields k).map fun (i : Nat) => Value.int .i64 (i : Int)).toArray 3 (0, 0)) from HFS.out.imp (fun h => h) (fun ⟨b, e1, e3⟩ => ⟨b, e1, (hb3.block _ (Array.getElem?_eq_some_iff.1 e3).1).trans e3⟩))
  have HS3 := Lib.hid hS3
  clear hw3 hb3 hS3
  have HF := Lib.hid (fun W => texts_six k id n t nm tx vk vn vf vs a len cap W)
  unfold sixEnd at HF
  go_cut [4, 5] (fun t4 t5 wx => TxtCut w3 (evC k id n t nm tx vk vn vf vs a len cap) (str (evName k)) t4 t5 wx)
  case first =>
    have HK := Lib.hid (fun W (hW : Below w3.heap.size w3 W) => box11 ((hW.block _ (Array.getElem?_eq_some_iff.1 HE3.out).1).trans HE3.out))
    have HK2 := Lib.hid (fun W (hW : Below w3.heap.size w3 W) => (show W.cell? ⟨w2.heap.size, 0, none⟩ = some (.string (str (evName k))) from by
      have h := (hW.block _ (Array.getElem?_eq_some_iff.1 HS3.out).1).trans HS3.out
      rw [cell_of_row _ _ _ _ _ (0, 0) h]; rfl))
    refine wp_region_held_drew (S := fun W => Below w3.heap.size w3 W) (by kernel_rfl) ((Below.refl _ _).drew) (fun hHeld => ?_)
    refine wpAnyH_take (i := 0) (oi := { dst := some 14, op := Op.fieldAddr 93 (Operand.tmp 3) 0, type := 0, pos := "event.go:78", after := #[], guard := none }) (v := .pointer (some ⟨w2.heap.size, 0, none⟩)) rfl (by kernel_rfl) (by kernel_rfl) (by kernel_rfl) (fun _ _ _ h => h) (Or.inl ⟨by rfl, ?y0⟩) hHeld ?r0
    case y0 =>
      intro W hW
      go_simp
    try simp only [Act.put, List.setIfInBounds_toArray, List.set_cons_zero, List.set_cons_succ]
    refine wpAnyH_take (i := 1) (oi := { dst := some 15, op := Op.load 9 (Operand.tmp 14), type := 9, pos := "event.go:78", after := #[{ on := 0, ground := Ground.data }], guard := none }) (v := .string (str (evName k))) rfl (by kernel_rfl) (by kernel_rfl) (by kernel_rfl) (fun _ _ _ h => h) (Or.inl ⟨by rfl, ?y1⟩) hHeld ?r1
    case y1 =>
      intro W hW
      have g0 := HK2.out W hW
      go_simp
    try simp only [Act.put, List.setIfInBounds_toArray, List.set_cons_zero, List.set_cons_succ]
    refine wpAnyH_take (i := 2) (oi := { dst := some 16, op := Op.load 45 (Operand.tmp 1), type := 45, pos := "event.go:78", after := #[], guard := none }) (v := .agg (evC k id n t nm tx vk vn vf vs a len cap)) rfl (by kernel_rfl) (by kernel_rfl) (by kernel_rfl) (fun _ _ _ h => h) (Or.inl ⟨by rfl, ?y2⟩) hHeld ?r2
    case y2 =>
      intro W hW
      obtain ⟨g0, g1, g2, g3, g4, g5, g6, g7, g8, g9, g10⟩ := HK.out W hW
      go_simp
    try simp only [Act.put, List.setIfInBounds_toArray, List.set_cons_zero, List.set_cons_succ]
    refine wpAnyH_indepT (fuel := 2) [(3, 17), (4, 5)] (TxtF (evC k id n t nm tx vk vn vf vs a len cap)) (fun _ => undef) rfl (by kernel_rfl) (by decide) (by kernel_rfl) ?hop ?hF ?hS ?cont
    case hop =>
      intro i hi us w4 K hb4 hK
      simp only [List.map_cons, List.map_nil, List.mem_cons, List.not_mem_nil, or_false] at hi
      rcases hi with rfl | rfl
      · refine wpOp_at (o := { dst := some 17, op := Op.call { callee := Callee.value (Operand.func 65), args := #[Operand.tmp 16], argTypes := #[45] }, type := 95, pos := "event.go:78", after := #[{ on := 2, ground := Ground.data }], guard := none }) rfl rfl ?_
        simp only [frT, List.foldl_cons, List.foldl_nil, Act.put, List.setIfInBounds_toArray, List.set_cons_zero, List.set_cons_succ]
        go_simp
        go_at_call 65
        refine (HF.out _).mono ?_
        rintro e w5 ⟨hb5, hq5, rfl⟩
        exact hK _ _ hb5 ⟨rfl, (Array.getElem?_eq_some_iff.1 hq5).1, hq5⟩
      · refine wpOp_at (o := { dst := some 5, op := Op.alloc 95, type := 0, pos := "event.go:78", after := #[], guard := none }) rfl rfl ?_
        simp only [frT, List.foldl_cons, List.foldl_nil, Act.put, List.setIfInBounds_toArray, List.set_cons_zero, List.set_cons_succ]
        go_simp
        exact hK _ _ ((Below.refl _ _).alloc (Nat.le_refl _) _) ⟨rfl, by simp, heap_alloc_new _ _⟩
    case hF => intro i _ v lo hi W1 W2 h hb; exact h.below hb
    case hS => intro W hW; exact hHeld.trans (hW.mono (Nat.le_refl _))
    case cont =>
      intro us lo hi w4 hb4 hf hd
      obtain ⟨⟨e3, l3, q3⟩, m3, n3⟩ := hf 3 (by decide)
      obtain ⟨⟨e4, l4, q4⟩, m4, n4⟩ := hf 4 (by decide)
      have d34 : lo 3 ≠ lo 4 := by have := hd 3 (by decide) 4 (by decide) (by decide); omega
      clear hf hd
      rw [World.size_drew] at m3 m4
      simp only [frT, List.foldl_cons, List.foldl_nil, Act.put, List.setIfInBounds_toArray, List.set_cons_zero, List.set_cons_succ]
      rw [e3, e4]
      generalize lo 3 = B at *
      generalize lo 4 = A at *
      obtain ⟨c0, c1, c2, c3, c4, c5, cf⟩ := box6 q4
      have hb44 : Below w3.heap.size w3 w4 := hHeld.trans hb4
      refine wpAnyH_take (i := 5) (oi := { dst := some 4, op := Op.assign (Operand.tmp 15), type := 9, pos := "event.go:78", after := #[{ on := 1, ground := Ground.data }, { on := 3, ground := Ground.chain }, { on := 0, ground := Ground.phase }, { on := 1, ground := Ground.phase }, { on := 2, ground := Ground.textOnly Departure.lateStores }, { on := 3, ground := Ground.textOnly Departure.lateStoresUnsure }, { on := 4, ground := Ground.phase }], guard := none }) (v := .string (str (evName k))) rfl (by kernel_rfl) (by kernel_rfl) (by kernel_rfl) (fun _ _ _ h => h) (Or.inl ⟨by rfl, ?y5⟩) hb44 ?r5
      case y5 =>
        intro W hW
        go_simp
      try simp only [Act.put, List.setIfInBounds_toArray, List.set_cons_zero, List.set_cons_succ]
      refine wpAnyH_ready (rs := [6]) (by kernel_rfl) (by simp) ?_
      refine AllReadyH.cons (o := { dst := none, op := Op.store 95 (Operand.tmp 5) (Operand.tmp 17), type := 0, pos := "event.go:78", after := #[{ on := 4, ground := Ground.data }, { on := 3, ground := Ground.data }, { on := 5, ground := Ground.chain }, { on := 0, ground := Ground.phase }, { on := 1, ground := Ground.phase }, { on := 2, ground := Ground.phase }, { on := 3, ground := Ground.phase }, { on := 4, ground := Ground.phase }, { on := 5, ground := Ground.phase }], guard := none }) rfl (fun K hK => ?_) AllReadyH.nil
      go_simp
      obtain ⟨s1, s2, s3⟩ := set6 q4 (capV 98 B) (capV 99 B) (capV 101 B) (capV 102 B) (capV 104 B) (capV 105 B) m4
      generalize World.setCell (World.setCell (World.setCell (World.setCell (World.setCell (World.setCell w4 _ _) _ _) _ _) _ _) _ _) _ _ = w5 at *
      have hb5 : Below w3.heap.size w3 w5 := hb44.trans s3
      refine hK.out _ _ hb5 (fun _ => ?_)
      clear hK K
      have r3 := (s2 B d34).trans q3
      refine wpAnyH_done (by kernel_rfl) ?_ _
      go_wp2_with fail
      go_meet
      exact ⟨A, B, rfl, rfl, d34, m4, m3, s1, r3, hb5⟩
  case rest =>
    obtain ⟨A, B, rfl, rfl, dBA, mA, mB, yA, yB, hb5⟩ := hcut
    have hS0 := (hb5.block _ (Array.getElem?_eq_some_iff.1 HS3.out).1).trans HS3.out
    have s1 : wc.cell? ⟨w2.heap.size, 1, none⟩ = some (.slice a1 (evFields k).length (evFields k).length) := by rw [cell_of_row _ _ _ _ _ (0, 0) hS0]; rfl
    have HFS0 := Lib.hid (show evFields k = [] ∨ ∃ b, a1 = some ⟨b, 0, none⟩ ∧ b < w3.heap.size ∧ w3.heap[b]? = some (.cells ((evFields k).map fun (i : Nat) => Value.int .i64 (i : Int)).toArray 3 (0, 0)) from HFS.out.imp (fun h => h) (fun ⟨b, e1, e3⟩ => ⟨b, e1, (Array.getElem?_eq_some_iff.1 e3).1, e3⟩))
    have HLT := Lib.hid (fun j (hj : j < (evFields k).length) => evFields_lt k _ (List.getElem_mem hj))
    have HM := Lib.hid (fun j (hj : j < (evFields k).length) => (List.getElem_mem hj : (evFields k)[j] ∈ evFields k))
    have Hlen := Lib.hid (fields_len k)
    have Hnl := Lib.hid (show (evName k).length ≤ 20 from by unfold evName; (repeat' split) <;> simp)
    have Hb5 := Lib.hid hb5
    have HyA := Lib.hid yA
    have HyB := Lib.hid yB
    obtain ⟨fs, hfs⟩ : ∃ fs, fs = evFields k := ⟨_, rfl⟩
    have Hp2 := Lib.hid (show ∀ i, i ∈ fs → ∀ (B : Nat) (W : World), Below w.heap.size w W → W.heap[B]? = some (.cells (evC k id n t nm tx vk vn vf vs a len cap) 45 (0, 0)) → Calls Tryz.prog (twF i) #[.pointer (some ⟨B, 0, none⟩)] W fun e w' => e = .returned (.string (str (pc i))) ∧ Below W.heap.size W w' from by rw [hfs]; exact Hp.out)
    have Hpl2 := Lib.hid (show ∀ i ∈ fs, (pc i).length ≤ 100000000 from by rw [hfs]; exact Hpl.out)
    have Hres2 := Lib.hid (show res = evName k ++ wordsT pc fs from by rw [hfs]; exact Hres.out)
    rw [← hfs] at HFS0 HLT HM Hlen s1
    clear hfs HFS Hp Hpl Hres hb5 yA yB hS0
    generalize evC k id n t nm tx vk vn vf vs a len cap = X at *
    generalize evName k = N at *
    go_wp2
    go_loopw [4, 7, 21] (fun t4 t7 t21 wr => ∃ j : Nat, j ≤ fs.length ∧ t21 = .int .i64 (j : Int) ∧ t4 = .string (str (N ++ wordsT pc (fs.take j))) ∧ (N ++ wordsT pc (fs.take j)).length ≤ 20 + j * 100000001 ∧ Below w3.heap.size w3 wr ∧ wr.heap[A]? = some (.cells (tw6 B) 95 (0, 0)) ∧ wr.heap[B]? = some (.cells X 45 (0, 0))) (fun _ _ i _ => fs.length - (intOf i).toNat)
    case atStart =>
      refine ⟨0, Nat.zero_le _, rfl, ?_, ?_, Hb5.out, HyA.out, HyB.out⟩
      · simp [wordsT]
      · simp [wordsT]; exact Hnl.out
    case round =>
      obtain ⟨j, hj, rfl, rfl, hn, hb, hA, hB⟩ := hrel
      by_cases hlt : j < fs.length
      · obtain ⟨bF, rfl, hbF, hF⟩ := HFS0.out.resolve_left (by intro e; rw [e] at hlt; simp at hlt)
        have hFr := (hb.block bF hbF).trans hF
        have hx6 := HLT.out j hlt
        have hm := HM.out j hlt
        obtain ⟨x, hx⟩ : ∃ x, x = fs[j] := ⟨_, rfl⟩
        have hc : wr.cell? ⟨bF, j, none⟩ = some (.int .i64 (x : Int)) := by
          rw [cell_of_row _ _ _ _ _ (0, 0) hFr, hx]
          simp [hlt]
        have Htake := Lib.hid (show N ++ wordsT pc (fs.take (j + 1)) = (N ++ wordsT pc (fs.take j)) ++ 32 :: pc x from by
          unfold wordsT
          rw [hx, List.take_succ_eq_append_getElem hlt, List.map_append, List.flatten_append, List.append_assoc]; simp)
        rw [← hx] at hx6 hm
        have hpx := Hpl2.out x hm
        have hca : wr.cell? ⟨A, x, none⟩ = some (capV (twF x) B) := by rw [cell_of_row _ _ _ _ _ (0, 0) hA]; exact tw6_get _ _ hx6
        have hent := enters_tw x
        have hww : Below w.heap.size w wr := Hb3.out.trans (hb.mono Hb3.out.size)
        have HC := Lib.hid (Hp2.out x hm B wr hww hB)
        obtain ⟨acc, hacc⟩ : ∃ acc, acc = N ++ wordsT pc (fs.take j) := ⟨_, rfl⟩
        rw [← hacc] at hn Htake
        rw [← hacc]
        have hl6 : fs.length ≤ 6 := Hlen.out
        have Hn := Lib.hid hn
        have Hlt := Lib.hid hlt
        have Hb := Lib.hid hb
        have Hkp := Lib.hid (And.intro hA hB)
        have hxi : (x : Int) < 6 := by omega
        have hji : (j : Int) < (fs.length : Int) := by omega
        have hj6 : (j : Int) < 6 := by omega
        obtain ⟨px, hpx2⟩ : ∃ px, px = pc x := ⟨_, rfl⟩
        rw [← hpx2] at hpx Htake HC
        have hs1 : (⟨#[32]⟩ : ByteArray) ++ str px = str (32 :: px) := str_append [32] px
        have hs2 : str acc ++ str (32 :: px) = str (acc ++ 32 :: px) := str_append acc (32 :: px)
        have hz1 := str_size px
        have hz2 := str_size acc
        have hz3 := str_size (32 :: px)
        have hz4 : (32 :: px).length = px.length + 1 := List.length_cons
        have hn' : acc.length ≤ 1000000000 := by omega
        generalize twF x = fx at *
        clear hx hlt hn hA hB hb hF hFr hacc hx6 hm hpx2 hww hbF
        go_wp2_with fail
        refine HC.out.mono ?_
        rintro e wy ⟨rfl, hby⟩
        have Hby := Lib.hid (Hb.out.trans (hby.mono Hb.out.size))
        have Hkq := Lib.hid (And.intro ((hby.block _ (Array.getElem?_eq_some_iff.1 Hkp.out.1).1).trans Hkp.out.1) ((hby.block _ (Array.getElem?_eq_some_iff.1 Hkp.out.2).1).trans Hkp.out.2))
        have Hn9 := Lib.hid (show (N ++ wordsT pc (fs.take (j + 1))).length ≤ 20 + (j + 1) * 100000001 from by
          rw [Htake.out, List.length_append, hz4]; have := Hn.out; omega)
        clear hby hca hent
        go_wp2
        go_roundw
        case rel => exact ⟨j + 1, Hlt.out, by go_num, by rw [Htake.out], Hn9.out, Hby.out, Hkq.out.1, Hkq.out.2⟩
        case measure => simp [intOf]; have := Hlt.out; omega
      · obtain rfl : j = fs.length := by omega
        rw [List.take_length]
        have Hbz := Lib.hid (Hb3.out.trans (hb.mono Hb3.out.size))
        have hji : ¬ ((fs.length : Int) < (fs.length : Int)) := by omega
        rw [← Hres2.out]
        clear hn hA hB hb hlt
        go_wp2
        go_ret
        exact ⟨rfl, Hbz.out⟩

/-- The text of a field. -/
def wordE (e : Ev) (i : Nat) : List Nat := if i = 0 then decD e.id else if i = 1 then decL e.n else if i = 2 then decD e.t else if i = 3 then quoteL e.nm else if i = 4 then quoteL e.tx else textB e.v
/-- The text of an event. -/
def textE (e : Ev) : List Nat := if okE e = true then evName e.k ++ wordsT (wordE e) (evFields e.k) else []

set_option maxRecDepth 100000 in
theorem evtext_any (q : Nat) (hq : q ≤ 1000) (e : Ev) (x : Array Value) (w : World) (hs : smallN q e.v = true) (hlen : ∀ i, (wordE e i).length ≤ 1000000) (hp : Pow10 w) (ht : Tab16 w) (h : EvIn w e x) :
    Calls Tryz.prog 35 #[.agg x] w fun r w' => r = .returned (.string (str (textE e))) ∧ Below w.heap.size w w' := by
  have HV := Lib.hid (fun W (hW : Below w.heap.size w W) => evalid_any q hq e x W hs (h.below hW))
  obtain ⟨_, b2, b3, b4, b5, b6, a, cap, rfl, hv⟩ := h
  unfold textE
  cases hok : okE e with
  | false =>
    rw [hok] at HV
    have Hal := Lib.hid ((Below.refl w.heap.size w).alloc (Nat.le_refl _) (.cells (evC e.k e.id e.n e.t e.nm e.tx e.v.kind e.v.n e.v.f e.v.s a e.v.l.length cap) 45))
    have HV := Lib.hid (HV.out _ Hal.out)
    clear hok hs hlen b2 b3 b4 b5 b6 hv hq hp ht
    rw [if_neg (by simp)]
    go_enter Tryz.func35, Tryz.ntmps35
    go_wp2_with fail
    refine HV.out.mono ?_
    rintro r w1 ⟨rfl, hb⟩
    have Hb := Lib.hid (Hal.out.trans (hb.mono Hal.out.size))
    clear hb
    go_wp2
    go_ret
    exact ⟨rfl, Hb.out⟩
  | true =>
    rw [hok] at HV
    rw [if_pos rfl]
    refine text_core e.k e.id e.n e.t e.nm e.tx e.v.kind e.v.n e.v.f e.v.s a e.v.l.length cap w (wordE e) (fun i _ => by have := hlen i; omega) HV.out ?_
    intro i hi B W hW hB
    have h6 := evFields_lt _ _ hi
    have hpW := hp.below hW
    have htW := tab_below ht hW
    have hl := hlen i
    match i, h6 with
    | 0, _ => exact t1_any b2 hpW hB
    | 1, _ => exact t2_any b3.1 b3.2 hpW hB
    | 2, _ => exact t3_any b4 hpW hB
    | 3, _ => exact t4_any b5.1 b5.2 hl hpW htW hB
    | 4, _ => exact t5_any b6.1 b6.2 hl hpW htW hB
    | 5, _ => exact t6_any q hq hs hl hpW htW (hv.below hW) hB
end Go.Proofs.YtcapbaocchaenaaGreatDoor

