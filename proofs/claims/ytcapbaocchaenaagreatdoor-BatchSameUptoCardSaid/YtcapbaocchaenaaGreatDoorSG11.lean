import Derived.Test.YtcapbaocchaenaaGreatDoorSG10
/- The walks of the code's Compare and Same of values. -/
namespace Go.Proofs.YtcapbaocchaenaaGreatDoor
open Go.RowKit Fl
attribute [local go_sem ↓] Go.wp_at_zero Go.wp_at_succ

set_option maxRecDepth 100000 in
set_option maxHeartbeats 3200000 in
theorem compareC_core (k n : Int) (f : Nat) (s : List Nat) (a : Option Addr) (len cap : Nat) (k' n' : Int) (f' : Nat) (s' : List Nat) (a' : Option Addr) (len' cap' : Nat) (cb ct cl : Int) (w : World)
    (hn : ∀ W, Calls Tryz.prog 160 #[.float .f64 f, .float .f64 f'] W fun e w' => e = .returned (.int .i64 cb) ∧ w' = W)
    (hs : ∀ W, Calls Tryz.prog 161 #[.string (str s), .string (str s')] W fun e w' => e = .returned (.int .i64 ct) ∧ w' = W)
    (hf : ∀ W, Below w.heap.size w W → Calls Tryz.prog 162 #[.slice a len cap, .slice a' len' cap', .func (.func 121) #[] #[]] W fun e w' => e = .returned (.int .i64 cl) ∧ Below W.heap.size W w') :
    Calls Tryz.prog 121 #[.agg (cells5 k n f s a len cap), .agg (cells5 k' n' f' s' a' len' cap')] w fun e w' => e = .returned (.int .i64 (first5 (ordI k k') (ordI n n') cb ct cl)) ∧ Below w.heap.size w w' := by
  have HN := Lib.hid hn
  have HS := Lib.hid hs
  have HF := Lib.hid hf
  clear hn hs hf
  obtain ⟨w2, hw2⟩ : ∃ w2, w2 = (w.alloc (.cells (cells5 k n f s a len cap) 43)).alloc (.cells (cells5 k' n' f' s' a' len' cap') 43) := ⟨_, rfl⟩
  have hb2 : Below w.heap.size w w2 := by rw [hw2]; exact ((Below.refl _ _).alloc (Nat.le_refl _) _).alloc (by simp) _
  have hA : w2.heap[w.heap.size]? = some (.cells (cells5 k n f s a len cap) 43 (0, 0)) := by rw [hw2]; exact (Below.heap_alloc _ _ _ (by simp)).trans (heap_alloc_new _ _)
  have hB : w2.heap[w.heap.size + 1]? = some (.cells (cells5 k' n' f' s' a' len' cap') 43 (0, 0)) := by
    have h := heap_alloc_new (w.alloc (.cells (cells5 k n f s a len cap) 43)) (.cells (cells5 k' n' f' s' a' len' cap') 43)
    rw [World.size_alloc] at h
    rw [hw2]; exact h
  have HK := Lib.hid (fun W (hW : Below w2.heap.size w2 W) => (show (W.cell? ⟨w.heap.size, 0, none⟩ = some (.int .i64 k) ∧ W.cell? ⟨w.heap.size, 1, none⟩ = some (.int .i64 n) ∧ W.cell? ⟨w.heap.size, 2, none⟩ = some (.float .f64 f) ∧ W.cell? ⟨w.heap.size, 3, none⟩ = some (.string (str s)) ∧ W.cell? ⟨w.heap.size, 4, none⟩ = some (.slice a len cap)) ∧
      (W.cell? ⟨w.heap.size + 1, 0, none⟩ = some (.int .i64 k') ∧ W.cell? ⟨w.heap.size + 1, 1, none⟩ = some (.int .i64 n') ∧ W.cell? ⟨w.heap.size + 1, 2, none⟩ = some (.float .f64 f') ∧ W.cell? ⟨w.heap.size + 1, 3, none⟩ = some (.string (str s')) ∧ W.cell? ⟨w.heap.size + 1, 4, none⟩ = some (.slice a' len' cap')) from by
    have e1 := (hW.block _ (Array.getElem?_eq_some_iff.1 hA).1).trans hA
    have e2 := (hW.block _ (Array.getElem?_eq_some_iff.1 hB).1).trans hB
    refine ⟨⟨?_, ?_, ?_, ?_, ?_⟩, ?_, ?_, ?_, ?_, ?_⟩ <;> first | (rw [cell_of_row _ _ _ _ _ (0, 0) e1]; rfl) | (rw [cell_of_row _ _ _ _ _ (0, 0) e2]; rfl)))
  have Hb2 := Lib.hid hb2
  have Hw2 := Lib.hid hw2
  have HOr := Lib.hid (fun (W : World) (b : Nat) (hb : W.heap[b]? = some (.cells #[.int .i64 (ordI k k'), .int .i64 (ordI n n'), .int .i64 cb, .int .i64 ct, .int .i64 cl] 3 (0, 0))) => or_any (fun i => if i = 0 then ordI k k' else if i = 1 then ordI n n' else if i = 2 then cb else if i = 3 then ct else cl) W b hb)
  clear hw2 hb2 hA hB
  go_enter Tryz.func121, Tryz.ntmps121
  go_wp2_with fail
  rw [← Hw2.out]
  go_region_held3 (fun W => (W.cell? ⟨w.heap.size, 0, none⟩ = some (.int .i64 k) ∧ W.cell? ⟨w.heap.size, 1, none⟩ = some (.int .i64 n) ∧ W.cell? ⟨w.heap.size, 2, none⟩ = some (.float .f64 f) ∧ W.cell? ⟨w.heap.size, 3, none⟩ = some (.string (str s)) ∧ W.cell? ⟨w.heap.size, 4, none⟩ = some (.slice a len cap)) ∧
      (W.cell? ⟨w.heap.size + 1, 0, none⟩ = some (.int .i64 k') ∧ W.cell? ⟨w.heap.size + 1, 1, none⟩ = some (.int .i64 n') ∧ W.cell? ⟨w.heap.size + 1, 2, none⟩ = some (.float .f64 f') ∧ W.cell? ⟨w.heap.size + 1, 3, none⟩ = some (.string (str s')) ∧ W.cell? ⟨w.heap.size + 1, 4, none⟩ = some (.slice a' len' cap')))
    (first | exact HK.out _ ((Below.refl _ _).drew) | exact HK.out _ hb3 | exact HK.out _ (hb3.alloc hb3.size _))
    (first
      | (go_at_call 158; (with_reducible refine (cmpi_any _ _ _).mono ?_); rintro e w1 ⟨rfl, rfl⟩)
      | (go_at_call 159; (with_reducible refine (cmpi64_any _ _ _).mono ?_); rintro e w1 ⟨rfl, rfl⟩)
      | (go_at_call 160; (with_reducible refine (HN.out _).mono ?_); rintro e w1 ⟨rfl, rfl⟩)
      | (go_at_call 161; (with_reducible refine (HS.out _).mono ?_); rintro e w1 ⟨rfl, rfl⟩)
      | (go_at_call 162; (with_reducible refine (HF.out w2.drew (Hb2.out.drew)).mono ?_); rintro e w3 ⟨rfl, hb30⟩; have hb3 : Below w2.heap.size w2 w3 := (((Below.refl _ _).drew).trans hb30); clear hb30)
      | (go_at_call 157; (with_reducible refine (HOr.out (w3.alloc _) w3.heap.size (heap_alloc_new w3 _)).mono ?_); rintro e w4 ⟨rfl, rfl⟩))
  have Hb4 := Lib.hid (Hb2.out.trans ((hb3.alloc hb3.size (.cells #[.int .i64 (ordI k k'), .int .i64 (ordI n n'), .int .i64 cb, .int .i64 ct, .int .i64 cl] 3)).mono Hb2.out.size))
  clear hb3
  go_wp2_with fail
  go_ret
  exact ⟨rfl, Hb4.out⟩

theorem vcompareC_any : ∀ (v v' : V) (x x' : Array Value) (w : World), VIn w v x → VIn w v' x' →
    Calls Tryz.prog 121 #[.agg x, .agg x'] w fun e w' => e = .returned (.int .i64 (cmpC v v')) ∧ Below w.heap.size w w' := by
  refine V.ind ?_
  intro v ih v' x x' w h h'
  obtain ⟨k, n, f, s, l⟩ := v
  obtain ⟨k', n', f', s', l'⟩ := v'
  obtain ⟨_, _, hf, hs, _, a, cap, rfl, hcap, hmax, hl⟩ := h.parts
  obtain ⟨_, _, hf', hs', _, a', cap', rfl, hcap', hmax', hl'⟩ := h'.parts
  change l.length ≤ cap at hcap
  change l'.length ≤ cap' at hcap'
  change f < 18446744073709551616 at hf
  change f' < 18446744073709551616 at hf'
  change ∀ c ∈ s, c < 256 at hs
  change ∀ c ∈ s', c < 256 at hs'
  change ∀ u ∈ l, _ at ih
  change Lies w l a at hl
  change Lies w l' a' at hl'
  change Calls _ _ #[.agg (cells5 k n f s a l.length cap), .agg (cells5 k' n' f' s' a' l'.length cap')] _ _
  rw [show cmpC (V.mk k n f s l) (V.mk k' n' f' s' l') = first5 (ordI k k') (ordI n n') (cmpB f f') (cmpT s s') (cmpK l l') from by rw [cmpC]; rfl]
  refine compareC_core k n f s a l.length cap k' n' f' s' a' l'.length cap' _ _ _ w (fun W => (compare_any f f' W hf hf').mono (by rintro e w' ⟨rfl, rfl⟩; exact ⟨rfl, rfl⟩)) (fun W => (Tryz.strings_Compare (str s) (str s') W).mono ?_) (fun W hW => cmpfunc_any l l' a a' cap cap' W (hl.below hW) (hl'.below hW) hcap hmax ih)
  rintro e w' ⟨rfl, rfl⟩
  refine ⟨?_, rfl⟩
  have e1 : ∀ q : List Nat, (str q).data.toList = q.map UInt8.ofNat := fun q => by simp [str]
  rw [e1, e1, compareBytes_cmpT s s' hs hs']

set_option maxRecDepth 100000 in
theorem vsameC_any (v v' : V) (x x' : Array Value) (w : World) (h : VIn w v x) (h' : VIn w v' x') :
    Calls Tryz.prog 81 #[.agg x, .agg x'] w fun e w' => e = .returned (.bool (sameV v v')) ∧ Below w.heap.size w w' := by
  have hz := cmpC_zero v v' (VIn.words v x h) (VIn.words v' x' h')
  have Hres := Lib.hid (show sameV v v' = (cmpC v v' == 0) from by
    rw [Bool.eq_iff_iff, beq_iff_eq]
    exact hz.symm)
  obtain ⟨_, _, _, _, _, a, cap, rfl, _⟩ := h.parts
  obtain ⟨_, _, _, _, _, a', cap', rfl, _⟩ := h'.parts
  have hal := ((Below.refl w.heap.size w).alloc (Nat.le_refl _) (.cells (cells5 v.kind v.n v.f v.s a v.l.length cap) 43)).alloc (by simp) (.cells (cells5 v'.kind v'.n v'.f v'.s a' v'.l.length cap') 43)
  have HC := Lib.hid (vcompareC_any v v' _ _ _ (h.below hal) (h'.below hal))
  have Hal := Lib.hid hal
  generalize sameV v v' = res at *
  generalize cmpC v v' = c at *
  clear h h' hz hal
  have hsf := fun (W : World) (A : Addr) (f : Nat) (m : Mode) => (run_store Tryz.prog W A (.float .f64 f) m rfl)
  go_enter Tryz.func81, Tryz.ntmps81
  go_wp2_with fail
  refine HC.out.mono ?_
  rintro e w1 ⟨rfl, hb⟩
  have Hb := Lib.hid (Hal.out.trans (hb.mono Hal.out.size))
  clear hb
  go_wp2
  go_ret
  exact ⟨ret_bool Hres.out.symm, Hb.out⟩
end Go.Proofs.YtcapbaocchaenaaGreatDoor

