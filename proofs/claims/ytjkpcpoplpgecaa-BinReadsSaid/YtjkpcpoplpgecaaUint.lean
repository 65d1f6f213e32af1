/- The walk of Uint: a loop over a range function that yields the bytes of the form. -/
import Derived.Test.YtjkpcpoplpgecaaRUint
import Derived.RangeFuncBox
import Derived.RangeFuncLeaves
import Derived.Shelf.Abstract
import Derived.OwnWalkIn
import Derived.TacticsInMore
import Derived.LoopNIn
import Derived.LoopIn
import Derived.Maps.AppendAt
namespace Go.Proofs.Ytjkpcpoplpgecaa
open Go.RowKit Go.Shelf

attribute [local go_sem] Oper.semAt_some

theorem or128 (y : Nat) : bits .or .u8 ((y : Int) % 256) 128 = (y : Int) % 128 + 128 := by
  have h := u8_or_nat (y % 256) 128 (by omega) (by omega)
  have hall : ∀ z : Fin 256, (z.val ||| 128) = z.val % 128 + 128 := by decide +kernel
  have e : y % 256 ||| 128 = y % 128 + 128 := by
    have := hall ⟨y % 256, by omega⟩
    simp only at this
    rw [this]
    omega
  rw [e] at h
  rw [show ((y : Int) % 256) = ((y % 256 : Nat) : Int) by omega, show ((y : Int) % 128 + 128) = ((y % 128 + 128 : Nat) : Int) by omega]
  exact h

set_option maxRecDepth 100000 in
set_option maxHeartbeats 1000000 in
/-- What the range function of a number yields: the bytes of the form, in order; or the first of them, where a round has said 'no more'. -/
theorem digits1_in (F : Fence) (n : Nat) (h6 : F.fn 42) (hro : F.round = none) (hn : 1 ≤ n) (l Bn x : Nat) (hx : x < 18446744073709551616) (J Jx : List Nat → World → Prop)
    (hY : ∀ pre (z : Nat) W, J pre W → pre.length < (form x).length → YieldAt F (n - 1) Try.prog l #[.int .u8 (z : Int)] W fun e W' =>
      (e = .returned (.bool true) ∧ J (pre ++ [z]) W' ∧ True) ∨ (e = .returned (.bool false) ∧ Jx (pre ++ [z]) W'))
    (W : World) (hBn : W.cell? ⟨Bn, 0, none⟩ = some (.int .u64 (x : Int))) (h0 : J [] W) :
    CallsIn F n Try.prog 42 #[.func (.yield l) #[] #[], .pointer (some ⟨Bn, 0, none⟩)] W fun e W' => (∃ v, e = .returned v) ∧
      ((∃ ys, ys = form x ∧ J ys W') ∨ (∃ pre, pre <+: form x ∧ Jx pre W')) := by
  refine callsIn_of_wp Try.func42 rfl h6 ?_ hro
  simp only [Try.ntmps42, List.size_toArray, List.length_cons, List.length_nil, Nat.reduceAdd, Nat.reduceSub, Array.replicate_succ, Array.replicate_zero, List.push_toArray, List.append_toArray, List.nil_append, List.cons_append]
  gi_wp2
  gi_loopw [3] (fun u wr => ∃ (pre : List Nat) (y : Nat), u = .int .u64 y ∧ y < 18446744073709551616 ∧ form x = pre ++ form y ∧ J pre wr) (fun u _ => (intOf u).toNat)
  case atStart => exact ⟨[], x, rfl, hx, rfl, h0⟩
  case round =>
    obtain ⟨pre, y, rfl, hy, hf, hJ⟩ := hrel
    have hlen : pre.length < (form x).length := by rw [hf, List.length_append]; have := form_pos y; omega
    have Hf := Lib.hid hf
    clear hf
    by_cases hlt : 128 ≤ y
    · obtain ⟨fn, tmps, assign, body, hy2, hR⟩ := hY pre (y % 128 + 128) wr hJ hlen
      have ho := or128 y
      rw [show ((y % 128 + 128 : Nat) : Int) = (y : Int) % 128 + 128 by omega] at hy2
      gi_wp2
      refine hR.mono ?_
      rintro e W3 (⟨rfl, hJ3, _⟩ | ⟨rfl, hJx3⟩)
      · gi_wp2
        go_roundw
        case rel => exact ⟨pre ++ [y % 128 + 128], y / 128, by go_num, by omega, by rw [Hf.out, form_big hlt]; simp, hJ3⟩
        case measure => simp [intOf]; omega
      · gi_wp2
        refine bodyPost_ret (results_none rfl _ _ _) rfl ?_
        exact ⟨⟨_, rfl⟩, .inr ⟨pre ++ [y % 128 + 128], ⟨form (y / 128), by rw [Hf.out, form_big hlt]; simp⟩, hJx3⟩⟩
    · obtain ⟨fn, tmps, assign, body, hy2, hR⟩ := hY pre y wr hJ hlen
      have hm : (y : Int) % 256 = (y : Int) := by omega
      gi_wp2
      refine hR.mono ?_
      rintro e W3 (⟨rfl, hJ3, _⟩ | ⟨rfl, hJx3⟩)
      · gi_wp2
        go_end0
        exact ⟨⟨_, rfl⟩, .inl ⟨pre ++ [y], by rw [Hf.out, form_small (by omega)], hJ3⟩⟩
      · gi_wp2
        go_end0
        exact ⟨⟨_, rfl⟩, .inr ⟨pre ++ [y], ⟨[], by rw [Hf.out, form_small (by omega)]; simp⟩, hJx3⟩⟩

set_option maxHeartbeats 1000000 in
/-- digits(x): the number is boxed; the function value captures the box. -/
theorem digits_in (F : Fence) (n : Nat) (h5 : F.fn 32) (hro : F.round = none) (x : Nat) (w : World) :
    CallsIn F n Try.prog 32 #[.int .u64 (x : Int)] w fun e w' => e = .returned (.func (.func 42) #[] #[.pointer (some ⟨w.heap.size, 0, none⟩)]) ∧ w' = w.alloc (.cells #[.int .u64 (x : Int)] 22) := by
  refine callsIn_of_wp Try.func32 rfl h5 ?_ hro
  simp only [Try.ntmps32, List.size_toArray, List.length_cons, List.length_nil, Nat.reduceAdd, Nat.reduceSub, Array.replicate_succ, Array.replicate_zero, List.push_toArray, List.append_toArray, List.nil_append, List.cons_append]
  gi_wp2
  go_ret
  exact ⟨rfl, rfl⟩

theorem digits_stops (F : Fence) (n : Nat) (h6 : F.fn 42) (hro : F.round = none) (hn : 1 ≤ n) (Bn x : Nat) (hx : x < 18446744073709551616) (w : World) (hBn : Bn < w.heap.size)
    (hc : w.cell? ⟨Bn, 0, none⟩ = some (.int .u64 (x : Int))) :
    SeqStopsK F n Try.prog 42 #[.pointer (some ⟨Bn, 0, none⟩)] (fun z : Nat => #[Value.int .u8 (z : Int)]) (fun _ _ => True) (fun ys => ys = form x) (fun pre => pre <+: form x) (form x).length w := fun l J Jx W hW _ _ hY h0 =>
  digits1_in F n h6 hro hn l Bn x hx J Jx hY W ((hW.cell (p := ⟨Bn, 0, none⟩) hBn).trans hc) h0

set_option maxRecDepth 100000 in
set_option maxHeartbeats 2000000 in
theorem uint_in (F : Fence) (n : Nat) (h3 : F.fn 10) (h4 : F.fn 32) (h5 : F.fn 42) (hro : F.round = none) (hn : 3 ≤ n) (x : Nat) (hx : x < 18446744073709551616) (w : World) :
    CallsIn F n Try.prog 10 #[.int .u64 (x : Int)] w (NewBytes w (form x)) := by
  have h1 : 1 ≤ n := by omega
  have hten := form_len hx
  obtain ⟨i0, hi, hz0, hz1, hz2⟩ := info_parts info_u8
  refine callsIn_of_wp_marks Try.func10 rfl h3 ?_ hro
  simp only [Try.ntmps10, List.size_toArray, List.length_cons, List.length_nil, Nat.reduceAdd, Nat.reduceSub, Array.replicate_succ, Array.replicate_zero, List.push_toArray, List.append_toArray, List.nil_append, List.cons_append]
  gi_wp2_with (gi_at_call 32; refine (digits_in F (n - 1) h4 hro _ _).mono ?_; rintro e w' ⟨rfl, rfl⟩)
  have bO := Boxed.new w 23 (.slice none 0 0)
  have bN := Boxed.new (w.alloc (.cells #[.slice none 0 0] 23)) 22 (.int .u64 (x : Int))
  rw [World.size_alloc] at bN
  have hB0 : Below w.heap.size w ((w.alloc (.cells #[.slice none 0 0] 23)).alloc (.cells #[.int .u64 (x : Int)] 22)) := ((Below.refl _ w).alloc (Nat.le_refl _) _).alloc (by simp) _
  refine wpIn_rangeFunc_ownG hro h1 (gf := 42) (lb := #[.pointer (some ⟨w.heap.size + 1, 0, none⟩)]) rfl h5 (enters_of Try.func42 (by kernel_rfl) rfl)
    (digits_stops F (n - 1) h5 hro (by omega) (w.heap.size + 1) x hx _ (by simp) bN.cell) (fun _ _ => trivial) (fun _ _ _ _ _ _ _ _ => trivial) (Below.refl _ _) (fun _ => rfl)
    (fun pre W => (∃ v, Boxed W w.heap.size 23 v ∧ W.ownsRow w.heap.size 5 1 v pre.length (u8s pre) ∧ True) ∧ Below w.heap.size w W)
    (fun _ _ _ => False)
    (OwnFrom.and (Own.from (holdsRow_own w.heap.size w.heap.size 23 5 1 (fun pre => pre.length) (fun pre => u8s pre) (fun _ _ => True)) _) (ownFrom_below (Nat.le_refl _) (by simp; omega)))
    (fun _ _ _ _ _ hs _ _ => hs)
    ⟨⟨_, bO.alloc _, World.ownsRow_nil _ _ _ _, trivial⟩, hB0⟩
    (fun z => { tmps := #[.int .u64 (x : Int), undef, .slice none 0 0, .pointer (some ⟨w.heap.size, 0, none⟩), .int .u8 (z : Int), .int .u64 (x : Int), .func (.func 42) #[] #[.pointer (some ⟨w.heap.size + 1, 0, none⟩)], .int .u8 (z : Int), undef, undef, undef, undef, undef], defers := [] }) ?assign ?body ?done ?stop
  case assign =>
    intro l z W K hK
    gi_wp2
    exact hK
  case body =>
    rintro l pre z W ⟨⟨v, hv, hrow, _⟩, hB⟩ hlt
    have hc := hv.cell
    gi_wp2_with (gi_at_builtin; refine wpListIn_append_own _ rfl _ _ 23 rfl w.heap.size 5 i0 (.int .u8 0) 1 1 Try.underlying23 hi hz0 hz1 hz2 rfl (by decide) _ _ _ rfl (hrow.alloc _) ⟨W.heap.size, 0, none⟩ 1 1 [.int .u8 (z : Int)] rfl rfl (cell_one_new _ _ _) (by simp [Value.oneCell']) (by rw [maxLen_nat]; omega) (by omega) (by have := hB.size; simp; omega) ?_; intro v' w1 hown' hgrow _; obtain ⟨g', cap', rfl⟩ := ownsRow_succ hown'; obtain ⟨hv1, hv2, hr2, hk2, hb2⟩ := hv.appended (by decide) hrow hB.size (Nat.le_refl _) hown' hgrow; have hc1 := hv1.cell; have hf1 := hv1.frozen)
    exact ⟨hk2.from _, trivial, ⟨_, hv2, by rw [List.length_append, u8s_append]; exact hr2, trivial⟩, hB.trans hb2⟩
  case done =>
    rintro D ys W hD rfl ⟨⟨v, hv, hrow, _⟩, hB⟩ hK
    have hc := hv.cell
    gi_wp2
    refine ⟨by simp, .inl ⟨_, _, rfl, run_takeDeferred hK, ?_⟩⟩
    exact ⟨_, results_tmp rfl _ _ _, v, rfl, ownsRow_putObj hrow _ hK rfl, hB.trans (belowK_b (w := w) (Nat.le_refl _) W D _ _ (by simp at hD; omega) hK rfl rfl)⟩
  case stop =>
    rintro D c pre W _ _ h _
    exact h.elim

theorem uint_any (x : Nat) (w : World) (hx : x < 18446744073709551616) : Calls Try.prog 10 #[.int .u64 (x : Int)] w (NewBytes w (form x)) :=
  (callsIn_wide (n := 3)).1 (uint_in Fence.wide 3 trivial trivial trivial rfl (Nat.le_refl _) x hx w)
end Go.Proofs.Ytjkpcpoplpgecaa
