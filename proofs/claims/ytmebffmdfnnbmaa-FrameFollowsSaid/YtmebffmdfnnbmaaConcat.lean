/- The walks of slices.Grow of no slice and of slices.Concat, of bytes. -/
import Derived.Test.YtmebffmdfnnbmaaSlice
import Derived.Lib.AppendZeros
namespace Go.Proofs.Ytmebffmdfnnbmaa
open Go.RowKit

theorem flat_one {ls : List (List Nat)} {k : Nat} (hk : k < ls.length) : (ls.take (k + 1)).flatten = (ls.take k).flatten ++ ls.getD k [] := by
  rw [List.take_succ_eq_append_getElem hk, List.flatten_append, List.getD_eq_getElem?_getD, List.getElem?_eq_getElem hk]
  simp

theorem flat_le {ls : List (List Nat)} {k : Nat} : (ls.take k).flatten.length ≤ ls.flatten.length := by
  conv => rhs; rw [← List.take_append_drop k ls, List.flatten_append, List.length_append]
  omega

theorem parts_at {w : World} {a : Option Addr} {n cap : Nat} {ls : List (List Nat)} (h : Parts w a n cap ls) {k : Nat} (hk : k < n) : ∃ b o a' n' c', a = some ⟨b, o, none⟩ ∧ w.cell? ⟨b, o + k, none⟩ = some (.slice a' n' c') ∧ Bytes w a' n' c' (ls.getD k []) := by
  obtain ⟨b, o, e, _, hc⟩ := h.cell (by omega)
  obtain ⟨a', n', c', g1, g2⟩ := hc k hk
  exact ⟨b, o, a', n', c', e, g1, g2⟩

set_option maxRecDepth 100000 in
theorem grow_none (n : Nat) (w : World) (hn : n ≤ 100000000000000) :
    Calls Try.prog 29 #[.slice none 0 0, .int .i64 (n : Int)] w (NewBytes w []) := by
  by_cases h0 : 0 < n
  · obtain ⟨i0, hi, hz0, hz1, hz2⟩ := info_parts info_u8
    have hge := grownCap_ge w n 0 5
    have hcm := grownCap_le_maxLen w n 0 5 (by rw [maxLen_nat]; omega)
    have hr := fun ty => Lib.run_append_nil_zeros (P := Try.prog) w 25 3 ty 5 i0 (.int .u8 0) .i64 .i64 Try.underlying25 Try.underlying3 hi hz0 n h0 (by omega) (by omega) (by rw [hz2]; omega)
    obtain ⟨G, hG⟩ : ∃ G, G = grownCap w n 0 5 := ⟨_, rfl⟩
    rw [← hG] at hr hge hcm
    rw [maxLen_nat] at hcm
    have Hr := Lib.hid hr
    clear hG hr hz0 hz1 hz2 hi
    have hown : (w.drew.alloc (.cells (Builtin.zeroCells (Value.int .u8 0).cells n ++ Builtin.zeroCells (Value.int .u8 0).cells (G - n)) 5)).ownsRow w.heap.size 5 1 (.slice (some ⟨w.heap.size, 0, none⟩) 0 G) 0 (u8s []) := by
      refine ⟨rfl, .inr ⟨w.heap.size, G, _, rfl, Nat.le_refl _, heap_alloc_new w.drew _, Nat.zero_le _, hcm, ?_, rfl⟩⟩
      have h1 : (Value.int IntKind.u8 0).cells.size = 1 := rfl
      simp only [Array.size_append, size_zeroCells, h1]
      omega
    have Hown := Lib.hid hown
    clear hown
    go_enter Try.func29, Try.ntmps29
    go_wp2_with (at_builtin; refine Lib.wpList_append_run _ rfl _ _ 25 3 rfl _ _ rfl rfl _ _ (Hr.out _) ?_)
    go_ret
    exact ⟨_, rfl, Hown.out, ((Below.refl _ _).drew).alloc (Nat.le_refl _) _⟩
  · obtain rfl : n = 0 := by omega
    go_enter Try.func29, Try.ntmps29
    go_wp2
    go_ret
    exact ⟨_, rfl, World.ownsRow_nil _ _ _ _, Below.refl _ _⟩

def CatSum (ls : List (List Nat)) (z i : Value) : Prop := ∃ k : Nat, k ≤ ls.length ∧ i = .int .i64 k ∧ z = .int .i64 ((ls.take k).flatten.length : Nat)

def CatTo (w : World) (ls : List (List Nat)) (v i : Value) (wr : World) : Prop :=
  ∃ k : Nat, k ≤ ls.length ∧ i = .int .i64 k ∧ wr.ownsRow w.heap.size 5 1 v (ls.take k).flatten.length (u8s (ls.take k).flatten) ∧ Below w.heap.size w wr

theorem catTo_step {w wr w1 : World} {ls : List (List Nat)} {v v' : Value} {k n' : Nat} {l : List Nat} (hk : k < ls.length) (hl : ls.getD k [] = l) (hn : l.length = n')
    (hown : wr.ownsRow w.heap.size 5 1 v (ls.take k).flatten.length (u8s (ls.take k).flatten)) (hbel : Below w.heap.size w wr)
    (g1 : w1.ownsRow w.heap.size 5 1 v' ((ls.take k).flatten.length + n') (u8s ((ls.take k).flatten ++ l))) (g2 : wr.grownBy w1 v.ownBlock) : CatTo w ls v' (.int .i64 ((k : Int) + 1)) w1 := by
  subst hl
  subst hn
  refine ⟨k + 1, hk, by go_num, ?_, hbel.grown g2 hbel.size (fun x hx => (hown.lt x hx).1)⟩
  rw [flat_one hk, List.length_append]
  exact g1

set_option maxRecDepth 100000 in
set_option maxHeartbeats 800000 in
theorem concat_any (a : Option Addr) (n cap : Nat) (ls : List (List Nat)) (w : World) (hl : Parts w a n cap ls) (hmax : ls.flatten.length ≤ 100000000000000) :
    Calls Try.prog 19 #[.slice a n cap] w (NewBytes w ls.flatten) := by
  have hls := Lib.hid hl.len
  have hnb := hl.max
  have hP := Lib.hid hl
  clear hl
  go_enter Try.func19, Try.ntmps19
  go_wp2
  go_loop [3, 11] (fun z i => CatSum ls z i) (fun _ i => n - (intOf i).toNat)
  case atStart => exact ⟨0, Nat.zero_le _, rfl, rfl⟩
  case round =>
    obtain ⟨k, hk, rfl, rfl⟩ := hrel
    by_cases hlt : k < n
    · obtain ⟨b, o, a', n', c', rfl, hc, hB⟩ := parts_at hP.out hlt
      have hfl := flat_le (ls := ls) (k := k)
      have hfl2 := flat_le (ls := ls) (k := k + 1)
      have hf1 := flat_one (show k < ls.length by rw [hls.out]; exact hlt)
      rw [hf1, List.length_append, hB.len] at hfl2
      have Hf1 := Lib.hid (show (ls.take (k + 1)).flatten.length = (ls.take k).flatten.length + n' by rw [hf1, List.length_append, hB.len])
      clear hB hf1
      generalize (ls.take k).flatten.length = s at hfl hfl2 Hf1
      have hs0 : ¬ ((s : Int) + (n' : Int) < 0) := by omega
      go_wp2
      go_round
      case rel => exact ⟨k + 1, by rw [hls.out]; exact hlt, by go_num, by rw [Hf1.out]; go_num⟩
      case measure => simp [intOf]; omega
    · have hkn : k = ls.length := by have := hls.out; omega
      have ht : ls.take k = ls := by rw [hkn, List.take_length]
      rw [ht]
      have Hmax := Lib.hid hmax
      have hfn : ls.flatten.length ≤ 100000000000000 := hmax
      clear ht hkn hmax
      generalize ls.flatten.length = F at hfn ⊢
      go_wp2_with fail
      refine (grow_none F w hfn).mono ?_
      rintro e w1 ⟨v, rfl, hown, hb⟩
      have Hown := Lib.hid hown
      clear hown
      go_wp2_with fail
      go_loopw [6, 27] (fun v i wr => CatTo w ls v i wr) (fun _ i _ => n - (intOf i).toNat)
      case atStart => exact ⟨0, Nat.zero_le _, rfl, Hown.out, hb⟩
      case round =>
        obtain ⟨j, hj, rfl, hown, hbel⟩ := hrel
        by_cases hlt2 : j < n
        · obtain ⟨b, o, a', n', c', rfl, hc, hB⟩ := parts_at (hP.out.grow hbel) hlt2
          have hmax := Hmax.out
          have hfl := flat_le (ls := ls) (k := j)
          have hfl2 := flat_le (ls := ls) (k := j + 1)
          rw [flat_one (by rw [hls.out]; exact hlt2), List.length_append, hB.len] at hfl2
          have hc5 : (ls.take j).flatten.length + n' ≤ 140737488355328 := by omega
          have hB' := Lib.hid hB
          generalize hgl : ls.getD j [] = l at hB'
          have Hgl := Lib.hid hgl
          clear hB hgl hmax hfl hfl2
          go_wp2_with (at_builtin; refine wpList_append_bytes _ rfl _ _ 25 rfl w.heap.size 5 Try.underlying25 info_u8 _ _ _ rfl hown a' n' c' l rfl hB'.out hc5 hbel.size ?_; intro v' w1 g1 g2)
          go_roundw
          case rel => exact catTo_step (by rw [hls.out]; exact hlt2) Hgl.out hB'.out.len hown hbel g1 g2
          case measure => simp [intOf]; omega
        · have hkn : j = ls.length := by have := hls.out; omega
          have ht : ls.take j = ls := by rw [hkn, List.take_length]
          rw [ht] at hown
          have Hown2 := Lib.hid hown
          clear ht hkn hown
          go_wp2
          go_ret
          exact ⟨_, rfl, Hown2.out, hbel⟩

theorem parts_five {w : World} {a1 a2 a3 a4 a5 : Option Addr} {n1 n2 n3 n4 n5 c1 c2 c3 c4 c5 : Nat} {l1 l2 l3 l4 l5 : List Nat} (h1 : Bytes w a1 n1 c1 l1) (h2 : Bytes w a2 n2 c2 l2) (h3 : Bytes w a3 n3 c3 l3) (h4 : Bytes w a4 n4 c4 l4) (h5 : Bytes w a5 n5 c5 l5) (t : TypeId) :
    Parts (w.alloc (.cells #[.slice a1 n1 c1, .slice a2 n2 c2, .slice a3 n3 c3, .slice a4 n4 c4, .slice a5 n5 c5] t)) (some ⟨w.heap.size, 0, none⟩) 5 5 [l1, l2, l3, l4, l5] := by
  refine ⟨rfl, Nat.le_refl _, by omega, fun _ => ⟨w.heap.size, 0, rfl, by simp, fun i hi => ?_⟩⟩
  have hb : Below w.heap.size w (w.alloc (.cells #[.slice a1 n1 c1, .slice a2 n2 c2, .slice a3 n3 c3, .slice a4 n4 c4, .slice a5 n5 c5] t)) := (Below.refl _ _).alloc (Nat.le_refl _) _
  rcases (show i = 0 ∨ i = 1 ∨ i = 2 ∨ i = 3 ∨ i = 4 by omega) with rfl | rfl | rfl | rfl | rfl
  · exact ⟨a1, n1, c1, by rw [Nat.zero_add, cell_of_row _ _ _ _ _ (0, 0) (heap_alloc_new _ _)]; rfl, h1.grow hb⟩
  · exact ⟨a2, n2, c2, by rw [Nat.zero_add, cell_of_row _ _ _ _ _ (0, 0) (heap_alloc_new _ _)]; rfl, h2.grow hb⟩
  · exact ⟨a3, n3, c3, by rw [Nat.zero_add, cell_of_row _ _ _ _ _ (0, 0) (heap_alloc_new _ _)]; rfl, h3.grow hb⟩
  · exact ⟨a4, n4, c4, by rw [Nat.zero_add, cell_of_row _ _ _ _ _ (0, 0) (heap_alloc_new _ _)]; rfl, h4.grow hb⟩
  · exact ⟨a5, n5, c5, by rw [Nat.zero_add, cell_of_row _ _ _ _ _ (0, 0) (heap_alloc_new _ _)]; rfl, h5.grow hb⟩
end Go.Proofs.Ytmebffmdfnnbmaa
