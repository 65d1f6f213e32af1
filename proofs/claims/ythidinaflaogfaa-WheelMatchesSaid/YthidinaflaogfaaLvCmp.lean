/- The order of items: the library's comparisons, the code's, the reference's. -/
import Derived.Test.YthidinaflaogfaaLvD
namespace Go.Proofs.Ythidinaflaogfaa
open Go.RowKit

/-- The order of two numbers. -/
def cmpU (a b : Nat) : Int := if a < b then -1 else if b < a then 1 else 0

theorem cmpU_zero {a b : Nat} : cmpU a b = 0 ↔ a = b := by
  unfold cmpU
  split
  · constructor
    · intro h; cases h
    · omega
  · split
    · constructor
      · intro h; cases h
      · omega
    · constructor
      · intro _; omega
      · intro _; rfl

/-- The order of two items: a number and a tick each. -/
def cmpI (i a j b : Nat) : Int := if a = b then cmpU i j else cmpU a b

set_option maxRecDepth 100000 in
theorem nan_any (a : Nat) (w : World) : Calls Try.prog 76 #[.int .u64 (a : Int)] w fun r w' => r = .returned (.bool false) ∧ w' = w := by
  go_enter Try.func76, Try.ntmps76
  go_wp2
  go_ret
  exact ⟨ret_bool (by simp), rfl⟩

set_option maxRecDepth 100000 in
theorem cmp_any (a b : Nat) (w : World) : Calls Try.prog 69 #[.int .u64 (a : Int), .int .u64 (b : Int)] w fun r w' => r = .returned (.int .i64 (cmpU a b)) ∧ w' = w := by
  have HN := Lib.hid (fun a w => nan_any a w)
  unfold cmpU
  by_cases h1 : a < b
  · rw [if_pos h1]
    have hq : (a : Int) < (b : Int) := by omega
    go_enter Try.func69, Try.ntmps69
    go_wp2_with fail
    refine (HN.out a _).mono ?_
    rintro r w1 ⟨rfl, rfl⟩
    go_wp2_with fail
    refine (HN.out b _).mono ?_
    rintro r w1 ⟨rfl, rfl⟩
    go_wp2
    go_ret
    exact ⟨rfl, rfl⟩
  · rw [if_neg h1]
    have hq : ¬ (a : Int) < (b : Int) := by omega
    by_cases h2 : b < a
    · rw [if_pos h2]
      have hq2 : (b : Int) < (a : Int) := by omega
      go_enter Try.func69, Try.ntmps69
      go_wp2_with fail
      refine (HN.out a _).mono ?_
      rintro r w1 ⟨rfl, rfl⟩
      go_wp2_with fail
      refine (HN.out b _).mono ?_
      rintro r w1 ⟨rfl, rfl⟩
      go_wp2
      go_ret
      exact ⟨rfl, rfl⟩
    · rw [if_neg h2]
      have hq2 : ¬ (b : Int) < (a : Int) := by omega
      go_enter Try.func69, Try.ntmps69
      go_wp2_with fail
      refine (HN.out a _).mono ?_
      rintro r w1 ⟨rfl, rfl⟩
      go_wp2_with fail
      refine (HN.out b _).mono ?_
      rintro r w1 ⟨rfl, rfl⟩
      go_wp2
      go_ret
      exact ⟨rfl, rfl⟩

set_option maxRecDepth 100000 in
theorem or_any (b : Nat) (x y : Int) (w : World) (h0 : w.cell? ⟨b, 0, none⟩ = some (.int .i64 x)) (h1 : w.cell? ⟨b, 1, none⟩ = some (.int .i64 y)) :
    Calls Try.prog 68 #[.slice (some ⟨b, 0, none⟩) 2 2] w fun r w' => r = .returned (.int .i64 (if x = 0 then y else x)) ∧ w' = w := by
  obtain ⟨R, hR⟩ : ∃ R, R = if x = 0 then y else x := ⟨_, rfl⟩
  rw [← hR]
  go_enter Try.func68, Try.ntmps68
  go_wp2
  go_loopw [8] (fun i wr => ∃ j : Nat, j ≤ 2 ∧ i = .int .i64 (j : Int) ∧ (0 < j → x = 0) ∧ (1 < j → y = 0) ∧ wr = w) (fun i _ => 2 - (intOf i).toNat)
  case atStart => exact ⟨0, by decide, rfl, fun h => absurd h (by decide), fun h => absurd h (by decide), rfl⟩
  case round =>
    obtain ⟨j, hj, rfl, hx, hy, rfl⟩ := hrel
    obtain rfl | rfl | rfl : j = 0 ∨ j = 1 ∨ j = 2 := by omega
    · by_cases hz : x = 0
      · have hzq : (x != 0) = false := by simp [hz]
        clear hx hy
        go_wp2
        go_roundw
        case rel => exact ⟨1, by decide, by go_num, fun _ => hz, fun h => absurd h (by decide), trivial⟩
        case measure => simp [intOf]
      · have hzq : (x != 0) = true := by rw [bne_iff_ne]; exact hz
        rw [if_neg hz] at hR
        clear hx hy
        go_wp2
        go_ret
        exact ⟨ret_i64 hR.symm, rfl⟩
    · rw [if_pos (hx (by decide))] at hR
      by_cases hz : y = 0
      · have hzq : (y != 0) = false := by simp [hz]
        have hx0 := hx (by decide)
        clear hx hy
        go_wp2
        go_roundw
        case rel => exact ⟨2, by decide, by go_num, fun _ => hx0, fun _ => hz, trivial⟩
        case measure => simp [intOf]
      · have hzq : (y != 0) = true := by rw [bne_iff_ne]; exact hz
        clear hx hy
        go_wp2
        go_ret
        exact ⟨ret_i64 hR.symm, rfl⟩
    · rw [if_pos (hx (by decide))] at hR
      have hy0 := hy (by decide)
      clear hx hy
      go_wp2
      go_ret
      exact ⟨ret_i64 (by omega), rfl⟩

theorem order_any (a b : Nat) (w : World) : Calls Try.prog 48 #[.int .u64 (a : Int), .int .u64 (b : Int)] w fun r w' => r = .returned (.int .i64 (cmpU a b)) ∧ w' = w := by
  unfold cmpU
  by_cases h1 : a < b
  · rw [if_pos h1]
    have hq : (a : Int) < (b : Int) := by omega
    go_enter Try.func48, Try.ntmps48
    go_wp2
    go_ret
    exact ⟨rfl, rfl⟩
  · rw [if_neg h1]
    have hq : ¬ (a : Int) < (b : Int) := by omega
    by_cases h2 : b < a
    · rw [if_pos h2]
      have hq2 : (b : Int) < (a : Int) := by omega
      go_enter Try.func48, Try.ntmps48
      go_wp2
      go_ret
      exact ⟨rfl, rfl⟩
    · rw [if_neg h2]
      have hq2 : ¬ (b : Int) < (a : Int) := by omega
      go_enter Try.func48, Try.ntmps48
      go_wp2
      go_ret
      exact ⟨rfl, rfl⟩

/-- An item's cells. -/
def itC (i a : Nat) : Array Value := #[.int .u64 (i : Int), .int .u64 (a : Int)]

theorem two_boxes (w : World) (p q r s : Value) (t t' : TypeId) : ∃ W, W = (w.alloc (.cells #[p, q] t)).alloc (.cells #[r, s] t') ∧ W.heap.size = w.heap.size + 2 ∧ Below w.heap.size w W ∧
    W.cell? ⟨w.heap.size, 0, none⟩ = some p ∧ W.cell? ⟨w.heap.size, 1, none⟩ = some q ∧ W.cell? ⟨w.heap.size + 1, 0, none⟩ = some r ∧ W.cell? ⟨w.heap.size + 1, 1, none⟩ = some s := by
  refine ⟨_, rfl, by simp, ((Below.refl w.heap.size w).alloc (Nat.le_refl _) _).alloc (by simp) _, ?_, ?_, ?_, ?_⟩
  · rw [cell_of_row _ _ _ _ _ (0, 0) ((heap_alloc_old _ _ (by simp)).trans (heap_alloc_new _ _))]; rfl
  · rw [cell_of_row _ _ _ _ _ (0, 0) ((heap_alloc_old _ _ (by simp)).trans (heap_alloc_new _ _))]; rfl
  · rw [cell_of_row _ _ _ _ _ (0, 0) (show _ = some (Obj.cells #[r, s] t' (0, 0)) by have := heap_alloc_new (w.alloc (.cells #[p, q] t)) (.cells #[r, s] t'); rw [World.size_alloc] at this; exact this)]; rfl
  · rw [cell_of_row _ _ _ _ _ (0, 0) (show _ = some (Obj.cells #[r, s] t' (0, 0)) by have := heap_alloc_new (w.alloc (.cells #[p, q] t)) (.cells #[r, s] t'); rw [World.size_alloc] at this; exact this)]; rfl

theorem box2 (w : World) (u v : Value) (t : TypeId) : (w.alloc (.cells #[u, v] t)).cell? ⟨w.heap.size, 0, none⟩ = some u ∧ (w.alloc (.cells #[u, v] t)).cell? ⟨w.heap.size, 1, none⟩ = some v := by
  constructor <;> (rw [cell_of_row _ _ _ _ _ (0, 0) (heap_alloc_new _ _)]; rfl)

set_option maxRecDepth 100000 in
set_option maxHeartbeats 3200000 in
theorem compare_any (i a j b : Nat) (w : World) :
    Calls Try.prog 54 #[.agg #[.int .u64 (i : Int), .int .u64 (a : Int)], .agg #[.int .u64 (j : Int), .int .u64 (b : Int)]] w fun r w' => r = .returned (.int .i64 (cmpI i a j b)) ∧ Below w.heap.size w w' := by
  have HC := Lib.hid (fun a b w => cmp_any a b w)
  have e : cmpI i a j b = if cmpU a b = 0 then cmpU i j else cmpU a b := by
    unfold cmpI
    by_cases h : a = b
    · rw [if_pos h, if_pos (cmpU_zero.2 h)]
    · rw [if_neg h, if_neg (fun h' => h (cmpU_zero.1 h'))]
  rw [e]
  have HO := Lib.hid (fun (W : World) t => or_any W.heap.size (cmpU a b) (cmpU i j) (W.alloc (.cells #[.int .i64 (cmpU a b), .int .i64 (cmpU i j)] t)).drew (box2 W _ _ t).1 (box2 W _ _ t).2)
  clear e
  generalize (if cmpU a b = 0 then cmpU i j else cmpU a b) = R at *
  obtain ⟨W, hW, hsz, hbW, g0, g1, g2, g3⟩ := two_boxes w (.int .u64 (i : Int)) (.int .u64 (a : Int)) (.int .u64 (j : Int)) (.int .u64 (b : Int)) 44 44
  have HbW := Lib.hid hbW
  have Hsz := Lib.hid hsz
  clear hbW hsz
  go_enter Try.func54, Try.ntmps54
  go_wp2_with fail
  rw [← hW]
  clear hW
  go_region_held3 (fun w' => w'.cell? ⟨w.heap.size, 0, none⟩ = some (.int .u64 (i : Int)) ∧ w'.cell? ⟨w.heap.size, 1, none⟩ = some (.int .u64 (a : Int)) ∧ w'.cell? ⟨w.heap.size + 1, 0, none⟩ = some (.int .u64 (j : Int)) ∧ w'.cell? ⟨w.heap.size + 1, 1, none⟩ = some (.int .u64 (b : Int)))
    (first
      | exact ⟨g0, g1, g2, g3⟩
      | exact ⟨cell_below ((Below.refl _ _).alloc (Nat.le_refl _) _).drew g0, cell_below ((Below.refl _ _).alloc (Nat.le_refl _) _).drew g1, cell_below ((Below.refl _ _).alloc (Nat.le_refl _) _).drew g2, cell_below ((Below.refl _ _).alloc (Nat.le_refl _) _).drew g3⟩)
    (first
      | (go_at_call 69; (with_reducible refine (HC.out _ _ _).mono ?_); rintro r w2 ⟨rfl, rfl⟩)
      | (go_at_call 68; (with_reducible refine (HO.out _ _).mono ?_); rintro r w2 ⟨rfl, rfl⟩))
  go_wp2
  go_ret
  exact ⟨rfl, (HbW.out.alloc HbW.out.size _).drew⟩

set_option maxRecDepth 100000 in
set_option maxHeartbeats 3200000 in
theorem rcompare_any (i a j b : Nat) (w : World) :
    Calls Try.prog 38 #[.agg #[.int .u64 (i : Int), .int .u64 (a : Int)], .agg #[.int .u64 (j : Int), .int .u64 (b : Int)]] w fun r w' => r = .returned (.int .i64 (cmpI i a j b)) ∧ Below w.heap.size w w' := by
  have HO := Lib.hid (fun a b w => order_any a b w)
  have Hb := Lib.hid (((Below.refl w.heap.size w).alloc (Nat.le_refl _) (.cells #[.int .u64 (i : Int), .int .u64 (a : Int)] 36)).alloc (by simp) (.cells #[.int .u64 (j : Int), .int .u64 (b : Int)] 36))
  unfold cmpI
  by_cases h : a = b
  · rw [if_pos h]
    subst h
    have hq : ((a : Int) != (a : Int)) = false := by simp
    go_enter Try.func38, Try.ntmps38
    go_wp2_with fail
    refine (HO.out _ _ _).mono ?_
    rintro r w2 ⟨rfl, rfl⟩
    go_wp2
    go_ret
    exact ⟨rfl, Hb.out⟩
  · rw [if_neg h]
    have hq : ((a : Int) != (b : Int)) = true := by rw [bne_iff_ne]; omega
    go_enter Try.func38, Try.ntmps38
    go_wp2_with fail
    refine (HO.out _ _ _).mono ?_
    rintro r w2 ⟨rfl, rfl⟩
    go_wp2
    go_ret
    exact ⟨rfl, Hb.out⟩
end Go.Proofs.Ythidinaflaogfaa
