/- The walk of slices.Equal of bytes. -/
import Derived.Test.YtpmjjefnmgbifaaGreatDoorMB1
namespace Go.Proofs.YtpmjjefnmgbifaaGreatDoor
open Go.RowKit

theorem equal_len (a a' : Option Addr) (n cap n' cap' : Nat) (w : World) (hn : n ≠ n') :
    Calls Tryz.prog 14 #[.slice a n cap, .slice a' n' cap'] w fun e w' => e = .returned (.bool false) ∧ w = w' := by
  have hq : ((n : Int) != (n' : Int)) = true := by rw [bne_iff_ne]; omega
  go_enter Tryz.func14, Tryz.ntmps14
  go_wp2
  go_ret
  exact ⟨rfl, rfl⟩

theorem take_next {l l' : List Nat} {k : Nat} (h : k < l.length) (h' : k < l'.length) (ht : l.take k = l'.take k) (hx : l.getD k 0 = l'.getD k 0) : l.take (k + 1) = l'.take (k + 1) := by
  rw [List.take_succ_eq_append_getElem h, List.take_succ_eq_append_getElem h', ht]
  rw [List.getD_eq_getElem?_getD, List.getElem?_eq_getElem h, List.getD_eq_getElem?_getD, List.getElem?_eq_getElem h'] at hx
  have hx : l[k] = l'[k] := hx
  rw [hx]

def EqRel (w : World) (n : Nat) (l l' : List Nat) (i : Value) (wr : World) : Prop := ∃ k : Nat, k ≤ n ∧ i = .int .i64 k ∧ l.take k = l'.take k ∧ Below w.heap.size w wr

set_option maxHeartbeats 800000 in
theorem equal_same (a a' : Option Addr) (n cap cap' : Nat) (l l' : List Nat) (w : World) (hl : Bytes w a n cap l) (hl' : Bytes w a' n cap' l') :
    Calls Tryz.prog 14 #[.slice a n cap, .slice a' n cap'] w fun e w' => e = .returned (.bool (decide (l = l'))) ∧ Below w.heap.size w w' := by
  have hnm := hl.max
  have hB := Lib.hid hl
  have hB' := Lib.hid hl'
  clear hl hl'
  have hq : ((n : Int) != (n : Int)) = false := by simp
  go_enter Tryz.func14, Tryz.ntmps14
  go_wp2
  go_loopw [13] (fun i wr => EqRel w n l l' i wr) (fun i _ => n - (intOf i).toNat)
  case atStart => exact ⟨0, Nat.zero_le _, rfl, rfl, Below.refl _ _⟩
  case round =>
    obtain ⟨k, hk, rfl, ht, hbel⟩ := hrel
    have ht := Lib.hid ht
    rename_i ht0; clear ht0
    by_cases hlt : k < n
    · obtain ⟨b, o, rfl, hc0⟩ := (hB.out.grow hbel).cell (by omega)
      obtain ⟨b', o', rfl, hc0'⟩ := (hB'.out.grow hbel).cell (by omega)
      have hc := hc0 k hlt
      have hc' := hc0' k hlt
      clear hc0 hc0'
      have hx := Lib.hid (show l.getD k 0 = l.getD k 0 from rfl)
      generalize hy : l.getD k 0 = x at hc
      generalize hy' : l'.getD k 0 = x' at hc'
      have hy := Lib.hid hy
      have hy' := Lib.hid hy'
      rename_i hy0 hy0'; clear hy0 hy0' hx
      by_cases hxx : x = x'
      · have hq2 : ((x : Int) != (x' : Int)) = false := by rw [bne_eq_false_iff_eq]; omega
        have hxx := Lib.hid hxx
        rename_i hxx0; clear hxx0
        go_wp2
        go_quiet (fail)
        go_wp2
        go_roundw
        case rel => exact ⟨k + 1, by omega, by go_num, take_next (by rw [hB.out.len]; exact hlt) (by rw [hB'.out.len]; exact hlt) ht.out (by rw [hy.out, hy'.out, hxx.out]), below_drewN hbel _⟩
        case measure => simp [intOf]; omega
      · have hq2 : ((x : Int) != (x' : Int)) = true := by rw [bne_iff_ne]; omega
        go_wp2
        go_quiet (fail)
        go_wp2
        go_ret
        exact ⟨ret_bool (decide_eq_false (fun e => hxx (by rw [← hy.out, ← hy'.out, e]))).symm, below_drewN hbel _⟩
    · obtain rfl : k = n := by omega
      go_wp2
      go_ret
      exact ⟨ret_bool (decide_eq_true (by rw [← List.take_length (l := l), ← List.take_length (l := l'), hB.out.len, hB'.out.len]; exact ht.out)).symm, hbel⟩

theorem equal_any (a a' : Option Addr) (n cap n' cap' : Nat) (l l' : List Nat) (w : World) (hl : Bytes w a n cap l) (hl' : Bytes w a' n' cap' l') :
    Calls Tryz.prog 14 #[.slice a n cap, .slice a' n' cap'] w fun e w' => e = .returned (.bool (decide (l = l'))) ∧ Below w.heap.size w w' := by
  by_cases h : n = n'
  · subst h
    exact equal_same a a' n cap cap' l l' w hl hl'
  · refine (equal_len a a' n cap n' cap' w h).mono ?_
    rintro e w' ⟨rfl, rfl⟩
    exact ⟨ret_bool (decide_eq_false (fun e => h (by rw [← hl.len, ← hl'.len, e]))).symm, Below.refl _ _⟩
end Go.Proofs.YtpmjjefnmgbifaaGreatDoor
