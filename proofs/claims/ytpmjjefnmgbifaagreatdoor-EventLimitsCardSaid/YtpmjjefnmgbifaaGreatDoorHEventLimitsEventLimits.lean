/- The walk of the statement EventLimits. -/
import Derived.Test.YtpmjjefnmgbifaaGreatDoorMB32
import Derived.Deep.RegionHeld3
namespace Go.Proofs.YtpmjjefnmgbifaaGreatDoor
open Go.RowKit Go.Shelf Fl
attribute [local go_sem ↓] Go.wp_at_zero Go.wp_at_succ

theorem lim_in (k : Int) (id : Nat) (n : Int) (t : Nat) (nm tx : List Nat) (w : World) (h1 : -9223372036854775808 ≤ k ∧ k ≤ 9223372036854775807) (h2 : id < 18446744073709551616) (h3 : -9223372036854775808 ≤ n ∧ n ≤ 9223372036854775807) (h4 : t < 18446744073709551616)
    (h5 : (∀ c ∈ nm, c < 256) ∧ nm.length ≤ 9223372036854775807) (h6 : (∀ c ∈ tx, c < 256) ∧ tx.length ≤ 9223372036854775807) : EvIn w ⟨k, id, n, t, nm, tx, zeroV⟩ (evC k id n t nm tx 0 0 0 [] none 0 0) :=
  ⟨h1, h2, h3, h4, h5, h6, none, 0, rfl, zero_in w⟩

theorem zero_same : sameV zeroV zeroV = true := sameV_refl _
theorem zero_right : rightN 8 zeroV = true := by decide +kernel

theorem okA (l : List Nat) (h : l ≠ []) : okE ⟨1, 0, 0, 0, l, [], zeroV⟩ = decide (l.length ≤ 1000) := by
  have e : evFields 1 = [3, 5] := by decide
  have e2 : evName 1 ≠ [] := by decide
  unfold okE
  simp [e, e2, rightE, emptyE, List.range, List.range.loop, zero_right, h]
theorem okB (l : List Nat) : okE ⟨10, 0, 0, 0, [], l, zeroV⟩ = decide (l.length ≤ 1000) := by
  have e : evFields 10 = [4] := by decide
  have e2 : evName 10 ≠ [] := by decide
  unfold okE
  simp [e, e2, rightE, emptyE, List.range, List.range.loop, zero_same]
theorem okC (t : Nat) : okE ⟨8, 1, 0, t, [], [], zeroV⟩ = decide (t ≤ 9223372036854775807) := by
  have e : evFields 8 = [0, 2] := by decide
  have e2 : evName 8 ≠ [] := by decide
  unfold okE
  simp [e, e2, rightE, emptyE, List.range, List.range.loop, zero_same]
theorem okD (n : Int) : okE ⟨3, 1, n, 0, [], [], zeroV⟩ = decide (1 ≤ n ∧ n ≤ 2147483647) := by
  have e : evFields 3 = [0, 1, 5] := by decide
  have e2 : evName 3 ≠ [] := by decide
  unfold okE
  simp [e, e2, rightE, emptyE, List.range, List.range.loop, zero_right]

theorem repeat_x : ∀ m : Nat, Lib.repeatL [(120 : UInt8)] m = (List.replicate m 120).map UInt8.ofNat
  | 0 => rfl
  | m + 1 => by
    rw [List.replicate_succ, List.map_cons, ← repeat_x m]
    rfl

abbrev limC (k : Int) (id : Int) (n : Int) (t : Int) (nm tx : ByteArray) : Array Value := #[.int .i64 k, .int .u64 id, .int .i64 n, .int .u64 t, .string nm, .string tx, .int .i64 0, .int .i64 0, .float .f64 0, .string ⟨#[]⟩, .slice none 0 0]

set_option maxRecDepth 100000 in
theorem eventLimits_any (n : Nat) (at' : Nat) (q : Int) (w : World) (hn : n < 256) (hat : at' < 18446744073709551616) (hq : -9223372036854775808 ≤ q ∧ q ≤ 9223372036854775807) (hp : Pow10 w) (ht : Tab16 w) :
    Calls Tryz.prog 7 #[.int .u8 (n : Int), .int .u64 (at' : Int), .int .i64 q] w fun e w' => e = .returned (.bool true) ∧ Below w.heap.size w w' := by
  obtain ⟨m, hm⟩ : ∃ m, m = 995 + n % 10 := ⟨_, rfl⟩
  have hm1 : m ≤ 1004 := by omega
  have hm0 : 995 ≤ m := by omega
  have HA := Lib.hid (fun W (hW : Below w.heap.size w W) => alive11_any W (hp.below hW) (tab_below ht hW))
  have HR := Lib.hid (fun W => (show Calls Tryz.prog 28 #[.string ⟨#[120]⟩, .int .i64 (m : Int)] W fun e w' => e = .returned (.string (str (List.replicate m 120))) ∧ Below W.heap.size W w' from (Tryz.strings_Repeat ⟨#[120]⟩ m W (by omega) (by show 1 * m ≤ _; omega)).mono (by
    rintro e w' ⟨rfl, hb⟩
    exact ⟨by rw [show Lib.repeatL (⟨#[120]⟩ : ByteArray).data.toList m = _ from repeat_x m]; rfl, hb⟩)))
  have hlb : ∀ c ∈ List.replicate m 120, c < 256 := fun c hc => by rw [(List.mem_replicate.1 hc).2]; omega
  have HVA := Lib.hid (fun W => (show Calls Tryz.prog 13 #[.agg (limC 1 0 0 0 (str (List.replicate m 120)) ⟨#[]⟩)] W fun r w' => r = .returned (.bool (decide (m ≤ 1000))) ∧ Below W.heap.size W w' from by
    have h := evalid_any 20 (by omega) _ _ W (by show smallN 20 zeroV = true; decide) (lim_in 1 0 0 0 (List.replicate m 120) [] W (by omega) (by omega) (by omega) (by omega) ⟨hlb, by rw [List.length_replicate]; omega⟩ ⟨fun c h => (by cases h), Nat.zero_le _⟩)
    rw [okA _ (by intro e; have := congrArg List.length e; rw [List.length_replicate] at this; simp at this; omega), List.length_replicate] at h
    exact h))
  have HVB := Lib.hid (fun W => (show Calls Tryz.prog 13 #[.agg (limC 10 0 0 0 ⟨#[]⟩ (str (List.replicate m 120)))] W fun r w' => r = .returned (.bool (decide (m ≤ 1000))) ∧ Below W.heap.size W w' from by
    have h := evalid_any 20 (by omega) _ _ W (by show smallN 20 zeroV = true; decide) (lim_in 10 0 0 0 [] (List.replicate m 120) W (by omega) (by omega) (by omega) (by omega) ⟨fun c h => (by cases h), Nat.zero_le _⟩ ⟨hlb, by rw [List.length_replicate]; omega⟩)
    rw [okB, List.length_replicate] at h
    exact h))
  have HVC := Lib.hid (fun W => (show Calls Tryz.prog 13 #[.agg (limC 8 1 0 (at' : Int) ⟨#[]⟩ ⟨#[]⟩)] W fun r w' => r = .returned (.bool (decide (at' ≤ 9223372036854775807))) ∧ Below W.heap.size W w' from by
    have h := evalid_any 20 (by omega) _ _ W (by show smallN 20 zeroV = true; decide) (lim_in 8 1 0 at' [] [] W (by omega) (by omega) (by omega) hat ⟨fun c h => (by cases h), Nat.zero_le _⟩ ⟨fun c h => (by cases h), Nat.zero_le _⟩)
    rw [okC] at h
    exact h))
  have HVD := Lib.hid (fun W => (show Calls Tryz.prog 13 #[.agg (limC 3 1 q 0 ⟨#[]⟩ ⟨#[]⟩)] W fun r w' => r = .returned (.bool (decide (1 ≤ q ∧ q ≤ 2147483647))) ∧ Below W.heap.size W w' from by
    have h := evalid_any 20 (by omega) _ _ W (by show smallN 20 zeroV = true; decide) (lim_in 3 1 q 0 [] [] W (by omega) (by omega) hq (by omega) ⟨fun c h => (by cases h), Nat.zero_le _⟩ ⟨fun c h => (by cases h), Nat.zero_le _⟩)
    rw [okD] at h
    exact h))
  have Hm := Lib.hid hm
  have Hat := Lib.hid hat
  clear hp ht hlb hm hat
  generalize List.replicate m 120 = L at *
  go_enter Tryz.func7, Tryz.ntmps7
  go_wp2_with fail
  rw [show (995 : Int) + (n : Int) % 10 = (m : Int) by have := Hm.out; omega]
  refine (HR.out _).mono ?_
  rintro e w1 ⟨rfl, hb1⟩
  have Hb1 := Lib.hid hb1
  clear hb1
  go_wp2_with fail
  refine (HVA.out _).mono ?_
  rintro e w2 ⟨rfl, hb2⟩
  have Hb2 := Lib.hid (Hb1.out.trans (hb2.mono Hb1.out.size))
  clear hb2
  go_wp2_with fail
  refine (HVB.out _).mono ?_
  rintro e w3 ⟨rfl, hb3⟩
  have Hb3 := Lib.hid (Hb2.out.trans (hb3.mono Hb2.out.size))
  clear hb3
  go_wp2_with fail
  refine (HVC.out _).mono ?_
  rintro e w4 ⟨rfl, hb4⟩
  have Hb4 := Lib.hid (Hb3.out.trans (hb4.mono Hb3.out.size))
  clear hb4
  go_wp2_with fail
  refine (HVD.out _).mono ?_
  rintro e w5 ⟨rfl, hb5⟩
  have Hb5 := Lib.hid (Hb4.out.trans (hb5.mono Hb4.out.size))
  clear hb5
  go_wp2_with fail
  refine (HA.out _ Hb5.out).mono ?_
  rintro e w6 ⟨rfl, hb6⟩
  have Hb6 := Lib.hid (Hb5.out.trans (hb6.mono Hb5.out.size))
  clear hb6
  go_wp2
  all_goals go_ret
  all_goals exact ⟨rfl, Hb6.out⟩
end Go.Proofs.YtpmjjefnmgbifaaGreatDoor
