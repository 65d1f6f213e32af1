/- The walk of the statement BinOnly: it returns true whatever the bytes are. -/
import Derived.Test.YtjkpcpoplpgecaaMethods
import Derived.Test.YtjkpcpoplpgecaaBinForms
namespace Go.Proofs.Ytjkpcpoplpgecaa
open Go.RowKit

theorem form_zero : form 0 = [0] := form_small (by omega)

/-- Bytes that are read as a number as a whole are its form, and no other bytes are. -/
theorem done_only {l : List Nat} (hb : ∀ x ∈ l, x < 256) : doneB (readN l true).2.1 (readN l true).2.2 = decide (form (readN l true).1 = l) := by
  obtain ⟨z, s, hz⟩ : ∃ z s, numL l 0 0 = (z, s) := ⟨_, _, rfl⟩
  by_cases hs : 0 < s
  · obtain ⟨_, h2, h3⟩ := numL_read hb hz hs
    have hr : readN l true = (z, l.drop s, true) := by unfold readN; rw [hz, if_pos ⟨rfl, hs⟩]
    rw [hr]
    show (true && decide ((l.drop s).length = 0)) = decide (form z = l)
    rw [Bool.true_and]
    refine decide_eq_decide.2 ⟨fun h => ?_, fun h => ?_⟩
    · rw [List.length_eq_zero_iff.1 h, List.append_nil] at h3
      exact h3.symm
    · have := congrArg List.length h3
      rw [List.length_append, h] at this
      omega
  · have hr : readN l true = (0, l, false) := by unfold readN; rw [hz, if_neg (fun h => hs h.2)]
    rw [hr]
    show false = decide (form 0 = l)
    refine (decide_eq_false fun h => ?_).symm
    have := numL_of_form (y := 0) (by omega) []
    rw [List.append_nil, h, hz, ← h, form_zero] at this
    cases this
    exact hs (by decide)

/-- A reader's block lies beyond what there was: what a method leaves is as it was below. -/
theorem below_rd {w w1 w2 : World} {g : Nat} {s : List Nat × Bool} (hb : Below w.heap.size w w1) (hg : w.heap.size ≤ g) (h : RdEnd w1 g s w2) : Below w.heap.size w w2 :=
  hb.grown h.2 hb.size (fun k hk => by cases hk; exact hg)

set_option maxRecDepth 100000 in
set_option maxHeartbeats 1600000 in
theorem binOnly_any (a : Option Addr) (n cap : Nat) (l : List Nat) (w : World) (hl : Bytes w a n cap l) :
    Calls Try.prog 6 #[.slice a n cap] w fun e w' => e = .returned (.bool true) ∧ Below w.heap.size w w' := by
  have HB := Lib.hid hl
  clear hl
  by_cases hn : n ≤ 100
  · have hdone := done_only HB.out.byte
    have hlen : l.length ≤ 1000000 := by rw [HB.out.len]; omega
    obtain ⟨x, hx⟩ : ∃ x, (readN l true).1 = x := ⟨_, rfl⟩
    obtain ⟨l', hl'⟩ : ∃ l', (readN l true).2.1 = l' := ⟨_, rfl⟩
    obtain ⟨ok', hok'⟩ : ∃ ok', (readN l true).2.2 = ok' := ⟨_, rfl⟩
    have hs : (readN l true).2 = (l', ok') := by rw [← hl', ← hok']
    rw [hx, hl', hok'] at hdone
    have Hx := Lib.hid hx
    have Hs := Lib.hid hs
    have Hdone := Lib.hid hdone
    clear hx hl' hok' hs hdone
    by_cases hf : form x = l
    · have Hf := Lib.hid hf
      clear hf
      have hd : doneB l' ok' = true := by rw [Hdone.out]; exact decide_eq_true Hf.out
      have Hd := Lib.hid hd
      clear hd
      go_enter Try.func6, Try.ntmps6
      go_wp2_with fail
      refine (new_any a n cap l w HB.out (by omega)).mono ?_
      rintro e w1 ⟨g, rfl, hg, hR, hw1⟩
      have hlt := readN_lt g l true w1 hR
      rw [Hx.out] at hlt
      have HR := Lib.hid hR
      clear hR
      go_wp2_with fail
      refine (mUint _ g l true w1 w1 (orNone_some g w1) HR.out).mono ?_
      rintro e w2 ⟨rfl, hE⟩
      have hw2 := below_rd hw1 hg hE
      rw [Hs.out] at hE
      rw [Hx.out]
      have HR2 := Lib.hid hE.1
      clear hE
      go_wp2_with fail
      refine (alive_any w2).mono ?_
      rintro e w3 ⟨rfl, hb3⟩
      have hw3 := hw2.trans (hb3.mono hw2.size)
      have HR3 := Lib.hid (HR2.out.below hb3)
      clear hb3 HR2
      go_wp2_with fail
      refine (mDone g l' ok' w3 HR3.out).mono ?_
      rintro e w4 ⟨rfl, rfl⟩
      rw [Hd.out]
      go_wp2_with fail
      refine (ruint_any x w3 hlt).mono ?_
      rintro e w4 ⟨v, rfl, hown, hb4⟩
      have hw4 := hw3.trans (hb4.mono hw3.size)
      obtain ⟨p1, c1, rfl, hA⟩ := own_slice hown (form_byte x)
      have HA := Lib.hid hA
      have HR4 := Lib.hid (HR3.out.below hb4)
      clear hA hown hb4 HR3
      go_wp2_with fail
      refine (equal_any _ _ _ _ _ _ (form x) l w4 HA.out (HB.out.grow hw4)).mono ?_
      rintro e w5 ⟨rfl, hb5⟩
      rw [decide_eq_true Hf.out]
      have hw5 := hw4.trans (hb5.mono hw4.size)
      have HR5 := Lib.hid (HR4.out.below hb5)
      clear hb5 HR4
      go_wp2_with fail
      refine (mDone g l' ok' w5 HR5.out).mono ?_
      rintro e w6 ⟨rfl, rfl⟩
      rw [Hd.out]
      go_wp2_with fail
      refine (uint_any x w5 hlt).mono ?_
      rintro e w6 ⟨v, rfl, hown, hb6⟩
      have hw6 := hw5.trans (hb6.mono hw5.size)
      obtain ⟨p2, c2, rfl, hA'⟩ := own_slice hown (form_byte x)
      have HA' := Lib.hid hA'
      clear hA' hown hb6
      go_wp2_with fail
      refine (equal_any _ _ _ _ _ _ (form x) l w6 HA'.out (HB.out.grow hw6)).mono ?_
      rintro e w7 ⟨rfl, hb7⟩
      rw [decide_eq_true Hf.out]
      go_wp2
      go_ret
      exact ⟨rfl, hw6.trans (hb7.mono hw6.size)⟩
    · have Hf := Lib.hid hf
      clear hf
      have hd : doneB l' ok' = false := by rw [Hdone.out]; exact decide_eq_false Hf.out
      have Hd := Lib.hid hd
      clear hd
      go_enter Try.func6, Try.ntmps6
      go_wp2_with fail
      refine (new_any a n cap l w HB.out (by omega)).mono ?_
      rintro e w1 ⟨g, rfl, hg, hR, hw1⟩
      have hlt := readN_lt g l true w1 hR
      rw [Hx.out] at hlt
      have HR := Lib.hid hR
      clear hR
      go_wp2_with fail
      refine (mUint _ g l true w1 w1 (orNone_some g w1) HR.out).mono ?_
      rintro e w2 ⟨rfl, hE⟩
      have hw2 := below_rd hw1 hg hE
      rw [Hs.out] at hE
      rw [Hx.out]
      have HR2 := Lib.hid hE.1
      clear hE
      go_wp2_with fail
      refine (alive_any w2).mono ?_
      rintro e w3 ⟨rfl, hb3⟩
      have hw3 := hw2.trans (hb3.mono hw2.size)
      have HR3 := Lib.hid (HR2.out.below hb3)
      clear hb3 HR2
      go_wp2_with fail
      refine (mDone g l' ok' w3 HR3.out).mono ?_
      rintro e w4 ⟨rfl, rfl⟩
      rw [Hd.out]
      go_wp2_with fail
      refine (ruint_any x w3 hlt).mono ?_
      rintro e w4 ⟨v, rfl, hown, hb4⟩
      have hw4 := hw3.trans (hb4.mono hw3.size)
      obtain ⟨p1, c1, rfl, hA⟩ := own_slice hown (form_byte x)
      have HA := Lib.hid hA
      have HR4 := Lib.hid (HR3.out.below hb4)
      clear hA hown hb4 HR3
      go_wp2_with fail
      refine (equal_any _ _ _ _ _ _ _ l w4 HA.out (HB.out.grow hw4)).mono ?_
      rintro e w5 ⟨rfl, hb5⟩
      rw [decide_eq_false Hf.out]
      have hw5 := hw4.trans (hb5.mono hw4.size)
      have HR5 := Lib.hid (HR4.out.below hb5)
      clear hb5 HR4
      go_wp2_with fail
      refine (mDone g l' ok' w5 HR5.out).mono ?_
      rintro e w6 ⟨rfl, rfl⟩
      rw [Hd.out]
      go_wp2
      go_ret
      exact ⟨rfl, hw5⟩
  · have hn' : (100 : Int) < (n : Int) := by omega
    go_enter Try.func6, Try.ntmps6
    go_wp2_with ((with_reducible refine (alive_any _).mono ?_); rintro e w1 ⟨rfl, hb1⟩)
    go_ret
    exact ⟨rfl, hb1⟩
end Go.Proofs.Ytjkpcpoplpgecaa
