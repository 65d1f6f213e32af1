/- The walk of the statement on lists of segments. -/
import Derived.Test.YtdflfimclgapnaaSgRList
import Derived.Test.YtdflfimclgapnaaSgLaws
namespace Go.Proofs.Ytdflfimclgapnaa
open Go.RowKit

theorem equal_ints (a a' : Option Addr) (n c c' : Nat) (l : List Int) (w : World) (h : Ints w a n c l) (h' : Ints w a' n c' l) :
    Calls Try.prog 13 #[.slice a n c, .slice a' n c'] w fun e w' => e = .returned (.bool true) ∧ Below w.heap.size w w' := by
  have hm : n ≤ 9223372036854775807 := Nat.le_trans h.le h.capmax
  by_cases hn : n = 0
  · subst hn
    refine (Try.slices_Equal_int_empty a a' c 0 c' w (by omega)).mono ?_
    rintro e w' ⟨rfl, rfl⟩
    exact ⟨rfl, Below.refl _ _⟩
  · obtain ⟨b, o, rfl, hc⟩ := h.cell (by omega)
    obtain ⟨b', o', rfl, hc'⟩ := h'.cell (by omega)
    refine (Try.slices_Equal_int b o n c b' o' n c' l l w (by rw [h.len]; exact Nat.le_refl _) (by rw [h.len]; exact Nat.le_refl _) hm hm (fun j hj => hc j (by rw [h.len] at hj; exact hj)) (fun j hj => hc' j (by rw [h.len] at hj; exact hj))).mono ?_
    rintro e w' ⟨rfl, q, rfl⟩
    exact ⟨by rw [beq_self_eq_true], ⟨rfl, rfl, rfl, Nat.le_refl _, fun _ _ => rfl⟩⟩

theorem sorted_ints (a : Option Addr) (n c : Nat) (l : List Int) (w : World) (h : Ints w a n c l) (hs : Asc l) (hn : n ≤ 60) :
    Calls Try.prog 15 #[.slice a n c] w fun e w' => e = .returned (.bool true) ∧ Below w.heap.size w w' := by
  by_cases h0 : n = 0
  · subst h0
    refine (Try.isSorted_none a c w).mono ?_
    rintro e w' ⟨rfl, rfl⟩
    exact ⟨rfl, Below.refl _ _⟩
  · obtain ⟨b, o, rfl, hc⟩ := h.cell (by omega)
    have hl := h.len
    have hi := Try.isSorted_ints b o c l.toArray w (fun i hi => by
      have hi' : i < l.length := by simpa using hi
      rw [hc i (by omega), List.getD_eq_getElem?_getD, List.getElem?_eq_getElem hi']
      simp [getElem!_pos, hi']) (by simp; omega)
    have hsz : l.toArray.size = n := by simp [hl]
    rw [hsz] at hi
    have hd : Lib.downOK (fun x y => decide (x < y)) l.toArray (n - 1) = true := by
      rw [Lib.downOK_iff]
      intro i hi
      have h1 : i < l.length := by omega
      have h2 : i + 1 < l.length := by omega
      have h3 := List.pairwise_iff_getElem.1 hs i (i + 1) h1 h2 (by omega)
      simp [getElem!_pos, h1, h2]
      omega
    rw [hd] at hi
    refine hi.mono ?_
    rintro e w' ⟨rfl, q, rfl⟩
    exact ⟨rfl, ⟨rfl, rfl, rfl, Nat.le_refl _, fun _ _ => rfl⟩⟩

set_option maxRecDepth 100000 in
set_option maxHeartbeats 1600000 in
theorem segmentLists_any (a : Option Addr) (n cap : Nat) (ls : List (List Nat)) (w : World) (hS : Strs w a n cap ls) :
    Calls Try.prog 5 #[.slice a n cap] w fun e w' => e = .returned (.bool true) ∧ Below w.heap.size w w' := by
  have HV := Lib.hid (fun w => segalive_any w)
  have HS := Lib.hid hS
  have hm : n ≤ 9223372036854775807 := Nat.le_trans hS.le hS.capmax
  clear hS
  by_cases h6 : 60 < n
  · have hgt : (60 : Int) < (n : Int) := by omega
    go_enter Try.func5, Try.ntmps5
    go_wp2_with fail
    refine (HV.out _).mono ?_
    rintro e w1 ⟨rfl, hb1⟩
    go_wp2
    go_ret
    exact ⟨rfl, hb1⟩
  · have hgt : ¬ (60 : Int) < (n : Int) := by omega
    have HL := Lib.hid (seglist_any a n cap ls w HS.out (by omega))
    have HR := Lib.hid (fun W (hb : Below w.heap.size w W) => rseglist_any a n cap ls W (HS.out.grow hb) (by omega))
    have Hn6 := Lib.hid (show n ≤ 60 by omega)
    go_enter Try.func5, Try.ntmps5
    go_wp2_with fail
    refine HL.out.mono ?_
    rintro e w1 ⟨v, out, rfl, hasc, hmem, hol, hown, hb1⟩
    obtain ⟨p, cp, rfl, hI⟩ := own_ints hown
    have Hasc := Lib.hid hasc
    have Hmem := Lib.hid hmem
    have Hol := Lib.hid hol
    have HI := Lib.hid hI
    have Hb1 := Lib.hid hb1
    clear hasc hmem hol hown hb1 hI
    go_wp2_with fail
    refine (HV.out _).mono ?_
    rintro e w2 ⟨rfl, hb2⟩
    have Hb2 := Lib.hid hb2
    clear hb2
    go_wp2_with fail
    refine (HR.out _ (Hb1.out.trans (Hb2.out.mono Hb1.out.size))).mono ?_
    rintro e w3 ⟨v2, out2, rfl, hasc2, hmem2, hol2, hown2, hb3⟩
    obtain rfl : out2 = out := asc_eq hasc2 Hasc.out (fun x => by rw [hmem2 x, Hmem.out x])
    obtain ⟨p2, cp2, rfl, hI2⟩ := own_ints hown2
    have Hb3 := Lib.hid hb3
    have HE := Lib.hid (equal_ints p p2 out2.length cp cp2 out2 w3 ((HI.out.grow Hb2.out).grow hb3) hI2)
    clear hasc2 hmem2 hol2 hown2 hb3 hI2
    go_wp2_with fail
    refine HE.out.mono ?_
    rintro e w4 ⟨rfl, hb4⟩
    have HT := Lib.hid (sorted_ints p out2.length cp out2 w4 (((HI.out.grow Hb2.out).grow Hb3.out).grow hb4) Hasc.out (by have := Hol.out; have := HS.out.len; have := Hn6.out; omega))
    have Hb4 := Lib.hid hb4
    clear hb4
    go_wp2_with fail
    refine HT.out.mono ?_
    rintro e w5 ⟨rfl, hb5⟩
    have Hb5 := Lib.hid hb5
    clear hb5
    go_wp2
    go_ret
    have s1 := Hb1.out.size
    have s2 := Hb2.out.size
    have s3 := Hb3.out.size
    have s4 := Hb4.out.size
    exact ⟨rfl, (((Hb1.out.trans (Hb2.out.mono s1)).trans (Hb3.out.mono (by omega))).trans (Hb4.out.mono (by omega))).trans (Hb5.out.mono (by omega))⟩
end Go.Proofs.Ytdflfimclgapnaa
