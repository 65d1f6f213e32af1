import Derived.Test.YtnbddiiedagllaaGreatSSB28
import Derived.Test.YtnbddiiedagllaaGreatSSB21
import Derived.Test.YtnbddiiedagllaaGreatSSB31
import Derived.Deep.RegionHeld
import Derived.Deep.AppendLies
import Derived.Deep.RegionHeldLaw
import Derived.Test.YtnbddiiedagllaaGreatSSB9
import Derived.Deep.RegionHeld3
import Derived.Deep.DrawnRows
import Derived.Test.YtnbddiiedagllaaGreatSSB30
import Derived.WalkMore
/- The walks of the reference's has and List of segments. -/
namespace Go.Proofs.YtnbddiiedagllaaGreat
open Go.RowKit

set_option maxRecDepth 100000 in
theorem seghas_any (a : Option Addr) (n cap : Nat) (l : List Int) (x : Int) (w : World) (hI : Ints w a n cap l) :
  Calls Tryz.prog 106 #[.slice a n cap, .int .i64 x] w fun e w' => e = .returned (.bool (decide (x ∈ l))) ∧ w = w' := by
 have HI := Lib.hid hI
 have hnm : n ≤ 9223372036854775807 := Nat.le_trans hI.le hI.capmax
 clear hI
 go_enter Tryz.func106, Tryz.ntmps106
 go_wp2
 go_loop [5] (fun i => ∃ k : Nat, k ≤ n ∧ i = .int .i64 (k : Int) ∧ x ∉ l.take k) (fun i => n - (intOf i).toNat)
 case atStart => exact ⟨0, Nat.zero_le _, rfl, by simp⟩
 case round =>
  obtain ⟨k, hk, rfl, hno⟩ := hrel
  have Hno := Lib.hid hno
  clear hno
  by_cases hlt : k < n
  ·obtain ⟨b, o, rfl, hc0⟩ := HI.out.cell (by omega)
   have hc := hc0 k hlt
   have Htk := Lib.hid (show l.take (k + 1) = l.take k ++ [l.getD k 0] by
    rw [List.take_succ_eq_append_getElem (by rw [HI.out.len]; exact hlt), List.getD_eq_getElem?_getD, List.getElem?_eq_getElem (by rw [HI.out.len]; exact hlt)]; rfl)
   have Hin := Lib.hid (show l.getD k 0 ∈ l by
    rw [List.getD_eq_getElem?_getD, List.getElem?_eq_getElem (by rw [HI.out.len]; exact hlt)]
    exact List.getElem_mem _)
   have Hlt := Lib.hid hlt
   clear hc0
   generalize l.getD k 0 = y at *
   by_cases hy : y = x
   ·have Hf := Lib.hid (show decide (x ∈ l) = true from decide_eq_true (by rw [← hy]; exact Hin.out))
    have hq : (y == x) = true := by rw [hy]; exact beq_self_eq_true _
    clear hy
    go_wp2
    go_ret
    exact ⟨ret_bool Hf.out.symm, rfl⟩
   ·have hq : (y == x) = false := beq_eq_false_iff_ne.2 hy
    have Hy := Lib.hid hy
    clear hy
    go_wp2
    go_round
    case rel => exact ⟨k + 1, Hlt.out, by go_num, fun h => by
     rw [Htk.out, List.mem_append, List.mem_singleton] at h
     rcases h with h | h
     ·exact Hno.out h
     ·exact Hy.out h.symm⟩
    case measure => simp [intOf]; have := Hlt.out; omega
  ·obtain rfl : k = n := by omega
   have Hf := Lib.hid (show decide (x ∈ l) = false from decide_eq_false (fun h => Hno.out (by rw [List.take_of_length_le (by rw [HI.out.len]; omega)]; exact h)))
   clear hlt
   go_wp2
   go_ret
   exact ⟨ret_bool Hf.out.symm, rfl⟩

def RlRel (w : World) (n : Nat) (ls : List (List Nat)) (v i : Value) (wr : World) : Prop :=
 ∃ (k : Nat) (out : List Int), k ≤ n ∧ i = .int .i64 (k : Int) ∧ out.length ≤ k ∧ Asc out ∧ (∀ x, x ∈ out ↔ NumsOf (ls.take k) x) ∧ wr.ownsRow w.heap.size 3 1 v out.length (intsE out) ∧ Below w.heap.size w wr

set_option maxRecDepth 100000 in
set_option maxHeartbeats 3200000 in
theorem rseglist_any (a : Option Addr) (n cap : Nat) (ls : List (List Nat)) (w : World) (hS : Strs w a n cap ls) (hn : n ≤ 1000) :
  Calls Tryz.prog 58 #[.slice a n cap] w (ListEnd w ls) := by
 have HS := Lib.hid hS
 clear hS
 go_enter Tryz.func58, Tryz.ntmps58
 go_wp2
 go_loopw [3, 4] (fun v i wr => RlRel w n ls v i wr) (fun _ i _ => n - (intOf i).toNat)
 case atStart => exact ⟨0, [], Nat.zero_le _, rfl, Nat.le_refl _, List.Pairwise.nil, fun x => ⟨fun h => (by cases h), fun ⟨l, hl, _⟩ => (by rw [List.take_zero] at hl; cases hl)⟩, World.ownsRow_nil _ _ _ _, Below.refl _ _⟩
 case round =>
  obtain ⟨k, out, hk, rfl, hol, hasc, hmem, hown, hbel⟩ := hrel
  have Hmem := Lib.hid hmem
  have Hol := Lib.hid hol
  have Hasc := Lib.hid hasc
  have Hown := Lib.hid hown
  have Hbel := Lib.hid hbel
  clear hmem hol hown hbel hasc
  by_cases hlt : k < n
  ·obtain ⟨b, o, rfl, hc0⟩ := (HS.out.grow Hbel.out).cell (by omega)
   have hc := hc0 k hlt
   have Hnx := Lib.hid (fun x => numsOf_next (ls := ls) (k := k) (by rw [HS.out.len]; exact hlt) (x := x))
   obtain ⟨hby, hlen⟩ : (∀ x ∈ ls.getD k [], x < 256) ∧ (ls.getD k []).length ≤ 9223372036854775807 := by
    rw [List.getD_eq_getElem?_getD, List.getElem?_eq_getElem (by rw [HS.out.len]; exact hlt)]
    exact HS.out.byte _ (List.getElem_mem _)
   have HC := Lib.hid (rsegnum_any (ls.getD k []) wr hby)
   unfold NumEnd at HC
   clear hc0 hby hlen
   generalize ls.getD k [] = l at *
   have Hlt := Lib.hid hlt
   generalize str l = s at *
   obtain ⟨p, cp, rfl, hI⟩ := own_ints Hown.out
   by_cases h0 : 0 < segNum l
   ·have H0 := Lib.hid h0
    rw [decide_eq_true h0] at HC
    generalize segNum l = m at *
    clear h0
    have HH := Lib.hid (seghas_any p out.length cp out (m : Int) wr hI)
    by_cases hin : (m : Int) ∈ out
    ·have Hin := Lib.hid hin
     rw [decide_eq_true hin] at HH
     clear hin hI
     go_wp2_with fail
     refine HC.out.mono ?_
     rintro e w1 ⟨rfl, rfl⟩
     go_wp2_with fail
     refine HH.out.mono ?_
     rintro e w1 ⟨rfl, rfl⟩
     go_wp2
     go_roundw
     case rel =>
      refine ⟨k + 1, out, Hlt.out, by go_num, by have := Hol.out; omega, Hasc.out, fun x => ?_, Hown.out, Hbel.out⟩
      rw [Hnx.out x, ← Hmem.out x]
      constructor
      ·exact .inl
      ·rintro (h | ⟨_, h⟩)
       ·exact h
       ·rw [h]; exact Hin.out
     case measure => simp [intOf]; have := Hlt.out; omega
    ·have Hin := Lib.hid hin
     rw [decide_eq_false hin] at HH
     have HI := Lib.hid hI
     clear hin hI
     go_wp2_with fail
     refine HC.out.mono ?_
     rintro e w1 ⟨rfl, rfl⟩
     go_wp2_with fail
     refine HH.out.mono ?_
     rintro e w1 ⟨rfl, rfl⟩
     go_wp2
     go_loop [7] (fun i => ∃ j : Nat, j ≤ out.length ∧ i = .int .i64 (j : Int) ∧ ∀ q, q < j → out.getD q 0 < (m : Int)) (fun i => out.length - (intOf i).toNat)
     case atStart => exact ⟨0, Nat.zero_le _, rfl, fun q h => absurd h (Nat.not_lt_zero _)⟩
     case round =>
      obtain ⟨j, hj, rfl, hlo⟩ := hrel
      have Hlo := Lib.hid hlo
      clear hlo
      have hol2 : out.length ≤ 1000 := by have := Hol.out; have := Hlt.out; omega
      by_cases hcont : j < out.length ∧ out.getD j 0 < (m : Int)
      ·obtain ⟨hjl, hym⟩ := hcont
       obtain ⟨b2, o2, rfl, hc2⟩ := HI.out.cell (by omega)
       have hcj := hc2 j hjl
       clear hc2
       generalize hy : out.getD j 0 = y at *
       have Hy := Lib.hid hy
       clear hy
       have Hym := Lib.hid hym
       have Hjl := Lib.hid hjl
       go_wp2
       go_round
       case rel => exact ⟨j + 1, Hjl.out, by go_num, fun q hq => by
        by_cases e : q = j
        ·subst e; rw [Hy.out]; exact Hym.out
        ·exact Hlo.out q (by omega)⟩
       case measure => simp [intOf]; have := Hjl.out; omega
      ·have Hhi := Lib.hid (show j < out.length → ¬ out.getD j 0 < (m : Int) from fun h1 h2 => hcont ⟨h1, h2⟩)
       clear hcont
       have hcple := HI.out.le
       obtain ⟨pt, hsl1, ht⟩ := ints_to (P := Tryz.prog) Tryz.underlying33 info_int (a := p) (n := out.length) (c := cp) (k := j) hj hcple (own_formed_i Hown.out)
       obtain ⟨pd, hsl2, hd⟩ := ints_from (P := Tryz.prog) Tryz.underlying33 info_int (a := p) (n := out.length) (c := cp) (k := j) hj hcple (own_formed_i Hown.out)
       have HT := Lib.hid (fun W (hb : Below wr.heap.size wr W) => ht W out (HI.out.grow hb))
       have HD := Lib.hid (fun W (hb : Below wr.heap.size wr W) => hd W out (HI.out.grow hb))
       have Hj := Lib.hid hj
       have HL3 := Lib.hid (show (out.take j ++ (m : Int) :: out.drop j).length = 0 + j + 1 + (out.length - j) by rw [List.length_append, List.length_cons, List.length_take, List.length_drop]; omega)
       have Hle3 := Lib.hid (show (out.take j ++ (m : Int) :: out.drop j).length ≤ k + 1 by rw [List.length_append, List.length_cons, List.length_take, List.length_drop]; have := Hol.out; omega)
       clear ht hd
       by_cases hjl : j < out.length
       case' pos =>
        obtain ⟨b2, o2, rfl, hc2⟩ := HI.out.cell (by omega)
        have hcj := hc2 j hjl
        have hym := Hhi.out hjl
        generalize out.getD j 0 = y at hcj hym
        clear hc2
       case' neg =>
        have hnl : ¬ ((j : Int) < (out.length : Int)) := by omega
       all_goals go_wp2
       all_goals go_region_law
        (first
         | (refine step_append_ints rfl (.tmp 50) (.tmp 53) rfl wr.heap.size v2 (0 + j + 1) (([] ++ out.take j) ++ [(m : Int)]) (by first | (simp [Act.eval]; done) | fail) (own_below Own2.out (by repeat' (first | exact Below.refl _ _ | refine Below.drew ?_ | refine Below.alloc ?_ (by first | exact Nat.le_refl _ | (simp; done) | (simp; omega) | (simp [heap_dr]; done) | (simp [heap_dr]; omega) | fail) _))) pd (out.length - j) (cp - j) (out.drop j) (by first | (simp [Act.eval]; done) | fail) (HD.out _ (Hb2.out.trans (Below.mono (B := w2.heap.size) (by repeat' (first | exact Below.refl _ _ | refine Below.drew ?_ | refine Below.alloc ?_ (by first | exact Nat.le_refl _ | (simp; done) | (simp; omega) | (simp [heap_dr]; done) | (simp [heap_dr]; omega) | fail) _)) Hb2.out.size))) (by omega) (Nat.le_trans Hb2.out.size (by first | exact Nat.le_refl _ | (simp; done) | (simp; omega) | (simp [heap_dr]; done) | (simp [heap_dr]; omega) | fail)) ?_
            intro v3 w3 own3 gr3
            have hb3 : Below wr.heap.size wr w3 := Below.grown (Hb2.out.trans (Below.mono (B := w2.heap.size) (by repeat' (first | exact Below.refl _ _ | refine Below.drew ?_ | refine Below.alloc ?_ (by first | exact Nat.le_refl _ | (simp; done) | (simp; omega) | (simp [heap_dr]; done) | (simp [heap_dr]; omega) | fail) _)) Hb2.out.size)) gr3 (Nat.le_trans Hb2.out.size (by first | exact Nat.le_refl _ | (simp; done) | (simp; omega) | (simp [heap_dr]; done) | (simp [heap_dr]; omega) | fail)) O2lt.out
            have Own3 := Lib.hid own3
            have Hb3 := Lib.hid hb3
            clear own3 gr3 hb3)
         | (refine step_append_ints rfl (.tmp 47) (.tmp 49) rfl wr.heap.size v1 (0 + j) ([] ++ out.take j) (by first | (simp [Act.eval]; done) | fail) (own_below Own1.out (by repeat' (first | exact Below.refl _ _ | refine Below.drew ?_ | refine Below.alloc ?_ (by first | exact Nat.le_refl _ | (simp; done) | (simp; omega) | (simp [heap_dr]; done) | (simp [heap_dr]; omega) | fail) _))) (some ⟨wr.heap.size, 0, none⟩) 1 1 [(m : Int)] (by first | (simp [Act.eval]; done) | fail) (HR1.out.grow (by repeat' (first | exact Below.refl _ _ | refine Below.drew ?_ | refine Below.alloc ?_ (by first | exact Nat.le_refl _ | (simp; done) | (simp; omega) | (simp [heap_dr]; done) | (simp [heap_dr]; omega) | fail) _))) (by omega) (Nat.le_trans Hb1.out.size (by first | exact Nat.le_refl _ | (simp; done) | (simp; omega) | (simp [heap_dr]; done) | (simp [heap_dr]; omega) | fail)) ?_
            intro v2 w2 own2 gr2
            have hb2 : Below wr.heap.size wr w2 := Below.grown (Hb1.out.trans (Below.mono (B := w1.heap.size) (by repeat' (first | exact Below.refl _ _ | refine Below.drew ?_ | refine Below.alloc ?_ (by first | exact Nat.le_refl _ | (simp; done) | (simp; omega) | (simp [heap_dr]; done) | (simp [heap_dr]; omega) | fail) _)) Hb1.out.size)) gr2 (Nat.le_trans Hb1.out.size (by first | exact Nat.le_refl _ | (simp; done) | (simp; omega) | (simp [heap_dr]; done) | (simp [heap_dr]; omega) | fail)) O1lt.out
            have o2lt := fun k hk => (own2.lt k hk).1
            have Own2 := Lib.hid own2
            have Hb2 := Lib.hid hb2
            have O2lt := Lib.hid o2lt
            clear own2 gr2 hb2 o2lt)
         | (refine step_append_ints rfl (.tmp 47) (.tmp 49) rfl wr.heap.size v1 (0 + j) ([] ++ out.take j) (by first | (simp [Act.eval]; done) | fail) (own_below Own1.out (by repeat' (first | exact Below.refl _ _ | refine Below.drew ?_ | refine Below.alloc ?_ (by first | exact Nat.le_refl _ | (simp; done) | (simp; omega) | (simp [heap_dr]; done) | (simp [heap_dr]; omega) | fail) _))) (some ⟨wr.heap.size + 1, 0, none⟩) 1 1 [(m : Int)] (by first | (simp [Act.eval]; done) | fail) (HR1.out.grow (by repeat' (first | exact Below.refl _ _ | refine Below.drew ?_ | refine Below.alloc ?_ (by first | exact Nat.le_refl _ | (simp; done) | (simp; omega) | (simp [heap_dr]; done) | (simp [heap_dr]; omega) | fail) _))) (by omega) (Nat.le_trans Hb1.out.size (by first | exact Nat.le_refl _ | (simp; done) | (simp; omega) | (simp [heap_dr]; done) | (simp [heap_dr]; omega) | fail)) ?_
            intro v2 w2 own2 gr2
            have hb2 : Below wr.heap.size wr w2 := Below.grown (Hb1.out.trans (Below.mono (B := w1.heap.size) (by repeat' (first | exact Below.refl _ _ | refine Below.drew ?_ | refine Below.alloc ?_ (by first | exact Nat.le_refl _ | (simp; done) | (simp; omega) | (simp [heap_dr]; done) | (simp [heap_dr]; omega) | fail) _)) Hb1.out.size)) gr2 (Nat.le_trans Hb1.out.size (by first | exact Nat.le_refl _ | (simp; done) | (simp; omega) | (simp [heap_dr]; done) | (simp [heap_dr]; omega) | fail)) O1lt.out
            have o2lt := fun k hk => (own2.lt k hk).1
            have Own2 := Lib.hid own2
            have Hb2 := Lib.hid hb2
            have O2lt := Lib.hid o2lt
            clear own2 gr2 hb2 o2lt)
         | (refine step_append_ints rfl (.tmp 47) (.tmp 49) rfl wr.heap.size v1 (0 + j) ([] ++ out.take j) (by first | (simp [Act.eval]; done) | fail) (own_below Own1.out (by repeat' (first | exact Below.refl _ _ | refine Below.drew ?_ | refine Below.alloc ?_ (by first | exact Nat.le_refl _ | (simp; done) | (simp; omega) | (simp [heap_dr]; done) | (simp [heap_dr]; omega) | fail) _))) (some ⟨w1.heap.size, 0, none⟩) 1 1 [(m : Int)] (by first | (simp [Act.eval]; done) | fail) (row_ints (e := 3) (by first | (simp only [heap_at]; simp; done) | (simp only [heap_at, World.size_alloc]; simp; done) | (simp only [heap_at, heap_dr]; simp; done) | (simp only [heap_at, heap_dr, World.size_alloc]; simp; done) | fail)) (by omega) (Nat.le_trans Hb1.out.size (by first | exact Nat.le_refl _ | (simp; done) | (simp; omega) | (simp [heap_dr]; done) | (simp [heap_dr]; omega) | fail)) ?_
            intro v2 w2 own2 gr2
            have hb2 : Below wr.heap.size wr w2 := Below.grown (Hb1.out.trans (Below.mono (B := w1.heap.size) (by repeat' (first | exact Below.refl _ _ | refine Below.drew ?_ | refine Below.alloc ?_ (by first | exact Nat.le_refl _ | (simp; done) | (simp; omega) | (simp [heap_dr]; done) | (simp [heap_dr]; omega) | fail) _)) Hb1.out.size)) gr2 (Nat.le_trans Hb1.out.size (by first | exact Nat.le_refl _ | (simp; done) | (simp; omega) | (simp [heap_dr]; done) | (simp [heap_dr]; omega) | fail)) O1lt.out
            have o2lt := fun k hk => (own2.lt k hk).1
            have Own2 := Lib.hid own2
            have Hb2 := Lib.hid hb2
            have O2lt := Lib.hid o2lt
            clear own2 gr2 hb2 o2lt)
         | (refine step_append_ints rfl (.tmp 43) (.tmp 46) rfl wr.heap.size (.slice (some ⟨wr.heap.size + 1, 0, none⟩) 0 0) 0 [] (by first | (simp [Act.eval]; done) | fail) (own_emp (by first | (simp only [heap_at]; simp; done) | (simp only [heap_at, World.size_alloc]; simp; done) | (simp only [heap_at, heap_dr]; simp; done) | (simp only [heap_at, heap_dr, World.size_alloc]; simp; done) | fail) (by omega)) pt j cp (out.take j) (by first | (simp [Act.eval]; done) | fail) (HT.out _ (by repeat' (first | exact Below.refl _ _ | refine Below.drew ?_ | refine Below.alloc ?_ (by first | exact Nat.le_refl _ | (simp; done) | (simp; omega) | (simp [heap_dr]; done) | (simp [heap_dr]; omega) | fail) _))) (by omega) (by first | exact Nat.le_refl _ | (simp; done) | (simp; omega) | (simp [heap_dr]; done) | (simp [heap_dr]; omega) | fail) ?_
            intro v1 w1 own1 gr1
            have hb1 : Below wr.heap.size wr w1 := Below.grown (by repeat' (first | exact Below.refl _ _ | refine Below.drew ?_ | refine Below.alloc ?_ (by first | exact Nat.le_refl _ | (simp; done) | (simp; omega) | (simp [heap_dr]; done) | (simp [heap_dr]; omega) | fail) _)) gr1 (by first | exact Nat.le_refl _ | (simp; done) | (simp; omega) | (simp [heap_dr]; done) | (simp [heap_dr]; omega) | fail) (fun k hk => by simp [Value.ownBlock] at hk; omega)
            have o1lt := fun k hk => (own1.lt k hk).1
            have HR1 := Lib.hid (show Ints w1 (some ⟨wr.heap.size, 0, none⟩) 1 1 [(m : Int)] from row_ints (e := 3) ((gr1.block (wr.heap.size) (by first | exact Nat.le_refl _ | (simp; done) | (simp; omega) | (simp [heap_dr]; done) | (simp [heap_dr]; omega) | fail) (by first | (simp [Value.ownBlock]; done) | fail)).trans (by first | (simp only [heap_at]; simp; done) | (simp only [heap_at, World.size_alloc]; simp; done) | (simp only [heap_at, heap_dr]; simp; done) | (simp only [heap_at, heap_dr, World.size_alloc]; simp; done) | fail)))
            have Own1 := Lib.hid own1
            have Hb1 := Lib.hid hb1
            have O1lt := Lib.hid o1lt
            clear own1 gr1 hb1 o1lt)
         | (refine step_append_ints rfl (.tmp 43) (.tmp 46) rfl wr.heap.size (.slice (some ⟨wr.heap.size, 0, none⟩) 0 0) 0 [] (by first | (simp [Act.eval]; done) | fail) (own_emp (by first | (simp only [heap_at]; simp; done) | (simp only [heap_at, World.size_alloc]; simp; done) | (simp only [heap_at, heap_dr]; simp; done) | (simp only [heap_at, heap_dr, World.size_alloc]; simp; done) | fail) (by omega)) pt j cp (out.take j) (by first | (simp [Act.eval]; done) | fail) (HT.out _ (by repeat' (first | exact Below.refl _ _ | refine Below.drew ?_ | refine Below.alloc ?_ (by first | exact Nat.le_refl _ | (simp; done) | (simp; omega) | (simp [heap_dr]; done) | (simp [heap_dr]; omega) | fail) _))) (by omega) (by first | exact Nat.le_refl _ | (simp; done) | (simp; omega) | (simp [heap_dr]; done) | (simp [heap_dr]; omega) | fail) ?_
            intro v1 w1 own1 gr1
            have hb1 : Below wr.heap.size wr w1 := Below.grown (by repeat' (first | exact Below.refl _ _ | refine Below.drew ?_ | refine Below.alloc ?_ (by first | exact Nat.le_refl _ | (simp; done) | (simp; omega) | (simp [heap_dr]; done) | (simp [heap_dr]; omega) | fail) _)) gr1 (by first | exact Nat.le_refl _ | (simp; done) | (simp; omega) | (simp [heap_dr]; done) | (simp [heap_dr]; omega) | fail) (fun k hk => by simp [Value.ownBlock] at hk; omega)
            have o1lt := fun k hk => (own1.lt k hk).1
            have HR1 := Lib.hid (show Ints w1 (some ⟨wr.heap.size + 1, 0, none⟩) 1 1 [(m : Int)] from row_ints (e := 3) ((gr1.block (wr.heap.size + 1) (by first | exact Nat.le_refl _ | (simp; done) | (simp; omega) | (simp [heap_dr]; done) | (simp [heap_dr]; omega) | fail) (by first | (simp [Value.ownBlock]; done) | fail)).trans (by first | (simp only [heap_at]; simp; done) | (simp only [heap_at, World.size_alloc]; simp; done) | (simp only [heap_at, heap_dr]; simp; done) | (simp only [heap_at, heap_dr, World.size_alloc]; simp; done) | fail)))
            have Own1 := Lib.hid own1
            have Hb1 := Lib.hid hb1
            have O1lt := Lib.hid o1lt
            clear own1 gr1 hb1 o1lt)
         | (refine step_append_ints rfl (.tmp 43) (.tmp 46) rfl wr.heap.size (.slice (some ⟨wr.heap.size, 0, none⟩) 0 0) 0 [] (by first | (simp [Act.eval]; done) | fail) (own_emp (by first | (simp only [heap_at]; simp; done) | (simp only [heap_at, World.size_alloc]; simp; done) | (simp only [heap_at, heap_dr]; simp; done) | (simp only [heap_at, heap_dr, World.size_alloc]; simp; done) | fail) (by omega)) pt j cp (out.take j) (by first | (simp [Act.eval]; done) | fail) (HT.out _ (by repeat' (first | exact Below.refl _ _ | refine Below.drew ?_ | refine Below.alloc ?_ (by first | exact Nat.le_refl _ | (simp; done) | (simp; omega) | (simp [heap_dr]; done) | (simp [heap_dr]; omega) | fail) _))) (by omega) (by first | exact Nat.le_refl _ | (simp; done) | (simp; omega) | (simp [heap_dr]; done) | (simp [heap_dr]; omega) | fail) ?_
            intro v1 w1 own1 gr1
            have hb1 : Below wr.heap.size wr w1 := Below.grown (by repeat' (first | exact Below.refl _ _ | refine Below.drew ?_ | refine Below.alloc ?_ (by first | exact Nat.le_refl _ | (simp; done) | (simp; omega) | (simp [heap_dr]; done) | (simp [heap_dr]; omega) | fail) _)) gr1 (by first | exact Nat.le_refl _ | (simp; done) | (simp; omega) | (simp [heap_dr]; done) | (simp [heap_dr]; omega) | fail) (fun k hk => by simp [Value.ownBlock] at hk; omega)
            have o1lt := fun k hk => (own1.lt k hk).1
            have Own1 := Lib.hid own1
            have Hb1 := Lib.hid hb1
            have O1lt := Lib.hid o1lt
            clear own1 gr1 hb1 o1lt)
        )
       all_goals go_wp2
       all_goals go_roundw
       all_goals try (case measure => simp [intOf]; have := Hlt.out; omega)
       all_goals refine ⟨k + 1, out.take j ++ (m : Int) :: out.drop j, Hlt.out, by go_num, Hle3.out, asc_insert Hasc.out Hj.out Hlo.out (fun h => by have := Hhi.out h; omega) Hin.out, fun x => ?_, ?_, Hbel.out.trans (Hb3.out.mono Hbel.out.size)⟩
       all_goals first
        | (rw [Hnx.out x, mem_insert, ← Hmem.out x]
           constructor
           ·rintro (h | h)
            ·exact .inr ⟨H0.out, h⟩
            ·exact .inl h
           ·rintro (h | ⟨_, h⟩)
            ·exact .inr h
            ·exact .inl h)
        | (rw [HL3.out]
           have h3 := Own3.out
           rw [List.nil_append, List.append_assoc, List.singleton_append] at h3
           exact own_base h3 Hbel.out.size)
   ·have H0 := Lib.hid h0
    rw [decide_eq_false h0] at HC
    generalize segNum l = m at *
    clear h0 hI
    go_wp2_with fail
    refine HC.out.mono ?_
    rintro e w1 ⟨rfl, rfl⟩
    go_wp2
    go_roundw
    case rel =>
     refine ⟨k + 1, out, Hlt.out, by go_num, by have := Hol.out; omega, Hasc.out, fun x => ?_, Hown.out, Hbel.out⟩
     rw [Hnx.out x, Hmem.out x]
     constructor
     ·exact .inl
     ·rintro (h | ⟨h, _⟩)
      ·exact h
      ·exact absurd h H0.out
    case measure => simp [intOf]; have := Hlt.out; omega
  ·obtain rfl : k = n := by omega
   have Hfull := Lib.hid (show ls.take k = ls from List.take_of_length_le (by rw [HS.out.len]; omega))
   clear hlt
   go_wp2
   go_ret
   exact ⟨_, out, rfl, Hasc.out, fun x => by rw [Hmem.out x, Hfull.out], by have := Hol.out; rw [HS.out.len]; exact this, Hown.out, Hbel.out⟩
end Go.Proofs.YtnbddiiedagllaaGreat

/- The walk of the reference's Records: the records of the segments of a disk, one after the other. -/
namespace Go.Proofs.YtnbddiiedagllaaGreat
open Go.RowKit Go.Maps Go.Shelf

attribute [local go_sem ↓] Go.wp_at_zero Go.wp_at_succ

theorem readM_up {n : List UInt8} {M : DM} {f : F} (hd : M.down = false) (h : findN F.n n M.fs = some f) : (readM n M).1 = f.b := by
 unfold readM
 rw [if_neg (by rw [hd]; decide), h]

theorem findN_have {n : List UInt8} {l : List F} (h : ∃ f ∈ l, f.n = n) : ∃ f, findN F.n n l = some f := by
 cases e : findN F.n n l with
 | some f => exact ⟨f, rfl⟩
 | none =>
  obtain ⟨f, hf, hn⟩ := h
  unfold findN at e
  have := List.find?_eq_none.1 e f hf
  simp [hn] at this

theorem nmB_of_num {n : List UInt8} (h : 0 < segNum (nmL n)) : nmB (segNum (nmL n)) = n := by
 unfold nmB
 rw [name_of_num h]
 unfold nmL
 rw [List.map_map]
 conv => rhs; rw [← List.map_id n]
 refine List.map_congr_left fun x _ => ?_
 simp

end Go.Proofs.YtnbddiiedagllaaGreat

/- The walks of the reference's bytes and marked. -/
namespace Go.Proofs.YtnbddiiedagllaaGreat
open Go.RowKit Go.Maps Go.Shelf

attribute [local go_sem ↓] Go.wp_at_zero Go.wp_at_succ

def MarkAt (l : List Nat) (b : Bool) : Prop :=
 (∃ r t, l = frameL r ++ t ∧ r.length ≤ 1048576 ∧ b = decide (r = [])) ∨ (NoFrame l ∧ b = false)

set_option maxRecDepth 100000 in
theorem rmarked_any (a : Option Addr) (n cap : Nat) (l : List Nat) (w : World) (hl : Bytes w a n cap l) (hm : n ≤ 100000000000000) :
  Calls Tryz.prog 59 #[.slice a n cap] w fun e w' => ∃ b, e = .returned (.bool b) ∧ MarkAt l b ∧ Below w.heap.size w w' := by
 have HN := Lib.hid (rnext_any a n cap l w hl hm)
 clear hl hm
 go_enter Tryz.func59, Tryz.ntmps59
 go_wp2_with fail
 refine HN.out.mono ?_
 rintro e w1 ⟨hb, ⟨r, t, p, cp, hlr, hr, rfl, _, _⟩ | ⟨hno, rfl⟩⟩
 ·have Hb := Lib.hid hb
  have HM := Lib.hid (show MarkAt l (decide (r = [])) from .inl ⟨r, t, hlr, hr, rfl⟩)
  clear hb hlr hr
  have h8 : (0 : Int) < ((r.length + 8 : Nat) : Int) := by omega
  have h9 : ((r.length : Int) == 0) = decide (r = []) := by
   by_cases e : r = []
   ·subst e; rfl
   ·have : r.length ≠ 0 := fun h => e (List.length_eq_zero_iff.1 h)
    rw [decide_eq_false e, beq_eq_false_iff_ne]
    omega
  go_wp2
  go_ret
  exact ⟨decide (r = []), rfl, HM.out, Hb.out⟩
 ·have Hb := Lib.hid hb
  have HM := Lib.hid (show MarkAt l false from .inr ⟨hno, rfl⟩)
  clear hb hno
  go_wp2
  go_ret
  exact ⟨false, rfl, HM.out, Hb.out⟩

set_option maxRecDepth 100000 in
set_option maxHeartbeats 3200000 in
theorem rbytes_any {X : Nat → Prop} {w : World} {M : DM} {a : Option Addr} {n c : Nat} {R : List FR} (hR : RowF X w a n c R) (hX : ∀ b, X b → b < w.heap.size) (N : Nat) (h1 : 1 ≤ N) (hN : N ≤ 99999999) (y : FR) (hy : findN FR.n (nmB N) R = some y) :
  Calls Tryz.prog 60 #[refV (M.room : Int) a n c (M.plan : Int) M.down, .int .i64 (N : Int)] w fun e w' => e = .returned (.slice y.pa y.f.b.length y.k) ∧ Below w.heap.size w w' := by
 have hb1 := (Below.refl w.heap.size w).alloc (Nat.le_refl _) (.cells #[.int .i64 (M.room : Int), .slice a n c, .int .i64 (M.plan : Int), .bool M.down] 25)
 obtain ⟨b0, b1, b2, b3⟩ := box4 w (M.room : Int) a n c (M.plan : Int) M.down
 generalize hW1 : w.alloc (.cells #[.int .i64 (M.room : Int), .slice a n c, .int .i64 (M.plan : Int), .bool M.down] 25) = w1 at *
 have hR1 := hR.below hX hb1
 have hX1 : ∀ b, X b → b < w1.heap.size := fun b h => Nat.lt_of_lt_of_le (hX b h) hb1.size
 have hyR := (findN_some hy).1
 have hn0 : 0 < n := by rw [← hR.len]; exact List.length_pos_of_mem hyR
 obtain ⟨bf, of, rfl, _⟩ := hR1.cell hn0
 have HF2 := Lib.hid (show ∀ W, Below w1.heap.size w1 W → Calls Tryz.prog 108 #[.agg #[.int .i64 (M.room : Int), .slice (some ⟨bf, of, none⟩) n c, .int .i64 (M.plan : Int), .bool M.down], .string (str (nameL N))] W fun e w' =>
   ∃ i : Nat, i < n ∧ e = .returned (.int .i64 (i : Int)) ∧ R[i]? = some y ∧ Below W.heap.size W w' from fun W hW => (rfind_any (hR1.below hX1 hW) (fun b hb => Nat.lt_of_lt_of_le (hX1 b hb) hW.size) (nmB N) (M.room : Int) (M.plan : Int) M.down).mono (by
  rintro e w' ⟨hb', ⟨i, hi, rfl, hfi⟩ | ⟨_, hno⟩⟩
  ·rw [hy] at hfi
   exact ⟨i, by rw [← hR.len]; exact hi, rfl, by rw [List.getElem?_eq_getElem hi]; exact hfi.symm, hb'⟩
  ·rw [hy] at hno; cases hno))
 have HKK := Lib.hid (fun W (hW : Below w1.heap.size w1 W) => (show W.cell? ⟨w.heap.size, 0, none⟩ = some (.int .i64 (M.room : Int)) ∧ W.cell? ⟨w.heap.size, 1, none⟩ = some (.slice (some ⟨bf, of, none⟩) n c) ∧ W.cell? ⟨w.heap.size, 2, none⟩ = some (.int .i64 (M.plan : Int)) ∧ W.cell? ⟨w.heap.size, 3, none⟩ = some (.bool M.down) ∧
   ∀ i : Nat, R[i]? = some y → W.cell? ⟨bf, of + i * 3 + 1, none⟩ = some (.slice y.pa y.f.b.length y.k) from by
  refine ⟨cell_keep hW b0, cell_keep hW b1, cell_keep hW b2, cell_keep hW b3, fun i hiy => ?_⟩
  obtain ⟨hi, hyi⟩ := List.getElem?_eq_some_iff.1 hiy
  obtain ⟨_, k4, _⟩ := (hR1.below hX1 hW).at i hi
  rw [hyi] at k4
  exact k4))
 have HNa := Lib.hid (fun W => rsegname_yes N W h1 hN)
 have hmxn : n ≤ 9223372036854775807 := Nat.le_trans hR.le hR.max
 have Hb1 := Lib.hid hb1
 unfold refV
 clear hR hR1 hX hX1 hyR hy hb1 h1 hN
 generalize (M.plan : Int) = pl at *
 generalize (M.room : Int) = ro at *
 generalize M.down = dn at *
 go_enter Tryz.func60, Tryz.ntmps60
 go_wp2_with fail
 (try rw [hW1])
 have HW1 := Lib.hid hW1
 clear hW1
 refine (HNa.out _).mono ?_
 rintro e w4 ⟨rfl, rfl⟩
 go_wp2_with fail
 go_region_held3 (fun w' => w'.cell? ⟨w.heap.size, 0, none⟩ = some (.int .i64 ro) ∧ w'.cell? ⟨w.heap.size, 1, none⟩ = some (.slice (some ⟨bf, of, none⟩) n c) ∧ w'.cell? ⟨w.heap.size, 2, none⟩ = some (.int .i64 pl) ∧ w'.cell? ⟨w.heap.size, 3, none⟩ = some (.bool dn) ∧ ∀ i : Nat, R[i]? = some y → w'.cell? ⟨bf, of + i * 3 + 1, none⟩ = some (.slice y.pa y.f.b.length y.k))
  (first | exact HKK.out _ hb5w | exact HKK.out _ (Below.drew (Below.refl _ _)))
  (first
   | (go_at_call 108; (with_reducible refine (HF2.out _ (Below.drew (Below.refl _ _))).mono ?_); rintro e w5 ⟨i, hin, rfl, hiy, hb5⟩; have hini : (i : Int) < (n : Int) := Int.ofNat_lt.2 hin; have hb5w : Below w1.heap.size w1 w5 := (Below.drew (Below.refl _ _)).trans hb5))
 have Hend := Lib.hid (Hb1.out.trans (hb5w.mono Hb1.out.size))
 clear hb5 hb5w hiy hin hini
 go_wp2
 go_ret
 exact ⟨rfl, Hend.out⟩
end Go.Proofs.YtnbddiiedagllaaGreat

/- The walk of gather: the records of the segments of a log, or a mistake in one of them. -/
namespace Go.Proofs.YtnbddiiedagllaaGreat
open Go.RowKit Go.Maps Go.Shelf

attribute [local go_sem ↓] Go.wp_at_zero Go.wp_at_succ

structure PRow (Z : Nat → Prop) (w : World) (a : Option Addr) (n c : Nat) (ps : List (PD × List (List Nat))) : Prop where
 len : ps.length = n
 max : n ≤ 1000000
 cell : 0 < n → ∃ b o, a = some ⟨b, o, none⟩ ∧ ∀ i (hi : i < ps.length),
  (w.cell? ⟨b, o + i * 5, none⟩ = some (.int .i64 ps[i].1.n) ∧ w.cell? ⟨b, o + i * 5 + 1, none⟩ = some (.bool ps[i].1.mark) ∧ w.cell? ⟨b, o + i * 5 + 2, none⟩ = some (.slice ps[i].1.pa ps[i].1.pn ps[i].1.pc) ∧ w.cell? ⟨b, o + i * 5 + 3, none⟩ = some (.slice ps[i].1.wa ps[i].1.wn ps[i].1.wc) ∧ w.cell? ⟨b, o + i * 5 + 4, none⟩ = some (.int .i64 ps[i].1.tn)) ∧
   RecsZ Z w ps[i].1.pa ps[i].1.pn ps[i].1.pc ps[i].2

def gathL : List (PD × List (List Nat)) → List (List Nat) → Option (List (List Nat))
 | [], acc => some acc
 | x :: ps, acc => if (0 < x.1.tn ∧ ps ≠ []) ∨ [] ∈ x.2 then none else gathL ps (acc ++ x.2)

def sumP (ps : List (PD × List (List Nat))) : Nat := (ps.map fun x => x.2.length).sum

def GathEnd (Z : Nat → Prop) (w : World) (ps : List (PD × List (List Nat))) (e : Ending) (w' : World) : Prop :=
 ((∃ v out, gathL ps [] = some out ∧ e = .returned (.tuple #[v, .bool true]) ∧ PartsZ Z w' w.heap.size v out) ∨ (gathL ps [] = none ∧ e = .returned (.tuple #[.slice none 0 0, .bool false]))) ∧ Below w.heap.size w w'

set_option maxRecDepth 100000 in
set_option maxHeartbeats 6400000 in
theorem gather_any {Z : Nat → Prop} (a : Option Addr) (n c : Nat) (ps : List (PD × List (List Nat))) (w : World) (hZ : ∀ b, Z b → b < w.heap.size) (hp : PRow Z w a n c ps) (hs : sumP ps ≤ 10000000) :
  Calls Tryz.prog 105 #[.slice a n c] w (GathEnd Z w ps) := by
 have HZ := Lib.hid hZ
 clear hZ
 have HP := Lib.hid hp
 have hls := Lib.hid hp.len
 have hmx := hp.max
 obtain ⟨i0, hi, hz0, hz1, hz2⟩ := info_parts info_rows
 clear hp
 go_enter Tryz.func105, Tryz.ntmps105
 go_wp2
 go_step3
 go_wp2
 go_step3
 go_wp2
 go_loopw [4, 5, 12] (fun v m i wr => ∃ (j : Nat) (acc : List (List Nat)), j ≤ n ∧ i = .int .i64 (j : Int) ∧ m = .bool false ∧ gathL ps [] = gathL (ps.drop j) acc ∧ acc.length + sumP (ps.drop j) ≤ 10000000 ∧ PartsZ Z wr w.heap.size v acc ∧ Below w.heap.size w wr) (fun _ _ i _ => n - (intOf i).toNat)
 case atStart => exact ⟨0, [], Nat.zero_le _, rfl, rfl, rfl, by simpa using hs, PartsZ.nil _ _ _, Below.refl _ _⟩
 case round =>
  obtain ⟨j, acc, hj, rfl, rfl, hE, hsu, hrow, hb⟩ := hrel
  by_cases hlt : j < n
  ·have hjl : j < ps.length := by rw [hls.out]; exact hlt
   obtain ⟨b, o, rfl, hc⟩ := HP.out.cell (by omega)
   obtain ⟨⟨q0, q1, q2, q3, q4⟩, hR⟩ := hc j hjl
   have hdr : ps.drop j = ps[j] :: ps.drop (j + 1) := List.drop_eq_getElem_cons hjl
   rw [hdr] at hE hsu
   have hlast : (ps.drop (j + 1) ≠ []) ↔ j + 1 < n := by
    rw [← hls.out]
    constructor
    ·intro h
     rcases Nat.lt_or_ge (j + 1) ps.length with h1 | h1
     ·exact h1
     ·exact absurd (List.drop_eq_nil_of_le h1) h
    ·intro h e
     have := congrArg List.length e
     rw [List.length_drop, List.length_nil] at this
     omega
   have k0 := cell_keep hb q0
   have k1 := cell_keep hb q1
   have k2 := cell_keep hb q2
   have k3 := cell_keep hb q3
   have k4 := cell_keep hb q4
   have HR := Lib.hid hR
   have Hrow := Lib.hid hrow
   have Hb := Lib.hid hb
   have Hlt := Lib.hid hlt
   have hji : (j : Int) < (n : Int) := by omega
   have hsu2 : acc.length + (ps[j].2.length + sumP (ps.drop (j + 1))) ≤ 10000000 := by
    have : sumP (ps[j] :: ps.drop (j + 1)) = ps[j].2.length + sumP (ps.drop (j + 1)) := by unfold sumP; rw [List.map_cons, List.sum_cons]
    rw [this] at hsu
    exact hsu
   have hE2 : gathL ps [] = if (0 < ps[j].1.tn ∧ ps.drop (j + 1) ≠ []) ∨ [] ∈ ps[j].2 then none else gathL (ps.drop (j + 1)) (acc ++ ps[j].2) := hE
   simp only [hlast] at hE2
   have HE := Lib.hid hE2
   have Hsu := Lib.hid hsu2
   clear hE hE2 hsu hsu2 hR hrow hb hlt hc hdr hlast q0 q1 q2 q3 q4
   generalize ps[j] = z at *
   obtain ⟨⟨xn, xm, pa, pn, pc, wa, wn, wc, tn⟩, rs⟩ := z
   simp only at *
   by_cases hbad : (0 : Int) < tn ∧ j + 1 < n
   ·have h1 : (0 : Int) < tn := hbad.1
    have h2 : (j : Int) < (n : Int) - 1 := by omega
    have HN := Lib.hid (HE.out.trans (if_pos (.inl hbad)))
    have Hb2 := Lib.hid (Hb.out.alloc Hb.out.size (.cells #[.int .i64 xn, .bool xm, .slice pa pn pc, .slice wa wn wc, .int .i64 tn] 105))
    clear hbad
    go_wp2
    show bodyPost _ _ _ Exit.ret _ _
    refine bodyPost_ret (results_tmp2 rfl _ _ _) rfl ⟨.inr ⟨HN.out, rfl⟩, Hb2.out⟩
   ·have hsp : ((0 : Int) < tn ∧ ¬ (j : Int) < (n : Int) - 1) ∨ ¬ (0 : Int) < tn := by omega
    have hnb := hbad
    have Hlen2 := Lib.hid HR.out.len
    have Hx := Lib.hid (show gathL ps [] = if [] ∈ rs then none else gathL (ps.drop (j + 1)) (acc ++ rs) from by
     rw [HE.out]
     by_cases h : [] ∈ rs
     ·rw [if_pos (.inr h), if_pos h]
     ·rw [if_neg (fun h' => h'.elim hnb h), if_neg h])
    clear hnb hbad HE
    rcases hsp with ⟨h1, h2⟩ | h1
    all_goals
     go_wp2
     go_loopw [4, 5, 30] (fun v2 m2 i wr2 => ∃ k : Nat, k ≤ pn ∧ i = .int .i64 (k : Int) ∧ m2 = .bool false ∧ (∀ r ∈ rs.take k, r ≠ []) ∧ PartsZ Z wr2 w.heap.size v2 (acc ++ rs.take k) ∧ Below w.heap.size w wr2) (fun _ _ i _ => pn - (intOf i).toNat)
     case atStart => exact ⟨0, Nat.zero_le _, rfl, rfl, fun r h => (by cases h), by simpa using Hrow.out.grow ((Below.refl _ _).alloc (Nat.le_refl _) _), Hb.out.alloc Hb.out.size _⟩
     case round =>
      obtain ⟨k, hk, rfl, rfl, hne, hrw, hbr⟩ := hrel
      have hpn : pn ≤ 9223372036854775807 := Nat.le_trans HR.out.le HR.out.capmax
      by_cases hkl : k < pn
      ·obtain ⟨b', o', rfl, hbl, hcc⟩ := HR.out.cell (by omega)
       obtain ⟨a1, n1, c1, m0, hB1, hZ1⟩ := hcc k hkl
       have m0 := cell_keep hbr m0
       have HM := Lib.hid (fun W => ismark_any a1 n1 c1 W)
       have hkr : k < rs.length := by rw [Hlen2.out]; exact hkl
       have hgk : rs.getD k [] = rs[k] := by rw [List.getD_eq_getElem?_getD, List.getElem?_eq_getElem hkr]; rfl
       rw [hgk] at hB1
       have hrk : rs.take (k + 1) = rs.take k ++ [rs[k]] := List.take_succ_eq_append_getElem hkr
       have hmq : rs[k] ∈ rs := List.getElem_mem hkr
       clear hgk
       generalize rs[k] = q at *
       have Hrk := Lib.hid hrk
       clear hrk
       by_cases hn1 : n1 = 0
       ·have hd1 : decide (n1 = 0) = true := decide_eq_true hn1
        have hmem : [] ∈ rs := by
         have : q = [] := List.length_eq_zero_iff.1 (by rw [hB1.len]; exact hn1)
         rw [← this]
         exact hmq
        have HN := Lib.hid (Hx.out.trans (if_pos hmem))
        have Hbr := Lib.hid hbr
        clear hmem hB1 hcc hrw hne hbr
        go_wp2_with (go_at_call 148; refine (HM.out _).mono ?_; rintro e w4 ⟨rfl, rfl⟩)
        go_wp2
        show bodyPost _ _ _ Exit.ret _ _
        exact bodyPost_ret (results_tmp2 rfl _ _ _) rfl ⟨.inr ⟨HN.out, rfl⟩, Hbr.out⟩
       ·have hd1 : decide (n1 = 0) = false := decide_eq_false hn1
        have hb3 : Below wr.heap.size wr (wr.alloc (.cells #[.slice a1 n1 c1] 58)) := (Below.refl _ _).alloc (Nat.le_refl _) _
        have Hlt2 := Lib.hid hrw.lt
        obtain ⟨vs, hlen, hown, hel⟩ := hrw.grow hb3
        have Hel := Lib.hid hel
        have Hown := Lib.hid hown
        have Hlen := Lib.hid hlen
        have HX := Lib.hid (hB1.grow (hbr.trans (hb3.mono hbr.size)))
        have Hb3 := Lib.hid (hbr.trans (hb3.mono hbr.size))
        have HZ1 := Lib.hid hZ1
        have Hne := Lib.hid hne
        have htl : (acc ++ rs.take k).length ≤ 10000000 := by
         rw [List.length_append, List.length_take]
         have := Hsu.out
         omega
        have Htl := Lib.hid htl
        have Hkr := Lib.hid hkr
        have Hkl := Lib.hid hkl
        have Hn1 := Lib.hid (show q ≠ [] from fun e => hn1 (by rw [← hB1.len, e]; rfl))
        clear hB1 hcc hrw hne hbr hel hown hlen hb3 hZ1 htl hn1
        go_wp2_with (first
         | (go_at_call 148; refine (HM.out _).mono ?_; rintro e w4 ⟨rfl, rfl⟩)
         | (at_builtin; refine wpList_append_own_at _ rfl _ _ 29 rfl w.heap.size 58 i0 (.slice none 0 0) 1 24 Tryz.underlying29 hi hz0 hz1 hz2 rfl (by decide) _ _ _ rfl Hown.out ⟨_, 0, none⟩ 1 1 [.slice a1 n1 c1] rfl rfl (cell_one_new _ _ _) (by simp [Value.oneCell']) (by rw [maxLen_nat]; have := Htl.out; omega) (by have := Htl.out; omega) Hb3.out.size ?_; intro v' w2 hown' hgrow _ hblk))
        go_roundw
        case rel =>
         have e1 : acc ++ rs.take (k + 1) = (acc ++ rs.take k) ++ [q] := by rw [Hrk.out, List.append_assoc]
         refine ⟨k + 1, Hkl.out, by go_num, rfl, fun r hr => ?_, ?_, Hb3.out.grown hgrow Hb3.out.size (fun q hq => (Hown.out.lt q hq).1)⟩
         ·rw [Hrk.out] at hr
          rcases List.mem_append.1 hr with h | h
          ·exact Hne.out r h
          ·rw [List.mem_singleton.1 h]; exact Hn1.out
         ·rw [e1]
          exact PartsZ.snoc Hlen.out Hel.out HX.out (fun hn' y hy => ⟨fun e => by
           have h5 := (Hlt2.out y.block e.symm).1
           have h6 := HZ.out _ (HZ1.out hn' y hy)
           omega, HZ1.out hn' y hy⟩) hown' hgrow hblk
        case measure => simp [intOf]; have := Hkl.out; omega
      ·obtain rfl : pn = k := by omega
       have Hrw := Lib.hid hrw
       have Hne := Lib.hid hne
       have Hbr := Lib.hid hbr
       have hki : ¬ (pn : Int) < (pn : Int) := by omega
       clear hrw hne hbr hkl
       go_wp2
       go_roundw
       case rel =>
        have ht : rs.take pn = rs := List.take_of_length_le (Nat.le_of_eq Hlen2.out)
        have h3 := Hrw.out
        have h4 := Hne.out
        rw [ht] at h3 h4
        exact ⟨j + 1, acc ++ rs, Hlt.out, by go_num, rfl, Hx.out.trans (if_neg (fun h => h4 [] h rfl)), by rw [List.length_append]; have := Hsu.out; omega, h3, Hbr.out⟩
       case measure => simp [intOf]; have := Hlt.out; omega
  ·obtain rfl : n = j := by omega
   have hji : ¬ (n : Int) < (n : Int) := by omega
   have hdr : ps.drop n = [] := List.drop_eq_nil_of_le (Nat.le_of_eq hls.out)
   rw [hdr] at hE
   have HE := Lib.hid (show gathL ps [] = some acc from hE)
   have Hrow := Lib.hid hrow
   have Hb := Lib.hid hb
   clear hE hrow hb hsu hdr
   go_wp2
   refine bodyPost_ret (results_tmp2 rfl _ _ _) rfl ⟨.inl ⟨_, acc, HE.out, rfl, Hrow.out⟩, Hb.out⟩
end Go.Proofs.YtnbddiiedagllaaGreat

