import Derived.Test.YtehjgkkcpiblcaaGreatMB37
import Derived.Test.YtehjgkkcpiblcaaGreatMB30
import Derived.Test.YtehjgkkcpiblcaaGreatMB38
import Derived.Deep.RegionHeld
import Derived.Deep.AppendLies
import Derived.Deep.RegionHeldLaw
import Derived.Test.YtehjgkkcpiblcaaGreatMB12
import Derived.Test.YtehjgkkcpiblcaaGreatMB13
import Derived.Deep.RegionHeld3
import Derived.Deep.DrawnRows
/- The walks of the reference's has and List of segments. -/
namespace Go.Proofs.YtehjgkkcpiblcaaGreat
open Go.RowKit

set_option maxRecDepth 100000 in
theorem seghas_any (a : Option Addr) (n cap : Nat) (l : List Int) (x : Int) (w : World) (hI : Ints w a n cap l) :
    Calls Tryz.prog 101 #[.slice a n cap, .int .i64 x] w fun e w' => e = .returned (.bool (decide (x ∈ l))) ∧ w = w' := by
  have HI := Lib.hid hI
  have hnm : n ≤ 9223372036854775807 := Nat.le_trans hI.le hI.capmax
  clear hI
  go_enter Tryz.func101, Tryz.ntmps101
  go_wp2
  go_loop [5] (fun i => ∃ k : Nat, k ≤ n ∧ i = .int .i64 (k : Int) ∧ x ∉ l.take k) (fun i => n - (intOf i).toNat)
  case atStart => exact ⟨0, Nat.zero_le _, rfl, by simp⟩
  case round =>
    obtain ⟨k, hk, rfl, hno⟩ := hrel
    have Hno := Lib.hid hno
    clear hno
    by_cases hlt : k < n
    · obtain ⟨b, o, rfl, hc0⟩ := HI.out.cell (by omega)
      have hc := hc0 k hlt
      have Htk := Lib.hid (show l.take (k + 1) = l.take k ++ [l.getD k 0] by
        rw [List.take_succ_eq_append_getElem (by rw [HI.out.len]; exact hlt), List.getD_eq_getElem?_getD, List.getElem?_eq_getElem (by rw [HI.out.len]; exact hlt)]; rfl)
      have Hin := Lib.hid (show l.getD k 0 ∈ l by
        rw [List.getD_eq_getElem?_getD, List.getElem?_eq_getElem (by rw [HI.out.len]; exact hlt)]
        exact List.getElem_mem _)
      have Hlt := Lib.hid hlt
      clear hc0
      generalize l.getD k 0 = y at *
      by_cases hy : y = x
      · have Hf := Lib.hid (show decide (x ∈ l) = true from decide_eq_true (by rw [← hy]; exact Hin.out))
        have hq : (y == x) = true := by rw [hy]; exact beq_self_eq_true _
        clear hy
        go_wp2
        go_ret
        exact ⟨ret_bool Hf.out.symm, rfl⟩
      · have hq : (y == x) = false := beq_eq_false_iff_ne.2 hy
        have Hy := Lib.hid hy
        clear hy
        go_wp2
        go_round
        case rel => exact ⟨k + 1, Hlt.out, by go_num, fun h => by
          rw [Htk.out, List.mem_append, List.mem_singleton] at h
          rcases h with h | h
          · exact Hno.out h
          · exact Hy.out h.symm⟩
        case measure => simp [intOf]; have := Hlt.out; omega
    · obtain rfl : k = n := by omega
      have Hf := Lib.hid (show decide (x ∈ l) = false from decide_eq_false (fun h => Hno.out (by rw [List.take_of_length_le (by rw [HI.out.len]; omega)]; exact h)))
      clear hlt
      go_wp2
      go_ret
      exact ⟨ret_bool Hf.out.symm, rfl⟩

def RlRel (w : World) (n : Nat) (ls : List (List Nat)) (v i : Value) (wr : World) : Prop :=
  ∃ (k : Nat) (out : List Int), k ≤ n ∧ i = .int .i64 (k : Int) ∧ out.length ≤ k ∧ Asc out ∧ (∀ x, x ∈ out ↔ NumsOf (ls.take k) x) ∧ wr.ownsRow w.heap.size 3 1 v out.length (intsE out) ∧ Below w.heap.size w wr

set_option maxRecDepth 100000 in
set_option maxHeartbeats 3200000 in
theorem rseglist_any (a : Option Addr) (n cap : Nat) (ls : List (List Nat)) (w : World) (hS : Strs w a n cap ls) (hn : n ≤ 1000) :
    Calls Tryz.prog 59 #[.slice a n cap] w (ListEnd w ls) := by
  have HS := Lib.hid hS
  clear hS
  go_enter Tryz.func59, Tryz.ntmps59
  go_wp2
  go_loopw [3, 4] (fun v i wr => RlRel w n ls v i wr) (fun _ i _ => n - (intOf i).toNat)
  case atStart => exact ⟨0, [], Nat.zero_le _, rfl, Nat.le_refl _, List.Pairwise.nil, fun x => ⟨fun h => (by cases h), fun ⟨l, hl, _⟩ => (by rw [List.take_zero] at hl; cases hl)⟩, World.ownsRow_nil _ _ _ _, Below.refl _ _⟩
  case round =>
    obtain ⟨k, out, hk, rfl, hol, hasc, hmem, hown, hbel⟩ := hrel
    have Hmem := Lib.hid hmem
    have Hol := Lib.hid hol
    have Hasc := Lib.hid hasc
    have Hown := Lib.hid hown
    have Hbel := Lib.hid hbel
    clear hmem hol hown hbel hasc
    by_cases hlt : k < n
    · obtain ⟨b, o, rfl, hc0⟩ := (HS.out.grow Hbel.out).cell (by omega)
      have hc := hc0 k hlt
      have Hnx := Lib.hid (fun x => numsOf_next (ls := ls) (k := k) (by rw [HS.out.len]; exact hlt) (x := x))
      obtain ⟨hby, hlen⟩ : (∀ x ∈ ls.getD k [], x < 256) ∧ (ls.getD k []).length ≤ 9223372036854775807 := by
        rw [List.getD_eq_getElem?_getD, List.getElem?_eq_getElem (by rw [HS.out.len]; exact hlt)]
        exact HS.out.byte _ (List.getElem_mem _)
      have HC := Lib.hid (rsegnum_any (ls.getD k []) wr hby)
      unfold NumEnd at HC
      clear hc0 hby hlen
      generalize ls.getD k [] = l at *
      have Hlt := Lib.hid hlt
      generalize str l = s at *
      obtain ⟨p, cp, rfl, hI⟩ := own_ints Hown.out
      by_cases h0 : 0 < segNum l
      · have H0 := Lib.hid h0
        rw [decide_eq_true h0] at HC
        generalize segNum l = m at *
        clear h0
        have HH := Lib.hid (seghas_any p out.length cp out (m : Int) wr hI)
        by_cases hin : (m : Int) ∈ out
        · have Hin := Lib.hid hin
          rw [decide_eq_true hin] at HH
          clear hin hI
          go_wp2_with fail
          refine HC.out.mono ?_
          rintro e w1 ⟨rfl, rfl⟩
          go_wp2_with fail
          refine HH.out.mono ?_
          rintro e w1 ⟨rfl, rfl⟩
          go_wp2
          go_roundw
          case rel =>
            refine ⟨k + 1, out, Hlt.out, by go_num, by have := Hol.out; omega, Hasc.out, fun x => ?_, Hown.out, Hbel.out⟩
            rw [Hnx.out x, ← Hmem.out x]
            constructor
            · exact .inl
            · rintro (h | ⟨_, h⟩)
              · exact h
              · rw [h]; exact Hin.out
          case measure => simp [intOf]; have := Hlt.out; omega
        · have Hin := Lib.hid hin
          rw [decide_eq_false hin] at HH
          have HI := Lib.hid hI
          clear hin hI
          go_wp2_with fail
          refine HC.out.mono ?_
          rintro e w1 ⟨rfl, rfl⟩
          go_wp2_with fail
          refine HH.out.mono ?_
          rintro e w1 ⟨rfl, rfl⟩
          go_wp2
          go_loop [7] (fun i => ∃ j : Nat, j ≤ out.length ∧ i = .int .i64 (j : Int) ∧ ∀ q, q < j → out.getD q 0 < (m : Int)) (fun i => out.length - (intOf i).toNat)
          case atStart => exact ⟨0, Nat.zero_le _, rfl, fun q h => absurd h (Nat.not_lt_zero _)⟩
          case round =>
            obtain ⟨j, hj, rfl, hlo⟩ := hrel
            have Hlo := Lib.hid hlo
            clear hlo
            have hol2 : out.length ≤ 1000 := by have := Hol.out; have := Hlt.out; omega
            by_cases hcont : j < out.length ∧ out.getD j 0 < (m : Int)
            · obtain ⟨hjl, hym⟩ := hcont
              obtain ⟨b2, o2, rfl, hc2⟩ := HI.out.cell (by omega)
              have hcj := hc2 j hjl
              clear hc2
              generalize hy : out.getD j 0 = y at *
              have Hy := Lib.hid hy
              clear hy
              have Hym := Lib.hid hym
              have Hjl := Lib.hid hjl
              go_wp2
              go_round
              case rel => exact ⟨j + 1, Hjl.out, by go_num, fun q hq => by
                by_cases e : q = j
                · subst e; rw [Hy.out]; exact Hym.out
                · exact Hlo.out q (by omega)⟩
              case measure => simp [intOf]; have := Hjl.out; omega
            · have Hhi := Lib.hid (show j < out.length → ¬ out.getD j 0 < (m : Int) from fun h1 h2 => hcont ⟨h1, h2⟩)
              clear hcont
              have hcple := HI.out.le
              obtain ⟨pt, hsl1, ht⟩ := ints_to (P := Tryz.prog) Tryz.underlying40 info_int (a := p) (n := out.length) (c := cp) (k := j) hj hcple (own_formed_i Hown.out)
              obtain ⟨pd, hsl2, hd⟩ := ints_from (P := Tryz.prog) Tryz.underlying40 info_int (a := p) (n := out.length) (c := cp) (k := j) hj hcple (own_formed_i Hown.out)
              have HT := Lib.hid (fun W (hb : Below wr.heap.size wr W) => ht W out (HI.out.grow hb))
              have HD := Lib.hid (fun W (hb : Below wr.heap.size wr W) => hd W out (HI.out.grow hb))
              have Hj := Lib.hid hj
              have HL3 := Lib.hid (show (out.take j ++ (m : Int) :: out.drop j).length = 0 + j + 1 + (out.length - j) by rw [List.length_append, List.length_cons, List.length_take, List.length_drop]; omega)
              have Hle3 := Lib.hid (show (out.take j ++ (m : Int) :: out.drop j).length ≤ k + 1 by rw [List.length_append, List.length_cons, List.length_take, List.length_drop]; have := Hol.out; omega)
              clear ht hd
              by_cases hjl : j < out.length
              case' pos =>
                obtain ⟨b2, o2, rfl, hc2⟩ := HI.out.cell (by omega)
                have hcj := hc2 j hjl
                have hym := Hhi.out hjl
                generalize out.getD j 0 = y at hcj hym
                clear hc2
              case' neg =>
                have hnl : ¬ ((j : Int) < (out.length : Int)) := by omega
              all_goals go_wp2
              all_goals go_region_law
                (first
                  | (refine step_append_ints rfl (.tmp 50) (.tmp 53) rfl wr.heap.size v2 (0 + j + 1) (([] ++ out.take j) ++ [(m : Int)]) (by first | (simp [Act.eval]; done) | fail) (own_below Own2.out (by repeat' (first | exact Below.refl _ _ | refine Below.drew ?_ | refine Below.alloc ?_ (by first | exact Nat.le_refl _ | (simp; done) | (simp; omega) | (simp [heap_dr]; done) | (simp [heap_dr]; omega) | fail) _))) pd (out.length - j) (cp - j) (out.drop j) (by first | (simp [Act.eval]; done) | fail) (HD.out _ (Hb2.out.trans (Below.mono (B := w2.heap.size) (by repeat' (first | exact Below.refl _ _ | refine Below.drew ?_ | refine Below.alloc ?_ (by first | exact Nat.le_refl _ | (simp; done) | (simp; omega) | (simp [heap_dr]; done) | (simp [heap_dr]; omega) | fail) _)) Hb2.out.size))) (by omega) (Nat.le_trans Hb2.out.size (by first | exact Nat.le_refl _ | (simp; done) | (simp; omega) | (simp [heap_dr]; done) | (simp [heap_dr]; omega) | fail)) ?_
                     intro v3 w3 own3 gr3
                     have hb3 : Below wr.heap.size wr w3 := Below.grown (Hb2.out.trans (Below.mono (B := w2.heap.size) (by repeat' (first | exact Below.refl _ _ | refine Below.drew ?_ | refine Below.alloc ?_ (by first | exact Nat.le_refl _ | (simp; done) | (simp; omega) | (simp [heap_dr]; done) | (simp [heap_dr]; omega) | fail) _)) Hb2.out.size)) gr3 (Nat.le_trans Hb2.out.size (by first | exact Nat.le_refl _ | (simp; done) | (simp; omega) | (simp [heap_dr]; done) | (simp [heap_dr]; omega) | fail)) O2lt.out
                     have Own3 := Lib.hid own3
                     have Hb3 := Lib.hid hb3
                     clear own3 gr3 hb3)
                  | (refine step_append_ints rfl (.tmp 47) (.tmp 49) rfl wr.heap.size v1 (0 + j) ([] ++ out.take j) (by first | (simp [Act.eval]; done) | fail) (own_below Own1.out (by repeat' (first | exact Below.refl _ _ | refine Below.drew ?_ | refine Below.alloc ?_ (by first | exact Nat.le_refl _ | (simp; done) | (simp; omega) | (simp [heap_dr]; done) | (simp [heap_dr]; omega) | fail) _))) (some ⟨wr.heap.size, 0, none⟩) 1 1 [(m : Int)] (by first | (simp [Act.eval]; done) | fail) (HR1.out.grow (by repeat' (first | exact Below.refl _ _ | refine Below.drew ?_ | refine Below.alloc ?_ (by first | exact Nat.le_refl _ | (simp; done) | (simp; omega) | (simp [heap_dr]; done) | (simp [heap_dr]; omega) | fail) _))) (by omega) (Nat.le_trans Hb1.out.size (by first | exact Nat.le_refl _ | (simp; done) | (simp; omega) | (simp [heap_dr]; done) | (simp [heap_dr]; omega) | fail)) ?_
                     intro v2 w2 own2 gr2
                     have hb2 : Below wr.heap.size wr w2 := Below.grown (Hb1.out.trans (Below.mono (B := w1.heap.size) (by repeat' (first | exact Below.refl _ _ | refine Below.drew ?_ | refine Below.alloc ?_ (by first | exact Nat.le_refl _ | (simp; done) | (simp; omega) | (simp [heap_dr]; done) | (simp [heap_dr]; omega) | fail) _)) Hb1.out.size)) gr2 (Nat.le_trans Hb1.out.size (by first | exact Nat.le_refl _ | (simp; done) | (simp; omega) | (simp [heap_dr]; done) | (simp [heap_dr]; omega) | fail)) O1lt.out
                     have o2lt := fun k hk => (own2.lt k hk).1
                     have Own2 := Lib.hid own2
                     have Hb2 := Lib.hid hb2
                     have O2lt := Lib.hid o2lt
                     clear own2 gr2 hb2 o2lt)
                  | (refine step_append_ints rfl (.tmp 47) (.tmp 49) rfl wr.heap.size v1 (0 + j) ([] ++ out.take j) (by first | (simp [Act.eval]; done) | fail) (own_below Own1.out (by repeat' (first | exact Below.refl _ _ | refine Below.drew ?_ | refine Below.alloc ?_ (by first | exact Nat.le_refl _ | (simp; done) | (simp; omega) | (simp [heap_dr]; done) | (simp [heap_dr]; omega) | fail) _))) (some ⟨wr.heap.size + 1, 0, none⟩) 1 1 [(m : Int)] (by first | (simp [Act.eval]; done) | fail) (HR1.out.grow (by repeat' (first | exact Below.refl _ _ | refine Below.drew ?_ | refine Below.alloc ?_ (by first | exact Nat.le_refl _ | (simp; done) | (simp; omega) | (simp [heap_dr]; done) | (simp [heap_dr]; omega) | fail) _))) (by omega) (Nat.le_trans Hb1.out.size (by first | exact Nat.le_refl _ | (simp; done) | (simp; omega) | (simp [heap_dr]; done) | (simp [heap_dr]; omega) | fail)) ?_
                     intro v2 w2 own2 gr2
                     have hb2 : Below wr.heap.size wr w2 := Below.grown (Hb1.out.trans (Below.mono (B := w1.heap.size) (by repeat' (first | exact Below.refl _ _ | refine Below.drew ?_ | refine Below.alloc ?_ (by first | exact Nat.le_refl _ | (simp; done) | (simp; omega) | (simp [heap_dr]; done) | (simp [heap_dr]; omega) | fail) _)) Hb1.out.size)) gr2 (Nat.le_trans Hb1.out.size (by first | exact Nat.le_refl _ | (simp; done) | (simp; omega) | (simp [heap_dr]; done) | (simp [heap_dr]; omega) | fail)) O1lt.out
                     have o2lt := fun k hk => (own2.lt k hk).1
                     have Own2 := Lib.hid own2
                     have Hb2 := Lib.hid hb2
                     have O2lt := Lib.hid o2lt
                     clear own2 gr2 hb2 o2lt)
                  | (refine step_append_ints rfl (.tmp 47) (.tmp 49) rfl wr.heap.size v1 (0 + j) ([] ++ out.take j) (by first | (simp [Act.eval]; done) | fail) (own_below Own1.out (by repeat' (first | exact Below.refl _ _ | refine Below.drew ?_ | refine Below.alloc ?_ (by first | exact Nat.le_refl _ | (simp; done) | (simp; omega) | (simp [heap_dr]; done) | (simp [heap_dr]; omega) | fail) _))) (some ⟨w1.heap.size, 0, none⟩) 1 1 [(m : Int)] (by first | (simp [Act.eval]; done) | fail) (row_ints (e := 3) (by first | (simp only [heap_at]; simp; done) | (simp only [heap_at, World.size_alloc]; simp; done) | (simp only [heap_at, heap_dr]; simp; done) | (simp only [heap_at, heap_dr, World.size_alloc]; simp; done) | fail)) (by omega) (Nat.le_trans Hb1.out.size (by first | exact Nat.le_refl _ | (simp; done) | (simp; omega) | (simp [heap_dr]; done) | (simp [heap_dr]; omega) | fail)) ?_
                     intro v2 w2 own2 gr2
                     have hb2 : Below wr.heap.size wr w2 := Below.grown (Hb1.out.trans (Below.mono (B := w1.heap.size) (by repeat' (first | exact Below.refl _ _ | refine Below.drew ?_ | refine Below.alloc ?_ (by first | exact Nat.le_refl _ | (simp; done) | (simp; omega) | (simp [heap_dr]; done) | (simp [heap_dr]; omega) | fail) _)) Hb1.out.size)) gr2 (Nat.le_trans Hb1.out.size (by first | exact Nat.le_refl _ | (simp; done) | (simp; omega) | (simp [heap_dr]; done) | (simp [heap_dr]; omega) | fail)) O1lt.out
                     have o2lt := fun k hk => (own2.lt k hk).1
                     have Own2 := Lib.hid own2
                     have Hb2 := Lib.hid hb2
                     have O2lt := Lib.hid o2lt
                     clear own2 gr2 hb2 o2lt)
                  | (refine step_append_ints rfl (.tmp 43) (.tmp 46) rfl wr.heap.size (.slice (some ⟨wr.heap.size + 1, 0, none⟩) 0 0) 0 [] (by first | (simp [Act.eval]; done) | fail) (own_emp (by first | (simp only [heap_at]; simp; done) | (simp only [heap_at, World.size_alloc]; simp; done) | (simp only [heap_at, heap_dr]; simp; done) | (simp only [heap_at, heap_dr, World.size_alloc]; simp; done) | fail) (by omega)) pt j cp (out.take j) (by first | (simp [Act.eval]; done) | fail) (HT.out _ (by repeat' (first | exact Below.refl _ _ | refine Below.drew ?_ | refine Below.alloc ?_ (by first | exact Nat.le_refl _ | (simp; done) | (simp; omega) | (simp [heap_dr]; done) | (simp [heap_dr]; omega) | fail) _))) (by omega) (by first | exact Nat.le_refl _ | (simp; done) | (simp; omega) | (simp [heap_dr]; done) | (simp [heap_dr]; omega) | fail) ?_
                     intro v1 w1 own1 gr1
                     have hb1 : Below wr.heap.size wr w1 := Below.grown (by repeat' (first | exact Below.refl _ _ | refine Below.drew ?_ | refine Below.alloc ?_ (by first | exact Nat.le_refl _ | (simp; done) | (simp; omega) | (simp [heap_dr]; done) | (simp [heap_dr]; omega) | fail) _)) gr1 (by first | exact Nat.le_refl _ | (simp; done) | (simp; omega) | (simp [heap_dr]; done) | (simp [heap_dr]; omega) | fail) (fun k hk => by simp [Value.ownBlock] at hk; omega)
                     have o1lt := fun k hk => (own1.lt k hk).1
                     have HR1 := Lib.hid (show Ints w1 (some ⟨wr.heap.size, 0, none⟩) 1 1 [(m : Int)] from row_ints (e := 3) ((gr1.block (wr.heap.size) (by first | exact Nat.le_refl _ | (simp; done) | (simp; omega) | (simp [heap_dr]; done) | (simp [heap_dr]; omega) | fail) (by first | (simp [Value.ownBlock]; done) | fail)).trans (by first | (simp only [heap_at]; simp; done) | (simp only [heap_at, World.size_alloc]; simp; done) | (simp only [heap_at, heap_dr]; simp; done) | (simp only [heap_at, heap_dr, World.size_alloc]; simp; done) | fail)))
                     have Own1 := Lib.hid own1
                     have Hb1 := Lib.hid hb1
                     have O1lt := Lib.hid o1lt
                     clear own1 gr1 hb1 o1lt)
                  | (refine step_append_ints rfl (.tmp 43) (.tmp 46) rfl wr.heap.size (.slice (some ⟨wr.heap.size, 0, none⟩) 0 0) 0 [] (by first | (simp [Act.eval]; done) | fail) (own_emp (by first | (simp only [heap_at]; simp; done) | (simp only [heap_at, World.size_alloc]; simp; done) | (simp only [heap_at, heap_dr]; simp; done) | (simp only [heap_at, heap_dr, World.size_alloc]; simp; done) | fail) (by omega)) pt j cp (out.take j) (by first | (simp [Act.eval]; done) | fail) (HT.out _ (by repeat' (first | exact Below.refl _ _ | refine Below.drew ?_ | refine Below.alloc ?_ (by first | exact Nat.le_refl _ | (simp; done) | (simp; omega) | (simp [heap_dr]; done) | (simp [heap_dr]; omega) | fail) _))) (by omega) (by first | exact Nat.le_refl _ | (simp; done) | (simp; omega) | (simp [heap_dr]; done) | (simp [heap_dr]; omega) | fail) ?_
                     intro v1 w1 own1 gr1
                     have hb1 : Below wr.heap.size wr w1 := Below.grown (by repeat' (first | exact Below.refl _ _ | refine Below.drew ?_ | refine Below.alloc ?_ (by first | exact Nat.le_refl _ | (simp; done) | (simp; omega) | (simp [heap_dr]; done) | (simp [heap_dr]; omega) | fail) _)) gr1 (by first | exact Nat.le_refl _ | (simp; done) | (simp; omega) | (simp [heap_dr]; done) | (simp [heap_dr]; omega) | fail) (fun k hk => by simp [Value.ownBlock] at hk; omega)
                     have o1lt := fun k hk => (own1.lt k hk).1
                     have HR1 := Lib.hid (show Ints w1 (some ⟨wr.heap.size + 1, 0, none⟩) 1 1 [(m : Int)] from row_ints (e := 3) ((gr1.block (wr.heap.size + 1) (by first | exact Nat.le_refl _ | (simp; done) | (simp; omega) | (simp [heap_dr]; done) | (simp [heap_dr]; omega) | fail) (by first | (simp [Value.ownBlock]; done) | fail)).trans (by first | (simp only [heap_at]; simp; done) | (simp only [heap_at, World.size_alloc]; simp; done) | (simp only [heap_at, heap_dr]; simp; done) | (simp only [heap_at, heap_dr, World.size_alloc]; simp; done) | fail)))
                     have Own1 := Lib.hid own1
                     have Hb1 := Lib.hid hb1
                     have O1lt := Lib.hid o1lt
                     clear own1 gr1 hb1 o1lt)
                  | (refine step_append_ints rfl (.tmp 43) (.tmp 46) rfl wr.heap.size (.slice (some ⟨wr.heap.size, 0, none⟩) 0 0) 0 [] (by first | (simp [Act.eval]; done) | fail) (own_emp (by first | (simp only [heap_at]; simp; done) | (simp only [heap_at, World.size_alloc]; simp; done) | (simp only [heap_at, heap_dr]; simp; done) | (simp only [heap_at, heap_dr, World.size_alloc]; simp; done) | fail) (by omega)) pt j cp (out.take j) (by first | (simp [Act.eval]; done) | fail) (HT.out _ (by repeat' (first | exact Below.refl _ _ | refine Below.drew ?_ | refine Below.alloc ?_ (by first | exact Nat.le_refl _ | (simp; done) | (simp; omega) | (simp [heap_dr]; done) | (simp [heap_dr]; omega) | fail) _))) (by omega) (by first | exact Nat.le_refl _ | (simp; done) | (simp; omega) | (simp [heap_dr]; done) | (simp [heap_dr]; omega) | fail) ?_
                     intro v1 w1 own1 gr1
                     have hb1 : Below wr.heap.size wr w1 := Below.grown (by repeat' (first | exact Below.refl _ _ | refine Below.drew ?_ | refine Below.alloc ?_ (by first | exact Nat.le_refl _ | (simp; done) | (simp; omega) | (simp [heap_dr]; done) | (simp [heap_dr]; omega) | fail) _)) gr1 (by first | exact Nat.le_refl _ | (simp; done) | (simp; omega) | (simp [heap_dr]; done) | (simp [heap_dr]; omega) | fail) (fun k hk => by simp [Value.ownBlock] at hk; omega)
                     have o1lt := fun k hk => (own1.lt k hk).1
                     have Own1 := Lib.hid own1
                     have Hb1 := Lib.hid hb1
                     have O1lt := Lib.hid o1lt
                     clear own1 gr1 hb1 o1lt)
                )
              all_goals go_wp2
              all_goals go_roundw
              all_goals try (case measure => simp [intOf]; have := Hlt.out; omega)
              all_goals refine ⟨k + 1, out.take j ++ (m : Int) :: out.drop j, Hlt.out, by go_num, Hle3.out, asc_insert Hasc.out Hj.out Hlo.out (fun h => by have := Hhi.out h; omega) Hin.out, fun x => ?_, ?_, Hbel.out.trans (Hb3.out.mono Hbel.out.size)⟩
              all_goals first
                | (rw [Hnx.out x, mem_insert, ← Hmem.out x]
                   constructor
                   · rintro (h | h)
                     · exact .inr ⟨H0.out, h⟩
                     · exact .inl h
                   · rintro (h | ⟨_, h⟩)
                     · exact .inr h
                     · exact .inl h)
                | (rw [HL3.out]
                   have h3 := Own3.out
                   rw [List.nil_append, List.append_assoc, List.singleton_append] at h3
                   exact own_base h3 Hbel.out.size)
      · have H0 := Lib.hid h0
        rw [decide_eq_false h0] at HC
        generalize segNum l = m at *
        clear h0 hI
        go_wp2_with fail
        refine HC.out.mono ?_
        rintro e w1 ⟨rfl, rfl⟩
        go_wp2
        go_roundw
        case rel =>
          refine ⟨k + 1, out, Hlt.out, by go_num, by have := Hol.out; omega, Hasc.out, fun x => ?_, Hown.out, Hbel.out⟩
          rw [Hnx.out x, Hmem.out x]
          constructor
          · exact .inl
          · rintro (h | ⟨h, _⟩)
            · exact h
            · exact absurd h H0.out
        case measure => simp [intOf]; have := Hlt.out; omega
    · obtain rfl : k = n := by omega
      have Hfull := Lib.hid (show ls.take k = ls from List.take_of_length_le (by rw [HS.out.len]; omega))
      clear hlt
      go_wp2
      go_ret
      exact ⟨_, out, rfl, Hasc.out, fun x => by rw [Hmem.out x, Hfull.out], by have := Hol.out; rw [HS.out.len]; exact this, Hown.out, Hbel.out⟩
end Go.Proofs.YtehjgkkcpiblcaaGreat

/- The walk of the reference's Records: the records of the segments of a disk, one after the other. -/
namespace Go.Proofs.YtehjgkkcpiblcaaGreat
open Go.RowKit Go.Maps Go.Shelf

attribute [local go_sem ↓] Go.wp_at_zero Go.wp_at_succ

def RRecsEnd (w : World) (M : DM) (e : Ending) (w' : World) : Prop :=
  ∃ v ls, e = .returned v ∧ OwnParts w' w.heap.size v ls ∧ RecsOf M ls ∧ Below w.heap.size w w'

/-- Behind j segments. -/
def RRecRel (w : World) (M : DM) (out : List Int) (v i : Value) (wr : World) : Prop :=
  ∃ (j : Nat) (parts : List (List (List Nat))), j ≤ out.length ∧ i = .int .i64 (j : Int) ∧ parts.length = j ∧ (∀ (i : Nat) (x : Int) (p : List (List Nat)), out[i]? = some x → parts[i]? = some p → ∃ t, Splits (readM (nmB x.toNat) M).1 p t) ∧
    parts.flatten.length ≤ j * 200000 ∧ PartsZ (fun _ => True) wr w.heap.size v parts.flatten ∧ Below w.heap.size w wr

theorem readM_up {n : List UInt8} {M : DM} {f : F} (hd : M.down = false) (h : findN F.n n M.fs = some f) : (readM n M).1 = f.b := by
  unfold readM
  rw [if_neg (by rw [hd]; decide), h]

theorem findN_have {n : List UInt8} {l : List F} (h : ∃ f ∈ l, f.n = n) : ∃ f, findN F.n n l = some f := by
  cases e : findN F.n n l with
  | some f => exact ⟨f, rfl⟩
  | none =>
    obtain ⟨f, hf, hn⟩ := h
    unfold findN at e
    have := List.find?_eq_none.1 e f hf
    simp [hn] at this

theorem nmB_of_num {n : List UInt8} (h : 0 < segNum (nmL n)) : nmB (segNum (nmL n)) = n := by
  unfold nmB
  rw [name_of_num h]
  unfold nmL
  rw [List.map_map]
  conv => rhs; rw [← List.map_id n]
  refine List.map_congr_left fun x _ => ?_
  simp

set_option maxRecDepth 100000 in
set_option maxHeartbeats 6400000 in
theorem rrecords_any {X : Nat → Prop} {w : World} {v : Value} {M : DM} (h : RefAt X w v M) (hX : ∀ b, X b → b < w.heap.size) (hd : M.down = false) (hl : M.fs.length ≤ 1000) (hu : usedF M.fs ≤ 200000) (hnm : ∀ f ∈ M.fs, f.n.length ≤ 9223372036854775807) :
    Calls Tryz.prog 21 #[v] w (RRecsEnd w M) := by
  obtain ⟨a, n, c, R, rfl, hR, hfs, hn⟩ := h
  have hb1 := (Below.refl w.heap.size w).alloc (Nat.le_refl _) (.cells #[.int .i64 (M.room : Int), .slice a n c, .int .i64 (M.plan : Int), .bool M.down] 32)
  obtain ⟨b0, b1, b2, b3⟩ := box4 w (M.room : Int) a n c (M.plan : Int) M.down
  generalize hW1 : w.alloc (.cells #[.int .i64 (M.room : Int), .slice a n c, .int .i64 (M.plan : Int), .bool M.down] 32) = w1 at *
  have hR1 := hR.below hX hb1
  have hX1 : ∀ b, X b → b < w1.heap.size := fun b h => Nat.lt_of_lt_of_le (hX b h) hb1.size
  have HNm := Lib.hid (rnames_any (M := M) (w := w1) ⟨a, n, c, R, rfl, hR1, hfs, hn⟩ hX1)
  have HFi := Lib.hid (fun W (hW : Below w1.heap.size w1 W) nm => rfind_any (hR1.below hX1 hW) (fun b hb => Nat.lt_of_lt_of_le (hX1 b hb) hW.size) nm (M.room : Int) (M.plan : Int) M.down)
  have HR := Lib.hid (fun W (hW : Below w1.heap.size w1 W) => hR1.below hX1 hW)
  have HX1 := Lib.hid hX1
  have HK := Lib.hid (fun W (hW : Below w1.heap.size w1 W) => (show W.cell? ⟨w.heap.size, 0, none⟩ = some (.int .i64 (M.room : Int)) ∧ W.cell? ⟨w.heap.size, 1, none⟩ = some (.slice a n c) ∧ W.cell? ⟨w.heap.size, 2, none⟩ = some (.int .i64 (M.plan : Int)) ∧ W.cell? ⟨w.heap.size, 3, none⟩ = some (.bool M.down) from
    ⟨cell_keep hW b0, cell_keep hW b1, cell_keep hW b2, cell_keep hW b3⟩))
  have Hb1 := Lib.hid hb1
  have Hfs := Lib.hid hfs
  have Hrm := Lib.hid (fun (n : List UInt8) (f : F) (h : findN F.n n M.fs = some f) => readM_up (n := n) hd h)
  have Hl := Lib.hid hl
  have Hu := Lib.hid hu
  have Hnm := Lib.hid hnm
  have Hlen := Lib.hid hR.len
  have hle := hR.le
  have hmx := hR.max
  unfold refV at *
  clear hR hR1 hX hX1 hfs hd hl hu hnm hb1
  generalize (M.plan : Int) = pl at *
  generalize (M.room : Int) = ro at *
  generalize hdn : M.down = dn at *
  clear hdn
  go_enter Tryz.func21, Tryz.ntmps21
  go_wp2_with fail
  (try rw [hW1])
  clear hW1
  refine HNm.out.mono ?_
  rintro e w2 ⟨v2, rfl, hown2, hb2⟩
  obtain ⟨p2, k2, rfl, hS2⟩ := strs_row hown2 (fun n hn => by obtain ⟨f, hf, rfl⟩ := List.mem_map.1 hn; exact Hnm.out f hf)
  have HSl := Lib.hid (rseglist_any p2 M.fs.length k2 _ w2 hS2 Hl.out)
  have Hb2 := Lib.hid hb2
  clear hown2 hS2 hb2
  go_wp2_with fail
  refine HSl.out.mono ?_
  rintro e w3 ⟨v3, out, rfl, hasc, hmem, hol, hown3, hb3⟩
  obtain ⟨p3, k3, rfl, hI⟩ := own_ints hown3
  have HI := Lib.hid hI
  have hmap : (M.fs.map F.n).map nmL = M.fs.map fun f => nmL f.n := by rw [List.map_map]; rfl
  rw [hmap] at hmem
  have Hseg := Lib.hid (show SegsOf M out from ⟨hasc, hmem⟩)
  have Hb3 := Lib.hid (Hb2.out.trans (hb3.mono Hb2.out.size))
  have hol2 : out.length ≤ 1000 := by have := Hl.out; rw [List.length_map, List.length_map] at hol; omega
  clear hasc hmem hown3 hb3 hI hmap hol
  go_wp2_with fail
  go_loopw [4, 5] (fun v i wr => RRecRel w M out v i wr ∧ Below w3.heap.size w3 wr ∧ ∀ k, v.ownBlock = some k → w3.heap.size ≤ k) (fun _ i _ => out.length - (intOf i).toNat)
  case atStart => exact ⟨⟨0, [], Nat.zero_le _, rfl, rfl, fun i x p _ h => (by simp at h), Nat.zero_le _, PartsZ.nil _ _ _, Hb1.out.trans (Hb3.out.mono Hb1.out.size)⟩, Below.refl _ _, fun k h => by cases h⟩
  case round =>
    obtain ⟨⟨j, parts, hj, rfl, hpl, hsp, hfl, hown, hb⟩, hbr, hbk⟩ := hrel
    by_cases hlt : j < out.length
    · obtain ⟨b, o, rfl, hc0⟩ := (HI.out.grow hbr).cell (by omega)
      have hc := hc0 j hlt
      have hxj : out.getD j 0 = out[j] := by rw [List.getD_eq_getElem?_getD, List.getElem?_eq_getElem hlt]; rfl
      rw [hxj] at hc
      obtain ⟨l, hl1, hl2, hl3⟩ := (Hseg.out.2 out[j]).1 (List.getElem_mem hlt)
      obtain ⟨f, hf, rfl⟩ := List.mem_map.1 hl1
      have hnb := nmB_of_num hl2
      have hle2 := segNum_le (nmL f.n)
      obtain ⟨N, hN⟩ : ∃ N, N = segNum (nmL f.n) := ⟨_, rfl⟩
      rw [← hN] at hl2 hl3 hle2 hnb
      rw [hl3] at hc
      obtain ⟨f', hf'⟩ := findN_have (n := nmB N) ⟨f, hf, hnb.symm⟩
      have hfd : findN F.n (nmB N) M.fs = (findN FR.n (nmB N) R).map FR.f := by rw [← Hfs.out]; exact findN_map FR.n F.n FR.f (fun _ => rfl) (nmB N) R
      have hrd := Hrm.out _ _ hf'
      have hget : ∃ y, findN FR.n (nmB N) R = some y ∧ y.f = f' := by
        rw [hf'] at hfd
        cases hy : findN FR.n (nmB N) R with
        | none => rw [hy] at hfd; cases hfd
        | some y => rw [hy] at hfd; exact ⟨y, rfl, (Option.some.inj hfd).symm⟩
      obtain ⟨y, hy, hyf⟩ := hget
      have hyR := (findN_some hy).1
      have hn0 : 0 < n := by rw [← Hlen.out]; exact List.length_pos_of_mem hyR
      obtain ⟨bf, of, rfl, _⟩ := (HR.out w1 (Below.refl _ _)).cell hn0
      have HF2 := Lib.hid (show ∀ W, Below w1.heap.size w1 W → Calls Tryz.prog 62 #[.agg #[.int .i64 ro, .slice (some ⟨bf, of, none⟩) n c, .int .i64 pl, .bool dn], .string (str (nameL N))] W fun e w' =>
          ∃ i : Nat, i < n ∧ e = .returned (.int .i64 (i : Int)) ∧ R[i]? = some y ∧ Below W.heap.size W w' from fun W hW => (HFi.out W hW (nmB N)).mono (by
        rintro e w' ⟨hb', ⟨i, hi, rfl, hfi⟩ | ⟨_, hno⟩⟩
        · rw [hy] at hfi
          exact ⟨i, by rw [← Hlen.out]; exact hi, rfl, by rw [List.getElem?_eq_getElem hi]; exact hfi.symm, hb'⟩
        · rw [hy] at hno; cases hno))
      have HKK := Lib.hid (fun W (hW : Below w1.heap.size w1 W) => (show W.cell? ⟨w.heap.size, 0, none⟩ = some (.int .i64 ro) ∧ W.cell? ⟨w.heap.size, 1, none⟩ = some (.slice (some ⟨bf, of, none⟩) n c) ∧ W.cell? ⟨w.heap.size, 2, none⟩ = some (.int .i64 pl) ∧ W.cell? ⟨w.heap.size, 3, none⟩ = some (.bool dn) ∧
          ∀ i : Nat, R[i]? = some y → W.cell? ⟨bf, of + i * 3 + 1, none⟩ = some (.slice y.pa f'.b.length y.k) from by
        obtain ⟨k0, k1, k2, k3⟩ := HK.out W hW
        refine ⟨k0, k1, k2, k3, fun i hiy => ?_⟩
        obtain ⟨hi, hyi⟩ := List.getElem?_eq_some_iff.1 hiy
        obtain ⟨_, k4, _⟩ := (HR.out W hW).at i hi
        rw [hyi, hyf] at k4
        exact k4))
      have HSp := Lib.hid (fun W (hW : Below w1.heap.size w1 W) => rsplitZ_any y.pa f'.b.length y.k f'.b W (by have := ((HR.out W hW).files y hyR).bytes; rwa [hyf] at this) ((HR.out W hW).files y hyR).form (by have h1 := readM_len (nmB N) M; rw [hrd] at h1; have := Hu.out; omega))
      have Hblk := Lib.hid (show ∀ z, y.pa = some z → 0 < f'.b.length → z.block < w1.heap.size from fun z hz h0 => HX1.out _ (((HR.out w1 (Below.refl _ _)).files y hyR).blk (by rw [hyf]; exact h0) z hz))
      have HNa := Lib.hid (fun W => rsegname_yes N W (by omega) hle2)
      have Hl3 := Lib.hid (show (out[j]).toNat = N by rw [hl3]; omega)
      have Hown := Lib.hid hown
      have Hb := Lib.hid hb
      have Hbw1 := Lib.hid (Hb3.out.trans (hbr.mono Hb3.out.size))
      have Hbr := Lib.hid hbr
      have Hbk := Lib.hid hbk
      have Hsp := Lib.hid hsp
      have Hfl := Lib.hid hfl
      have Hpl := Lib.hid hpl
      have Hlt := Lib.hid hlt
      have Hf' := Lib.hid hf'
      have Hrd := Lib.hid hrd
      have hji : (j : Int) < (out.length : Int) := by omega
      have Hfile := Lib.hid (readM_len (nmB N) M)
      have hmxn : n ≤ 9223372036854775807 := by omega
      generalize f'.b = fb at *
      generalize hfbl : fb.length = fl at *
      have Hfbl := Lib.hid hfbl
      clear hc0 hxj hl1 hl2 hl3 hle2 hN hown hb hbr hbk hsp hfl hpl hf' hfd hrd hnb hf hy hyf hyR hfbl
      go_wp2_with fail
      refine (HNa.out _).mono ?_
      rintro e w4 ⟨rfl, rfl⟩
      go_wp2_with fail
      go_region_held3 (fun w' => w'.cell? ⟨w.heap.size, 0, none⟩ = some (.int .i64 ro) ∧ w'.cell? ⟨w.heap.size, 1, none⟩ = some (.slice (some ⟨bf, of, none⟩) n c) ∧ w'.cell? ⟨w.heap.size, 2, none⟩ = some (.int .i64 pl) ∧ w'.cell? ⟨w.heap.size, 3, none⟩ = some (.bool dn) ∧ ∀ i : Nat, R[i]? = some y → w'.cell? ⟨bf, of + i * 3 + 1, none⟩ = some (.slice y.pa fl y.k))
        (first | exact HKK.out _ hb5w | exact HKK.out _ hb6w | exact HKK.out _ (Below.drew Hbw1.out))
        (first
          | (go_at_call 62; (with_reducible refine (HF2.out _ (Below.drew Hbw1.out)).mono ?_); rintro e w5 ⟨i, hin, rfl, hiy, hb5⟩; have hini : (i : Int) < (n : Int) := Int.ofNat_lt.2 hin; have hb5w : Below w1.heap.size w1 w5 := (Below.drew Hbw1.out).trans (hb5.mono (Below.drew Hbw1.out).size))
          | (go_at_call 61; (with_reducible refine (HSp.out _ hb5w).mono ?_); rintro e w6 ⟨ms, t, v6, hspl, rfl, hP6, hb6⟩; have hb6w : Below w1.heap.size w1 w6 := hb5w.trans (hb6.mono hb5w.size)))
      have Hspl := Lib.hid hspl
      have hml := splits_many hspl
      have Hml := Lib.hid hml
      have hPZ : ∃ Z : Nat → Prop, PartsZ Z w6 w5.heap.size v6 ms ∧ ∀ b, Z b → b < w1.heap.size := by
        rcases Nat.eq_zero_or_pos fb.length with e0 | e0
        · obtain ⟨vs, g1, g2, g3⟩ := hP6
          exact ⟨fun _ => False, ⟨vs, g1, g2, fun i hi => absurd hi (by omega)⟩, fun b hb => hb.elim⟩
        · refine ⟨_, hP6, fun b hb => ?_⟩
          obtain ⟨z, hz1, rfl⟩ := hb
          exact Hblk.out z hz1 (by rw [← Hfbl.out]; exact e0)
      obtain ⟨Z, hPZ, hZlt⟩ := hPZ
      have HPZ := Lib.hid hPZ
      have hb46 : Below wr.heap.size wr w6 := (Below.drew (Below.refl _ _)).trans (hb5.trans (hb6.mono hb5.size))
      have Hb6r := Lib.hid hb46
      have Hb6 := Lib.hid (Hb.out.trans (hb46.mono Hb.out.size))
      have Hown6 := Lib.hid (Hown.out.grow hb46)
      have Hlt6 := Lib.hid (fun k (hk : u4.ownBlock = some k) => (show ¬ Z k from fun hz => by have h1 := hZlt k hz; have h2 := Hbk.out k hk; have := Hb3.out.size; omega))
      clear hspl hP6 hml hb5 hb6 hb5w hb6w hPZ hZlt hb46 hiy hin hini
      go_wp2_with (at_builtin; refine wpList_append_rowsY rfl _ _ 42 rfl Tryz.underlying42 info_rows rfl Hown6.out rfl HPZ.out Hlt6.out (fun _ _ => True.intro) Hb6.out.size (by have h1 := Hfl.out; have h2 := Hml.out; have h3 := Hfile.out; rw [Hrd.out] at h3; have := Hu.out; omega) ?_; intro v' w7 g1 g2 g4)
      go_roundw
      case rel =>
        refine ⟨⟨j + 1, parts ++ [ms], Hlt.out, by go_num, by rw [List.length_append, List.length_singleton, Hpl.out], fun i x p hx hp => ?_, ?_, ?_, ?_⟩, ?_⟩
        · by_cases hij : i < j
          · rw [List.getElem?_append_left (by rw [Hpl.out]; exact hij)] at hp
            exact Hsp.out i x p hx hp
          · have hi : i = j := by
              have h1 := (List.getElem?_eq_some_iff.1 hp).1
              rw [List.length_append, List.length_singleton, Hpl.out] at h1
              omega
            subst hi
            rw [List.getElem?_append_right (by rw [Hpl.out]; exact Nat.le_refl _), Hpl.out, Nat.sub_self] at hp
            cases hp
            rw [List.getElem?_eq_getElem Hlt.out] at hx
            cases hx
            rw [Hl3.out, Hrd.out]
            exact ⟨t, Hspl.out⟩
        · rw [List.flatten_append, List.length_append, List.flatten_cons, List.flatten_nil, List.append_nil]
          have h1 := Hfl.out; have h2 := Hml.out; have h3 := Hfile.out; have := Hu.out
          rw [Hrd.out] at h3
          omega
        · rw [List.flatten_append, List.flatten_cons, List.flatten_nil, List.append_nil]
          exact g1
        · exact Hb6.out.grown g2 Hb6.out.size (fun k hk => (Hown6.out.lt k hk).1)
        · have hb25 := Hbr.out.trans (Hb6r.out.mono Hbr.out.size)
          refine ⟨hb25.grown g2 hb25.size (fun k hk => Hbk.out k hk), fun k hk => ?_⟩
          rcases g4 with g4 | g4
          · exact Hbk.out k (g4.symm.trans hk)
          · rw [hk] at g4
            have := Option.some.inj g4
            have := hb25.size
            omega
      case measure => simp [intOf]; omega
    · have e1 : j = out.length := by omega
      have Hend := Lib.hid (show RRecsEnd w M (.returned u4) wr from ⟨u4, parts.flatten, rfl, hown.own, ⟨out, parts, Hseg.out, by rw [hpl, e1], hsp, rfl⟩, hb⟩)
      have hji : ¬ (j : Int) < (out.length : Int) := by omega
      clear hown hsp hpl hfl hb hbr hbk e1
      go_wp2
      go_ret
      exact Hend.out
end Go.Proofs.YtehjgkkcpiblcaaGreat

