import Derived.Test.YtmiepigieajpcaaGreatMB37
import Derived.Test.YtmiepigieajpcaaGreatMB30
import Derived.Test.YtmiepigieajpcaaGreatMB38
import Derived.Deep.RegionHeld
import Derived.Deep.AppendLies
import Derived.Deep.RegionHeldLaw
import Derived.Test.YtmiepigieajpcaaGreatMB12
import Derived.Test.YtmiepigieajpcaaGreatMB13
import Derived.Deep.RegionHeld3
import Derived.Deep.DrawnRows
import Derived.Test.YtmiepigieajpcaaGreatMB33
import Derived.Test.YtmiepigieajpcaaGreatMB22
import Derived.Deep.QuietTactic
import Derived.BigQuiet
/- The walks of the reference's has and List of segments. -/
namespace Go.Proofs.YtmiepigieajpcaaGreat
open Go.RowKit

set_option maxRecDepth 100000 in
theorem seghas_any (a : Option Addr) (n cap : Nat) (l : List Int) (x : Int) (w : World) (hI : Ints w a n cap l) :
    Calls Tryz.prog 106 #[.slice a n cap, .int .i64 x] w fun e w' => e = .returned (.bool (decide (x ∈ l))) ∧ w = w' := by
  have HI := Lib.hid hI
  have hnm : n ≤ 9223372036854775807 := Nat.le_trans hI.le hI.capmax
  clear hI
  go_enter Tryz.func106, Tryz.ntmps106
  go_wp2
  go_loop [5] (fun i => ∃ k : Nat, k ≤ n ∧ i = .int .i64 (k : Int) ∧ x ∉ l.take k) (fun i => n - (intOf i).toNat)
  case atStart => exact ⟨0, Nat.zero_le _, rfl, by simp⟩
  case round =>
    obtain ⟨k, hk, rfl, hno⟩ := hrel
    have Hno := Lib.hid hno
    clear hno
    by_cases hlt : k < n
    · obtain ⟨b, o, rfl, hc0⟩ := HI.out.cell (by omega)
      have hc := hc0 k hlt
      have Htk := Lib.hid (show l.take (k + 1) = l.take k ++ [l.getD k 0] by
        rw [List.take_succ_eq_append_getElem (by rw [HI.out.len]; exact hlt), List.getD_eq_getElem?_getD, List.getElem?_eq_getElem (by rw [HI.out.len]; exact hlt)]; rfl)
      have Hin := Lib.hid (show l.getD k 0 ∈ l by
        rw [List.getD_eq_getElem?_getD, List.getElem?_eq_getElem (by rw [HI.out.len]; exact hlt)]
        exact List.getElem_mem _)
      have Hlt := Lib.hid hlt
      clear hc0
      generalize l.getD k 0 = y at *
      by_cases hy : y = x
      · have Hf := Lib.hid (show decide (x ∈ l) = true from decide_eq_true (by rw [← hy]; exact Hin.out))
        have hq : (y == x) = true := by rw [hy]; exact beq_self_eq_true _
        clear hy
        go_wp2
        go_ret
        exact ⟨ret_bool Hf.out.symm, rfl⟩
      · have hq : (y == x) = false := beq_eq_false_iff_ne.2 hy
        have Hy := Lib.hid hy
        clear hy
        go_wp2
        go_round
        case rel => exact ⟨k + 1, Hlt.out, by go_num, fun h => by
          rw [Htk.out, List.mem_append, List.mem_singleton] at h
          rcases h with h | h
          · exact Hno.out h
          · exact Hy.out h.symm⟩
        case measure => simp [intOf]; have := Hlt.out; omega
    · obtain rfl : k = n := by omega
      have Hf := Lib.hid (show decide (x ∈ l) = false from decide_eq_false (fun h => Hno.out (by rw [List.take_of_length_le (by rw [HI.out.len]; omega)]; exact h)))
      clear hlt
      go_wp2
      go_ret
      exact ⟨ret_bool Hf.out.symm, rfl⟩

def RlRel (w : World) (n : Nat) (ls : List (List Nat)) (v i : Value) (wr : World) : Prop :=
  ∃ (k : Nat) (out : List Int), k ≤ n ∧ i = .int .i64 (k : Int) ∧ out.length ≤ k ∧ Asc out ∧ (∀ x, x ∈ out ↔ NumsOf (ls.take k) x) ∧ wr.ownsRow w.heap.size 3 1 v out.length (intsE out) ∧ Below w.heap.size w wr

set_option maxRecDepth 100000 in
set_option maxHeartbeats 3200000 in
theorem rseglist_any (a : Option Addr) (n cap : Nat) (ls : List (List Nat)) (w : World) (hS : Strs w a n cap ls) (hn : n ≤ 1000) :
    Calls Tryz.prog 58 #[.slice a n cap] w (ListEnd w ls) := by
  have HS := Lib.hid hS
  clear hS
  go_enter Tryz.func58, Tryz.ntmps58
  go_wp2
  go_loopw [3, 4] (fun v i wr => RlRel w n ls v i wr) (fun _ i _ => n - (intOf i).toNat)
  case atStart => exact ⟨0, [], Nat.zero_le _, rfl, Nat.le_refl _, List.Pairwise.nil, fun x => ⟨fun h => (by cases h), fun ⟨l, hl, _⟩ => (by rw [List.take_zero] at hl; cases hl)⟩, World.ownsRow_nil _ _ _ _, Below.refl _ _⟩
  case round =>
    obtain ⟨k, out, hk, rfl, hol, hasc, hmem, hown, hbel⟩ := hrel
    have Hmem := Lib.hid hmem
    have Hol := Lib.hid hol
    have Hasc := Lib.hid hasc
    have Hown := Lib.hid hown
    have Hbel := Lib.hid hbel
    clear hmem hol hown hbel hasc
    by_cases hlt : k < n
    · obtain ⟨b, o, rfl, hc0⟩ := (HS.out.grow Hbel.out).cell (by omega)
      have hc := hc0 k hlt
      have Hnx := Lib.hid (fun x => numsOf_next (ls := ls) (k := k) (by rw [HS.out.len]; exact hlt) (x := x))
      obtain ⟨hby, hlen⟩ : (∀ x ∈ ls.getD k [], x < 256) ∧ (ls.getD k []).length ≤ 9223372036854775807 := by
        rw [List.getD_eq_getElem?_getD, List.getElem?_eq_getElem (by rw [HS.out.len]; exact hlt)]
        exact HS.out.byte _ (List.getElem_mem _)
      have HC := Lib.hid (rsegnum_any (ls.getD k []) wr hby)
      unfold NumEnd at HC
      clear hc0 hby hlen
      generalize ls.getD k [] = l at *
      have Hlt := Lib.hid hlt
      generalize str l = s at *
      obtain ⟨p, cp, rfl, hI⟩ := own_ints Hown.out
      by_cases h0 : 0 < segNum l
      · have H0 := Lib.hid h0
        rw [decide_eq_true h0] at HC
        generalize segNum l = m at *
        clear h0
        have HH := Lib.hid (seghas_any p out.length cp out (m : Int) wr hI)
        by_cases hin : (m : Int) ∈ out
        · have Hin := Lib.hid hin
          rw [decide_eq_true hin] at HH
          clear hin hI
          go_wp2_with fail
          refine HC.out.mono ?_
          rintro e w1 ⟨rfl, rfl⟩
          go_wp2_with fail
          refine HH.out.mono ?_
          rintro e w1 ⟨rfl, rfl⟩
          go_wp2
          go_roundw
          case rel =>
            refine ⟨k + 1, out, Hlt.out, by go_num, by have := Hol.out; omega, Hasc.out, fun x => ?_, Hown.out, Hbel.out⟩
            rw [Hnx.out x, ← Hmem.out x]
            constructor
            · exact .inl
            · rintro (h | ⟨_, h⟩)
              · exact h
              · rw [h]; exact Hin.out
          case measure => simp [intOf]; have := Hlt.out; omega
        · have Hin := Lib.hid hin
          rw [decide_eq_false hin] at HH
          have HI := Lib.hid hI
          clear hin hI
          go_wp2_with fail
          refine HC.out.mono ?_
          rintro e w1 ⟨rfl, rfl⟩
          go_wp2_with fail
          refine HH.out.mono ?_
          rintro e w1 ⟨rfl, rfl⟩
          go_wp2
          go_loop [7] (fun i => ∃ j : Nat, j ≤ out.length ∧ i = .int .i64 (j : Int) ∧ ∀ q, q < j → out.getD q 0 < (m : Int)) (fun i => out.length - (intOf i).toNat)
          case atStart => exact ⟨0, Nat.zero_le _, rfl, fun q h => absurd h (Nat.not_lt_zero _)⟩
          case round =>
            obtain ⟨j, hj, rfl, hlo⟩ := hrel
            have Hlo := Lib.hid hlo
            clear hlo
            have hol2 : out.length ≤ 1000 := by have := Hol.out; have := Hlt.out; omega
            by_cases hcont : j < out.length ∧ out.getD j 0 < (m : Int)
            · obtain ⟨hjl, hym⟩ := hcont
              obtain ⟨b2, o2, rfl, hc2⟩ := HI.out.cell (by omega)
              have hcj := hc2 j hjl
              clear hc2
              generalize hy : out.getD j 0 = y at *
              have Hy := Lib.hid hy
              clear hy
              have Hym := Lib.hid hym
              have Hjl := Lib.hid hjl
              go_wp2
              go_round
              case rel => exact ⟨j + 1, Hjl.out, by go_num, fun q hq => by
                by_cases e : q = j
                · subst e; rw [Hy.out]; exact Hym.out
                · exact Hlo.out q (by omega)⟩
              case measure => simp [intOf]; have := Hjl.out; omega
            · have Hhi := Lib.hid (show j < out.length → ¬ out.getD j 0 < (m : Int) from fun h1 h2 => hcont ⟨h1, h2⟩)
              clear hcont
              have hcple := HI.out.le
              obtain ⟨pt, hsl1, ht⟩ := ints_to (P := Tryz.prog) Tryz.underlying33 info_int (a := p) (n := out.length) (c := cp) (k := j) hj hcple (own_formed_i Hown.out)
              obtain ⟨pd, hsl2, hd⟩ := ints_from (P := Tryz.prog) Tryz.underlying33 info_int (a := p) (n := out.length) (c := cp) (k := j) hj hcple (own_formed_i Hown.out)
              have HT := Lib.hid (fun W (hb : Below wr.heap.size wr W) => ht W out (HI.out.grow hb))
              have HD := Lib.hid (fun W (hb : Below wr.heap.size wr W) => hd W out (HI.out.grow hb))
              have Hj := Lib.hid hj
              have HL3 := Lib.hid (show (out.take j ++ (m : Int) :: out.drop j).length = 0 + j + 1 + (out.length - j) by rw [List.length_append, List.length_cons, List.length_take, List.length_drop]; omega)
              have Hle3 := Lib.hid (show (out.take j ++ (m : Int) :: out.drop j).length ≤ k + 1 by rw [List.length_append, List.length_cons, List.length_take, List.length_drop]; have := Hol.out; omega)
              clear ht hd
              by_cases hjl : j < out.length
              case' pos =>
                obtain ⟨b2, o2, rfl, hc2⟩ := HI.out.cell (by omega)
                have hcj := hc2 j hjl
                have hym := Hhi.out hjl
                generalize out.getD j 0 = y at hcj hym
                clear hc2
              case' neg =>
                have hnl : ¬ ((j : Int) < (out.length : Int)) := by omega
              all_goals go_wp2
              all_goals go_region_law
                (first
                  | (refine step_append_ints rfl (.tmp 50) (.tmp 53) rfl wr.heap.size v2 (0 + j + 1) (([] ++ out.take j) ++ [(m : Int)]) (by first | (simp [Act.eval]; done) | fail) (own_below Own2.out (by repeat' (first | exact Below.refl _ _ | refine Below.drew ?_ | refine Below.alloc ?_ (by first | exact Nat.le_refl _ | (simp; done) | (simp; omega) | (simp [heap_dr]; done) | (simp [heap_dr]; omega) | fail) _))) pd (out.length - j) (cp - j) (out.drop j) (by first | (simp [Act.eval]; done) | fail) (HD.out _ (Hb2.out.trans (Below.mono (B := w2.heap.size) (by repeat' (first | exact Below.refl _ _ | refine Below.drew ?_ | refine Below.alloc ?_ (by first | exact Nat.le_refl _ | (simp; done) | (simp; omega) | (simp [heap_dr]; done) | (simp [heap_dr]; omega) | fail) _)) Hb2.out.size))) (by omega) (Nat.le_trans Hb2.out.size (by first | exact Nat.le_refl _ | (simp; done) | (simp; omega) | (simp [heap_dr]; done) | (simp [heap_dr]; omega) | fail)) ?_
                     intro v3 w3 own3 gr3
                     have hb3 : Below wr.heap.size wr w3 := Below.grown (Hb2.out.trans (Below.mono (B := w2.heap.size) (by repeat' (first | exact Below.refl _ _ | refine Below.drew ?_ | refine Below.alloc ?_ (by first | exact Nat.le_refl _ | (simp; done) | (simp; omega) | (simp [heap_dr]; done) | (simp [heap_dr]; omega) | fail) _)) Hb2.out.size)) gr3 (Nat.le_trans Hb2.out.size (by first | exact Nat.le_refl _ | (simp; done) | (simp; omega) | (simp [heap_dr]; done) | (simp [heap_dr]; omega) | fail)) O2lt.out
                     have Own3 := Lib.hid own3
                     have Hb3 := Lib.hid hb3
                     clear own3 gr3 hb3)
                  | (refine step_append_ints rfl (.tmp 47) (.tmp 49) rfl wr.heap.size v1 (0 + j) ([] ++ out.take j) (by first | (simp [Act.eval]; done) | fail) (own_below Own1.out (by repeat' (first | exact Below.refl _ _ | refine Below.drew ?_ | refine Below.alloc ?_ (by first | exact Nat.le_refl _ | (simp; done) | (simp; omega) | (simp [heap_dr]; done) | (simp [heap_dr]; omega) | fail) _))) (some ⟨wr.heap.size, 0, none⟩) 1 1 [(m : Int)] (by first | (simp [Act.eval]; done) | fail) (HR1.out.grow (by repeat' (first | exact Below.refl _ _ | refine Below.drew ?_ | refine Below.alloc ?_ (by first | exact Nat.le_refl _ | (simp; done) | (simp; omega) | (simp [heap_dr]; done) | (simp [heap_dr]; omega) | fail) _))) (by omega) (Nat.le_trans Hb1.out.size (by first | exact Nat.le_refl _ | (simp; done) | (simp; omega) | (simp [heap_dr]; done) | (simp [heap_dr]; omega) | fail)) ?_
                     intro v2 w2 own2 gr2
                     have hb2 : Below wr.heap.size wr w2 := Below.grown (Hb1.out.trans (Below.mono (B := w1.heap.size) (by repeat' (first | exact Below.refl _ _ | refine Below.drew ?_ | refine Below.alloc ?_ (by first | exact Nat.le_refl _ | (simp; done) | (simp; omega) | (simp [heap_dr]; done) | (simp [heap_dr]; omega) | fail) _)) Hb1.out.size)) gr2 (Nat.le_trans Hb1.out.size (by first | exact Nat.le_refl _ | (simp; done) | (simp; omega) | (simp [heap_dr]; done) | (simp [heap_dr]; omega) | fail)) O1lt.out
                     have o2lt := fun k hk => (own2.lt k hk).1
                     have Own2 := Lib.hid own2
                     have Hb2 := Lib.hid hb2
                     have O2lt := Lib.hid o2lt
                     clear own2 gr2 hb2 o2lt)
                  | (refine step_append_ints rfl (.tmp 47) (.tmp 49) rfl wr.heap.size v1 (0 + j) ([] ++ out.take j) (by first | (simp [Act.eval]; done) | fail) (own_below Own1.out (by repeat' (first | exact Below.refl _ _ | refine Below.drew ?_ | refine Below.alloc ?_ (by first | exact Nat.le_refl _ | (simp; done) | (simp; omega) | (simp [heap_dr]; done) | (simp [heap_dr]; omega) | fail) _))) (some ⟨wr.heap.size + 1, 0, none⟩) 1 1 [(m : Int)] (by first | (simp [Act.eval]; done) | fail) (HR1.out.grow (by repeat' (first | exact Below.refl _ _ | refine Below.drew ?_ | refine Below.alloc ?_ (by first | exact Nat.le_refl _ | (simp; done) | (simp; omega) | (simp [heap_dr]; done) | (simp [heap_dr]; omega) | fail) _))) (by omega) (Nat.le_trans Hb1.out.size (by first | exact Nat.le_refl _ | (simp; done) | (simp; omega) | (simp [heap_dr]; done) | (simp [heap_dr]; omega) | fail)) ?_
                     intro v2 w2 own2 gr2
                     have hb2 : Below wr.heap.size wr w2 := Below.grown (Hb1.out.trans (Below.mono (B := w1.heap.size) (by repeat' (first | exact Below.refl _ _ | refine Below.drew ?_ | refine Below.alloc ?_ (by first | exact Nat.le_refl _ | (simp; done) | (simp; omega) | (simp [heap_dr]; done) | (simp [heap_dr]; omega) | fail) _)) Hb1.out.size)) gr2 (Nat.le_trans Hb1.out.size (by first | exact Nat.le_refl _ | (simp; done) | (simp; omega) | (simp [heap_dr]; done) | (simp [heap_dr]; omega) | fail)) O1lt.out
                     have o2lt := fun k hk => (own2.lt k hk).1
                     have Own2 := Lib.hid own2
                     have Hb2 := Lib.hid hb2
                     have O2lt := Lib.hid o2lt
                     clear own2 gr2 hb2 o2lt)
                  | (refine step_append_ints rfl (.tmp 47) (.tmp 49) rfl wr.heap.size v1 (0 + j) ([] ++ out.take j) (by first | (simp [Act.eval]; done) | fail) (own_below Own1.out (by repeat' (first | exact Below.refl _ _ | refine Below.drew ?_ | refine Below.alloc ?_ (by first | exact Nat.le_refl _ | (simp; done) | (simp; omega) | (simp [heap_dr]; done) | (simp [heap_dr]; omega) | fail) _))) (some ⟨w1.heap.size, 0, none⟩) 1 1 [(m : Int)] (by first | (simp [Act.eval]; done) | fail) (row_ints (e := 3) (by first | (simp only [heap_at]; simp; done) | (simp only [heap_at, World.size_alloc]; simp; done) | (simp only [heap_at, heap_dr]; simp; done) | (simp only [heap_at, heap_dr, World.size_alloc]; simp; done) | fail)) (by omega) (Nat.le_trans Hb1.out.size (by first | exact Nat.le_refl _ | (simp; done) | (simp; omega) | (simp [heap_dr]; done) | (simp [heap_dr]; omega) | fail)) ?_
                     intro v2 w2 own2 gr2
                     have hb2 : Below wr.heap.size wr w2 := Below.grown (Hb1.out.trans (Below.mono (B := w1.heap.size) (by repeat' (first | exact Below.refl _ _ | refine Below.drew ?_ | refine Below.alloc ?_ (by first | exact Nat.le_refl _ | (simp; done) | (simp; omega) | (simp [heap_dr]; done) | (simp [heap_dr]; omega) | fail) _)) Hb1.out.size)) gr2 (Nat.le_trans Hb1.out.size (by first | exact Nat.le_refl _ | (simp; done) | (simp; omega) | (simp [heap_dr]; done) | (simp [heap_dr]; omega) | fail)) O1lt.out
                     have o2lt := fun k hk => (own2.lt k hk).1
                     have Own2 := Lib.hid own2
                     have Hb2 := Lib.hid hb2
                     have O2lt := Lib.hid o2lt
                     clear own2 gr2 hb2 o2lt)
                  | (refine step_append_ints rfl (.tmp 43) (.tmp 46) rfl wr.heap.size (.slice (some ⟨wr.heap.size + 1, 0, none⟩) 0 0) 0 [] (by first | (simp [Act.eval]; done) | fail) (own_emp (by first | (simp only [heap_at]; simp; done) | (simp only [heap_at, World.size_alloc]; simp; done) | (simp only [heap_at, heap_dr]; simp; done) | (simp only [heap_at, heap_dr, World.size_alloc]; simp; done) | fail) (by omega)) pt j cp (out.take j) (by first | (simp [Act.eval]; done) | fail) (HT.out _ (by repeat' (first | exact Below.refl _ _ | refine Below.drew ?_ | refine Below.alloc ?_ (by first | exact Nat.le_refl _ | (simp; done) | (simp; omega) | (simp [heap_dr]; done) | (simp [heap_dr]; omega) | fail) _))) (by omega) (by first | exact Nat.le_refl _ | (simp; done) | (simp; omega) | (simp [heap_dr]; done) | (simp [heap_dr]; omega) | fail) ?_
                     intro v1 w1 own1 gr1
                     have hb1 : Below wr.heap.size wr w1 := Below.grown (by repeat' (first | exact Below.refl _ _ | refine Below.drew ?_ | refine Below.alloc ?_ (by first | exact Nat.le_refl _ | (simp; done) | (simp; omega) | (simp [heap_dr]; done) | (simp [heap_dr]; omega) | fail) _)) gr1 (by first | exact Nat.le_refl _ | (simp; done) | (simp; omega) | (simp [heap_dr]; done) | (simp [heap_dr]; omega) | fail) (fun k hk => by simp [Value.ownBlock] at hk; omega)
                     have o1lt := fun k hk => (own1.lt k hk).1
                     have HR1 := Lib.hid (show Ints w1 (some ⟨wr.heap.size, 0, none⟩) 1 1 [(m : Int)] from row_ints (e := 3) ((gr1.block (wr.heap.size) (by first | exact Nat.le_refl _ | (simp; done) | (simp; omega) | (simp [heap_dr]; done) | (simp [heap_dr]; omega) | fail) (by first | (simp [Value.ownBlock]; done) | fail)).trans (by first | (simp only [heap_at]; simp; done) | (simp only [heap_at, World.size_alloc]; simp; done) | (simp only [heap_at, heap_dr]; simp; done) | (simp only [heap_at, heap_dr, World.size_alloc]; simp; done) | fail)))
                     have Own1 := Lib.hid own1
                     have Hb1 := Lib.hid hb1
                     have O1lt := Lib.hid o1lt
                     clear own1 gr1 hb1 o1lt)
                  | (refine step_append_ints rfl (.tmp 43) (.tmp 46) rfl wr.heap.size (.slice (some ⟨wr.heap.size, 0, none⟩) 0 0) 0 [] (by first | (simp [Act.eval]; done) | fail) (own_emp (by first | (simp only [heap_at]; simp; done) | (simp only [heap_at, World.size_alloc]; simp; done) | (simp only [heap_at, heap_dr]; simp; done) | (simp only [heap_at, heap_dr, World.size_alloc]; simp; done) | fail) (by omega)) pt j cp (out.take j) (by first | (simp [Act.eval]; done) | fail) (HT.out _ (by repeat' (first | exact Below.refl _ _ | refine Below.drew ?_ | refine Below.alloc ?_ (by first | exact Nat.le_refl _ | (simp; done) | (simp; omega) | (simp [heap_dr]; done) | (simp [heap_dr]; omega) | fail) _))) (by omega) (by first | exact Nat.le_refl _ | (simp; done) | (simp; omega) | (simp [heap_dr]; done) | (simp [heap_dr]; omega) | fail) ?_
                     intro v1 w1 own1 gr1
                     have hb1 : Below wr.heap.size wr w1 := Below.grown (by repeat' (first | exact Below.refl _ _ | refine Below.drew ?_ | refine Below.alloc ?_ (by first | exact Nat.le_refl _ | (simp; done) | (simp; omega) | (simp [heap_dr]; done) | (simp [heap_dr]; omega) | fail) _)) gr1 (by first | exact Nat.le_refl _ | (simp; done) | (simp; omega) | (simp [heap_dr]; done) | (simp [heap_dr]; omega) | fail) (fun k hk => by simp [Value.ownBlock] at hk; omega)
                     have o1lt := fun k hk => (own1.lt k hk).1
                     have HR1 := Lib.hid (show Ints w1 (some ⟨wr.heap.size + 1, 0, none⟩) 1 1 [(m : Int)] from row_ints (e := 3) ((gr1.block (wr.heap.size + 1) (by first | exact Nat.le_refl _ | (simp; done) | (simp; omega) | (simp [heap_dr]; done) | (simp [heap_dr]; omega) | fail) (by first | (simp [Value.ownBlock]; done) | fail)).trans (by first | (simp only [heap_at]; simp; done) | (simp only [heap_at, World.size_alloc]; simp; done) | (simp only [heap_at, heap_dr]; simp; done) | (simp only [heap_at, heap_dr, World.size_alloc]; simp; done) | fail)))
                     have Own1 := Lib.hid own1
                     have Hb1 := Lib.hid hb1
                     have O1lt := Lib.hid o1lt
                     clear own1 gr1 hb1 o1lt)
                  | (refine step_append_ints rfl (.tmp 43) (.tmp 46) rfl wr.heap.size (.slice (some ⟨wr.heap.size, 0, none⟩) 0 0) 0 [] (by first | (simp [Act.eval]; done) | fail) (own_emp (by first | (simp only [heap_at]; simp; done) | (simp only [heap_at, World.size_alloc]; simp; done) | (simp only [heap_at, heap_dr]; simp; done) | (simp only [heap_at, heap_dr, World.size_alloc]; simp; done) | fail) (by omega)) pt j cp (out.take j) (by first | (simp [Act.eval]; done) | fail) (HT.out _ (by repeat' (first | exact Below.refl _ _ | refine Below.drew ?_ | refine Below.alloc ?_ (by first | exact Nat.le_refl _ | (simp; done) | (simp; omega) | (simp [heap_dr]; done) | (simp [heap_dr]; omega) | fail) _))) (by omega) (by first | exact Nat.le_refl _ | (simp; done) | (simp; omega) | (simp [heap_dr]; done) | (simp [heap_dr]; omega) | fail) ?_
                     intro v1 w1 own1 gr1
                     have hb1 : Below wr.heap.size wr w1 := Below.grown (by repeat' (first | exact Below.refl _ _ | refine Below.drew ?_ | refine Below.alloc ?_ (by first | exact Nat.le_refl _ | (simp; done) | (simp; omega) | (simp [heap_dr]; done) | (simp [heap_dr]; omega) | fail) _)) gr1 (by first | exact Nat.le_refl _ | (simp; done) | (simp; omega) | (simp [heap_dr]; done) | (simp [heap_dr]; omega) | fail) (fun k hk => by simp [Value.ownBlock] at hk; omega)
                     have o1lt := fun k hk => (own1.lt k hk).1
                     have Own1 := Lib.hid own1
                     have Hb1 := Lib.hid hb1
                     have O1lt := Lib.hid o1lt
                     clear own1 gr1 hb1 o1lt)
                )
              all_goals go_wp2
              all_goals go_roundw
              all_goals try (case measure => simp [intOf]; have := Hlt.out; omega)
              all_goals refine ⟨k + 1, out.take j ++ (m : Int) :: out.drop j, Hlt.out, by go_num, Hle3.out, asc_insert Hasc.out Hj.out Hlo.out (fun h => by have := Hhi.out h; omega) Hin.out, fun x => ?_, ?_, Hbel.out.trans (Hb3.out.mono Hbel.out.size)⟩
              all_goals first
                | (rw [Hnx.out x, mem_insert, ← Hmem.out x]
                   constructor
                   · rintro (h | h)
                     · exact .inr ⟨H0.out, h⟩
                     · exact .inl h
                   · rintro (h | ⟨_, h⟩)
                     · exact .inr h
                     · exact .inl h)
                | (rw [HL3.out]
                   have h3 := Own3.out
                   rw [List.nil_append, List.append_assoc, List.singleton_append] at h3
                   exact own_base h3 Hbel.out.size)
      · have H0 := Lib.hid h0
        rw [decide_eq_false h0] at HC
        generalize segNum l = m at *
        clear h0 hI
        go_wp2_with fail
        refine HC.out.mono ?_
        rintro e w1 ⟨rfl, rfl⟩
        go_wp2
        go_roundw
        case rel =>
          refine ⟨k + 1, out, Hlt.out, by go_num, by have := Hol.out; omega, Hasc.out, fun x => ?_, Hown.out, Hbel.out⟩
          rw [Hnx.out x, Hmem.out x]
          constructor
          · exact .inl
          · rintro (h | ⟨h, _⟩)
            · exact h
            · exact absurd h H0.out
        case measure => simp [intOf]; have := Hlt.out; omega
    · obtain rfl : k = n := by omega
      have Hfull := Lib.hid (show ls.take k = ls from List.take_of_length_le (by rw [HS.out.len]; omega))
      clear hlt
      go_wp2
      go_ret
      exact ⟨_, out, rfl, Hasc.out, fun x => by rw [Hmem.out x, Hfull.out], by have := Hol.out; rw [HS.out.len]; exact this, Hown.out, Hbel.out⟩
end Go.Proofs.YtmiepigieajpcaaGreat

/- The walk of the reference's Records: the records of the segments of a disk, one after the other. -/
namespace Go.Proofs.YtmiepigieajpcaaGreat
open Go.RowKit Go.Maps Go.Shelf

attribute [local go_sem ↓] Go.wp_at_zero Go.wp_at_succ

def RRecsEnd (w : World) (M : DM) (e : Ending) (w' : World) : Prop :=
  ∃ v ls, e = .returned v ∧ OwnParts w' w.heap.size v ls ∧ RecsOf M ls ∧ Below w.heap.size w w'

/-- Behind j segments. -/
def RRecRel (w : World) (M : DM) (out : List Int) (v i : Value) (wr : World) : Prop :=
  ∃ (j : Nat) (parts : List (List (List Nat))), j ≤ out.length ∧ i = .int .i64 (j : Int) ∧ parts.length = j ∧ (∀ (i : Nat) (x : Int) (p : List (List Nat)), out[i]? = some x → parts[i]? = some p → ∃ t, Splits (readM (nmB x.toNat) M).1 p t) ∧
    parts.flatten.length ≤ j * 200000 ∧ PartsZ (fun _ => True) wr w.heap.size v parts.flatten ∧ Below w.heap.size w wr

theorem readM_up {n : List UInt8} {M : DM} {f : F} (hd : M.down = false) (h : findN F.n n M.fs = some f) : (readM n M).1 = f.b := by
  unfold readM
  rw [if_neg (by rw [hd]; decide), h]

theorem findN_have {n : List UInt8} {l : List F} (h : ∃ f ∈ l, f.n = n) : ∃ f, findN F.n n l = some f := by
  cases e : findN F.n n l with
  | some f => exact ⟨f, rfl⟩
  | none =>
    obtain ⟨f, hf, hn⟩ := h
    unfold findN at e
    have := List.find?_eq_none.1 e f hf
    simp [hn] at this

theorem nmB_of_num {n : List UInt8} (h : 0 < segNum (nmL n)) : nmB (segNum (nmL n)) = n := by
  unfold nmB
  rw [name_of_num h]
  unfold nmL
  rw [List.map_map]
  conv => rhs; rw [← List.map_id n]
  refine List.map_congr_left fun x _ => ?_
  simp

end Go.Proofs.YtmiepigieajpcaaGreat

/- The walks of a log's goOn, Put, Sync and New. -/
namespace Go.Proofs.YtmiepigieajpcaaGreat
open Go.RowKit Go.Maps Go.Shelf

theorem max_one (b c : Nat) (z : Int) (w : World) (h : w.cell? ⟨b, 0, none⟩ = some (.int .i64 z)) :
    Calls Tryz.prog 128 #[.slice (some ⟨b, 0, none⟩) 1 c] w fun e w' => e = .returned (.int .i64 z) ∧ w = w' := by
  go_enter Tryz.func128, Tryz.ntmps128
  go_wp2
  go_loop [3, 4] (fun m i => m = .int .i64 z ∧ i = .int .i64 1) (fun _ _ => 0)
  case atStart => exact ⟨rfl, rfl⟩
  case round =>
    obtain ⟨rfl, rfl⟩ := hrel
    go_wp2
    go_ret
    exact ⟨rfl, rfl⟩

theorem segnext_one (b c N : Nat) (w : World) (hN : N ≤ 99999999) (h : w.cell? ⟨b, 0, none⟩ = some (.int .i64 (N : Int))) :
    Calls Tryz.prog 83 #[.slice (some ⟨b, 0, none⟩) 1 c] w fun e w' => e = .returned (if N < 99999999 then .tuple #[.int .i64 ((N + 1 : Nat) : Int), .bool true] else .tuple #[.int .i64 0, .bool false]) ∧ w = w' := by
  have HM := Lib.hid (max_one b c (N : Int) w h)
  have HI := Lib.hid (seginrange_any ((N : Int) + 1) w)
  by_cases hlt : N < 99999999
  · rw [decide_eq_true (show 1 ≤ (N : Int) + 1 ∧ (N : Int) + 1 ≤ 99999999 by omega)] at HI
    rw [if_pos hlt]
    clear h
    go_enter Tryz.func83, Tryz.ntmps83
    go_wp2_with fail
    refine HM.out.mono ?_
    rintro e w' ⟨rfl, rfl⟩
    go_wp2_with fail
    refine HI.out.mono ?_
    rintro e w' ⟨rfl, rfl⟩
    go_wp2
    go_ret2
    exact ⟨rfl, rfl⟩
  · rw [decide_eq_false (show ¬ (1 ≤ (N : Int) + 1 ∧ (N : Int) + 1 ≤ 99999999) by omega)] at HI
    rw [if_neg hlt]
    clear h
    go_enter Tryz.func83, Tryz.ntmps83
    go_wp2_with fail
    refine HM.out.mono ?_
    rintro e w' ⟨rfl, rfl⟩
    go_wp2_with fail
    refine HI.out.mono ?_
    rintro e w' ⟨rfl, rfl⟩
    go_wp2
    go_ret2
    exact ⟨rfl, rfl⟩

section
variable {w0 : World} {Y : Nat → Prop} {w : World} {g d : Nat} {W : WM}

theorem LogAt.cell (h : LogAt w0 Y w g d W) : w.cell? ⟨g, 0, none⟩ = some (.int .i64 (W.n : Int)) ∧ w.cell? ⟨g, 1, none⟩ = some (.int .i64 (W.size : Int)) ∧ w.cell? ⟨g, 2, none⟩ = some (.int .i64 (W.wait : Int)) ∧ w.cell? ⟨g, 3, none⟩ = some (.pointer (some ⟨d, 0, none⟩)) ∧ w.cell? ⟨g, 4, none⟩ = some (.int .i64 W.most) := by
  have hc := h.cells
  refine ⟨?_, ?_, ?_, ?_, ?_⟩ <;> (rw [cell_of_row _ _ _ _ _ (0, 0) hc]; rfl)

set_option maxRecDepth 100000 in
set_option maxHeartbeats 6400000 in
theorem goOn_any (h : LogAt w0 Y w g d W) (h1 : 1 ≤ W.n) (hN : W.n ≤ 99999999) (hL : W.D.fs.length < 1000000) :
    Calls Tryz.prog 77 #[.pointer (some ⟨g, 0, none⟩)] w fun e w' => e = .returned (.int .i64 (rotW W).2) ∧ LogEnd w0 Y w g d (rotW W).1 w' := by
  obtain ⟨g0, g1, g2, g3, g4⟩ := h.cell
  have hr0 : (w.alloc (.cells #[.int .i64 (W.n : Int)] 3)).cell? ⟨w.heap.size, 0, none⟩ = some (.int .i64 (W.n : Int)) := by rw [cell_of_row _ _ _ _ _ (0, 0) (heap_alloc_new _ _)]; rfl
  have HX := Lib.hid (segnext_one w.heap.size 1 W.n _ hN hr0)
  have hb1 : Below w.heap.size w (w.alloc (.cells #[.int .i64 (W.n : Int)] 3)) := (Below.refl _ _).alloc (Nat.le_refl _) _
  have H := Lib.hid h
  have H1 := Lib.hid h1
  by_cases hlt : W.n < 99999999
  · have Hlt := Lib.hid hlt
    rw [if_pos hlt] at HX
    have hA := h.all hb1
    obtain ⟨k0, k1, k2, _, _⟩ := hA.cell
    have HS := Lib.hid (syncing_any g W.n (W.size : Int) (W.wait : Int) (W.n : Int) (W.size : Int) (W.wait : Int) _ h1 hN k0 k1 k2)
    unfold placeV at HS
    have Hb1 := Lib.hid hb1
    have HL := Lib.hid hL
    clear h h1 hr0 hA hb1 hL hlt
    go_enter Tryz.func77, Tryz.ntmps77
    go_wp2_with fail
    refine HX.out.mono ?_
    rintro e w' ⟨rfl, rfl⟩
    go_wp2_with fail
    refine HS.out.mono ?_
    rintro e w2 ⟨b1, b2, rfl, c1, c2, hbk1, hbk2, hb2⟩
    have HC := Lib.hid (creating_any g (W.n + 1) w2 (by omega) (by have := Hlt.out; omega))
    have Hb2 := Lib.hid (Hb1.out.trans (hb2.mono Hb1.out.size))
    have C1 := Lib.hid c1
    have C2 := Lib.hid c2
    have Hk1 := Lib.hid (Nat.le_trans Hb1.out.size hbk1)
    have Hk2 := Lib.hid (Nat.le_trans Hb1.out.size hbk2)
    clear hb2 c1 c2 hbk1 hbk2 k0 k1 k2
    unfold stepV
    go_wp2_with fail
    refine HC.out.mono ?_
    rintro e w3 ⟨b3, b4, rfl, c3, c4, hbk3, hbk4, hb3⟩
    have C3 := Lib.hid c3
    have C4 := Lib.hid c4
    have Hk3 := Lib.hid (Nat.le_trans Hb2.out.size hbk3)
    have Hk4 := Lib.hid (Nat.le_trans Hb2.out.size hbk4)
    have Hb3' := Lib.hid hb3
    have Hb3 := Lib.hid (Hb2.out.trans (hb3.mono Hb2.out.size))
    clear hb3 c3 c4 hbk3 hbk4
    unfold stepV
    go_wp2_with fail
    obtain ⟨w4, hw4⟩ : ∃ w4, w4 = w3.alloc (.cells #[.func (.func 125) #[] #[.pointer (some ⟨b1, 0, none⟩), .pointer (some ⟨b2, 0, none⟩)], .int .i64 (W.n : Int), .int .i64 (W.size : Int), .int .i64 (W.wait : Int),
      .func (.func 160) #[] #[.pointer (some ⟨b3, 0, none⟩), .pointer (some ⟨b4, 0, none⟩)], .int .i64 ((W.n : Int) + 1), .int .i64 0, .int .i64 0] 135) := ⟨_, rfl⟩
    rw [← hw4]
    have hrow : w4.heap[w3.heap.size]? = some (.cells ([StepD.mk 125 #[.pointer (some ⟨b1, 0, none⟩), .pointer (some ⟨b2, 0, none⟩)] (W.n : Int) (W.size : Int) (W.wait : Int), StepD.mk 160 #[.pointer (some ⟨b3, 0, none⟩), .pointer (some ⟨b4, 0, none⟩)] ((W.n : Int) + 1) 0 0].flatMap fun x => x.cells.toList).toArray 135 (0, 0)) := by
      rw [hw4]
      exact heap_alloc_new _ _
    have hb34 : Below w3.heap.size w3 w4 := by rw [hw4]; exact (Below.refl _ _).alloc (Nat.le_refl _) _
    have hz4 : w4.heap.size = w3.heap.size + 1 := by rw [hw4]; simp
    have hb4 : Below w.heap.size w w4 := Hb3.out.trans (hb34.mono Hb3.out.size)
    have hA4 := H.out.all hb4
    have hgl := H.out.lt
    have hsz3 := Hb3.out.size
    have hc1 : w4.cell? ⟨b1, 0, none⟩ = some (.pointer (some ⟨g, 0, none⟩)) := cell_below hb34 (Nat.le_refl _) (cell_below Hb3'.out (Nat.le_refl _) C1.out)
    have hc2 : w4.cell? ⟨b2, 0, none⟩ = some (encStr (nmB W.n)) := cell_below hb34 (Nat.le_refl _) (cell_below Hb3'.out (Nat.le_refl _) C2.out)
    have hc3 : w4.cell? ⟨b3, 0, none⟩ = some (.pointer (some ⟨g, 0, none⟩)) := cell_below hb34 (Nat.le_refl _) C3.out
    have hc4 : w4.cell? ⟨b4, 0, none⟩ = some (encStr (nmB (W.n + 1))) := cell_below hb34 (Nat.le_refl _) C4.out
    have hl1 := World.block_lt_of_cell? _ _ hc1
    have hl2 := World.block_lt_of_cell? _ _ hc2
    have hl3 := World.block_lt_of_cell? _ _ hc3
    have hl4 := World.block_lt_of_cell? _ _ hc4
    have hg4 := hA4.cell.2.2.2.1
    have hk1 := Hk1.out
    have hk2 := Hk2.out
    have hk3 := Hk3.out
    have hk4 := Hk4.out
    have HT := take2_any hA4 w3.heap.size 2 (.inr ⟨hsz3, by omega⟩) (by omega) _ _ (enters_of Tryz.func125 (by kernel_rfl) rfl) (enters_of Tryz.func160 (by kernel_rfl) rfl)
      (syncM (nmB W.n) W.D) (createM (nmB (W.n + 1)) (syncM (nmB W.n) W.D).1) { W with D := (syncM (nmB W.n) W.D).1 } { W with D := (createM (nmB (W.n + 1)) (syncM (nmB W.n) W.D).1).1, n := W.n + 1, size := 0, wait := 0 }
      rfl rfl rfl rfl rfl rfl (by show (W.n : Int) + 1 = ((W.n + 1 : Nat) : Int); omega) rfl rfl rfl hrow
      (fun Z w' hZ ho hk => do_sync ho g W.n b1 b2 (by rw [World.cell?_of_block (hk b1 (.inr ⟨hk1, hl1⟩))]; exact hc1) (by rw [World.cell?_of_block (hk b2 (.inr ⟨hk2, hl2⟩))]; exact hc2) (by rw [World.cell?_of_block (hk g (.inl H.out.inY))]; exact hg4))
      (fun Z w1 w' hZ hq ho hk => do_create ho g (W.n + 1) b3 b4 (by rw [World.cell?_of_block ((hk b3 (.inr ⟨hk3, hl3⟩)).trans (hq.2.1 b3 (.inr ⟨hk3, hl3⟩) (by show b3 ≠ g; omega)))]; exact hc3)
        (by rw [World.cell?_of_block ((hk b4 (.inr ⟨hk4, hl4⟩)).trans (hq.2.1 b4 (.inr ⟨hk4, hl4⟩) (by show b4 ≠ g; omega)))]; exact hc4)
        (by rw [World.cell?_of_block (hk g (.inl H.out.inY))]; exact hq.1.cell.2.2.2.1) (by show (syncM (nmB W.n) W.D).1.fs.length < 1000000; rw [syncM_count]; exact HL.out))
    have HT := Lib.hid (HT.mono (fun e w' hq => (show e = .returned (.int .i64 (rotW W).2) ∧ LogEnd w0 Y w g d (rotW W).1 w' from by
      rw [rotW_eq W Hlt.out]
      exact ⟨hq.1, LogEnd.behind H.out hb4 (fun b hy => Or.inl hy) hq.2⟩)))
    clear hrow hb34 hz4 hb4 hA4 hgl hsz3 hc1 hc2 hc3 hc4 hl1 hl2 hl3 hl4 hg4 hk1 hk2 hk3 hk4 hw4
    refine HT.out.mono ?_
    rintro e w5 ⟨rfl, hq⟩
    have Hq := Lib.hid hq
    clear hq
    go_wp2
    go_ret
    exact ⟨rfl, Hq.out⟩
  · rw [if_neg hlt] at HX
    have er : rotW W = (W, 2) := by unfold rotW; rw [if_pos (by omega)]
    rw [er]
    have HE := Lib.hid (fun w' (hb : Below w.heap.size w w') => H.out.ended hb)
    have Hb1 := Lib.hid hb1
    clear h h1 hr0 hb1 hL hlt er
    go_enter Tryz.func77, Tryz.ntmps77
    go_wp2_with fail
    refine HX.out.mono ?_
    rintro e w' ⟨rfl, rfl⟩
    go_wp2
    go_ret
    exact ⟨rfl, HE.out _ Hb1.out⟩
end
end Go.Proofs.YtmiepigieajpcaaGreat

