/- The walks of the reference's has and List of segments. -/
import Derived.Test.YtdflfimclgapnaaSgList
import Derived.Test.YtdflfimclgapnaaSgRNum
import Derived.Test.YtdflfimclgapnaaSgSlice
import Derived.Deep.RegionHeld
import Derived.Deep.AppendLies
import Derived.Deep.RegionHeldLaw
namespace Go.Proofs.Ytdflfimclgapnaa
open Go.RowKit

set_option maxRecDepth 100000 in
theorem seghas_any (a : Option Addr) (n cap : Nat) (l : List Int) (x : Int) (w : World) (hI : Ints w a n cap l) :
    Calls Try.prog 21 #[.slice a n cap, .int .i64 x] w fun e w' => e = .returned (.bool (decide (x ∈ l))) ∧ w = w' := by
  have HI := Lib.hid hI
  have hnm : n ≤ 9223372036854775807 := Nat.le_trans hI.le hI.capmax
  clear hI
  go_enter Try.func21, Try.ntmps21
  go_wp2
  go_loop [5] (fun i => ∃ k : Nat, k ≤ n ∧ i = .int .i64 (k : Int) ∧ x ∉ l.take k) (fun i => n - (intOf i).toNat)
  case atStart => exact ⟨0, Nat.zero_le _, rfl, by simp⟩
  case round =>
    obtain ⟨k, hk, rfl, hno⟩ := hrel
    have Hno := Lib.hid hno
    clear hno
    by_cases hlt : k < n
    · obtain ⟨b, o, rfl, hc0⟩ := HI.out.cell (by omega)
      have hc := hc0 k hlt
      have Htk := Lib.hid (show l.take (k + 1) = l.take k ++ [l.getD k 0] by
        rw [List.take_succ_eq_append_getElem (by rw [HI.out.len]; exact hlt), List.getD_eq_getElem?_getD, List.getElem?_eq_getElem (by rw [HI.out.len]; exact hlt)]; rfl)
      have Hin := Lib.hid (show l.getD k 0 ∈ l by
        rw [List.getD_eq_getElem?_getD, List.getElem?_eq_getElem (by rw [HI.out.len]; exact hlt)]
        exact List.getElem_mem _)
      have Hlt := Lib.hid hlt
      clear hc0
      generalize l.getD k 0 = y at *
      by_cases hy : y = x
      · have Hf := Lib.hid (show decide (x ∈ l) = true from decide_eq_true (by rw [← hy]; exact Hin.out))
        have hq : (y == x) = true := by rw [hy]; exact beq_self_eq_true _
        clear hy
        go_wp2
        go_ret
        exact ⟨ret_bool Hf.out.symm, rfl⟩
      · have hq : (y == x) = false := beq_eq_false_iff_ne.2 hy
        have Hy := Lib.hid hy
        clear hy
        go_wp2
        go_round
        case rel => exact ⟨k + 1, Hlt.out, by go_num, fun h => by
          rw [Htk.out, List.mem_append, List.mem_singleton] at h
          rcases h with h | h
          · exact Hno.out h
          · exact Hy.out h.symm⟩
        case measure => simp [intOf]; have := Hlt.out; omega
    · obtain rfl : k = n := by omega
      have Hf := Lib.hid (show decide (x ∈ l) = false from decide_eq_false (fun h => Hno.out (by rw [List.take_of_length_le (by rw [HI.out.len]; omega)]; exact h)))
      clear hlt
      go_wp2
      go_ret
      exact ⟨ret_bool Hf.out.symm, rfl⟩

def RlRel (w : World) (n : Nat) (ls : List (List Nat)) (v i : Value) (wr : World) : Prop :=
  ∃ (k : Nat) (out : List Int), k ≤ n ∧ i = .int .i64 (k : Int) ∧ out.length ≤ k ∧ Asc out ∧ (∀ x, x ∈ out ↔ NumsOf (ls.take k) x) ∧ wr.ownsRow w.heap.size 3 1 v out.length (intsE out) ∧ Below w.heap.size w wr

set_option maxRecDepth 100000 in
set_option maxHeartbeats 3200000 in
theorem rseglist_any (a : Option Addr) (n cap : Nat) (ls : List (List Nat)) (w : World) (hS : Strs w a n cap ls) (hn : n ≤ 60) :
    Calls Try.prog 14 #[.slice a n cap] w (ListEnd w ls) := by
  have HS := Lib.hid hS
  clear hS
  go_enter Try.func14, Try.ntmps14
  go_wp2
  go_loopw [3, 4] (fun v i wr => RlRel w n ls v i wr) (fun _ i _ => n - (intOf i).toNat)
  case atStart => exact ⟨0, [], Nat.zero_le _, rfl, Nat.le_refl _, List.Pairwise.nil, fun x => ⟨fun h => (by cases h), fun ⟨l, hl, _⟩ => (by rw [List.take_zero] at hl; cases hl)⟩, World.ownsRow_nil _ _ _ _, Below.refl _ _⟩
  case round =>
    obtain ⟨k, out, hk, rfl, hol, hasc, hmem, hown, hbel⟩ := hrel
    have Hmem := Lib.hid hmem
    have Hol := Lib.hid hol
    have Hasc := Lib.hid hasc
    have Hown := Lib.hid hown
    have Hbel := Lib.hid hbel
    clear hmem hol hown hbel hasc
    by_cases hlt : k < n
    · obtain ⟨b, o, rfl, hc0⟩ := (HS.out.grow Hbel.out).cell (by omega)
      have hc := hc0 k hlt
      have Hnx := Lib.hid (fun x => numsOf_next (ls := ls) (k := k) (by rw [HS.out.len]; exact hlt) (x := x))
      obtain ⟨hby, hlen⟩ : (∀ x ∈ ls.getD k [], x < 256) ∧ (ls.getD k []).length ≤ 9223372036854775807 := by
        rw [List.getD_eq_getElem?_getD, List.getElem?_eq_getElem (by rw [HS.out.len]; exact hlt)]
        exact HS.out.byte _ (List.getElem_mem _)
      have HC := Lib.hid (rsegnum_any (ls.getD k []) wr hby)
      unfold NumEnd at HC
      clear hc0 hby hlen
      generalize ls.getD k [] = l at *
      have Hlt := Lib.hid hlt
      generalize str l = s at *
      obtain ⟨p, cp, rfl, hI⟩ := own_ints Hown.out
      by_cases h0 : 0 < segNum l
      · have H0 := Lib.hid h0
        rw [decide_eq_true h0] at HC
        generalize segNum l = m at *
        clear h0
        have HH := Lib.hid (seghas_any p out.length cp out (m : Int) wr hI)
        by_cases hin : (m : Int) ∈ out
        · have Hin := Lib.hid hin
          rw [decide_eq_true hin] at HH
          clear hin hI
          go_wp2_with fail
          refine HC.out.mono ?_
          rintro e w1 ⟨rfl, rfl⟩
          go_wp2_with fail
          refine HH.out.mono ?_
          rintro e w1 ⟨rfl, rfl⟩
          go_wp2
          go_roundw
          case rel =>
            refine ⟨k + 1, out, Hlt.out, by go_num, by have := Hol.out; omega, Hasc.out, fun x => ?_, Hown.out, Hbel.out⟩
            rw [Hnx.out x, ← Hmem.out x]
            constructor
            · exact .inl
            · rintro (h | ⟨_, h⟩)
              · exact h
              · rw [h]; exact Hin.out
          case measure => simp [intOf]; have := Hlt.out; omega
        · have Hin := Lib.hid hin
          rw [decide_eq_false hin] at HH
          have HI := Lib.hid hI
          clear hin hI
          go_wp2_with fail
          refine HC.out.mono ?_
          rintro e w1 ⟨rfl, rfl⟩
          go_wp2_with fail
          refine HH.out.mono ?_
          rintro e w1 ⟨rfl, rfl⟩
          go_wp2
          go_loop [7] (fun i => ∃ j : Nat, j ≤ out.length ∧ i = .int .i64 (j : Int) ∧ ∀ q, q < j → out.getD q 0 < (m : Int)) (fun i => out.length - (intOf i).toNat)
          case atStart => exact ⟨0, Nat.zero_le _, rfl, fun q h => absurd h (Nat.not_lt_zero _)⟩
          case round =>
            obtain ⟨j, hj, rfl, hlo⟩ := hrel
            have Hlo := Lib.hid hlo
            clear hlo
            have hol2 : out.length ≤ 60 := by have := Hol.out; have := Hlt.out; omega
            by_cases hcont : j < out.length ∧ out.getD j 0 < (m : Int)
            · obtain ⟨hjl, hym⟩ := hcont
              obtain ⟨b2, o2, rfl, hc2⟩ := HI.out.cell (by omega)
              have hcj := hc2 j hjl
              clear hc2
              generalize hy : out.getD j 0 = y at *
              have Hy := Lib.hid hy
              clear hy
              have Hym := Lib.hid hym
              have Hjl := Lib.hid hjl
              go_wp2
              go_round
              case rel => exact ⟨j + 1, Hjl.out, by go_num, fun q hq => by
                by_cases e : q = j
                · subst e; rw [Hy.out]; exact Hym.out
                · exact Hlo.out q (by omega)⟩
              case measure => simp [intOf]; have := Hjl.out; omega
            · have Hhi := Lib.hid (show j < out.length → ¬ out.getD j 0 < (m : Int) from fun h1 h2 => hcont ⟨h1, h2⟩)
              clear hcont
              have hcple := HI.out.le
              obtain ⟨pt, hsl1, ht⟩ := ints_to (P := Try.prog) Try.underlying30 info_int (a := p) (n := out.length) (c := cp) (k := j) hj hcple (own_formed_i Hown.out)
              obtain ⟨pd, hsl2, hd⟩ := ints_from (P := Try.prog) Try.underlying30 info_int (a := p) (n := out.length) (c := cp) (k := j) hj hcple (own_formed_i Hown.out)
              have HT := Lib.hid (fun W (hb : Below wr.heap.size wr W) => ht W out (HI.out.grow hb))
              have HD := Lib.hid (fun W (hb : Below wr.heap.size wr W) => hd W out (HI.out.grow hb))
              have Hj := Lib.hid hj
              have HL3 := Lib.hid (show (out.take j ++ (m : Int) :: out.drop j).length = 0 + j + 1 + (out.length - j) by rw [List.length_append, List.length_cons, List.length_take, List.length_drop]; omega)
              have Hle3 := Lib.hid (show (out.take j ++ (m : Int) :: out.drop j).length ≤ k + 1 by rw [List.length_append, List.length_cons, List.length_take, List.length_drop]; have := Hol.out; omega)
              clear ht hd
              by_cases hjl : j < out.length
              case' pos =>
                obtain ⟨b2, o2, rfl, hc2⟩ := HI.out.cell (by omega)
                have hcj := hc2 j hjl
                have hym := Hhi.out hjl
                generalize out.getD j 0 = y at hcj hym
                clear hc2
              case' neg =>
                have hnl : ¬ ((j : Int) < (out.length : Int)) := by omega
              all_goals go_wp2
              all_goals go_region_law
                (first
                  | (refine step_append_ints rfl (.tmp 50) (.tmp 53) rfl wr.heap.size v2 (0 + j + 1) (([] ++ out.take j) ++ [(m : Int)]) (by first | (simp [Act.eval]; done) | fail) (own_below Own2.out (by repeat' (first | exact Below.refl _ _ | refine Below.drew ?_ | refine Below.alloc ?_ (by first | exact Nat.le_refl _ | (simp; done) | (simp; omega) | (simp [heap_dr]; done) | (simp [heap_dr]; omega) | fail) _))) pd (out.length - j) (cp - j) (out.drop j) (by first | (simp [Act.eval]; done) | fail) (HD.out _ (Hb2.out.trans (Below.mono (B := w2.heap.size) (by repeat' (first | exact Below.refl _ _ | refine Below.drew ?_ | refine Below.alloc ?_ (by first | exact Nat.le_refl _ | (simp; done) | (simp; omega) | (simp [heap_dr]; done) | (simp [heap_dr]; omega) | fail) _)) Hb2.out.size))) (by omega) (Nat.le_trans Hb2.out.size (by first | exact Nat.le_refl _ | (simp; done) | (simp; omega) | (simp [heap_dr]; done) | (simp [heap_dr]; omega) | fail)) ?_
                     intro v3 w3 own3 gr3
                     have hb3 : Below wr.heap.size wr w3 := Below.grown (Hb2.out.trans (Below.mono (B := w2.heap.size) (by repeat' (first | exact Below.refl _ _ | refine Below.drew ?_ | refine Below.alloc ?_ (by first | exact Nat.le_refl _ | (simp; done) | (simp; omega) | (simp [heap_dr]; done) | (simp [heap_dr]; omega) | fail) _)) Hb2.out.size)) gr3 (Nat.le_trans Hb2.out.size (by first | exact Nat.le_refl _ | (simp; done) | (simp; omega) | (simp [heap_dr]; done) | (simp [heap_dr]; omega) | fail)) O2lt.out
                     have Own3 := Lib.hid own3
                     have Hb3 := Lib.hid hb3
                     clear own3 gr3 hb3)
                  | (refine step_append_ints rfl (.tmp 47) (.tmp 49) rfl wr.heap.size v1 (0 + j) ([] ++ out.take j) (by first | (simp [Act.eval]; done) | fail) (own_below Own1.out (by repeat' (first | exact Below.refl _ _ | refine Below.drew ?_ | refine Below.alloc ?_ (by first | exact Nat.le_refl _ | (simp; done) | (simp; omega) | (simp [heap_dr]; done) | (simp [heap_dr]; omega) | fail) _))) (some ⟨wr.heap.size, 0, none⟩) 1 1 [(m : Int)] (by first | (simp [Act.eval]; done) | fail) (HR1.out.grow (by repeat' (first | exact Below.refl _ _ | refine Below.drew ?_ | refine Below.alloc ?_ (by first | exact Nat.le_refl _ | (simp; done) | (simp; omega) | (simp [heap_dr]; done) | (simp [heap_dr]; omega) | fail) _))) (by omega) (Nat.le_trans Hb1.out.size (by first | exact Nat.le_refl _ | (simp; done) | (simp; omega) | (simp [heap_dr]; done) | (simp [heap_dr]; omega) | fail)) ?_
                     intro v2 w2 own2 gr2
                     have hb2 : Below wr.heap.size wr w2 := Below.grown (Hb1.out.trans (Below.mono (B := w1.heap.size) (by repeat' (first | exact Below.refl _ _ | refine Below.drew ?_ | refine Below.alloc ?_ (by first | exact Nat.le_refl _ | (simp; done) | (simp; omega) | (simp [heap_dr]; done) | (simp [heap_dr]; omega) | fail) _)) Hb1.out.size)) gr2 (Nat.le_trans Hb1.out.size (by first | exact Nat.le_refl _ | (simp; done) | (simp; omega) | (simp [heap_dr]; done) | (simp [heap_dr]; omega) | fail)) O1lt.out
                     have o2lt := fun k hk => (own2.lt k hk).1
                     have Own2 := Lib.hid own2
                     have Hb2 := Lib.hid hb2
                     have O2lt := Lib.hid o2lt
                     clear own2 gr2 hb2 o2lt)
                  | (refine step_append_ints rfl (.tmp 47) (.tmp 49) rfl wr.heap.size v1 (0 + j) ([] ++ out.take j) (by first | (simp [Act.eval]; done) | fail) (own_below Own1.out (by repeat' (first | exact Below.refl _ _ | refine Below.drew ?_ | refine Below.alloc ?_ (by first | exact Nat.le_refl _ | (simp; done) | (simp; omega) | (simp [heap_dr]; done) | (simp [heap_dr]; omega) | fail) _))) (some ⟨wr.heap.size + 1, 0, none⟩) 1 1 [(m : Int)] (by first | (simp [Act.eval]; done) | fail) (HR1.out.grow (by repeat' (first | exact Below.refl _ _ | refine Below.drew ?_ | refine Below.alloc ?_ (by first | exact Nat.le_refl _ | (simp; done) | (simp; omega) | (simp [heap_dr]; done) | (simp [heap_dr]; omega) | fail) _))) (by omega) (Nat.le_trans Hb1.out.size (by first | exact Nat.le_refl _ | (simp; done) | (simp; omega) | (simp [heap_dr]; done) | (simp [heap_dr]; omega) | fail)) ?_
                     intro v2 w2 own2 gr2
                     have hb2 : Below wr.heap.size wr w2 := Below.grown (Hb1.out.trans (Below.mono (B := w1.heap.size) (by repeat' (first | exact Below.refl _ _ | refine Below.drew ?_ | refine Below.alloc ?_ (by first | exact Nat.le_refl _ | (simp; done) | (simp; omega) | (simp [heap_dr]; done) | (simp [heap_dr]; omega) | fail) _)) Hb1.out.size)) gr2 (Nat.le_trans Hb1.out.size (by first | exact Nat.le_refl _ | (simp; done) | (simp; omega) | (simp [heap_dr]; done) | (simp [heap_dr]; omega) | fail)) O1lt.out
                     have o2lt := fun k hk => (own2.lt k hk).1
                     have Own2 := Lib.hid own2
                     have Hb2 := Lib.hid hb2
                     have O2lt := Lib.hid o2lt
                     clear own2 gr2 hb2 o2lt)
                  | (refine step_append_ints rfl (.tmp 47) (.tmp 49) rfl wr.heap.size v1 (0 + j) ([] ++ out.take j) (by first | (simp [Act.eval]; done) | fail) (own_below Own1.out (by repeat' (first | exact Below.refl _ _ | refine Below.drew ?_ | refine Below.alloc ?_ (by first | exact Nat.le_refl _ | (simp; done) | (simp; omega) | (simp [heap_dr]; done) | (simp [heap_dr]; omega) | fail) _))) (some ⟨w1.heap.size, 0, none⟩) 1 1 [(m : Int)] (by first | (simp [Act.eval]; done) | fail) (row_ints (e := 3) (by first | (simp only [heap_at]; simp; done) | (simp only [heap_at, World.size_alloc]; simp; done) | (simp only [heap_at, heap_dr]; simp; done) | (simp only [heap_at, heap_dr, World.size_alloc]; simp; done) | fail)) (by omega) (Nat.le_trans Hb1.out.size (by first | exact Nat.le_refl _ | (simp; done) | (simp; omega) | (simp [heap_dr]; done) | (simp [heap_dr]; omega) | fail)) ?_
                     intro v2 w2 own2 gr2
                     have hb2 : Below wr.heap.size wr w2 := Below.grown (Hb1.out.trans (Below.mono (B := w1.heap.size) (by repeat' (first | exact Below.refl _ _ | refine Below.drew ?_ | refine Below.alloc ?_ (by first | exact Nat.le_refl _ | (simp; done) | (simp; omega) | (simp [heap_dr]; done) | (simp [heap_dr]; omega) | fail) _)) Hb1.out.size)) gr2 (Nat.le_trans Hb1.out.size (by first | exact Nat.le_refl _ | (simp; done) | (simp; omega) | (simp [heap_dr]; done) | (simp [heap_dr]; omega) | fail)) O1lt.out
                     have o2lt := fun k hk => (own2.lt k hk).1
                     have Own2 := Lib.hid own2
                     have Hb2 := Lib.hid hb2
                     have O2lt := Lib.hid o2lt
                     clear own2 gr2 hb2 o2lt)
                  | (refine step_append_ints rfl (.tmp 43) (.tmp 46) rfl wr.heap.size (.slice (some ⟨wr.heap.size + 1, 0, none⟩) 0 0) 0 [] (by first | (simp [Act.eval]; done) | fail) (own_emp (by first | (simp only [heap_at]; simp; done) | (simp only [heap_at, World.size_alloc]; simp; done) | (simp only [heap_at, heap_dr]; simp; done) | (simp only [heap_at, heap_dr, World.size_alloc]; simp; done) | fail) (by omega)) pt j cp (out.take j) (by first | (simp [Act.eval]; done) | fail) (HT.out _ (by repeat' (first | exact Below.refl _ _ | refine Below.drew ?_ | refine Below.alloc ?_ (by first | exact Nat.le_refl _ | (simp; done) | (simp; omega) | (simp [heap_dr]; done) | (simp [heap_dr]; omega) | fail) _))) (by omega) (by first | exact Nat.le_refl _ | (simp; done) | (simp; omega) | (simp [heap_dr]; done) | (simp [heap_dr]; omega) | fail) ?_
                     intro v1 w1 own1 gr1
                     have hb1 : Below wr.heap.size wr w1 := Below.grown (by repeat' (first | exact Below.refl _ _ | refine Below.drew ?_ | refine Below.alloc ?_ (by first | exact Nat.le_refl _ | (simp; done) | (simp; omega) | (simp [heap_dr]; done) | (simp [heap_dr]; omega) | fail) _)) gr1 (by first | exact Nat.le_refl _ | (simp; done) | (simp; omega) | (simp [heap_dr]; done) | (simp [heap_dr]; omega) | fail) (fun k hk => by simp [Value.ownBlock] at hk; omega)
                     have o1lt := fun k hk => (own1.lt k hk).1
                     have HR1 := Lib.hid (show Ints w1 (some ⟨wr.heap.size, 0, none⟩) 1 1 [(m : Int)] from row_ints (e := 3) ((gr1.block (wr.heap.size) (by first | exact Nat.le_refl _ | (simp; done) | (simp; omega) | (simp [heap_dr]; done) | (simp [heap_dr]; omega) | fail) (by first | (simp [Value.ownBlock]; done) | fail)).trans (by first | (simp only [heap_at]; simp; done) | (simp only [heap_at, World.size_alloc]; simp; done) | (simp only [heap_at, heap_dr]; simp; done) | (simp only [heap_at, heap_dr, World.size_alloc]; simp; done) | fail)))
                     have Own1 := Lib.hid own1
                     have Hb1 := Lib.hid hb1
                     have O1lt := Lib.hid o1lt
                     clear own1 gr1 hb1 o1lt)
                  | (refine step_append_ints rfl (.tmp 43) (.tmp 46) rfl wr.heap.size (.slice (some ⟨wr.heap.size, 0, none⟩) 0 0) 0 [] (by first | (simp [Act.eval]; done) | fail) (own_emp (by first | (simp only [heap_at]; simp; done) | (simp only [heap_at, World.size_alloc]; simp; done) | (simp only [heap_at, heap_dr]; simp; done) | (simp only [heap_at, heap_dr, World.size_alloc]; simp; done) | fail) (by omega)) pt j cp (out.take j) (by first | (simp [Act.eval]; done) | fail) (HT.out _ (by repeat' (first | exact Below.refl _ _ | refine Below.drew ?_ | refine Below.alloc ?_ (by first | exact Nat.le_refl _ | (simp; done) | (simp; omega) | (simp [heap_dr]; done) | (simp [heap_dr]; omega) | fail) _))) (by omega) (by first | exact Nat.le_refl _ | (simp; done) | (simp; omega) | (simp [heap_dr]; done) | (simp [heap_dr]; omega) | fail) ?_
                     intro v1 w1 own1 gr1
                     have hb1 : Below wr.heap.size wr w1 := Below.grown (by repeat' (first | exact Below.refl _ _ | refine Below.drew ?_ | refine Below.alloc ?_ (by first | exact Nat.le_refl _ | (simp; done) | (simp; omega) | (simp [heap_dr]; done) | (simp [heap_dr]; omega) | fail) _)) gr1 (by first | exact Nat.le_refl _ | (simp; done) | (simp; omega) | (simp [heap_dr]; done) | (simp [heap_dr]; omega) | fail) (fun k hk => by simp [Value.ownBlock] at hk; omega)
                     have o1lt := fun k hk => (own1.lt k hk).1
                     have HR1 := Lib.hid (show Ints w1 (some ⟨wr.heap.size + 1, 0, none⟩) 1 1 [(m : Int)] from row_ints (e := 3) ((gr1.block (wr.heap.size + 1) (by first | exact Nat.le_refl _ | (simp; done) | (simp; omega) | (simp [heap_dr]; done) | (simp [heap_dr]; omega) | fail) (by first | (simp [Value.ownBlock]; done) | fail)).trans (by first | (simp only [heap_at]; simp; done) | (simp only [heap_at, World.size_alloc]; simp; done) | (simp only [heap_at, heap_dr]; simp; done) | (simp only [heap_at, heap_dr, World.size_alloc]; simp; done) | fail)))
                     have Own1 := Lib.hid own1
                     have Hb1 := Lib.hid hb1
                     have O1lt := Lib.hid o1lt
                     clear own1 gr1 hb1 o1lt)
                  | (refine step_append_ints rfl (.tmp 43) (.tmp 46) rfl wr.heap.size (.slice (some ⟨wr.heap.size, 0, none⟩) 0 0) 0 [] (by first | (simp [Act.eval]; done) | fail) (own_emp (by first | (simp only [heap_at]; simp; done) | (simp only [heap_at, World.size_alloc]; simp; done) | (simp only [heap_at, heap_dr]; simp; done) | (simp only [heap_at, heap_dr, World.size_alloc]; simp; done) | fail) (by omega)) pt j cp (out.take j) (by first | (simp [Act.eval]; done) | fail) (HT.out _ (by repeat' (first | exact Below.refl _ _ | refine Below.drew ?_ | refine Below.alloc ?_ (by first | exact Nat.le_refl _ | (simp; done) | (simp; omega) | (simp [heap_dr]; done) | (simp [heap_dr]; omega) | fail) _))) (by omega) (by first | exact Nat.le_refl _ | (simp; done) | (simp; omega) | (simp [heap_dr]; done) | (simp [heap_dr]; omega) | fail) ?_
                     intro v1 w1 own1 gr1
                     have hb1 : Below wr.heap.size wr w1 := Below.grown (by repeat' (first | exact Below.refl _ _ | refine Below.drew ?_ | refine Below.alloc ?_ (by first | exact Nat.le_refl _ | (simp; done) | (simp; omega) | (simp [heap_dr]; done) | (simp [heap_dr]; omega) | fail) _)) gr1 (by first | exact Nat.le_refl _ | (simp; done) | (simp; omega) | (simp [heap_dr]; done) | (simp [heap_dr]; omega) | fail) (fun k hk => by simp [Value.ownBlock] at hk; omega)
                     have o1lt := fun k hk => (own1.lt k hk).1
                     have Own1 := Lib.hid own1
                     have Hb1 := Lib.hid hb1
                     have O1lt := Lib.hid o1lt
                     clear own1 gr1 hb1 o1lt)
                )
              all_goals go_wp2
              all_goals go_roundw
              all_goals try (case measure => simp [intOf]; have := Hlt.out; omega)
              all_goals refine ⟨k + 1, out.take j ++ (m : Int) :: out.drop j, Hlt.out, by go_num, Hle3.out, asc_insert Hasc.out Hj.out Hlo.out (fun h => by have := Hhi.out h; omega) Hin.out, fun x => ?_, ?_, Hbel.out.trans (Hb3.out.mono Hbel.out.size)⟩
              all_goals first
                | (rw [Hnx.out x, mem_insert, ← Hmem.out x]
                   constructor
                   · rintro (h | h)
                     · exact .inr ⟨H0.out, h⟩
                     · exact .inl h
                   · rintro (h | ⟨_, h⟩)
                     · exact .inr h
                     · exact .inl h)
                | (rw [HL3.out]
                   have h3 := Own3.out
                   rw [List.nil_append, List.append_assoc, List.singleton_append] at h3
                   exact own_base h3 Hbel.out.size)
      · have H0 := Lib.hid h0
        rw [decide_eq_false h0] at HC
        generalize segNum l = m at *
        clear h0 hI
        go_wp2_with fail
        refine HC.out.mono ?_
        rintro e w1 ⟨rfl, rfl⟩
        go_wp2
        go_roundw
        case rel =>
          refine ⟨k + 1, out, Hlt.out, by go_num, by have := Hol.out; omega, Hasc.out, fun x => ?_, Hown.out, Hbel.out⟩
          rw [Hnx.out x, Hmem.out x]
          constructor
          · exact .inl
          · rintro (h | ⟨h, _⟩)
            · exact h
            · exact absurd h H0.out
        case measure => simp [intOf]; have := Hlt.out; omega
    · obtain rfl : k = n := by omega
      have Hfull := Lib.hid (show ls.take k = ls from List.take_of_length_le (by rw [HS.out.len]; omega))
      clear hlt
      go_wp2
      go_ret
      exact ⟨_, out, rfl, Hasc.out, fun x => by rw [Hmem.out x, Hfull.out], by have := Hol.out; rw [HS.out.len]; exact this, Hown.out, Hbel.out⟩
end Go.Proofs.Ytdflfimclgapnaa
