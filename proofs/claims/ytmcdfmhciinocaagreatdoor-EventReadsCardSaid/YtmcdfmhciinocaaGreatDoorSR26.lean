import Derived.Test.YtmcdfmhciinocaaGreatDoorSR25
/- The example of the chapter. -/
namespace Go.Proofs.YtmcdfmhciinocaaGreatDoor
open Go.RowKit Go.Shelf Fl

/-- The example's event. -/
def exE : Ev := ⟨5, 5, 0, 0, [], [], zeroV⟩

theorem exE_fields : evFields exE.k = [0] := by decide
theorem exE_ok : okE exE = true := by
  have h : sameV zeroV zeroV = true := sameV_refl _
  unfold okE
  rw [exE_fields]
  simp [exE, rightE, emptyE, h, List.range, List.range.loop]
  decide
theorem exE_form : formE exE = [1, 5, 5] := by
  unfold formE
  rw [exE_fields]
  have h : pieceE exE 0 = form 5 := rfl
  show form 1 ++ form 5 ++ (List.map (pieceE exE) [0]).flatten = _
  rw [List.map_cons, h]
  simp [form_small]
theorem exE_text : textE exE = [102, 105, 114, 101, 100, 32, 53] := by
  unfold textE
  rw [if_pos exE_ok, exE_fields]
  have h : wordE exE 0 = decD 5 := rfl
  have h2 : decD 5 = [53] := by rw [decD_low (by omega)]
  simp [wordsT, h, h2]
  decide
theorem exE_in (w : World) : EvIn w exE (evC 5 5 0 0 [] [] 0 0 0 [] none 0 0) := by
  refine ⟨?_, ?_, ?_, ?_, ?_, ?_, none, 0, rfl, zero_in w⟩
  · show (-9223372036854775808 : Int) ≤ 5 ∧ (5 : Int) ≤ 9223372036854775807; omega
  · show 5 < _; omega
  · show (-9223372036854775808 : Int) ≤ 0 ∧ (0 : Int) ≤ 9223372036854775807; omega
  · show 0 < _; omega
  · exact ⟨fun c h => (by cases h), Nat.zero_le _⟩
  · exact ⟨fun c h => (by cases h), Nat.zero_le _⟩
abbrev exC : Array Value := #[.int .i64 5, .int .u64 5, .int .i64 0, .int .u64 0, .string ⟨#[]⟩, .string ⟨#[]⟩, .int .i64 0, .int .i64 0, .float .f64 0, .string ⟨#[]⟩, .slice none 0 0]
theorem exE_word (i : Nat) : (wordE exE i).length ≤ 1000000 := by
  have h1 : decD 5 = [53] := by rw [decD_low (by omega)]
  have h2 : decD 0 = [48] := by rw [decD_low (by omega)]
  have h3 : decL 0 = [48] := by unfold decL; simp [h2]
  unfold wordE
  repeat' split
  · show (decD 5).length ≤ _; rw [h1]; decide
  · show (decL 0).length ≤ _; rw [h3]; decide
  · show (decD 0).length ≤ _; rw [h2]; decide
  · show (quoteL []).length ≤ _; decide +kernel
  · show (quoteL []).length ≤ _; decide +kernel
  · show (textB zeroV).length ≤ _; decide +kernel

set_option maxRecDepth 100000 in
theorem alive11_any (w : World) (hp : Pow10 w) (ht : Tab16 w) : Calls Tryz.prog 8 #[] w fun e w' => e = .returned (.bool true) ∧ Below w.heap.size w w' := by
  have HB := Lib.hid (fun W => (show Calls Tryz.prog 9 #[.agg exC] W (EBytesEnd W exE) from evbytes_any 20 (by omega) exE _ W (by decide) (by decide +kernel) (by intro u hu; simp [exE, zeroV, preV, preV.preL] at hu; subst hu; simp [V.s]) (exE_in W)))
  have HT := Lib.hid (fun W (hW : Below w.heap.size w W) => (show Calls Tryz.prog 13 #[.agg exC] W fun r w' => r = .returned (.string (str (textE exE))) ∧ Below W.heap.size W w' from evtext_any 20 (by omega) exE _ W (by decide) exE_word (hp.below hW) (tab_below ht hW) (exE_in W)))
  clear hp ht
  rw [exE_text] at HT
  have hsf := fun (W : World) (A : Addr) (f : Nat) (m : Mode) => (run_store Tryz.prog W A (.float .f64 f) m rfl)
  have hal := (Below.refl w.heap.size w).alloc (Nat.le_refl _) (.cells exC 28)
  have Hal := Lib.hid hal
  have HX := Lib.hid (show (w.alloc (.cells exC 28)).heap[w.heap.size]? = some (.cells exC 28 (0, 0)) from heap_alloc_new _ _)
  clear hal
  go_enter Tryz.func8, Tryz.ntmps8
  go_wp2_with fail
  generalize w.alloc (.cells exC 28) = w1 at *
  refine (HB.out w1).mono ?_
  rintro r w2 (⟨h0, _⟩ | ⟨_, u, rfl, hr2, hb2⟩)
  · rw [exE_ok] at h0; cases h0
  rw [exE_form] at hr2
  obtain ⟨p, cp, rfl, hB2⟩ := own_slice hr2 (by decide)
  obtain ⟨b, o, rfl, hc⟩ := hB2.cell (by decide)
  have c0 := hc 0 (by decide)
  have c1 := hc 1 (by decide)
  have c2 := hc 2 (by decide)
  have hX2 := (hb2.block _ (Array.getElem?_eq_some_iff.1 HX.out).1).trans HX.out
  obtain ⟨g0, g1, g2, g3, g4, g5, g6, g7, g8, g9, g10⟩ := box11 hX2
  have Hb2 := Lib.hid (Hal.out.trans (hb2.mono Hal.out.size))
  simp at c0 c1 c2
  clear hr2 hB2 hc hb2 hX2
  go_wp2_with fail
  refine (HT.out w2 Hb2.out).mono ?_
  rintro r w3 ⟨rfl, hb3⟩
  have Hb3 := Lib.hid (Hb2.out.trans (hb3.mono Hb2.out.size))
  have he : ((str [102, 105, 114, 101, 100, 32, 53]).toList == ([102, 105, 114, 101, 100, 32, 53] : List UInt8)) = true := by decide +kernel
  clear hb3
  go_wp2
  go_ret
  exact ⟨rfl, Hb3.out⟩
end Go.Proofs.YtmcdfmhciinocaaGreatDoor

