/- The walk of the code's Parse. -/
import Derived.Test.YthfpnkanccoolaaDoorNumG2
namespace Go.Proofs.YthfpnkanccoolaaDoor
open Go.RowKit Fl

/-- Every string is a list of bytes. -/
theorem str_of (s : ByteArray) : ∃ l, (∀ x ∈ l, x < 256) ∧ s = str l := by
  refine ⟨s.data.toList.map UInt8.toNat, fun x hx => ?_, ?_⟩
  · obtain ⟨u, _, rfl⟩ := List.mem_map.1 hx
    exact u.toNat_lt
  · apply ByteArray.ext
    unfold str
    rw [List.map_map]
    have e : (UInt8.ofNat ∘ UInt8.toNat) = id := by funext u; simp
    rw [e, List.map_id]

theorem bitsB_ofB {g : Nat} (h : bitsB g = g) : ofB g = some g := by rw [ofB_bits, if_pos h]

set_option maxRecDepth 100000 in
set_option maxHeartbeats 800000 in
theorem parse_any (l : List Nat) (w : World) (hl : ∀ x ∈ l, x < 256) (hn : l.length ≤ 1000000) (he : Errs w) (ht : Tab16 w) :
    Calls Tryd.prog 22 #[.string (str l)] w (ParseEnd w l) := by
  have HG := Lib.hid (guess_any l w hl hn he)
  have Hl := Lib.hid hl
  have Ht := Lib.hid ht
  clear hl hn he ht
  generalize hs : str l = s at *
  have Hs := Lib.hid hs
  clear hs
  go_enter Tryd.func22, Tryd.ntmps22
  go_wp2_with fail
  refine HG.out.mono ?_
  rintro e w1 ⟨hb1, g, hg, rfl, hx⟩
  have HO := Lib.hid (of_any g w1 hg)
  have Hg := Lib.hid hg
  have Hx := Lib.hid hx
  clear hg hx
  by_cases h : bitsB g = g
  · have HT := Lib.hid (text_any g w1 Hg.out (by
      have h := Ht.out
      unfold Tab16 at h ⊢
      rw [hb1.cell (World.block_lt_of_cell? _ _ h)]
      exact h))
    rw [bitsB_ofB h] at HO
    by_cases htx : textL (bitsB g) = l
    · have hq : ((str (textL (bitsB g))).toList == s.toList) = true := by rw [htx, Hs.out]; exact beq_self_eq_true _
      have Htx := Lib.hid htx
      clear h htx
      generalize hS : str (textL (bitsB g)) = S at *
      clear hS
      go_wp2_with fail
      refine HO.out.mono ?_
      rintro e w' ⟨rfl, rfl⟩
      go_wp2_with fail
      refine HT.out.mono ?_
      rintro e w2 ⟨rfl, hb2⟩
      go_wp2
      go_ret2
      exact ⟨hb1.trans (hb2.mono hb1.size), .inl ⟨g, Hg.out, Htx.out, rfl⟩⟩
    · have hq : ((str (textL (bitsB g))).toList == s.toList) = false := by rw [← Hs.out]; exact str_ne (textL_byte _) Hl.out htx
      have Hno := Lib.hid (show ∀ b, b < 18446744073709551616 → textL (bitsB b) ≠ l from by
        intro b hb e
        have e2 := Hx.out (bitsB b) (bitsB_lt hb) e
        rw [← e2, ← h] at e
        exact htx e)
      clear h htx
      generalize hS : str (textL (bitsB g)) = S at *
      clear hS
      go_wp2_with fail
      refine HO.out.mono ?_
      rintro e w' ⟨rfl, rfl⟩
      go_wp2_with fail
      refine HT.out.mono ?_
      rintro e w2 ⟨rfl, hb2⟩
      go_wp2
      go_ret2
      exact ⟨hb1.trans (hb2.mono hb1.size), .inr ⟨Hno.out, rfl⟩⟩
  · have hO : ofB g = none := by rw [ofB_bits, if_neg h]
    rw [hO] at HO
    have Hno := Lib.hid (show ∀ b, b < 18446744073709551616 → textL (bitsB b) ≠ l from by
      intro b hb e
      have e2 := Hx.out (bitsB b) (bitsB_lt hb) e
      rw [e2, bitsB_idem] at h
      exact h rfl)
    clear h hO
    go_wp2_with fail
    refine HO.out.mono ?_
    rintro e w' ⟨rfl, rfl⟩
    go_wp2
    go_ret2
    exact ⟨hb1, .inr ⟨Hno.out, rfl⟩⟩
end Go.Proofs.YthfpnkanccoolaaDoor
