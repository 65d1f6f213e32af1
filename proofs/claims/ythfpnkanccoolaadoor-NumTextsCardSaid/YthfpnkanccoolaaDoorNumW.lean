/- The walks of the code's words and word. -/
import Derived.Test.YthfpnkanccoolaaDoorNumK3
import Derived.Test.YthfpnkanccoolaaDoorNumP
import Derived.Maps.OwnOps
import Derived.Maps.StringElems
namespace Go.Proofs.YthfpnkanccoolaaDoor
open Go.RowKit Go.Maps Fl

theorem mapKey : Keyed Tryd.prog 22 := int_keyed Tryd.underlying22

/-- What the map of the words holds. -/
def wordsD : DataW Unit := ((((DataW.map []).put (.int .u64 9221120237041090561) (.lit (.string [110, 97, 110]))).put (.int .u64 9218868437227405312) (.lit (.string [105, 110, 102]))).put (.int .u64 0) (.lit (.string [48])))

def OwnsWords (w : World) (b : Nat) : Prop := w.ownsMap Tryd.prog 22 (plainElem (H := Unit) Tryd.prog 9) b 3 wordsD

set_option maxRecDepth 100000 in
theorem words_any (w : World) :
    Calls Tryd.prog 41 #[] w fun e w' => (∃ b, e = .returned (.map (some b)) ∧ OwnsWords w' b ∧ w.heap.size ≤ b) ∧ Below w.heap.size w w' := by
  have hmm := @run_makeMap Tryd.prog
  have h0 := World.ownsMap_made (H := Unit) w Tryd.prog 22 (plainElem (H := Unit) Tryd.prog 9)
  obtain ⟨w1, r1, h1, g1⟩ := h0.update (key := .int .u64 9221120237041090561) (val := .string ⟨#[110, 97, 110]⟩) mapKey Tryd.underlying50 (by decide) (keyOf_int_mk Tryd.underlying22 (by decide)) (plainElem_string Tryd.underlying9 (by decide))
  obtain ⟨w2, r2, h2, g2⟩ := h1.update (key := .int .u64 9218868437227405312) (val := .string ⟨#[105, 110, 102]⟩) mapKey Tryd.underlying50 (by decide) (keyOf_int_mk Tryd.underlying22 (by decide)) (plainElem_string Tryd.underlying9 (by decide))
  obtain ⟨w3, r3, h3, g3⟩ := h2.update (key := .int .u64 0) (val := .string ⟨#[48]⟩) mapKey Tryd.underlying50 (by decide) (keyOf_int_mk Tryd.underlying22 (by decide)) (plainElem_string Tryd.underlying9 (by decide))
  have Hend := Lib.hid h3
  have b0 : Below w.heap.size w (w.alloc (.map #[] 0)) := (Below.refl _ _).alloc (Nat.le_refl _) _
  have Hb := Lib.hid (((b0.grown g1 b0.size (fun j hj => by cases hj; exact Nat.le_refl _)).grown g2 (b0.grown g1 b0.size (fun j hj => by cases hj; exact Nat.le_refl _)).size (fun j hj => by cases hj; exact Nat.le_refl _)).grown g3 ((b0.grown g1 b0.size (fun j hj => by cases hj; exact Nat.le_refl _)).grown g2 (b0.grown g1 b0.size (fun j hj => by cases hj; exact Nat.le_refl _)).size (fun j hj => by cases hj; exact Nat.le_refl _)).size (fun j hj => by cases hj; exact Nat.le_refl _))
  clear h0 h1 h2 h3 g1 g2 g3 b0
  go_enter Tryd.func41, Tryd.ntmps41
  go_wp2
  go_ret
  exact ⟨⟨w.heap.size, rfl, Hend.out, Nat.le_refl _⟩, Hb.out⟩

set_option maxRecDepth 100000 in
theorem words_at {w : World} {b : Nat} (h : OwnsWords w b) (k : Int) (l : List UInt8) (hk : (Lit.int .u64 k).wf = true) (hl : wordsD.atKey (.int .u64 k) (.lit (.string [])) = .lit (.string l)) :
    (Instr.lookup 50 (.map (some b)) (.int .u64 k) false).run Tryd.prog w = .ok (.string ⟨l.toArray⟩) w := by
  have hz : (zeroValue 9).run Tryd.prog w = .ok (.string ⟨#[]⟩) w := by kernel_rfl
  obtain ⟨v, ps, hrun, hv⟩ := World.ownsMap.lookup (H := Unit) h mapKey Tryd.underlying50 hz (plainElem_string (H := Unit) (s := ⟨#[]⟩) Tryd.underlying9 (by decide)) (key := .int .u64 k) (keyOf_int_mk Tryd.underlying22 hk)
  obtain ⟨s, rfl, hs, _⟩ := plainElem_string_inv Tryd.underlying9 hv
  have h1 : wordsD.atKey (.int .u64 k) (.lit (.string [])) = .lit (.string s.data.toList) := congrArg Prod.fst hs
  have h1 := hl.symm.trans h1
  have h2 : l = s.data.toList := Lit.string.inj (DataW.lit.inj h1)
  rw [hrun, h2]

/-- What word answers. -/
def wordL (x : Nat) : List Nat := if x ∈ special then textL x else []

theorem word_key (w : World) (b : Nat) (h : OwnsWords w b) :
    (Instr.lookup 50 (.map (some b)) (.int .u64 9221120237041090561) false).run Tryd.prog w = .ok (.string ⟨#[110, 97, 110]⟩) w ∧
    (Instr.lookup 50 (.map (some b)) (.int .u64 9218868437227405312) false).run Tryd.prog w = .ok (.string ⟨#[105, 110, 102]⟩) w ∧
    (Instr.lookup 50 (.map (some b)) (.int .u64 0) false).run Tryd.prog w = .ok (.string ⟨#[48]⟩) w :=
  ⟨words_at h _ _ (by decide) rfl, words_at h _ _ (by decide) rfl, words_at h _ _ (by decide) rfl⟩

set_option maxRecDepth 100000 in
set_option maxHeartbeats 800000 in
theorem word_any (x : Nat) (w : World) (hx : x < 18446744073709551616) :
    Calls Tryd.prog 36 #[.int .u64 (x : Int)] w fun e w' => e = .returned (.string (str (wordL x))) ∧ Below w.heap.size w w' := by
  have HW := Lib.hid (words_any w)
  by_cases hs : x ∈ special
  · have Hl := Lib.hid (show wordL x = textL x from if_pos hs)
    rcases textL_special hs with ⟨rfl, ht⟩ | ⟨rfl, ht⟩ | ⟨rfl, ht⟩ | ⟨rfl, ht⟩ | ⟨rfl, ht⟩
    · have Ht := Lib.hid ht
      clear hs ht hx
      rw [show ((Q : Nat) : Int) = 9221120237041090561 from rfl]
      go_enter Tryd.func36, Tryd.ntmps36
      go_wp2_with fail
      refine HW.out.mono ?_
      rintro e w' ⟨⟨b, rfl, hown, _⟩, hbel⟩
      obtain ⟨k1, k2, k3⟩ := word_key w' b hown
      go_wp2
      go_ret
      exact ⟨by rw [Hl.out, Ht.out]; rfl, hbel⟩
    · have Ht := Lib.hid ht
      clear hs ht hx
      rw [show ((I : Nat) : Int) = 9218868437227405312 from rfl]
      go_enter Tryd.func36, Tryd.ntmps36
      go_wp2_with fail
      refine HW.out.mono ?_
      rintro e w' ⟨⟨b, rfl, hown, _⟩, hbel⟩
      obtain ⟨k1, k2, k3⟩ := word_key w' b hown
      go_wp2
      go_ret
      exact ⟨by rw [Hl.out, Ht.out]; rfl, hbel⟩
    · have Ht := Lib.hid ht
      have e1 : bits .andNot .u64 18442240474082181120 9223372036854775808 = 9218868437227405312 := by decide +kernel
      clear hs ht hx
      rw [show ((W + I : Nat) : Int) = 18442240474082181120 from rfl]
      go_enter Tryd.func36, Tryd.ntmps36
      go_wp2_with fail
      refine HW.out.mono ?_
      rintro e w' ⟨⟨b, rfl, hown, _⟩, hbel⟩
      obtain ⟨k1, k2, k3⟩ := word_key w' b hown
      go_wp2
      go_ret
      exact ⟨by rw [Hl.out, Ht.out]; rfl, hbel⟩
    · have Ht := Lib.hid ht
      clear hs ht hx
      rw [show ((0 : Nat) : Int) = 0 from rfl]
      go_enter Tryd.func36, Tryd.ntmps36
      go_wp2_with fail
      refine HW.out.mono ?_
      rintro e w' ⟨⟨b, rfl, hown, _⟩, hbel⟩
      obtain ⟨k1, k2, k3⟩ := word_key w' b hown
      go_wp2
      go_ret
      exact ⟨by rw [Hl.out, Ht.out]; rfl, hbel⟩
    · have Ht := Lib.hid ht
      have e1 : bits .andNot .u64 9223372036854775808 9223372036854775808 = 0 := by decide +kernel
      clear hs ht hx
      rw [show ((W : Nat) : Int) = 9223372036854775808 from rfl]
      go_enter Tryd.func36, Tryd.ntmps36
      go_wp2_with fail
      refine HW.out.mono ?_
      rintro e w' ⟨⟨b, rfl, hown, _⟩, hbel⟩
      obtain ⟨k1, k2, k3⟩ := word_key w' b hown
      go_wp2
      go_ret
      exact ⟨by rw [Hl.out, Ht.out]; rfl, hbel⟩
  · have Hl := Lib.hid (show wordL x = [] from if_neg hs)
    have hn : x ≠ Q ∧ x ≠ I ∧ x ≠ W + I ∧ x ≠ 0 ∧ x ≠ W := by
      unfold special at hs
      simpa using hs
    obtain ⟨n1, n2, n3, n4, n5⟩ := hn
    have d1 : ((x : Int) == 9221120237041090561) = false := beq_eq_false_iff_ne.2 (by unfold Q at n1; omega)
    have d2 : ((x : Int) == 9218868437227405312) = false := beq_eq_false_iff_ne.2 (by unfold I at n2; omega)
    have d3 : ((x : Int) == 18442240474082181120) = false := beq_eq_false_iff_ne.2 (by unfold W I at n3; omega)
    have d4 : ((x : Int) == 0) = false := beq_eq_false_iff_ne.2 (by omega)
    have d5 : ((x : Int) == 9223372036854775808) = false := beq_eq_false_iff_ne.2 (by unfold W at n5; omega)
    clear hs n1 n2 n3 n4 n5
    go_enter Tryd.func36, Tryd.ntmps36
    go_wp2
    go_ret
    exact ⟨by rw [Hl.out]; rfl, Below.refl _ _⟩
end Go.Proofs.YthfpnkanccoolaaDoor
