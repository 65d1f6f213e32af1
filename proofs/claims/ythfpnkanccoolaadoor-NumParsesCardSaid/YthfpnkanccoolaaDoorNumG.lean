/- What the walk of the code's guess wants: prefixes, the map's entries, texts that are words. -/
import Derived.Test.YthfpnkanccoolaaDoorNumU3
namespace Go.Proofs.YthfpnkanccoolaaDoor
open Go.RowKit Go.Maps Fl

theorem cut_yes (c : Nat) (d : List Nat) (w : World) :
    Calls Tryd.prog 49 #[.string (str (c :: d)), .string (str [c])] w fun e w' => e = .returned (.tuple #[.string (str d), .bool true]) ∧ w = w' := by
  have h := Tryd.strings_CutPrefix (str (c :: d)) (str [c]) w
  have h1 : (str (c :: d)).data.toList = UInt8.ofNat c :: d.map UInt8.ofNat := rfl
  have h2 : (str [c]).data.toList = [UInt8.ofNat c] := rfl
  have h3 : Lib.hasPrefix (str (c :: d)).data.toList (str [c]).data.toList = true := by
    rw [h1, h2]
    unfold Lib.hasPrefix
    simp
  have h4 : Lib.trimPrefix (str (c :: d)).data.toList (str [c]).data.toList = d.map UInt8.ofNat := by
    unfold Lib.trimPrefix
    rw [if_pos h3, h1, h2]
    rfl
  rw [h3, h4] at h
  refine h.mono ?_
  rintro e w' ⟨rfl, rfl⟩
  exact ⟨rfl, rfl⟩

theorem cut_no (c : Nat) (l : List Nat) (w : World) (hc : c < 256) (hl : ∀ x ∈ l, x < 256) (hd : ∀ d, l ≠ c :: d) :
    Calls Tryd.prog 49 #[.string (str l), .string (str [c])] w fun e w' => e = .returned (.tuple #[.string (str l), .bool false]) ∧ w = w' := by
  have h := Tryd.strings_CutPrefix (str l) (str [c]) w
  have h1 : (str l).data.toList = l.map UInt8.ofNat := rfl
  have h2 : (str [c]).data.toList = [UInt8.ofNat c] := rfl
  have h3 : Lib.hasPrefix (str l).data.toList (str [c]).data.toList = false := by
    rw [h1, h2]
    unfold Lib.hasPrefix
    cases l with
    | nil => rfl
    | cons a d =>
      have hne : a ≠ c := fun e => hd d (by rw [e])
      have ha : a < 256 := hl a (by simp)
      have hne2 : UInt8.ofNat c ≠ UInt8.ofNat a := by
        intro e
        have e2 := congrArg UInt8.toNat e
        rw [UInt8.toNat_ofNat', UInt8.toNat_ofNat'] at e2
        omega
      rw [List.map_cons, List.isPrefixOf_cons_cons, beq_eq_false_iff_ne.2 hne2, Bool.false_and]
  have h4 : Lib.trimPrefix (str l).data.toList (str [c]).data.toList = l.map UInt8.ofNat := by
    unfold Lib.trimPrefix
    rw [h3]
    rfl
  rw [h3, h4] at h
  refine h.mono ?_
  rintro e w' ⟨rfl, rfl⟩
  exact ⟨rfl, rfl⟩

/-- What word lies at a key. -/
def WordAt (x : Int) (l : List Nat) : Prop := (x = 9221120237041090561 ∧ l = [110, 97, 110]) ∨ (x = 9218868437227405312 ∧ l = [105, 110, 102]) ∨ (x = 0 ∧ l = [48])

theorem words_entry {x : Int} {c : ByteArray} (h : ∀ zd, wordsD.atKey (.int .u64 x) zd = .lit (.string c.data.toList)) : ∃ l, c = str l ∧ WordAt x l := by
  have hs : ∀ l : List Nat, c.data.toList = l.map UInt8.ofNat → c = str l := by
    intro l e
    apply ByteArray.ext
    have h2 : c.data = (l.map UInt8.ofNat).toArray := by rw [← e]
    exact h2
  have h1 := h (.lit (.string [1]))
  have h2 := h (.lit (.string [2]))
  by_cases e1 : x = 9221120237041090561
  · subst e1
    have e : wordsD.atKey (.int .u64 9221120237041090561) (.lit (.string [1])) = .lit (.string [110, 97, 110]) := rfl
    have h3 := Lit.string.inj (DataW.lit.inj (e.symm.trans h1))
    exact ⟨[110, 97, 110], hs _ h3.symm, .inl ⟨rfl, rfl⟩⟩
  by_cases e2 : x = 9218868437227405312
  · subst e2
    have e : wordsD.atKey (.int .u64 9218868437227405312) (.lit (.string [1])) = .lit (.string [105, 110, 102]) := rfl
    have h3 := Lit.string.inj (DataW.lit.inj (e.symm.trans h1))
    exact ⟨[105, 110, 102], hs _ h3.symm, .inr (.inl ⟨rfl, rfl⟩)⟩
  by_cases e3 : x = 0
  · subst e3
    have e : wordsD.atKey (.int .u64 0) (.lit (.string [1])) = .lit (.string [48]) := rfl
    have h3 := Lit.string.inj (DataW.lit.inj (e.symm.trans h1))
    exact ⟨[48], hs _ h3.symm, .inr (.inr ⟨rfl, rfl⟩)⟩
  · exfalso
    have hk : ∀ zd : DataW Unit, wordsD.atKey (.int .u64 x) zd = zd := by
      intro zd
      have e : wordsD = .map [(.int .u64 0, .lit (.string [48])), (.int .u64 9218868437227405312, .lit (.string [105, 110, 102])), (.int .u64 9221120237041090561, .lit (.string [110, 97, 110]))] := rfl
      rw [e]
      have n1 : ¬ (9221120237041090561 = x) := fun h => e1 h.symm
      have n2 : ¬ (9218868437227405312 = x) := fun h => e2 h.symm
      have n3 : ¬ (0 = x) := fun h => e3 h.symm
      simp [DataW.atKey, List.find?, Lit.sameKey, n1, n2, n3]
    rw [hk] at h1 h2
    have h3 := h1.trans h2.symm
    have h4 := Lit.string.inj (DataW.lit.inj h3)
    exact absurd h4 (by decide)

theorem text_word {x : Nat} {l : List Nat} (h : textL x = l) (hd : ∀ d, l ≠ 120 :: d) :
    (x = Q ∧ l = [110, 97, 110]) ∨ (x = I ∧ l = [105, 110, 102]) ∨ (x = W + I ∧ l = [45, 105, 110, 102]) ∨ (x = 0 ∧ l = [48]) ∨ (x = W ∧ l = [45, 48]) := by
  by_cases hs : x ∈ special
  · rcases textL_special hs with ⟨e, t⟩ | ⟨e, t⟩ | ⟨e, t⟩ | ⟨e, t⟩ | ⟨e, t⟩ <;> (rw [t] at h; subst h; simp [e])
  · rw [textL_hex hs] at h
    exact absurd h.symm (hd _)
end Go.Proofs.YthfpnkanccoolaaDoor
