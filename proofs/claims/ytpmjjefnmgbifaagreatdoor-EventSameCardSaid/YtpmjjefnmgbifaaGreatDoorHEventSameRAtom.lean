/- The walk of the reference's atom. -/
import Derived.Test.YtpmjjefnmgbifaaGreatDoorMB14
import Derived.Test.YtpmjjefnmgbifaaGreatDoorHEventSameRUnhex
import Derived.Test.YtpmjjefnmgbifaaGreatDoorHEventSameValO
namespace Go.Proofs.YtpmjjefnmgbifaaGreatDoor
open Go.RowKit Fl

theorem str_extract (l : List Nat) (i j : Nat) : (str l).extract i j = str ((l.take j).drop i) := by
  apply ByteArray.ext
  unfold str
  rw [ByteArray.data_extract]
  apply Array.ext'
  simp [List.map_take, List.map_drop, List.drop_take]

mutual
/-- A value as a world holds it: numbers and bytes in their bounds. -/
def soundV : V → Prop
  | .mk _ n f s l => (-9223372036854775808 ≤ n ∧ n ≤ 9223372036854775807) ∧ f < 18446744073709551616 ∧ (∀ c ∈ s, c < 256) ∧ soundL l
def soundL : List V → Prop
  | [] => True
  | v :: r => soundV v ∧ soundL r
end

mutual
theorem soundV.words : ∀ v : V, soundV v → wordsV v
  | .mk k n f s l, h => by
    rw [soundV] at h
    rw [wordsV]
    exact ⟨h.2.1, soundL.words l h.2.2.2⟩
theorem soundL.words : ∀ l : List V, soundL l → wordsL l
  | [], _ => by rw [wordsL]; trivial
  | v :: r, h => by
    rw [soundL] at h
    rw [wordsL]
    exact ⟨soundV.words v h.1, soundL.words r h.2⟩
end

mutual
theorem VIn.sound {w : World} : ∀ (v : V) (x : Array Value), VIn w v x → soundV v
  | .mk k n f s l, x, h => by
    rw [VIn] at h
    obtain ⟨_, hn, hf, hs, _, a, cap, _, _, _, h9⟩ := h
    rw [soundV]
    refine ⟨hn, hf, hs, ?_⟩
    rcases h9 with rfl | ⟨b, o, _, hv⟩
    · rw [soundL]; trivial
    · exact VsIn.sound l b o hv
theorem VsIn.sound {w : World} : ∀ (l : List V) (b o : Nat), VsIn w l b o → soundL l
  | [], _, _, _ => by rw [soundL]; trivial
  | v :: r, b, o, h => by
    rw [VsIn] at h
    obtain ⟨⟨x, _, _, hv⟩, hr⟩ := h
    rw [soundL]
    exact ⟨VIn.sound v x hv, VsIn.sound r b (o + 5) hr⟩
end

/-- What the text of a value that is no list looks like. -/
theorem plain_text {t : Nat} {u : V} {l : List Nat} (h : rightN t u = true) (hs : soundV u) (hk : u.kind ≠ 4) (e : textV u = l) :
    l = [110, 105, 108] ∨ (∃ n : Int, -9223372036854775808 ≤ n ∧ n ≤ 9223372036854775807 ∧ decL n = l) ∨ (∃ b, b < 18446744073709551616 ∧ l = 35 :: textL (bitsB b)) ∨ ∃ s : List Nat, (∀ c ∈ s, c < 256) ∧ l = 34 :: (hex2 s ++ [34]) := by
  obtain ⟨k, n, f, s, q⟩ := u
  obtain ⟨_, h0, h4, _⟩ := right_parts h
  change k ≠ 4 at hk
  rw [soundV] at hs
  rw [textV] at e
  by_cases h1 : k = 1
  · rw [if_pos h1] at e
    exact .inr (.inl ⟨n, hs.1.1, hs.1.2, e⟩)
  · rw [if_neg h1] at e
    by_cases h2 : k = 2
    · rw [if_pos h2] at e
      exact .inr (.inr (.inl ⟨f, hs.2.1, e.symm⟩))
    · rw [if_neg h2] at e
      by_cases h3 : k = 3
      · rw [if_pos h3] at e
        exact .inr (.inr (.inr ⟨s, hs.2.2.1, e.symm⟩))
      · rw [if_neg h3, if_neg hk] at e
        exact .inl e.symm

/-- What atom answers. -/
def AtomEnd (w : World) (l : List Nat) (e : Ending) (w' : World) : Prop :=
  ∃ (v : V) (x : Array Value) (ok : Bool), e = .returned (.tuple #[.agg x, .bool ok]) ∧ VInP (fun _ => False) w' v x ∧ Below w.heap.size w w' ∧ (ok = true → textV v = l ∧ ∀ t, rightN t v = true) ∧
    (ok = false → ∀ (t : Nat) (u : V), rightN t u = true → soundV u → u.kind ≠ 4 → textV u ≠ l)

/-- A value without a list, in its five words. -/
theorem vin_plain {w : World} {k n : Int} {f : Nat} {s : List Nat} (hk : 0 ≤ k ∧ k ≤ 4) (hn : -9223372036854775808 ≤ n ∧ n ≤ 9223372036854775807) (hf : f < 18446744073709551616) (hs : ∀ c ∈ s, c < 256) (hss : s.length ≤ 9223372036854775807) :
    VInP (fun _ => False) w (.mk k n f s []) #[.int .i64 k, .int .i64 n, .float .f64 f, .string (str s), .slice none 0 0] := by
  rw [VInP]
  exact ⟨by omega, hn, hf, hs, hss, none, 0, rfl, Nat.le_refl _, by omega, .inl rfl⟩

theorem atom_none {l : List Nat} (h0 : l ≠ [110, 105, 108]) (hN : ∀ n : Int, -9223372036854775808 ≤ n → n ≤ 9223372036854775807 → decL n ≠ l) (h35 : ∀ b, b < 18446744073709551616 → l ≠ 35 :: textL (bitsB b))
    (h34 : ∀ s : List Nat, (∀ c ∈ s, c < 256) → l ≠ 34 :: (hex2 s ++ [34])) : ∀ (t : Nat) (u : V), rightN t u = true → soundV u → u.kind ≠ 4 → textV u ≠ l := by
  intro t u h hs hk e
  rcases plain_text h hs hk e with e | ⟨n, h1, h2, e⟩ | ⟨b, hb, e⟩ | ⟨x, hx, e⟩
  · exact h0 e
  · exact hN n h1 h2 e
  · exact h35 b hb e
  · exact h34 x hx e

theorem ends34 {l x : List Nat} (h : l = 34 :: (x ++ [34])) : 2 ≤ l.length ∧ l.getD 0 0 = 34 ∧ l.getD (l.length - 1) 0 = 34 ∧ (l.take (l.length - 1)).drop 1 = x := by
  subst h
  refine ⟨by simp, rfl, ?_, ?_⟩
  · simp
  · simp

theorem mid34 {l : List Nat} (h2 : 2 ≤ l.length) (h0 : l.getD 0 0 = 34) (h1 : l.getD (l.length - 1) 0 = 34) : l = 34 :: ((l.take (l.length - 1)).drop 1 ++ [34]) := by
  cases l with
  | nil => simp at h2
  | cons c r =>
    have e0 : c = 34 := by simpa using h0
    rcases List.eq_nil_or_concat r with e | ⟨q, d, e⟩
    · rw [e] at h2; simp at h2
    · subst e0
      subst e
      have e1 : d = 34 := by simpa using h1
      subst e1
      simp

end Go.Proofs.YtpmjjefnmgbifaaGreatDoor
