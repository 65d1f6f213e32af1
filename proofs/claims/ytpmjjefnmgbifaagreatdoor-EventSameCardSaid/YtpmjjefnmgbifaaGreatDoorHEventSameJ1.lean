import Derived.Test.YtpmjjefnmgbifaaGreatDoorMB19
import Derived.Test.YtpmjjefnmgbifaaGreatDoorMB35
import Derived.Test.YtpmjjefnmgbifaaGreatDoorHEventSameRAtom
import Derived.Test.YtpmjjefnmgbifaaGreatDoorMB27
import Derived.Test.YtpmjjefnmgbifaaGreatDoorHEventSameValClo
/- How long the texts of a list are. -/
namespace Go.Proofs.YtpmjjefnmgbifaaGreatDoor
open Go.RowKit Fl

def tsum : List V → Nat
  | [] => 0
  | v :: r => (textV v).length + 1 + tsum r

theorem tsum_append : ∀ (a b : List V), tsum (a ++ b) = tsum a + tsum b
  | [], b => by simp [tsum]
  | v :: r, b => by rw [List.cons_append, tsum, tsum, tsum_append r b]; omega

theorem joinS_tsum : ∀ (a : List V), (joinS (textVs a)).length ≤ tsum a
  | [] => by simp [textVs, joinS]
  | [v] => by simp [textVs, joinS, tsum]
  | v :: u :: r => by
    have ih := joinS_tsum (u :: r)
    rw [textVs, tsum]
    rw [textVs] at ih ⊢
    rw [joinS, List.length_append, List.length_cons]
    omega
end Go.Proofs.YtpmjjefnmgbifaaGreatDoor

/- How long texts and forms are. -/
namespace Go.Proofs.YtpmjjefnmgbifaaGreatDoor
open Go.RowKit Go.Shelf Fl

theorem decL_len {n : Int} (h : -9223372036854775808 ≤ n ∧ n ≤ 9223372036854775807) : (decL n).length ≤ 21 := by
  have := decD_len20 (n := n.natAbs) (by omega)
  unfold decL
  split
  · rw [List.length_cons]; omega
  · omega

mutual
/-- How long a text is. -/
theorem text_bulk : ∀ v : V, soundV v → (∀ u ∈ preV v, u.s.length ≤ 1000) → (textV v).length + 1 ≤ 25 * bulkV v
  | .mk k n f s l, h, hs => by
    rw [soundV] at h
    have h0 : s.length ≤ 1000 := hs (.mk k n f s l) (by rw [preV]; simp)
    have hl := texts_bulk l h.2.2.2 (fun u hu => hs u (by rw [preV]; simp [hu]))
    rw [textV, bulkV, Nat.min_eq_left h0]
    split
    · have := decL_len h.1; omega
    split
    · have := tl_len (bitsB f)
      rw [List.length_cons]; omega
    split
    · rw [List.length_cons, List.length_append, hex2_len]
      simp only [List.length_cons, List.length_nil]
      omega
    split
    · have := joinS_tsum l
      rw [List.length_cons, List.length_append]
      simp only [List.length_cons, List.length_nil]
      omega
    · simp only [List.length_cons, List.length_nil]
      omega
theorem texts_bulk : ∀ l : List V, soundL l → (∀ u ∈ preV.preL l, u.s.length ≤ 1000) → tsum l ≤ 25 * bulkL l
  | [], _, _ => by rw [tsum]; omega
  | v :: r, h, hs => by
    rw [soundL] at h
    have h1 := text_bulk v h.1 (fun u hu => hs u (by rw [preV.preL]; simp [hu]))
    have h2 := texts_bulk r h.2 (fun u hu => hs u (by rw [preV.preL]; simp [hu]))
    rw [tsum, bulkL]
    omega
end

theorem piece_len {k n : Int} {f : Nat} {s : List Nat} {l : List V} (hk : k ≤ 4) (hn : -9223372036854775808 ≤ n ∧ n ≤ 9223372036854775807) (hs : s.length ≤ 1000) (hl : l.length < 18446744073709551616) : (pieceV (.mk k n f s l)).length ≤ 21 + s.length := by
  unfold pieceV
  change (form k.toNat ++ contF k n f s l.length).length ≤ _
  have h1 := form_len (x := k.toNat) (by omega)
  rw [List.length_append]
  unfold contF
  split
  · have := form_len (fold_lt hn.1 hn.2); omega
  split
  · simp [be8]; omega
  split
  · have := form_len (x := s.length) (by omega)
    unfold formB
    rw [List.length_append]; omega
  split
  · have := form_len hl; omega
  · simp only [List.length_nil]; omega

mutual
theorem form_bulk : ∀ v : V, soundV v → (∀ u ∈ preV v, u.s.length ≤ 1000 ∧ u.kind ≤ 4 ∧ u.l.length < 18446744073709551616) → (formV v).length ≤ 25 * bulkV v
  | .mk k n f s l, h, hs => by
    rw [soundV] at h
    obtain ⟨h0, hk, hln⟩ : s.length ≤ 1000 ∧ k ≤ 4 ∧ l.length < 18446744073709551616 := hs (.mk k n f s l) (by rw [preV]; simp)
    have hl := forms_bulk l h.2.2.2 (fun u hu => hs u (by rw [preV]; simp [hu]))
    have hp := piece_len (n := n) (f := f) (s := s) (l := l) hk h.1 h0 hln
    unfold formV
    rw [preV, List.flatMap_cons, List.length_append, bulkV, Nat.min_eq_left h0]
    omega
theorem forms_bulk : ∀ l : List V, soundL l → (∀ u ∈ preV.preL l, u.s.length ≤ 1000 ∧ u.kind ≤ 4 ∧ u.l.length < 18446744073709551616) → ((preV.preL l).flatMap pieceV).length ≤ 25 * bulkL l
  | [], _, _ => by rw [preV.preL]; simp
  | v :: r, h, hs => by
    rw [soundL] at h
    have h1 := form_bulk v h.1 (fun u hu => hs u (by rw [preV.preL]; simp [hu]))
    have h2 := forms_bulk r h.2 (fun u hu => hs u (by rw [preV.preL]; simp [hu]))
    unfold formV at h1
    rw [preV.preL, List.flatMap_append, List.length_append, bulkL]
    omega
end

mutual
theorem bulk_strings : ∀ v : V, bulkV v ≤ 900 → ∀ u ∈ preV v, u.s.length ≤ 1000 ∧ u.l.length ≤ 900
  | .mk k n f s l, h, u, hu => by
    rw [bulkV] at h
    have hb := bulkL_len l
    rw [preV] at hu
    rcases List.mem_cons.1 hu with e | e
    · rw [e]
      show s.length ≤ 1000 ∧ l.length ≤ 900
      omega
    · exact bulks_strings l (by omega) u e
theorem bulks_strings : ∀ l : List V, bulkL l ≤ 900 → ∀ u ∈ preV.preL l, u.s.length ≤ 1000 ∧ u.l.length ≤ 900
  | [], _, u, hu => by simp [preV.preL] at hu
  | v :: r, h, u, hu => by
    rw [bulkL] at h
    rw [preV.preL] at hu
    rcases List.mem_append.1 hu with e | e
    · exact bulk_strings v (by omega) u e
    · exact bulks_strings r (by omega) u e
end
end Go.Proofs.YtpmjjefnmgbifaaGreatDoor

