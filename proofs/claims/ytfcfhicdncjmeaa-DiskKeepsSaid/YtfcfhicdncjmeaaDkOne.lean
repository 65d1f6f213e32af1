/- A disk with one file, named x. -/
import Derived.Test.YtfcfhicdncjmeaaDkAlive
namespace Go.Proofs.Ytfcfhicdncjmeaa
open Go.RowKit Go.Maps Go.Shelf

def D1 (R : Nat) (b : List Nat) (d : Nat) (pl : Nat) : DM := ⟨R, [⟨[120], b, d⟩], false, pl⟩

theorem d1_new (R : Nat) : createM [120] (newM (R : Int)) = (D1 R [] 0 0, 0) := by
  show createM [120] ⟨((R : Int)).toNat, [], false, 0⟩ = _
  rw [Int.toNat_natCast]
  unfold createM chgM
  rw [show failM ⟨R, [], false, 0⟩ = ⟨R, [], false, 0⟩ from rfl, if_neg (show ¬ (false = true) from by decide), if_pos (by decide)]
  rfl

theorem d1_find (b : List Nat) (d : Nat) : findN F.n [120] [⟨[120], b, d⟩] = some ⟨[120], b, d⟩ := rfl
theorem d1_fail (R : Nat) (b : List Nat) (d pl : Nat) (hp : pl ≠ 1) : failM (D1 R b d pl) = D1 R b d (pl - 1) := by
  unfold failM D1
  rw [if_neg (show ¬ (false = true) from by decide), if_neg hp]

theorem d1_append (R : Nat) (b l : List Nat) (d pl : Nat) (hp : pl ≠ 1) (h : b.length + l.length ≤ R) : appendM [120] l (D1 R b d pl) = (D1 R (b ++ l) d (pl - 1), 0) := by
  unfold appendM chgM
  rw [d1_fail R b d pl hp, if_neg (show ¬ ((D1 R b d (pl - 1)).down = true) from fun h => by cases h), if_pos (by decide)]
  show (if usedF [⟨[120], b, d⟩] + l.length ≤ R then _ else _) = _
  rw [if_pos (by show b.length + 0 + l.length ≤ R; omega)]
  rfl

theorem d1_sync (R : Nat) (b : List Nat) (d pl : Nat) (hp : pl ≠ 1) : syncM [120] (D1 R b d pl) = (D1 R b b.length (pl - 1), 0) := by
  unfold syncM chgM
  rw [d1_fail R b d pl hp, if_neg (show ¬ ((D1 R b d (pl - 1)).down = true) from fun h => by cases h), if_pos (by decide)]
  rfl

theorem d1_read (R : Nat) (b : List Nat) (d pl : Nat) : readM [120] (D1 R b d pl) = (b, 0) := rfl

theorem d1_used (R : Nat) (b : List Nat) (d pl : Nat) : usedF (D1 R b d pl).fs = b.length := by show b.length + 0 = _; rfl

theorem d1_crash (R : Nat) (b : List Nat) (d pl : Nat) (ks : List Int) : crashM ks (D1 R b d pl) = D1 R (b.take (d + min (max (ks.getD 0 0) 0).toNat (b.length - d))) (d + min (max (ks.getD 0 0) 0).toNat (b.length - d)) 0 := rfl

/-- .. that is down. -/
def D1d (R : Nat) (b : List Nat) (d : Nat) : DM := ⟨R, [⟨[120], b, d⟩], true, 0⟩

theorem d1_planned (R : Nat) (b l : List Nat) (d : Nat) : appendM [120] l (D1 R b d 1) = (D1d R b d, 10) := by
  unfold appendM chgM
  rw [show failM (D1 R b d 1) = D1d R b d from rfl, if_pos (show (D1d R b d).down = true from rfl)]
theorem d1d_sync (R : Nat) (b : List Nat) (d : Nat) : syncM [120] (D1d R b d) = (D1d R b d, 10) := by
  unfold syncM chgM
  rw [show failM (D1d R b d) = D1d R b d from rfl, if_pos (show (D1d R b d).down = true from rfl)]
theorem d1d_read (R : Nat) (b : List Nat) (d : Nat) : readM [120] (D1d R b d) = ([], 10) := rfl
theorem d1d_used (R : Nat) (b : List Nat) (d : Nat) : usedF (D1d R b d).fs = b.length := rfl
theorem d1d_crash (R : Nat) (b : List Nat) : crashM [] (D1d R b 0) = D1 R [] 0 0 := by
  show D1 R (b.take (0 + min (max (0 : Int) 0).toNat (b.length - 0))) (0 + min (max (0 : Int) 0).toNat (b.length - 0)) 0 = _
  rw [show (max (0 : Int) 0).toNat = 0 from rfl, Nat.zero_min, List.take_zero]
theorem d1_arm (R : Nat) (b : List Nat) (d pl : Nat) (k : Nat) : armM (k : Int) (D1 R b d pl) = D1 R b d k := by
  unfold armM D1
  rw [Int.toNat_natCast]

/-- A list, several times. -/
def rep (i : Nat) (l : List Nat) : List Nat := (List.replicate i l).flatten
theorem rep_length (i : Nat) (l : List Nat) : (rep i l).length = i * l.length := by unfold rep; simp
theorem rep_succ (i : Nat) (l : List Nat) : rep i l ++ l = rep (i + 1) l := by
  unfold rep
  rw [List.replicate_succ', List.flatten_append]
  simp
end Go.Proofs.Ytfcfhicdncjmeaa
