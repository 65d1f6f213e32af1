/- The walk of bytes.Equal. -/
import Derived.Test.YtmebffmdfnnbmaaAppend
namespace Go.Proofs.Ytmebffmdfnnbmaa
open Go.RowKit

theorem bytesEqual_yes (a a' : Option Addr) (n cap n' cap' : Nat) (l : List Nat) (w : World) (hl : Bytes w a n cap l) (hl' : Bytes w a' n' cap' l) :
    Calls Try.prog 36 #[.slice a n cap, .slice a' n' cap'] w fun e w' => e = .returned (.bool true) ∧ w = w' := by
  have c1 := convert_bytes (P := Try.prog) hl 25 5 9 Try.underlying25 Try.underlying5 Try.underlying9
  have c2 := convert_bytes (P := Try.prog) hl' 25 5 9 Try.underlying25 Try.underlying5 Try.underlying9
  have hq := str_eq l
  clear hl hl'
  go_enter Try.func36, Try.ntmps36
  go_wp2
  go_ret
  exact ⟨rfl, rfl⟩

theorem bytesEqual_no (a a' : Option Addr) (n cap n' cap' : Nat) (l l' : List Nat) (w : World) (hl : Bytes w a n cap l) (hl' : Bytes w a' n' cap' l') (hne : l ≠ l') :
    Calls Try.prog 36 #[.slice a n cap, .slice a' n' cap'] w fun e w' => e = .returned (.bool false) ∧ w = w' := by
  have c1 := convert_bytes (P := Try.prog) hl 25 5 9 Try.underlying25 Try.underlying5 Try.underlying9
  have c2 := convert_bytes (P := Try.prog) hl' 25 5 9 Try.underlying25 Try.underlying5 Try.underlying9
  have hq := str_ne hl.byte hl'.byte hne
  clear hl hl'
  go_enter Try.func36, Try.ntmps36
  go_wp2
  go_ret
  exact ⟨rfl, rfl⟩

end Go.Proofs.Ytmebffmdfnnbmaa
