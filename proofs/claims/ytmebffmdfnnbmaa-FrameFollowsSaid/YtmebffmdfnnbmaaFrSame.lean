/- The walks of the reference's Same, of bytes and of lists of bytes: true where they are the same. -/
import Derived.Test.YtmebffmdfnnbmaaFrFew
namespace Go.Proofs.Ytmebffmdfnnbmaa
open Go.RowKit Crc

theorem rsame_yes (a a' : Option Addr) (n cap n' cap' : Nat) (l : List Nat) (w : World) (hl : Bytes w a n cap l) (hl' : Bytes w a' n' cap' l) :
    Calls Try.prog 25 #[.slice a n cap, .slice a' n' cap'] w fun e w' => e = .returned (.bool true) ∧ w' = w := by
  have h1 := convert_bytes (P := Try.prog) hl 25 5 9 Try.underlying25 Try.underlying5 Try.underlying9
  have h2 := convert_bytes (P := Try.prog) hl' 25 5 9 Try.underlying25 Try.underlying5 Try.underlying9
  have he := str_eq l
  clear hl hl'
  generalize str l = s at *
  go_enter Try.func25, Try.ntmps25
  go_wp2
  go_ret
  exact ⟨rfl, rfl⟩

set_option maxHeartbeats 800000 in
theorem same_yes (a a' : Option Addr) (n cap cap' : Nat) (ls : List (List Nat)) (w : World) (hl : Parts w a n cap ls) (hl' : Parts w a' n cap' ls) :
    Calls Try.prog 14 #[.slice a n cap, .slice a' n cap'] w fun e w' => e = .returned (.bool true) ∧ ∃ q, w' = w.drewN q := by
  have hnb := hl.max
  have hP := Lib.hid hl
  have hP' := Lib.hid hl'
  clear hl hl'
  go_enter Try.func14, Try.ntmps14
  go_wp2
  go_loopw [5] (fun i wr => ∃ k q : Nat, k ≤ n ∧ i = .int .i64 k ∧ wr = w.drewN q) (fun i _ => n - (intOf i).toNat)
  case atStart => exact ⟨0, 0, Nat.zero_le _, rfl, rfl⟩
  case round =>
    obtain ⟨k, q, hk, rfl, rfl⟩ := hrel
    by_cases hlt : k < n
    · obtain ⟨b, o, a1, n1, c1, rfl, hc, hB⟩ := bytes_get_all hP.out hlt
      obtain ⟨b', o', a2, n2, c2, rfl, hc', hB'⟩ := bytes_get_all hP'.out hlt
      have hc := fun q => (show (w.drewN q).cell? ⟨b, o + k, none⟩ = _ from hc)
      have hc' := fun q => (show (w.drewN q).cell? ⟨b', o' + k, none⟩ = _ from hc')
      have hc := hc q
      have hc' := hc' q
      have hB := hB.grow (below_drewN (Below.refl w.heap.size w) q)
      have hB' := hB'.grow (below_drewN (Below.refl w.heap.size w) q)
      have hq : ∀ m, (w.drewN q).drewN m = w.drewN (q + m) := fun m => by simp [World.drewN, Nat.add_assoc]
      generalize w.drewN q = wr at *
      have HS := Lib.hid (fun m => (rsame_yes a1 a2 n1 c1 n2 c2 (ls.getD k []) (wr.drewN m) (hB.grow (below_drewN (Below.refl _ _) m)) (hB'.grow (below_drewN (Below.refl _ _) m))).mono (R' := fun e w' => e = .returned (.bool true) ∧ ∃ k, w' = (wr.drewN m).drewN k) (by rintro e w' ⟨h1, rfl⟩; exact ⟨h1, 0, rfl⟩))
      have Hq := Lib.hid hq
      clear hB hB' hq
      go_wp2_with fail
      go_quiet (first | (go_at_call 25; exact Calls.quiet_of (HS.out _)))
      rw [Hq.out]
      go_wp2
      go_roundw
      case rel => exact ⟨k + 1, _, by omega, by go_num, rfl⟩
      case measure => simp [intOf]; omega
    · obtain rfl : k = n := by omega
      go_wp2
      go_ret
      exact ⟨rfl, q, rfl⟩
end Go.Proofs.Ytmebffmdfnnbmaa
