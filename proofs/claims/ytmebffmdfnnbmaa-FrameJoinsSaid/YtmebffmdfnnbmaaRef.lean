/- The walks of the reference's feed, More and Sum: each returns what the plain register says. -/
import Derived.Test.YtmebffmdfnnbmaaRows
import Derived.Test.YtmebffmdfnnbmaaCrc
import Derived.Test.YtmebffmdfnnbmaaBytes
import Derived.WalkKit
import Derived.WalkLawsBesides
import Derived.WalkSpells
import Derived.Lib.Hide
namespace Go.Proofs.Ytmebffmdfnnbmaa
open Go.RowKit Crc

theorem step_odd {x : Nat} (h : x % 2 = 1) : Crc.step x = x / 2 ^^^ 2197175160 := if_pos h
theorem step_even {x : Nat} (h : ¬ x % 2 = 1) : Crc.step x = x / 2 := if_neg h

set_option maxHeartbeats 400000 in
theorem rfeed_any (r c : Nat) (w : World) (hr : r < 4294967296) (hc : c < 256) :
    Calls Try.prog 41 #[.int .u32 (r : Int), .int .u8 (c : Int)] w fun e w' => e = .returned (.int .u32 (feedB r c : Nat)) ∧ w = w' := by
  have e0 : bits .xor .u32 (r : Int) (c : Int) = ((r ^^^ c : Nat) : Int) := u32_xor_nat r c hr (by omega)
  have h0 := Crc.xor_lt hr (show c < 4294967296 by omega)
  go_enter Try.func41, Try.ntmps41
  go_wp2
  go_loop [0, 5] (fun x i => ∃ k : Nat, k ≤ 8 ∧ i = .int .i64 k ∧ x = .int .u32 (steps k (r ^^^ c) : Nat)) (fun _ i => 8 - (intOf i).toNat)
  case atStart => exact ⟨0, Nat.zero_le _, rfl, rfl⟩
  case round =>
    obtain ⟨k, hk, rfl, rfl⟩ := hrel
    have hs := Lib.hid (Crc.steps_succ' k (r ^^^ c))
    have hb : steps k (r ^^^ c) < 4294967296 := steps_lt h0
    generalize hx : steps k (r ^^^ c) = x at *
    have hx := Lib.hid hx
    rename_i hx0; clear hx0
    have e1 : bits .and .u32 (x : Int) 1 = ((x % 2 : Nat) : Int) := by rw [← Crc.and1]; exact u32_and_nat x 1 hb (by omega)
    have e2 : bits .xor .u32 ((x : Int) / 2) 2197175160 = (((x / 2) ^^^ 2197175160 : Nat) : Int) := u32_xor_nat (x / 2) 2197175160 (by omega) (by omega)
    by_cases hlt : k < 8
    · by_cases hodd : x % 2 = 1
      · have hodd2 : (((x % 2 : Nat) : Int) == 1) = true := by rw [hodd]; rfl
        go_wp2
        go_round
        case rel => exact ⟨k + 1, by omega, by go_num, u32_eq (by rw [hs.out, step_odd hodd])⟩
        case measure => simp [intOf]; omega
      · go_wp2
        go_round
        case rel => exact ⟨k + 1, by omega, by go_num, u32_eq (a := x / 2) (by rw [hs.out, step_even hodd])⟩
        case measure => simp [intOf]; omega
    · obtain rfl : k = 8 := by omega
      go_wp2
      go_ret
      exact ⟨ret_u32 hx.out.symm, rfl⟩

theorem inv_bits {r : Nat} (h : r < 4294967296) : bits .xor .u32 IntKind.u32.max (r : Int) = ((inv r : Nat) : Int) := by
  have e : IntKind.u32.max = ((4294967295 : Nat) : Int) := rfl
  rw [e, u32_xor_nat 4294967295 r (by omega) h]
  congr 1
  have h2 := congrArg BitVec.toNat (BitVec.allOnes_xor (x := BitVec.ofNat 32 r))
  rw [BitVec.toNat_xor, BitVec.toNat_not, BitVec.toNat_allOnes, BitVec.toNat_ofNat, Nat.mod_eq_of_lt (by omega)] at h2
  exact h2

set_option maxHeartbeats 400000 in
theorem rmore_any (r : Nat) (a : Option Addr) (n cap : Nat) (l : List Nat) (w : World) (hr : r < 4294967296) (hl : Bytes w a n cap l) :
    Calls Try.prog 39 #[.int .u32 (r : Int), .slice a n cap] w fun e w' => e = .returned (.int .u32 (inv (feedL (inv r) l) : Nat)) ∧ w = w' := by
  have hmax := hl.max
  obtain ⟨hn, hcap, hcm, hby, hnl, hcell⟩ := hl
  have hn' := Lib.hid hn
  have hget : ∀ i, i < n → l.getD i 0 < 256 := fun i hi => Bytes.get ⟨hn, hcap, hcm, hby, hnl, hcell⟩ hi
  have hget := Lib.hid hget
  have hcell' := Lib.hid hcell
  have hby' := Lib.hid hby
  clear hn hcell hby hnl hcm
  rename_i hget0; clear hget0
  have hi : inv r < 4294967296 := by unfold inv; omega
  have e0 := inv_bits hr
  go_enter Try.func39, Try.ntmps39
  go_wp2
  go_loop [5, 6] (fun x i => ∃ k : Nat, k ≤ n ∧ i = .int .i64 k ∧ x = .int .u32 (feedL (inv r) (l.take k) : Nat)) (fun _ i => n - (intOf i).toNat)
  case atStart => exact ⟨0, Nat.zero_le _, rfl, rfl⟩
  case round =>
    obtain ⟨k, hk, rfl, rfl⟩ := hrel
    have hb : feedL (inv r) (l.take k) < 4294967296 := feedL_lt hi (fun x hx => hby'.out x (List.mem_of_mem_take hx))
    by_cases hlt : k < n
    · have hs0 := Crc.feedL_take (l := l) (inv r) (show k < l.length by rw [hn'.out]; exact hlt)
      obtain ⟨b, o, rfl, hc0⟩ := hcell'.out (by omega)
      have hc := hc0 k hlt
      clear hc0
      have hg := hget.out k hlt
      generalize l.getD k 0 = c at hs0 hc hg
      have hs := Lib.hid hs0
      clear hs0
      go_wp2_with ((with_reducible refine (rfeed_any _ _ _ hb hg).mono ?_); rintro e w' ⟨rfl, rfl⟩)
      go_round
      case rel => exact ⟨k + 1, by omega, by go_num, u32_eq hs.out.symm⟩
      case measure => simp [intOf]; omega
    · obtain rfl : k = n := by omega
      have e1 := inv_bits hb
      go_wp2
      go_ret
      exact ⟨ret_u32 (by rw [← hn'.out, List.take_length]), rfl⟩
end Go.Proofs.Ytmebffmdfnnbmaa
