/- The walks of the reference's Named and Used. -/
import Derived.Test.YtdnbjpfapfnpaaaRfA
namespace Go.Proofs.Ytdnbjpfapfnpaaa
open Go.RowKit Go.Maps Go.Shelf

set_option maxRecDepth 100000 in
set_option maxHeartbeats 6400000 in
theorem rnamed_any (n : List UInt8) (w : World) (hn : n.length ≤ 9223372036854775807) :
    Calls Try.prog 40 #[.string ⟨n.toArray⟩] w fun e w' => e = .returned (.bool (named n)) ∧ w' = w := by
  have hsz := encStr_size n
  have hget := Lib.hid (show ∀ k (h : k < (⟨n.toArray⟩ : ByteArray).size) (hk : k < n.length), (⟨n.toArray⟩ : ByteArray)[k]'h = n[k] from fun k _ hk => byte_at n k hk)
  have hsz' := Lib.hid hsz
  generalize hs : (⟨n.toArray⟩ : ByteArray) = s at *
  clear hs
  go_enter Try.func40, Try.ntmps40
  go_wp2
  go_loopw [3] (fun i wr => ∃ k : Nat, k ≤ n.length ∧ i = .int .i64 (k : Int) ∧ (n.take k).all okByte = true ∧ wr = w) (fun i _ => n.length - (intOf i).toNat)
  case atStart => exact ⟨0, Nat.zero_le _, rfl, by simp, rfl⟩
  case round =>
    obtain ⟨k, hk, rfl, hall, rfl⟩ := hrel
    have Hall := Lib.hid hall
    clear hall
    by_cases hlt : k < n.length
    · have hlt' : (k : Int) < ((n.length : Nat) : Int) := by omega
      have hks : k < s.size := by rw [hsz'.out]; exact hlt
      obtain ⟨c, hc⟩ : ∃ c : UInt8, n[k] = c := ⟨_, rfl⟩
      have hx : s[k]'hks = c := by rw [hget.out k hks hlt, hc]
      have Hc := Lib.hid hc
      clear hc
      rcases okByte_cases c with ⟨hok, hcase⟩ | ⟨hok, hcase⟩
      · have Hok := Lib.hid hok
        clear hok
        rcases hcase with hcase | hcase | hcase | hcase
        · have a1 : (97 : Int) ≤ (c.toNat : Int) := by omega
          have a2 : (c.toNat : Int) ≤ 122 := by omega
          clear hcase
          go_wp2
          go_roundw
          case rel => exact ⟨k + 1, by omega, by go_num, all_next hlt Hall.out (by rw [Hc.out]; exact Hok.out), by first | rfl | trivial⟩
          case measure => simp [intOf]; omega
        · have a1 : ¬ (97 : Int) ≤ (c.toNat : Int) := by omega
          have a3 : (48 : Int) ≤ (c.toNat : Int) := by omega
          have a4 : (c.toNat : Int) ≤ 57 := by omega
          clear hcase
          go_wp2
          go_roundw
          case rel => exact ⟨k + 1, by omega, by go_num, all_next hlt Hall.out (by rw [Hc.out]; exact Hok.out), by first | rfl | trivial⟩
          case measure => simp [intOf]; omega
        · have a1 : ¬ (97 : Int) ≤ (c.toNat : Int) := by omega
          have a3 : ¬ (48 : Int) ≤ (c.toNat : Int) := by omega
          have b1 : ((c.toNat : Int) == 45) = true := beq_iff_eq.2 (by omega)
          clear hcase
          go_wp2
          go_roundw
          case rel => exact ⟨k + 1, by omega, by go_num, all_next hlt Hall.out (by rw [Hc.out]; exact Hok.out), by first | rfl | trivial⟩
          case measure => simp [intOf]; omega
        · have a1 : ¬ (97 : Int) ≤ (c.toNat : Int) := by omega
          have a3 : ¬ (48 : Int) ≤ (c.toNat : Int) := by omega
          have b1 : ((c.toNat : Int) == 45) = false := beq_eq_false_iff_ne.2 (by omega)
          have b2 : ((c.toNat : Int) == 46) = true := beq_iff_eq.2 (by omega)
          clear hcase
          go_wp2
          go_roundw
          case rel => exact ⟨k + 1, by omega, by go_num, all_next hlt Hall.out (by rw [Hc.out]; exact Hok.out), by first | rfl | trivial⟩
          case measure => simp [intOf]; omega
      · have Hok := Lib.hid hok
        clear hok
        rcases hcase with hcase | hcase | hcase | hcase
        · have a1 : ¬ (97 : Int) ≤ (c.toNat : Int) := by omega
          have a3 : ¬ (48 : Int) ≤ (c.toNat : Int) := by omega
          have b1 : ((c.toNat : Int) == 45) = false := beq_eq_false_iff_ne.2 (by omega)
          have b2 : ((c.toNat : Int) == 46) = false := beq_eq_false_iff_ne.2 (by omega)
          clear hcase
          go_wp2
          go_ret
          exact ⟨ret_bool (by unfold named; rw [all_bad hlt (by rw [Hc.out]; exact Hok.out), Bool.and_false]), rfl⟩
        · have a1 : ¬ (97 : Int) ≤ (c.toNat : Int) := by omega
          have a3 : ¬ (48 : Int) ≤ (c.toNat : Int) := by omega
          have b1 : ((c.toNat : Int) == 45) = false := beq_eq_false_iff_ne.2 (by omega)
          have b2 : ((c.toNat : Int) == 46) = false := beq_eq_false_iff_ne.2 (by omega)
          clear hcase
          go_wp2
          go_ret
          exact ⟨ret_bool (by unfold named; rw [all_bad hlt (by rw [Hc.out]; exact Hok.out), Bool.and_false]), rfl⟩
        · have a1 : ¬ (97 : Int) ≤ (c.toNat : Int) := by omega
          have a3 : (48 : Int) ≤ (c.toNat : Int) := by omega
          have a4 : ¬ (c.toNat : Int) ≤ 57 := by omega
          have b1 : ((c.toNat : Int) == 45) = false := beq_eq_false_iff_ne.2 (by omega)
          have b2 : ((c.toNat : Int) == 46) = false := beq_eq_false_iff_ne.2 (by omega)
          clear hcase
          go_wp2
          go_ret
          exact ⟨ret_bool (by unfold named; rw [all_bad hlt (by rw [Hc.out]; exact Hok.out), Bool.and_false]), rfl⟩
        · have a1 : (97 : Int) ≤ (c.toNat : Int) := by omega
          have a2 : ¬ (c.toNat : Int) ≤ 122 := by omega
          have a3 : (48 : Int) ≤ (c.toNat : Int) := by omega
          have a4 : ¬ (c.toNat : Int) ≤ 57 := by omega
          have b1 : ((c.toNat : Int) == 45) = false := beq_eq_false_iff_ne.2 (by omega)
          have b2 : ((c.toNat : Int) == 46) = false := beq_eq_false_iff_ne.2 (by omega)
          clear hcase
          go_wp2
          go_ret
          exact ⟨ret_bool (by unfold named; rw [all_bad hlt (by rw [Hc.out]; exact Hok.out), Bool.and_false]), rfl⟩
    · have hlt' : ¬ (k : Int) < ((n.length : Nat) : Int) := by omega
      have hk2 : k = n.length := by omega
      have hr := Lib.hid (show named n = (decide (1 ≤ n.length) && decide (n.length ≤ 100)) from by have := Hall.out; rw [hk2, List.take_length] at this; unfold named; rw [this, Bool.and_true])
      clear hk2
      by_cases h1 : 1 ≤ n.length
      · have h1' : (1 : Int) ≤ ((n.length : Nat) : Int) := by omega
        by_cases h2 : n.length ≤ 100
        · have h2' : ((n.length : Nat) : Int) ≤ 100 := by omega
          have Hr := Lib.hid (show named n = true from by rw [hr.out, decide_eq_true h1, decide_eq_true h2]; rfl)
          go_wp2
          go_ret
          exact ⟨ret_bool Hr.out.symm, rfl⟩
        · have h2' : ¬ ((n.length : Nat) : Int) ≤ 100 := by omega
          have Hr := Lib.hid (show named n = false from by rw [hr.out, decide_eq_false h2, Bool.and_false])
          go_wp2
          go_ret
          exact ⟨ret_bool Hr.out.symm, rfl⟩
      · have h1' : ¬ (1 : Int) ≤ ((n.length : Nat) : Int) := by omega
        have Hr := Lib.hid (show named n = false from by rw [hr.out, decide_eq_false h1]; rfl)
        go_wp2
        go_ret
        exact ⟨ret_bool Hr.out.symm, rfl⟩

def usedTo (R : List FR) (j : Nat) : Nat := usedF ((R.take j).map FR.f)
theorem used_take (R : List FR) (j : Nat) (hj : j < R.length) : usedTo R (j + 1) = usedTo R j + R[j].f.b.length := by
  unfold usedTo
  rw [List.take_succ_eq_append_getElem hj, List.map_append]
  unfold usedF
  rw [List.map_append, List.sum_append]
  simp

theorem used_take_le : ∀ (R : List FR) (j : Nat), usedTo R j ≤ usedF (R.map FR.f)
  | [], j => by unfold usedTo; simp
  | x :: R, 0 => Nat.zero_le _
  | x :: R, j + 1 => by
    unfold usedTo
    rw [List.take_succ_cons, List.map_cons, List.map_cons, usedF_cons, usedF_cons]
    have := used_take_le R j
    unfold usedTo at this
    omega

set_option maxRecDepth 100000 in
set_option maxHeartbeats 6400000 in
theorem rused_any {X : Nat → Prop} {w : World} {a : Option Addr} {n c : Nat} {R : List FR} (h : RowF X w a n c R) (hX : ∀ b, X b → b < w.heap.size) (room plan : Int) (down : Bool) (hu : usedF (R.map FR.f) < 9223372036854775808) :
    Calls Try.prog 13 #[refV room a n c plan down] w fun e w' => e = .returned (.int .i64 (usedF (R.map FR.f) : Int)) ∧ Below w.heap.size w w' := by
  have hb := (Below.refl w.heap.size w).alloc (Nat.le_refl _) (.cells #[.int .i64 room, .slice a n c, .int .i64 plan, .bool down] 29)
  have hc1 : (w.alloc (.cells #[.int .i64 room, .slice a n c, .int .i64 plan, .bool down] 29)).cell? ⟨w.heap.size, 1, none⟩ = some (.slice a n c) := by
    rw [cell_of_row _ _ _ _ _ (0, 0) (heap_alloc_new _ _)]; rfl
  have HR := Lib.hid (h.below hX hb)
  have Hb := Lib.hid hb
  have hlen := h.len
  have Hlen := Lib.hid hlen
  have hmax : n ≤ 9223372036854775807 := Nat.le_trans h.le h.max
  have Hu := Lib.hid hu
  clear h hb hX hlen hu
  unfold refV
  go_enter Try.func13, Try.ntmps13
  go_wp2
  generalize w.alloc (.cells #[.int .i64 room, .slice a n c, .int .i64 plan, .bool down] 29) = w1 at *
  go_loopw [3, 4] (fun s i wr => ∃ j : Nat, j ≤ n ∧ i = .int .i64 (j : Int) ∧ s = .int .i64 (usedTo R j : Int) ∧ wr = w1) (fun _ i _ => n - (intOf i).toNat)
  case atStart => exact ⟨0, Nat.zero_le _, rfl, rfl, rfl⟩
  case round =>
    obtain ⟨j, hj, rfl, rfl, rfl⟩ := hrel
    by_cases hlt : j < n
    · obtain ⟨b, o, rfl, _, _⟩ := HR.out.cell (by omega)
      have hjR : j < R.length := by rw [Hlen.out]; exact hlt
      have hcell := (HR.out.at j hjR).2.1
      have hji : (j : Int) < (n : Int) := by omega
      have h1 := used_take R j hjR
      have h2 := used_take_le R (j + 1)
      have h3 := Hu.out
      have hs1 : (usedTo R j : Int) + (R[j].f.b.length : Int) < 9223372036854775808 := by omega
      have Hs := Lib.hid (show (usedTo R j : Int) + (R[j].f.b.length : Int) = (usedTo R (j + 1) : Int) from by rw [h1]; push_cast; rfl)
      clear h1 h2 h3
      generalize R[j].f.b.length = bl at *
      generalize R[j].pa = pj at *
      generalize R[j].k = kj at *
      clear hjR
      generalize usedTo R j = uj at *
      go_wp2
      go_roundw
      case rel => exact ⟨j + 1, hlt, by go_num, by rw [← Hs.out], by first | rfl | trivial⟩
      case measure => simp [intOf]; omega
    · have hji : ¬ (j : Int) < (n : Int) := by omega
      have Hs := Lib.hid (show usedTo R j = usedF (R.map FR.f) from by unfold usedTo; rw [List.take_of_length_le (by rw [Hlen.out]; omega)])
      go_wp2
      go_ret
      exact ⟨by rw [← Hs.out]; rfl, Hb.out⟩
end Go.Proofs.Ytdnbjpfapfnpaaa
