import Derived.Test.YtcapbaocchaenaaGreatDoorSG20
import Derived.Lib.ItoaMem
import Derived.BigCall
import Derived.BigGuard
/- The walk of strconv.FormatUint at base 10. -/
namespace Go.Proofs.YtcapbaocchaenaaGreatDoor
open Go.RowKit Go.Shelf Go.Sort Fl

theorem dec_str (x : Nat) : (⟨(Lib.decDigits x).toArray⟩ : ByteArray) = str (decD x) := by
  unfold str
  congr 2
  rw [dec_digits]

set_option maxHeartbeats 6400000 in
set_option maxRecDepth 100000 in
theorem iuint_dec (x : Nat) (hx : x < 18446744073709551616) (w : World) (hp : Pow10 w) :
    Calls Tryz.prog 60 #[.int .u64 (x : Int), .int .i64 10] w fun e w' => e = .returned (.string (str (decD x))) ∧ Below w.heap.size w w' := by
  rw [← dec_str]
  by_cases hs : x < 100
  · have hs' : (x : Int) < 100 := by omega
    have H := Lib.hid (Tryz.internal_strconv_small x hs w)
    go_enter Tryz.func60, Tryz.ntmps60
    go_wp2_with fail
    refine H.out.mono ?_
    rintro e w' ⟨rfl, rfl⟩
    go_wp2
    go_ret
    exact ⟨rfl, Below.refl _ _⟩
  · have hu1 : 1 ≤ x := by omega
    have hs' : ¬ (x : Int) < 100 := by omega
    have hnd20 : Lib.nDigits x ≤ 20 := by have := Lib.numDigits_eq x hu1 hx; split at this <;> omega
    have hal : Tryz.prog.arrayLen 128 = 24 := by kernel_rfl
    have hsl1 : ∀ W, (Instr.sliceAt 128 (.pointer (some ⟨w.heap.size, 0, none⟩)) none (some (.int .i64 (Lib.nDigits x : Int))) none).run Tryz.prog W = .ok (.slice (some ⟨w.heap.size, 0, none⟩) (Lib.nDigits x) 24) W := fun W => by
      rw [run_sliceAt_array_h W 128 ⟨w.heap.size, 0, none⟩ (by kernel_rfl) .i64 (Lib.nDigits x : Int) (by omega) (by rw [hal]; omega)]
      go_simp
    have hH0 : Holds (fun (b : UInt8) => Value.int .u8 (b.toNat : Int)) (w.alloc (.cells Lib.zeros24 128)) w.heap.size 0 (Array.replicate (Lib.nDigits x) (0 : UInt8)) := fun j hj => by
      have hj' : j < Lib.nDigits x := by simpa using hj
      refine ⟨?_, World.frozen?_alloc_new _ _ _ _⟩
      rw [World.cell?_alloc_new, Nat.zero_add, Lib.zeros24_at _ (by omega), getElem!_pos _ j hj]
      simp
    have hfmt := Tryz.internal_strconv_formatBase10 w.heap.size 0 24 x (Array.replicate (Lib.nDigits x) 0) (w.alloc (.cells Lib.zeros24 128)) hH0 (by rw [Array.size_replicate]; exact Lib.lt_pow_nDigits x) hx (by rw [Array.size_replicate]; omega)
    rw [Array.size_replicate] at hfmt
    have HH0 := Lib.hid hH0
    have Hnd := Lib.hid (Tryz.internal_strconv_numDigits x hu1 hx (w.alloc (.cells Lib.zeros24 128)) (Lib.tabIs_alloc hp _))
    have Hfmt := Lib.hid hfmt
    clear hH0 hal hfmt hp hx
    go_enter Tryz.func60, Tryz.ntmps60
    go_wp2_with fail
    refine Hnd.out.mono ?_
    rintro e w' ⟨rfl, rfl⟩
    go_wp2_with fail
    refine Hfmt.out.mono ?_
    rintro e w' ⟨rfl, k, v', dk, rfl, hF⟩
    have hcv : (convert 28 9 (.slice (some ⟨w.heap.size, 0, none⟩) (Lib.nDigits x) 24)).run Tryz.prog ((putRow (fun (b : UInt8) => Value.int .u8 (b.toNat : Int)) (w.alloc (.cells Lib.zeros24 128)) w.heap.size 0 dk).drewN k) = .ok (.string ⟨(Lib.decDigits x).toArray⟩) ((putRow (fun (b : UInt8) => Value.int .u8 (b.toNat : Int)) (w.alloc (.cells Lib.zeros24 128)) w.heap.size 0 dk).drewN k) := by
      have h := run_convert_bytes_back (P := Tryz.prog) ((putRow (fun (b : UInt8) => Value.int .u8 (b.toNat : Int)) (w.alloc (.cells Lib.zeros24 128)) w.heap.size 0 dk).drewN k) 28 9 5 ⟨w.heap.size, 0, none⟩ 24 (Lib.decDigits x) Tryz.underlying28 Tryz.underlying5 Tryz.underlying9 (fun j hj => by
        rw [Lib.row_is_numeral hF j hj, Lib.add_plain, World.cell?_drewN]
        exact cell?_putRow (fun (b : UInt8) => Value.int .u8 (b.toNat : Int)) _ w.heap.size 0 _ dk HH0.out (by rw [hF.size, Array.size_replicate]) j (by rw [hF.size]; rw [Lib.decDigits_length] at hj; exact hj))
      rw [Lib.decDigits_length] at h
      exact h
    have Hfin := Lib.hid (show ∃ os, (putRow (fun (b : UInt8) => Value.int .u8 (b.toNat : Int)) (w.alloc (.cells Lib.zeros24 128)) w.heap.size 0 dk).drewN k = grow (w.drewN k) os from by
      rw [alloc_eq_grow]
      obtain ⟨os', _, e⟩ := putRow_grow_new (fun (b : UInt8) => Value.int .u8 (b.toNat : Int)) w #[(.cells Lib.zeros24 128)] w.heap.size 0 dk (Nat.le_refl _)
      exact ⟨os', by rw [e]; rfl⟩)
    go_wp2
    go_ret
    obtain ⟨os, eo⟩ := Hfin.out
    exact ⟨rfl, by rw [eo]; exact below_growN _ _ (Nat.le_refl _) _ _⟩

set_option maxRecDepth 100000 in
theorem uint_dec (x : Nat) (hx : x < 18446744073709551616) (w : World) (hp : Pow10 w) :
    Calls Tryz.prog 32 #[.int .u64 (x : Int), .int .i64 10] w fun e w' => e = .returned (.string (str (decD x))) ∧ Below w.heap.size w w' := by
  have H := Lib.hid (iuint_dec x hx w hp)
  clear hx hp
  go_enter Tryz.func32, Tryz.ntmps32
  go_wp2_with fail
  refine H.out.mono ?_
  rintro e w' ⟨rfl, hb⟩
  have Hb := Lib.hid hb
  clear hb
  go_wp2
  go_ret
  exact ⟨rfl, Hb.out⟩

set_option maxRecDepth 100000 in
theorem itoa_dec (n : Int) (h0 : -9223372036854775808 ≤ n) (h1 : n ≤ 9223372036854775807) (w : World) (hp : Pow10 w) :
    Calls Tryz.prog 100 #[.int .i64 n] w fun e w' => e = .returned (.string (str (decL n))) ∧ Below w.heap.size w w' := by
  have H := Tryz.strconv_Itoa n h0 h1 w hp
  rw [itoa_str] at H
  exact H.mono fun e w' ⟨he, k, os, hw⟩ => ⟨he, by rw [hw]; exact below_growN _ _ (Nat.le_refl _) _ _⟩
end Go.Proofs.YtcapbaocchaenaaGreatDoor

