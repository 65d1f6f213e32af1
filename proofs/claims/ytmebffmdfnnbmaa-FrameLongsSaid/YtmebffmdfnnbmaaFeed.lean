/- The walks of the code's feed, Sum and More: each returns what the plain register says. -/
import Derived.Test.YtmebffmdfnnbmaaTab
import Derived.Deep.WholeRow
namespace Go.Proofs.Ytmebffmdfnnbmaa
open Go.RowKit Crc

theorem tab_cell {W : World} {T m : Nat} {t : TypeId} (h : W.heap[T]? = some (.cells tabV t (0, 0))) (hm : m < 16) : W.cell? ⟨T, m, none⟩ = some (.int .u32 (steps 4 m : Nat)) := by
  rw [cell_of_row W T m tabV t (0, 0) h, tabV_get hm]

theorem round_facts {fr c : Nat} (hr : fr < 4294967296) (hc : c < 256) : ∃ y m z m' : Nat, m < 16 ∧ m' < 16 ∧ feedB fr c < 4294967296 ∧
    bits .xor .u32 (fr : Int) (c : Int) = (y : Int) ∧ bits .and .u32 (y : Int) 15 = (m : Int) ∧ bits .xor .u32 ((y : Int) / 16) (steps 4 m : Nat) = (z : Int) ∧
    bits .and .u32 (z : Int) 15 = (m' : Int) ∧ bits .xor .u32 ((z : Int) / 16) (steps 4 m' : Nat) = ((feedB fr c : Nat) : Int) := by
  have hy := Crc.xor_lt hr (show c < 4294967296 by omega)
  have hm : (fr ^^^ c) &&& 15 < 16 := by rw [Crc.and15]; omega
  have h4 : ∀ m, m < 16 → steps 4 m < 4294967296 := fun m h => steps_lt (by omega)
  have hz := Crc.xor_lt (show (fr ^^^ c) / 16 < 4294967296 by omega) (h4 _ hm)
  have hm' : ((fr ^^^ c) / 16 ^^^ steps 4 ((fr ^^^ c) &&& 15)) &&& 15 < 16 := by rw [Crc.and15]; omega
  refine ⟨fr ^^^ c, (fr ^^^ c) &&& 15, (fr ^^^ c) / 16 ^^^ steps 4 ((fr ^^^ c) &&& 15), ((fr ^^^ c) / 16 ^^^ steps 4 ((fr ^^^ c) &&& 15)) &&& 15, hm, hm', feedB_lt hr hc,
    u32_xor_nat _ _ hr (by omega), u32_and_nat _ 15 hy (by omega), u32_xor_nat (_ / 16) _ (by omega) (h4 _ hm), u32_and_nat _ 15 hz (by omega), ?_⟩
  rw [← feed_by_table]
  exact u32_xor_nat (_ / 16) _ (by omega) (h4 _ hm')

set_option maxHeartbeats 800000 in
theorem feed_any (r : Nat) (a : Option Addr) (n cap : Nat) (ls : List (List Nat)) (w : World) (hr : r < 4294967296) (hl : Parts w a n cap ls) :
    Calls Try.prog 40 #[.int .u32 (r : Int), .slice a n cap] w fun e w' => e = .returned (.int .u32 (feedP r ls : Nat)) ∧ Below w.heap.size w w' := by
  have hl := Lib.hid hl
  rename_i hl0; clear hl0
  go_enter Try.func40, Try.ntmps40
  go_wp2_with (first
    | ((with_reducible refine (newTable_any _).mono ?_); rintro e w1 ⟨rfl, hb1⟩)
    | (refine wpList_store_row rfl 64 _ _ rfl _ tabV rfl rfl 64 _ (heap_alloc_new _ _) info47 (by rw [tabV_size]; rfl) tabV_one ?_; rw [World.setRow_alloc_new]))
  have hsz : w.heap.size ≤ w1.heap.size := hb1.size
  have hb2 : Below w.heap.size w (w1.alloc (.cells tabV 64)) := hb1.alloc hsz _
  have htab : (w1.alloc (.cells tabV 64)).heap[w1.heap.size]? = some (.cells tabV 64 (0, 0)) := heap_alloc_new _ _
  generalize w1.alloc (.cells tabV 64) = W at *
  generalize w1.heap.size = T at *
  have hP := Lib.hid (hl.out.grow hb2)
  clear hb1 hl hsz
  have hnb := hP.out.max
  have hls := Lib.hid hP.out.len
  have hcells := Lib.hid hP.out.cell
  have htab := Lib.hid htab
  rename_i htab0; clear htab0
  go_loop [0, 13] (fun x i => ∃ k : Nat, k ≤ n ∧ i = .int .i64 k ∧ x = .int .u32 (feedP r (ls.take k) : Nat) ∧ feedP r (ls.take k) < 4294967296) (fun _ i => n - (intOf i).toNat)
  case atStart => exact ⟨0, Nat.zero_le _, rfl, rfl, hr⟩
  case round =>
    obtain ⟨k, hk, rfl, rfl, hxb⟩ := hrel
    by_cases hlt : k < n
    · obtain ⟨b, o, rfl, hbl, hc0⟩ := hcells.out (by omega)
      obtain ⟨a', n', c', hc, hB⟩ := hc0 k hlt
      have hs := Lib.hid (Crc.feedP_take (ls := ls) r (show k < ls.length by rw [hls.out]; exact hlt))
      clear hc0
      generalize ls.getD k [] = l at hs hB
      generalize feedP r (ls.take k) = x at *
      rename_i hs0; clear hs0
      have g3 := hB.max
      obtain ⟨g1, g2, g7, g4, g6, g5⟩ := hB
      have g1 := Lib.hid g1
      have g4 := Lib.hid g4
      have g5 := Lib.hid g5
      have g6 := Lib.hid g6
      have g7 := Lib.hid g7
      rename_i g70 g60 g50 g40 g10; clear g70 g60 g50 g40 g10
      go_wp2
      go_loop [0, 19] (fun y i => ∃ j : Nat, j ≤ n' ∧ i = .int .i64 j ∧ y = .int .u32 (feedL x (l.take j) : Nat) ∧ feedL x (l.take j) < 4294967296) (fun _ i => n' - (intOf i).toNat)
      case atStart => exact ⟨0, Nat.zero_le _, rfl, rfl, hxb⟩
      case round =>
        obtain ⟨j, hj, rfl, rfl, hyb⟩ := hrel
        by_cases hjlt : j < n'
        · obtain ⟨b', o', rfl, hd0⟩ := g5.out (by omega)
          have hd := hd0 j hjlt
          have hs2 := Crc.feedL_take (l := l) x (show j < l.length by rw [g1.out]; exact hjlt)
          have hcb : l.getD j 0 < 256 := Bytes.get ⟨g1.out, g2, g7.out, g4.out, g6.out, fun _ => ⟨b', o', rfl, hd0⟩⟩ hjlt
          clear hd0
          generalize l.getD j 0 = c at *
          generalize feedL x (l.take j) = fr at *

          obtain ⟨y, m, z, m', hm, hm', hfb, e0, e1, e2, e3, e4⟩ := round_facts hyb hcb
          have t1 := tab_cell htab.out hm
          have t2 := tab_cell htab.out hm'
          rw [← hs2] at hfb e4
          clear hs2
          have hm4 : (m : Int) < 16 := by omega
          have hm4' : (m' : Int) < 16 := by omega
          generalize steps 4 m = v at *
          generalize steps 4 m' = v' at *
          go_wp2
          go_round
          case rel => exact ⟨j + 1, by omega, by go_num, rfl, hfb⟩
          case measure => simp [intOf]; omega
        · obtain rfl : j = n' := by omega
          have ht : l.take j = l := by rw [← g1.out, List.take_length]
          rw [ht] at hyb
          rw [ht]
          rw [← hs.out] at hyb
          go_wp2
          go_round
          case rel => exact ⟨k + 1, by omega, by go_num, u32_eq hs.out.symm, hyb⟩
          case measure => simp [intOf]; omega
    · obtain rfl : k = n := by omega
      go_wp2
      go_ret
      exact ⟨ret_u32 (by rw [← hls.out, List.take_length]), hb2⟩
end Go.Proofs.Ytmebffmdfnnbmaa
