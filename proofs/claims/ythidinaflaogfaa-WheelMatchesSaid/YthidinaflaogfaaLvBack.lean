/- The walk of the law's Back. -/
import Derived.Test.YthidinaflaogfaaLvRef3
namespace Go.Proofs.Ythidinaflaogfaa
open Go.RowKit

set_option maxRecDepth 100000 in
set_option maxHeartbeats 6400000 in
theorem back_any (p : Option Addr) (n c : Nat) (l : List It) (w : World) (h : Items w p n c l) (hn : n ≤ 1000) :
    Calls Try.prog 22 #[.slice p n c] w (NewRow w l) := by
  have hlen := h.len
  have hle := h.le
  have hmx := h.max
  have H := Lib.hid h
  clear h
  go_enter Try.func22, Try.ntmps22
  go_wp2
  go_loopw [3, 8] (fun o i wr => ∃ j : Nat, j ≤ n ∧ i = .int .i64 (j : Int) ∧ OwnI wr w.heap.size o (l.take j) ∧ Below w.heap.size w wr) (fun _ i _ => n - (intOf i).toNat)
  case atStart => exact ⟨0, Nat.zero_le _, rfl, World.ownsRow_nil _ _ _ _, Below.refl _ _⟩
  case round =>
    obtain ⟨j, hj, rfl, hown, hb⟩ := hrel
    have Hown := Lib.hid hown
    have Hb := Lib.hid hb
    clear hown hb
    by_cases hlt : j < n
    · have hji : (j : Int) < (n : Int) := by omega
      obtain ⟨g, o, rfl, hc⟩ := H.out.cell (by omega)
      obtain ⟨y, hy⟩ : ∃ y, l[j]? = some y := ⟨_, List.getElem?_eq_getElem (by omega)⟩
      obtain ⟨c0, c1⟩ := hc j y hy
      have Hfin := Lib.hid (show l.take (j + 1) = l.take j ++ [y] from by obtain ⟨h1, h2⟩ := List.getElem?_eq_some_iff.1 hy; rw [List.take_succ_eq_append_getElem h1, h2])
      have Hlt := Lib.hid hlt
      have g0 := cell_below Hb.out c0
      have g1 := cell_below Hb.out c1
      have Hll := Lib.hid (show (l.take j).length ≤ 100000 from by rw [List.length_take]; omega)
      obtain ⟨y1, y2⟩ := y
      clear c0 c1 hc hy hlt
      change wr.cell? _ = some (.int .u64 (y1 : Int)) at g0
      change wr.cell? _ = some (.int .u64 (y2 : Int)) at g1
      have hb1 := (Below.refl wr.heap.size wr).alloc (Nat.le_refl _) (.cells #[.int .u64 (y1 : Int), .int .u64 (y2 : Int)] 44)
      have Hal := Lib.hid (hb1.alloc hb1.size (.cells #[.int .u64 (y1 : Int), .int .u64 (y2 : Int)] 36))
      have Hcl := Lib.hid (box2 (wr.alloc (.cells #[.int .u64 (y1 : Int), .int .u64 (y2 : Int)] 44)) (.int .u64 (y1 : Int)) (.int .u64 (y2 : Int)) 36)
      rw [World.size_alloc] at Hcl
      have Hown3 := Lib.hid (Hown.out.below Hal.out)
      have Hsz := Lib.hid (Nat.le_trans Hb.out.size Hal.out.size)
      clear hb1
      go_wp2_with (at_builtin; refine app_item (y := (y1, y2)) rfl _ _ rfl (by first | rfl | go_simp) Hown3.out (bx := wr.heap.size + 1) (by first | rfl | go_simp) Hcl.out.1 Hcl.out.2 Hsz.out Hll.out ?_; intro v6 w6 hown6 hb6)
      have Hb6 := Lib.hid ((Hb.out.trans (Hal.out.mono Hb.out.size)).trans hb6)
      have Hown6 := Lib.hid hown6
      clear hb6 hown6
      go_wp2
      go_roundw
      case rel => exact ⟨j + 1, Hlt.out, by go_num, by rw [Hfin.out]; exact Hown6.out, Hb6.out⟩
      case measure => simp [intOf]; have := Hlt.out; omega
    · have hji : ¬ (j : Int) < (n : Int) := by omega
      obtain rfl : j = n := by omega
      have Hfin := Lib.hid (show l.take j = l from List.take_of_length_le (by omega))
      go_wp2
      go_ret
      exact ⟨_, rfl, by rw [← Hfin.out]; exact Hown.out, Hb.out⟩
end Go.Proofs.Ythidinaflaogfaa
