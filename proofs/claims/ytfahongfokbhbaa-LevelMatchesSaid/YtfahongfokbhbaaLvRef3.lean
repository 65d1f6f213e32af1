/- The walks of the reference's Of and of the law's Back. -/
import Derived.Test.YtfahongfokbhbaaLvRef2
namespace Go.Proofs.Ytfahongfokbhbaa
open Go.RowKit

/-- A new row. -/
def NewRow (w : World) (L : List It) (r : Ending) (w' : World) : Prop := ∃ v, r = .returned v ∧ OwnI w' w.heap.size v L ∧ Below w.heap.size w w'

theorem filter_take {l : List It} {j : Nat} {y : It} (P : It → Bool) (h : l[j]? = some y) : (l.take (j + 1)).filter P = if P y = true then (l.take j).filter P ++ [y] else (l.take j).filter P := by
  obtain ⟨hj, rfl⟩ := List.getElem?_eq_some_iff.1 h
  rw [List.take_succ_eq_append_getElem hj, List.filter_append]
  split
  · rename_i hp; simp [hp]
  · rename_i hp; simp [hp]

set_option maxRecDepth 100000 in
set_option maxHeartbeats 6400000 in
theorem of_any (k : Nat) (p : Option Addr) (n c : Nat) (l : List It) (s : Int) (w : World) (hk : k < 4) (h : Items w p n c l) (hn : n ≤ 1000) (hw : ∀ y ∈ l, y.2 < 18446744073709551616) :
    Calls Try.prog 21 #[.int .i64 (k : Int), .slice p n c, .int .i64 s] w (NewRow w (l.filter fun y => decide ((slotN k y.2 : Int) = s))) := by
  have hlen := h.len
  have hle := h.le
  have hmx := h.max
  have H := Lib.hid h
  have HS := Lib.hid (fun t ht w => rslot_any k t w hk ht)
  have HW := Lib.hid hw
  obtain ⟨P, hP⟩ : ∃ P, P = fun y : It => decide ((slotN k y.2 : Int) = s) := ⟨_, rfl⟩
  rw [← hP]
  have HP := Lib.hid (show ∀ y, P y = decide ((slotN k y.2 : Int) = s) from fun y => by rw [hP])
  have hbase : w.heap.size ≤ w.heap.size := Nat.le_refl _
  clear h hw hP
  go_enter Try.func21, Try.ntmps21
  go_wp2
  go_loopw [7, 8] (fun o i wr => ∃ j : Nat, j ≤ n ∧ i = .int .i64 (j : Int) ∧ OwnI wr w.heap.size o ((l.take j).filter P) ∧ Below w.heap.size w wr) (fun _ i _ => n - (intOf i).toNat)
  case atStart => exact ⟨0, Nat.zero_le _, rfl, World.ownsRow_nil _ _ _ _, Below.refl _ _⟩
  case round =>
    obtain ⟨j, hj, rfl, hown, hb⟩ := hrel
    have Hown := Lib.hid hown
    have Hb := Lib.hid hb
    clear hown hb
    by_cases hlt : j < n
    · have hji : (j : Int) < (n : Int) := by omega
      obtain ⟨g, o, rfl, hc⟩ := H.out.cell (by omega)
      obtain ⟨y, hy⟩ : ∃ y, l[j]? = some y := ⟨_, List.getElem?_eq_getElem (by omega)⟩
      obtain ⟨c0, c1⟩ := hc j y hy
      have hy64 := HW.out y (List.mem_of_getElem? hy)
      have Hft := Lib.hid (filter_take P hy)
      have HPy := Lib.hid (HP.out y)
      have HSy := Lib.hid (fun W => HS.out y.2 hy64 W)
      have Hlt := Lib.hid hlt
      have g0 := cell_below Hb.out c0
      have g1 := cell_below Hb.out c1
      have Hll := Lib.hid (show ((l.take j).filter P).length ≤ 100000 from Nat.le_trans (List.length_filter_le _ _) (by rw [List.length_take]; omega))
      obtain ⟨y1, y2⟩ := y
      clear c0 c1 hc hy hlt
      change wr.cell? _ = some (.int .u64 (y1 : Int)) at g0
      change wr.cell? _ = some (.int .u64 (y2 : Int)) at g1
      go_wp2_with fail
      refine (HSy.out _).mono ?_
      rintro r w3 ⟨rfl, q, rfl⟩
      have hb3 : Below wr.heap.size wr (wr.drewN q) := below_drewN (Below.refl _ _) q
      have k0 := cell_below hb3 g0
      have k1 := cell_below hb3 g1
      have Hb3 := Lib.hid hb3
      obtain ⟨S, hS⟩ : ∃ S, S = slotN k y2 := ⟨_, rfl⟩
      have HPS := Lib.hid (show P (y1, y2) = decide ((S : Int) = s) from by rw [HPy.out, hS])
      rw [← hS]
      clear g0 g1 hb3 hS
      generalize wr.drewN q = w3 at *
      by_cases hs : (S : Int) = s
      · subst hs
        have Hown3 := Lib.hid (fun (W : World) (hW : Below w3.heap.size w3 W) => Hown.out.below (Hb3.out.trans (hW.mono Hb3.out.size)))
        have Hal := Lib.hid ((Below.refl w3.heap.size w3).alloc (Nat.le_refl _) (.cells #[.int .u64 (y1 : Int), .int .u64 (y2 : Int)] 36))
        have hsz : w.heap.size ≤ (w3.alloc (.cells #[.int .u64 (y1 : Int), .int .u64 (y2 : Int)] 36)).heap.size := Nat.le_trans Hb.out.size (Nat.le_trans Hb3.out.size Hal.out.size)
        have Hsz := Lib.hid hsz
        have Hfin := Lib.hid (show (l.take (j + 1)).filter P = (l.take j).filter P ++ [(y1, y2)] from by rw [Hft.out, if_pos (by rw [HPS.out]; exact decide_eq_true rfl)])
        clear hsz
        go_wp2_with (at_builtin; refine app_item (y := (y1, y2)) rfl _ _ rfl (by first | rfl | go_simp) (Hown3.out _ Hal.out) (bx := w3.heap.size) (by first | rfl | go_simp) (box2 w3 _ _ _).1 (box2 w3 _ _ _).2 Hsz.out Hll.out ?_; intro v6 w6 hown6 hb6)
        have Hb6 := Lib.hid ((Hb.out.trans ((Hb3.out.trans (Hal.out.mono Hb3.out.size)).mono Hb.out.size)).trans hb6)
        have Hown6 := Lib.hid hown6
        clear hb6 hown6
        go_wp2
        go_roundw
        case rel => exact ⟨j + 1, Hlt.out, by go_num, by rw [Hfin.out]; exact Hown6.out, Hb6.out⟩
        case measure => simp [intOf]; have := Hlt.out; omega
      · have hq1 : ((S : Int) == s) = false := by rw [beq_eq_false_iff_ne]; exact hs
        have Hfin := Lib.hid (show (l.take (j + 1)).filter P = (l.take j).filter P from by rw [Hft.out, if_neg (by rw [HPS.out, decide_eq_false hs]; decide)])
        go_wp2
        go_roundw
        case rel => exact ⟨j + 1, Hlt.out, by go_num, by rw [Hfin.out]; exact Hown.out.below Hb3.out, Hb.out.trans (Hb3.out.mono Hb.out.size)⟩
        case measure => simp [intOf]; have := Hlt.out; omega
    · have hji : ¬ (j : Int) < (n : Int) := by omega
      obtain rfl : j = n := by omega
      have Hfin := Lib.hid (show l.take j = l from List.take_of_length_le (by omega))
      go_wp2
      go_ret
      exact ⟨_, rfl, by rw [← Hfin.out]; exact Hown.out, Hb.out⟩
end Go.Proofs.Ytfahongfokbhbaa
