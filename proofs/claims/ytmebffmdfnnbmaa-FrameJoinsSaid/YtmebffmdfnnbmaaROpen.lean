/- The walks of the reference's Seal and Open. -/
import Derived.Test.YtmebffmdfnnbmaaSeal
import Derived.Deep.RegionHeld
namespace Go.Proofs.Ytmebffmdfnnbmaa
open Go.RowKit Crc

theorem rseal_any (a : Option Addr) (n cap : Nat) (l : List Nat) (w : World) (hl : Bytes w a n cap l) (hn : n ≤ 100000000000000) :
    Calls Try.prog 33 #[.slice a n cap] w (NewBytes w (sealL l)) := by
  have hbel : Below w.heap.size w (w.alloc (.cells #[] 5)) := (Below.refl _ _).alloc (Nat.le_refl _) _
  have hB := Lib.hid (hl.grow hbel)
  have HB0 := Lib.hid hl
  have hown : (w.alloc (.cells #[] 5)).ownsRow w.heap.size 5 1 (.slice (some ⟨w.heap.size, 0, none⟩) 0 0) 0 (u8s []) := World.ownsRow_made w #[] 0 (Nat.le_refl _) (Nat.zero_le _) rfl
  have Hown := Lib.hid hown
  have hs : inv (feedL 4294967295 l) < 4294967296 := by unfold inv; omega
  clear hl hown
  go_enter Try.func33, Try.ntmps33
  go_wp2_with (at_builtin; refine wpList_append_bytes _ rfl _ _ 25 rfl w.heap.size 5 Try.underlying25 info_u8 _ _ _ rfl Hown.out a n cap l rfl hB.out (by omega) hbel.size ?_; intro v' w1 g1 g2)
  have g1' : w1.ownsRow w.heap.size 5 1 v' n (u8s l) := by simpa using g1
  have hb1 : Below w.heap.size w w1 := hbel.grown g2 hbel.size (fun k hk => (Hown.out.lt k hk).1)

  clear g1 g2
  refine (rsum_any a n cap l w1 (HB0.out.grow hb1)).mono ?_
  rintro e w1 ⟨rfl, rfl⟩
  go_wp2_with fail
  refine (little_any _ w1 hs).mono ?_
  rintro e w2 ⟨v, rfl, hown2, hb2⟩
  obtain ⟨p, cp, rfl, hC⟩ := own_slice hown2 (little_lt hs)
  have HC := Lib.hid hC
  have g3 := Lib.hid (own_below g1' hb2)
  have hb2' := hb1.trans (hb2.mono hb1.size)
  clear hown2 hC g1'
  go_wp2_with (at_builtin; refine wpList_append_bytes _ rfl _ _ 25 rfl w.heap.size 5 Try.underlying25 info_u8 _ _ _ rfl g3.out p _ cp _ rfl HC.out (by rw [little_len]; omega) hb2'.size ?_; intro v2 w3 g4 g5)
  go_ret
  refine ⟨_, rfl, ?_, hb2'.grown g5 hb2'.size (fun k hk => (g3.out.lt k hk).1)⟩
  rw [sealL_len, HB0.out.len]
  exact g4

theorem ropen_short (a : Option Addr) (n cap : Nat) (l : List Nat) (w : World) (hl : Bytes w a n cap l) (hn : n < 4) :
    Calls Try.prog 28 #[.slice a n cap] w (OpenEnd w l) := by
  have hB := Lib.hid hl
  clear hl
  have hd : decide ((n : Int) - 4 < 0) = true := decide_eq_true (by omega)
  go_enter Try.func28, Try.ntmps28
  go_wp2
  go_quiet (fail)
  go_wp2
  go_ret2
  exact ⟨below_drewN (Below.refl _ _) _, .inr ⟨fun b h => by have := sealL_len b; rw [h, hB.out.len] at this; omega, rfl⟩⟩

set_option maxHeartbeats 1600000 in
theorem ropen_long (b o m cap : Nat) (l : List Nat) (w : World) (hl : Bytes w (some ⟨b, o, none⟩) (m + 4) cap l) (hm : m ≤ 100000000000000) :
    Calls Try.prog 28 #[.slice (some ⟨b, o, none⟩) (m + 4) cap] w (OpenEnd w l) := by
  have HB := Lib.hid hl
  have hle := hl.le
  have HT := Lib.hid (hl.takeTo (m := m) (c := cap) (by omega) (by omega) (Nat.le_refl _))
  have HD := hl.dropTo (m := m) (by omega)
  rw [show m + 4 - m = 4 by omega] at HD
  have HD := Lib.hid HD
  rename_i HD0; clear hl HD0
  have hd : decide ((m : Int) < 0) = false := decide_eq_false (by omega)
  have hbd : Below w.heap.size w w.drew := (Below.refl _ _).drew
  have HTd := Lib.hid (HT.out.grow hbd)
  have HDd := Lib.hid (HD.out.grow hbd)
  have hs : inv (feedL 4294967295 (l.take m)) < 4294967296 := by unfold inv; omega
  have HR := Lib.hid (rsum_any (some ⟨b, o, none⟩) m cap (l.take m) w.drew HTd.out)
  have HL := Lib.hid (little_any (inv (feedL 4294967295 (l.take m))) w.drew hs)
  have hsl : sealL (l.take m) = l.take m ++ little (inv (feedL 4294967295 (l.take m))) := rfl
  generalize inv (feedL 4294967295 (l.take m)) = s at *
  have Hsl := Lib.hid hsl
  clear hsl
  have hS0 := convert_bytes (P := Try.prog) HDd.out 25 5 9 Try.underlying25 Try.underlying5 Try.underlying9
  have hcm : ¬ (cap = m) := by omega
  have hi1 : (m : Int) ≤ (cap : Int) := by omega
  have hi2 : (0 : Int) ≤ (m : Int) := by omega
  have hi3 : (m : Int) ≤ (m : Int) + 4 := by omega
  have hi4 : (m : Int) + 4 ≤ (cap : Int) := by omega
  by_cases hq : little s = l.drop m
  · have hqb : ((str (little s)).toList == (str (l.drop m)).toList) = true := by rw [hq]; exact str_eq _
    have Hq := Lib.hid hq
    clear hq
    go_enter Try.func28, Try.ntmps28
    go_wp2
    go_region_held (fun w' => (convert 25 9 (.slice (some ⟨b, o + m, none⟩) 4 (cap - m))).run Try.prog w' = .ok (.string (str (l.drop m))) w')
      (first | exact hS0 | exact hS1)
      (first
        | (go_at_call 37; (with_reducible refine HR.out.mono ?_); rintro e w0 ⟨rfl, rfl⟩)
        | (go_at_call 34; (with_reducible refine HL.out.mono ?_); rintro e w1 ⟨v, rfl, hown, hb1⟩; obtain ⟨p, cp, rfl, hC⟩ := own_slice hown (little_lt hs); have hS1 := convert_bytes (P := Try.prog) (HDd.out.grow hb1) 25 5 9 Try.underlying25 Try.underlying5 Try.underlying9; have hS2 := convert_bytes (P := Try.prog) hC 25 5 9 Try.underlying25 Try.underlying5 Try.underlying9; clear hown hC))
    all_goals go_wp2
    all_goals go_ret2
    all_goals exact ⟨hbd.trans hb1, .inl ⟨l.take m, by rw [Hsl.out, Hq.out, List.take_append_drop], _, _, _, rfl, HTd.out.grow hb1⟩⟩
  · have hqb : ((str (little s)).toList == (str (l.drop m)).toList) = false := str_ne (little_lt hs) HD.out.byte hq
    have Hq := Lib.hid hq
    clear hq
    go_enter Try.func28, Try.ntmps28
    go_wp2
    go_region_held (fun w' => (convert 25 9 (.slice (some ⟨b, o + m, none⟩) 4 (cap - m))).run Try.prog w' = .ok (.string (str (l.drop m))) w')
      (first | exact hS0 | exact hS1)
      (first
        | (go_at_call 37; (with_reducible refine HR.out.mono ?_); rintro e w0 ⟨rfl, rfl⟩)
        | (go_at_call 34; (with_reducible refine HL.out.mono ?_); rintro e w1 ⟨v, rfl, hown, hb1⟩; obtain ⟨p, cp, rfl, hC⟩ := own_slice hown (little_lt hs); have hS1 := convert_bytes (P := Try.prog) (HDd.out.grow hb1) 25 5 9 Try.underlying25 Try.underlying5 Try.underlying9; have hS2 := convert_bytes (P := Try.prog) hC 25 5 9 Try.underlying25 Try.underlying5 Try.underlying9; clear hown hC))
    all_goals go_wp2
    all_goals go_ret2
    all_goals refine ⟨hbd.trans hb1, .inr ⟨fun x hx => Hq.out ?_, rfl⟩⟩
    all_goals
      have hlx : x.length = m := by have := sealL_len x; rw [hx, HB.out.len] at this; omega
      have e1 : l.take m = x := by rw [← hx, ← hlx]; exact List.take_left
      have e2 : l = l.take m ++ little s := by rw [← Hsl.out, e1, hx]
      have e3 : l.drop m = little s := by
        conv => lhs; rw [e2]
        rw [List.drop_append_of_le_length (by rw [List.length_take, HB.out.len]; omega), List.drop_eq_nil_of_le (by rw [List.length_take]; omega)]; rfl
      exact e3.symm

theorem ropen_any (a : Option Addr) (n cap : Nat) (l : List Nat) (w : World) (hl : Bytes w a n cap l) (hm : n ≤ 100000000000000) :
    Calls Try.prog 28 #[.slice a n cap] w (OpenEnd w l) := by
  by_cases hn : n < 4
  · exact ropen_short a n cap l w hl hn
  · obtain ⟨b, o, rfl, _⟩ := hl.cell (by omega)
    obtain ⟨m, rfl⟩ : ∃ m, n = m + 4 := ⟨n - 4, by omega⟩
    exact ropen_long b o m cap l w hl (by omega)
end Go.Proofs.Ytmebffmdfnnbmaa
