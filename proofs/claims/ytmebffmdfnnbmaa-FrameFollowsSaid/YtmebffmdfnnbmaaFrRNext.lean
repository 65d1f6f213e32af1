/- The walk of the reference's Next. -/
import Derived.Test.YtmebffmdfnnbmaaFrNext
import Derived.Deep.RegionHeld
import Derived.BigQuiet
namespace Go.Proofs.Ytmebffmdfnnbmaa
open Go.RowKit Crc

/-- What the reference's Open answers: the bytes lie where they lay. -/
def OpenAt (b o m cap : Nat) (w : World) (l : List Nat) (e : Ending) (w' : World) : Prop :=
  Below w.heap.size w w' ∧ ((∃ x, sealL x = l ∧ e = .returned (.tuple #[.slice (some ⟨b, o, none⟩) m cap, .bool true]) ∧ Bytes w' (some ⟨b, o, none⟩) m cap x) ∨ ((∀ b, sealL b ≠ l) ∧ e = .returned (.tuple #[.slice none 0 0, .bool false])))

set_option maxHeartbeats 1600000 in
theorem ropen_at (b o m cap : Nat) (l : List Nat) (w : World) (hl : Bytes w (some ⟨b, o, none⟩) (m + 4) cap l) (hm : m ≤ 100000000000000) :
    Calls Try.prog 28 #[.slice (some ⟨b, o, none⟩) (m + 4) cap] w (OpenAt b o m cap w l) := by
  have HB := Lib.hid hl
  have hle := hl.le
  have HT := Lib.hid (hl.takeTo (m := m) (c := cap) (by omega) (by omega) (Nat.le_refl _))
  have HD := hl.dropTo (m := m) (by omega)
  rw [show m + 4 - m = 4 by omega] at HD
  have HD := Lib.hid HD
  rename_i HD0; clear hl HD0
  have hd : decide ((m : Int) < 0) = false := decide_eq_false (by omega)
  have hbd : Below w.heap.size w w.drew := (Below.refl _ _).drew
  have HTd := Lib.hid (HT.out.grow hbd)
  have HDd := Lib.hid (HD.out.grow hbd)
  have hs : inv (feedL 4294967295 (l.take m)) < 4294967296 := by unfold inv; omega
  have HR := Lib.hid (rsum_any (some ⟨b, o, none⟩) m cap (l.take m) w.drew HTd.out)
  have HL := Lib.hid (little_any (inv (feedL 4294967295 (l.take m))) w.drew hs)
  have hsl : sealL (l.take m) = l.take m ++ little (inv (feedL 4294967295 (l.take m))) := rfl
  generalize inv (feedL 4294967295 (l.take m)) = s at *
  have Hsl := Lib.hid hsl
  clear hsl
  have hS0 := convert_bytes (P := Try.prog) HDd.out 25 5 9 Try.underlying25 Try.underlying5 Try.underlying9
  have hcm : ¬ (cap = m) := by omega
  have hi1 : (m : Int) ≤ (cap : Int) := by omega
  have hi2 : (0 : Int) ≤ (m : Int) := by omega
  have hi3 : (m : Int) ≤ (m : Int) + 4 := by omega
  have hi4 : (m : Int) + 4 ≤ (cap : Int) := by omega
  by_cases hq : little s = l.drop m
  · have hqb : ((str (little s)).toList == (str (l.drop m)).toList) = true := by rw [hq]; exact str_eq _
    have Hq := Lib.hid hq
    clear hq
    go_enter Try.func28, Try.ntmps28
    go_wp2
    go_region_held (fun w' => (convert 25 9 (.slice (some ⟨b, o + m, none⟩) 4 (cap - m))).run Try.prog w' = .ok (.string (str (l.drop m))) w')
      (first | exact hS0 | exact hS1)
      (first
        | (go_at_call 37; (with_reducible refine HR.out.mono ?_); rintro e w0 ⟨rfl, rfl⟩)
        | (go_at_call 34; (with_reducible refine HL.out.mono ?_); rintro e w1 ⟨v, rfl, hown, hb1⟩; obtain ⟨p, cp, rfl, hC⟩ := own_slice hown (little_lt hs); have hS1 := convert_bytes (P := Try.prog) (HDd.out.grow hb1) 25 5 9 Try.underlying25 Try.underlying5 Try.underlying9; have hS2 := convert_bytes (P := Try.prog) hC 25 5 9 Try.underlying25 Try.underlying5 Try.underlying9; clear hown hC))
    all_goals go_wp2
    all_goals go_ret2
    all_goals exact ⟨hbd.trans hb1, .inl ⟨l.take m, by rw [Hsl.out, Hq.out, List.take_append_drop], rfl, HTd.out.grow hb1⟩⟩
  · have hqb : ((str (little s)).toList == (str (l.drop m)).toList) = false := str_ne (little_lt hs) HD.out.byte hq
    have Hq := Lib.hid hq
    clear hq
    go_enter Try.func28, Try.ntmps28
    go_wp2
    go_region_held (fun w' => (convert 25 9 (.slice (some ⟨b, o + m, none⟩) 4 (cap - m))).run Try.prog w' = .ok (.string (str (l.drop m))) w')
      (first | exact hS0 | exact hS1)
      (first
        | (go_at_call 37; (with_reducible refine HR.out.mono ?_); rintro e w0 ⟨rfl, rfl⟩)
        | (go_at_call 34; (with_reducible refine HL.out.mono ?_); rintro e w1 ⟨v, rfl, hown, hb1⟩; obtain ⟨p, cp, rfl, hC⟩ := own_slice hown (little_lt hs); have hS1 := convert_bytes (P := Try.prog) (HDd.out.grow hb1) 25 5 9 Try.underlying25 Try.underlying5 Try.underlying9; have hS2 := convert_bytes (P := Try.prog) hC 25 5 9 Try.underlying25 Try.underlying5 Try.underlying9; clear hown hC))
    all_goals go_wp2
    all_goals go_ret2
    all_goals refine ⟨hbd.trans hb1, .inr ⟨fun x hx => Hq.out ?_, rfl⟩⟩
    all_goals
      have hlx : x.length = m := by have := sealL_len x; rw [hx, HB.out.len] at this; omega
      have e1 : l.take m = x := by rw [← hx, ← hlx]; exact List.take_left
      have e2 : l = l.take m ++ little s := by rw [← Hsl.out, e1, hx]
      have e3 : l.drop m = little s := by
        conv => lhs; rw [e2]
        rw [List.drop_append_of_le_length (by rw [List.length_take, HB.out.len]; omega), List.drop_eq_nil_of_le (by rw [List.length_take]; omega)]; rfl
      exact e3.symm

/-- What the reference's Next answers: the record lies where the bytes lay that came in. -/
def RNextEnd (a : Option Addr) (w : World) (l : List Nat) (e : Ending) (w' : World) : Prop :=
  Below w.heap.size w w' ∧ ((∃ r t p cp, l = frameL r ++ t ∧ r.length ≤ 1048576 ∧ e = .returned (.tuple #[.slice p r.length cp, .int .i64 ((r.length + 8 : Nat) : Int)]) ∧ Bytes w' p r.length cp r ∧
      (∀ x, p = some x → ∃ y, a = some y ∧ x.block = y.block)) ∨
    (NoFrame l ∧ e = .returned (.tuple #[.slice none 0 0, .int .i64 0])))

/-- 'x[4:]'. -/
theorem slice_rec4 (g o N cap : Nat) (hc : N + 4 ≤ cap) : ∃ p, (∀ w : World, (Instr.slice 25 (.slice (some ⟨g, o, none⟩) (N + 4) cap) (some (.int .i64 4)) none none).run Try.prog w = .ok (.slice p N (cap - 4)) w) ∧
    (∀ x, p = some x → x.block = g) ∧ (0 < N → p = some ⟨g, o + 4, none⟩) ∧ p ≠ none := by
  obtain ⟨i, hi, _, hsz, _⟩ := info_parts info_u8
  have hT' : Try.prog.underlying 25 = some (.slice (Try.prog.elem 25)) := by kernel_rfl
  have hE : Try.prog.elem 25 = 5 := by kernel_rfl
  have hsize : ∀ w : World, (sizeOf (Try.prog.elem 25)).run Try.prog w = .ok 1 w := fun w => by rw [hE]; simp [sizeOf, typeInfo, hi, hsz]
  refine ⟨if cap = 4 then some ⟨g, o, none⟩ else (some ⟨g, o, none⟩ : Option Addr).map (·.add (4 * 1)), fun w => ?_, fun x hx => ?_, fun h => ?_, ?_⟩
  · rw [show (Value.int .i64 4) = .int .i64 ((4 : Nat) : Int) from rfl, run_slice_l w 25 (some ⟨g, o, none⟩) (N + 4) cap hT' .i64 ((4 : Nat) : Int) (by omega) (by omega), hsize]
    rfl
  · split at hx
    · cases hx; rfl
    · simp only [Option.map_some, addr_add] at hx
      cases hx; rfl
  · rw [if_neg (by omega)]
    simp only [Option.map_some, addr_add]
  · split <;> simp

theorem rnext_short (a : Option Addr) (n cap : Nat) (l : List Nat) (w : World) (hl : Bytes w a n cap l) (hn : n < 8) :
    Calls Try.prog 17 #[.slice a n cap] w (RNextEnd a w l) := by
  have HB := Lib.hid hl
  clear hl
  go_enter Try.func17, Try.ntmps17
  go_wp2
  go_ret2
  exact ⟨Below.refl _ _, .inr ⟨noFrame_short (by rw [HB.out.len]; exact hn), rfl⟩⟩

theorem rnext_long (b o n cap : Nat) (l : List Nat) (w : World) (hl : Bytes w (some ⟨b, o, none⟩) n cap l) (hn : 8 ≤ n) (hm : n ≤ 100000000000000) :
    Calls Try.prog 17 #[.slice (some ⟨b, o, none⟩) n cap] w (RNextEnd (some ⟨b, o, none⟩) w l) := by
  have HB := Lib.hid hl
  have hle := hl.le
  have hcm := hl.capmax
  obtain ⟨b', o', e, hc⟩ := hl.cell (by omega)
  cases e
  have c0 : w.cell? ⟨b, o, none⟩ = some (.int .u8 (byteAt l 0 : Nat)) := hc 0 (by omega)
  have c1 : w.cell? ⟨b, o + 1, none⟩ = some (.int .u8 (byteAt l 1 : Nat)) := hc 1 (by omega)
  have c2 : w.cell? ⟨b, o + 2, none⟩ = some (.int .u8 (byteAt l 2 : Nat)) := hc 2 (by omega)
  have c3 : w.cell? ⟨b, o + 3, none⟩ = some (.int .u8 (byteAt l 3 : Nat)) := hc 3 (by omega)
  have b0 := byteAt_lt hl.byte 0
  have b1 := byteAt_lt hl.byte 1
  have b2 := byteAt_lt hl.byte 2
  have b3 := byteAt_lt hl.byte 3
  obtain ⟨N, hN⟩ : ∃ N, N = num4 l := ⟨_, rfl⟩
  have hsum : ((byteAt l 0 : Nat) : Int) + ((byteAt l 1 : Nat) : Int) * 256 + ((byteAt l 2 : Nat) : Int) * 65536 + ((byteAt l 3 : Nat) : Int) * 16777216 = (N : Int) := by
    have e : N = byteAt l 0 + 256 * byteAt l 1 + 65536 * byteAt l 2 + 16777216 * byteAt l 3 := hN
    omega
  have Hsum := Lib.hid hsum
  have HF := Lib.hid hN
  clear hc hl hsum hN
  go_enter Try.func17, Try.ntmps17
  go_wp2
  go_quiet (fail)
  rw [Hsum.out]
  have hb1 := below_drewN (Below.refl w.heap.size w) nq
  generalize w.drewN nq = w1 at *
  generalize byteAt l 0 = x0 at *
  generalize byteAt l 1 = x1 at *
  generalize byteAt l 2 = x2 at *
  generalize byteAt l 3 = x3 at *
  have Hb1 := Lib.hid hb1
  clear c0 c1 c2 c3 b0 b1 b2 b3 Hsum hb1
  by_cases hN : N ≤ 1048576
  · have hN1 : (N : Int) ≤ 1048576 := by omega
    by_cases hN2 : N + 8 ≤ n
    · have hN3 : (N : Int) ≤ (n : Int) - 8 := by omega
      have hT : Bytes w1 (some ⟨b, o, none⟩) (N + 8) cap (l.take (N + 8)) := (HB.out.grow Hb1.out).takeTo hN2 (by omega) (Nat.le_refl _)
      have HO := Lib.hid (ropen_at b o (N + 4) cap (l.take (N + 8)) w1 hT (by omega))
      clear hT
      go_wp2_with fail
      refine HO.out.mono ?_
      rintro e w2 ⟨hb2, ⟨x, hx, rfl, hC⟩ | ⟨hno, rfl⟩⟩
      · have hxl : x.length = N + 4 := hC.len
        obtain ⟨p, hp, hpb, hp4, hpn⟩ := slice_rec4 b o N cap (by omega)
        have HX := Lib.hid (frame_of_seal HF.out (by rw [HB.out.len]; exact hN2) hx HB.out.byte)
        have HC := Lib.hid hC
        have Hx := Lib.hid hxl
        have Hb2 := Lib.hid (Hb1.out.trans (hb2.mono Hb1.out.size))
        have Hp := Lib.hid hpb
        have Hp4 := Lib.hid hp4
        have Hpn := Lib.hid hpn
        clear hC hxl hx hb2 hpb hp4 HO hpn
        go_wp2
        go_ret2
        obtain ⟨e1, e2⟩ := HX.out
        refine ⟨Hb2.out, .inl ⟨x.drop 4, l.drop (N + 8), p, cap - 4, e1, by omega, by rw [e2]; rfl, ?_, fun y hy => ⟨_, rfl, Hp.out y hy⟩⟩⟩
        rw [e2]
        rcases Nat.eq_zero_or_pos N with h0 | h0
        · have e3 : x.drop 4 = [] := List.length_eq_zero_iff.1 (by omega)
          rw [e3, h0]
          exact bytes_none (by omega) (fun h => absurd h Hpn.out)
        · rw [Hp4.out h0]
          have hd := HC.out.dropTo (m := 4) (by omega)
          rw [show N + 4 - 4 = N by omega] at hd
          exact hd
      · have Hno := Lib.hid hno
        have Hb2 := Lib.hid (Hb1.out.trans (hb2.mono Hb1.out.size))
        clear hno hb2 HO
        go_wp2
        go_ret2
        exact ⟨Hb2.out, .inr ⟨noFrame_seal HF.out Hno.out, rfl⟩⟩
    · have hN3 : (n : Int) - 8 < (N : Int) := by omega
      go_wp2
      go_ret2
      exact ⟨Hb1.out, .inr ⟨noFrame_len (by rw [HB.out.len, ← HF.out]; omega), rfl⟩⟩
  · have hN1 : 1048576 < (N : Int) := by omega
    go_wp2
    go_ret2
    exact ⟨Hb1.out, .inr ⟨noFrame_most (by rw [← HF.out]; omega), rfl⟩⟩

theorem rnext_any (a : Option Addr) (n cap : Nat) (l : List Nat) (w : World) (hl : Bytes w a n cap l) (hm : n ≤ 100000000000000) :
    Calls Try.prog 17 #[.slice a n cap] w (RNextEnd a w l) := by
  by_cases hn : n < 8
  · exact rnext_short a n cap l w hl hn
  · obtain ⟨b, o, rfl, _⟩ := hl.cell (by omega)
    exact rnext_long b o n cap l w hl (by omega) hm
end Go.Proofs.Ytmebffmdfnnbmaa
