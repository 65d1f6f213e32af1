/- The walk of the statement BinInverse: it returns true whatever the numbers and the bytes are. -/
import Derived.Test.YtjkpcpoplpgecaaBinOnly
import Derived.Test.YtjkpcpoplpgecaaConcat
import Derived.Deep.RegionHeld
namespace Go.Proofs.Ytjkpcpoplpgecaa
open Go.RowKit

theorem readN_form {z : Nat} (r : List Nat) (hz : z < 18446744073709551616) : readN (form z ++ r) true = (z, r, true) := by
  unfold readN
  rw [numL_of_form hz, if_pos ⟨rfl, form_pos z⟩, List.drop_left]

theorem readB_form {l : List Nat} (r : List Nat) (hl : l.length < 18446744073709551616) : readB (formB l ++ r) true = (l, r, true) := by
  unfold readB formB
  have e : numL (form l.length ++ l ++ r) 0 0 = (l.length, (form l.length).length) := by rw [List.append_assoc]; exact numL_of_form hl _
  rw [e, if_pos ⟨rfl, form_pos _, by simp only [List.length_append]; omega⟩]
  simp only [List.append_assoc, List.drop_left, List.take_left]
  rw [← List.append_assoc, show (form l.length).length + l.length = (form l.length ++ l).length by rw [List.length_append], List.drop_left]

section
variable {g : Nat} {r : List Nat} {w : World}

theorem iUint {z : Nat} (hz : z < 18446744073709551616) (hR : Rd w g (form z ++ r) true) :
    Calls Try.prog 18 #[.pointer (some ⟨g, 0, none⟩)] w fun e w' => e = .returned (.int .u64 (z : Int)) ∧ RdEnd w g (r, true) w' := by
  have h := mUint _ g _ true w w (orNone_some g w) hR
  rw [readN_form r hz] at h
  exact h

theorem iInt {y : Int} (h1 : -9223372036854775808 ≤ y) (h2 : y ≤ 9223372036854775807) (hR : Rd w g (form (foldL y) ++ r) true) :
    Calls Try.prog 20 #[.pointer (some ⟨g, 0, none⟩)] w fun e w' => e = .returned (.int .i64 y) ∧ RdEnd w g (r, true) w' := by
  have h := mInt _ g _ true w w (orNone_some g w) hR
  rw [readN_form r (fold_lt h1 h2), unfold_fold] at h
  exact h

theorem iBytes {l : List Nat} (hl : (formB l ++ r).length ≤ 1000000) (hR : Rd w g (formB l ++ r) true) :
    Calls Try.prog 22 #[.pointer (some ⟨g, 0, none⟩)] w (GiveEnd w g (l, r, true)) := by
  have h := mBytes _ g _ true w w (orNone_some g w) hR hl
  rw [readB_form r (by rw [List.length_append] at hl; unfold formB at hl; rw [List.length_append] at hl; omega)] at h
  exact h

theorem iText {l : List Nat} (hl : (formB l ++ r).length ≤ 1000000) (hR : Rd w g (formB l ++ r) true) :
    Calls Try.prog 24 #[.pointer (some ⟨g, 0, none⟩)] w fun e w' => e = .returned (.string (str l)) ∧ RdEnd w g (r, true) w' := by
  have h := mText _ g _ true w w (orNone_some g w) hR
  rw [readB_form r (by rw [List.length_append] at hl; unfold formB at hl; rw [List.length_append] at hl; omega)] at h
  exact h

theorem iTake {l : List Nat} {n : Nat} (hn : l.length = n) (hl : n ≤ 1000000) (hR : Rd w g l true) :
    Calls Try.prog 25 #[.pointer (some ⟨g, 0, none⟩), .int .i64 (n : Int)] w (GiveEnd w g (l, [], true)) := by
  have h := mTake _ g l true w w (orNone_some g w) hR (n : Int) (by omega) (by omega) (by omega)
  rw [show takeN l true (n : Int) = (l, [], true) by unfold takeN; rw [if_pos ⟨rfl, by omega, by omega⟩, Int.toNat_natCast, ← hn, List.take_length, List.drop_length]] at h
  exact h

theorem iDone (hR : Rd w g [] true) : Calls Try.prog 29 #[.pointer (some ⟨g, 0, none⟩)] w fun e w' => e = .returned (.bool true) ∧ w = w' := mDone g [] true w hR
end

/-- What the statement's reader reads. -/
def whole (x : Nat) (y : Int) (l : List Nat) : List Nat := form x ++ (formB l ++ (form (foldL y) ++ (formB l ++ l)))

theorem whole_len {x : Nat} {y : Int} {l : List Nat} (hx : x < 18446744073709551616) (h1 : -9223372036854775808 ≤ y) (h2 : y ≤ 9223372036854775807) (hl : l.length ≤ 500) : (whole x y l).length ≤ 1540 := by
  have a1 := form_len hx
  have a2 := form_len (fold_lt h1 h2)
  have a3 := form_len (x := l.length) (by omega)
  unfold whole formB
  simp only [List.length_append]
  omega

def SomeBytes (W : World) (L : List Nat) (e : Ending) (w' : World) : Prop := ∃ p m c, e = .returned (.slice p m c) ∧ m ≤ 1540 ∧ Bytes w' p m c L ∧ Below W.heap.size W w'

theorem concat_five (o n cap : Nat) (x : Nat) (y : Int) (l : List Nat) (W : World) (hx : x < 18446744073709551616) (h1 : -9223372036854775808 ≤ y) (h2 : y ≤ 9223372036854775807) (hl : l.length ≤ 500) (hb : ∀ z ∈ l, z < 256)
    (hP : Parts W (some ⟨o, 0, none⟩) n cap [form x, formB l, form (foldL y), formB l, l]) :
    Calls Try.prog 31 #[.slice (some ⟨o, 0, none⟩) n cap] W (SomeBytes W (whole x y l)) := by
  have hwl := whole_len hx h1 h2 hl
  have e : [form x, formB l, form (foldL y), formB l, l].flatten = whole x y l := by simp [whole]
  refine (concat_any _ n cap _ W hP (by rw [e]; omega)).mono ?_
  rintro e' w' ⟨v, rfl, hown, hbel⟩
  rw [e] at hown
  have hbyte : ∀ z ∈ whole x y l, z < 256 := by
    intro z hz
    unfold whole at hz
    simp only [List.mem_append] at hz
    rcases hz with hz | hz | hz | hz | hz
    · exact form_byte _ z hz
    · exact formB_byte hb z hz
    · exact form_byte _ z hz
    · exact formB_byte hb z hz
    · exact hb z hz
  obtain ⟨p, c, rfl, hB⟩ := own_slice hown hbyte
  exact ⟨p, _, c, rfl, hwl, hB, hbel⟩

set_option maxRecDepth 100000 in
set_option maxHeartbeats 3200000 in
theorem binInverse_any (x : Nat) (y : Int) (a : Option Addr) (n cap : Nat) (l : List Nat) (w : World) (hx : x < 18446744073709551616) (h1 : -9223372036854775808 ≤ y) (h2 : y ≤ 9223372036854775807) (hl : Bytes w a n cap l) :
    Calls Try.prog 5 #[.int .u64 (x : Int), .int .i64 y, .slice a n cap] w fun e w' => e = .returned (.bool true) ∧ Below w.heap.size w w' := by
  have HB := Lib.hid hl
  clear hl
  by_cases hn : n ≤ 500
  · have hw0 : Below w.heap.size w w.drew := (Below.refl _ _).drew
    have hlen : l.length ≤ 500 := by rw [HB.out.len]; exact hn
    have hn14 : n ≤ 100000000000000 := by omega
    have hl14 : l.length ≤ 100000000000000 := by omega
    have Hlen := Lib.hid hlen
    have Hl14 := Lib.hid hl14
    clear hlen hl14
    have hS0 := convert_bytes (P := Try.prog) (HB.out.grow hw0) 23 5 9 Try.underlying23 Try.underlying5 Try.underlying9
    have HU := Lib.hid (uint_any x w.drew hx)
    go_enter Try.func5, Try.ntmps5
    go_wp2
    go_region_held (fun w' => (convert 23 9 (.slice a n cap)).run Try.prog w' = .ok (.string (str l)) w')
      (first | exact hS0 | exact hS1 | exact hS2 | exact hS3 | exact hS4 | exact convert_bytes (P := Try.prog) (HB.out.grow (hw4.alloc hw4.size _)) 23 5 9 Try.underlying23 Try.underlying5 Try.underlying9 | exact hS5 | exact hS6)
      (first
        | (go_at_call 10; (with_reducible refine HU.out.mono ?_); rintro e w1 ⟨v, rfl, hown, hb⟩; have hw1 := hw0.trans (hb.mono hw0.size); obtain ⟨p1, c1, rfl, hA⟩ := own_slice hown (form_byte x); have HA1 := Lib.hid hA; have hS1 := convert_bytes (P := Try.prog) (HB.out.grow hw1) 23 5 9 Try.underlying23 Try.underlying5 Try.underlying9; clear hA hown hb hS0)
        | (go_at_call 14; (with_reducible refine (bytesF_any a n cap l w1 (HB.out.grow hw1) hn14).mono ?_); rintro e w2 ⟨v, rfl, hown, hb⟩; have hw2 := hw1.trans (hb.mono hw1.size); obtain ⟨p2, c2, rfl, hA⟩ := own_slice hown (formB_byte HB.out.byte); have HA2 := Lib.hid hA; have HA1b := Lib.hid (HA1.out.grow hb); have hS2 := convert_bytes (P := Try.prog) (HB.out.grow hw2) 23 5 9 Try.underlying23 Try.underlying5 Try.underlying9; clear hA hown hb hS1 HA1)
        | (go_at_call 12; (with_reducible refine (int_any y w2 h1 h2).mono ?_); rintro e w3 ⟨v, rfl, hown, hb⟩; have hw3 := hw2.trans (hb.mono hw2.size); obtain ⟨p3, c3, rfl, hA⟩ := own_slice hown (form_byte (foldL y)); have HA3 := Lib.hid hA; have HA1c := Lib.hid (HA1b.out.grow hb); have HA2b := Lib.hid (HA2.out.grow hb); have hS3 := convert_bytes (P := Try.prog) (HB.out.grow hw3) 23 5 9 Try.underlying23 Try.underlying5 Try.underlying9; clear hA hown hb hS2 HA2 HA1b)
        | (go_at_call 16; (with_reducible refine (textF_any l w3 HB.out.byte Hl14.out).mono ?_); rintro e w4 ⟨v, rfl, hown, hb⟩; have hw4 := hw3.trans (hb.mono hw3.size); obtain ⟨p4, c4, rfl, hA⟩ := own_slice hown (formB_byte HB.out.byte); have HA4 := Lib.hid hA; have HA1d := Lib.hid (HA1c.out.grow hb); have HA2c := Lib.hid (HA2b.out.grow hb); have HA3b := Lib.hid (HA3.out.grow hb); have hS4 := convert_bytes (P := Try.prog) (HB.out.grow hw4) 23 5 9 Try.underlying23 Try.underlying5 Try.underlying9; clear hA hown hb hS3 HA1c HA2b HA3)
        | (go_at_call 31; (with_reducible refine (concat_five _ 5 5 x y l _ hx h1 h2 Hlen.out HB.out.byte (parts_five HA1d.out HA2c.out HA3b.out HA4.out (HB.out.grow hw4) _)).mono ?_); rintro e w5 ⟨p5, m5, c5, rfl, hm5, hA, hb⟩; have hw5 := (hw4.alloc hw4.size (.cells #[.slice p1 (form x).length c1, .slice p2 (formB l).length c2, .slice p3 (form (foldL y)).length c3, .slice p4 (formB l).length c4, .slice a n cap] 23)).trans (hb.mono (hw4.alloc hw4.size _).size); have HA5 := Lib.hid hA; have hm514 : m5 ≤ 100000000000000 := (by omega); have hS5 := convert_bytes (P := Try.prog) (HB.out.grow hw5) 23 5 9 Try.underlying23 Try.underlying5 Try.underlying9; clear hA hb hS4 HA1d HA2c HA3b HA4)
        | (go_at_call 17; (with_reducible refine (new_any p5 m5 c5 _ w5 HA5.out hm514).mono ?_); rintro e w6 ⟨g, rfl, hg, hR, hb⟩; have hw6 := hw5.trans (hb.mono hw5.size); have hwg := Nat.le_trans hw5.size hg; have HR := Lib.hid hR; have hS6 := convert_bytes (P := Try.prog) (HB.out.grow hw6) 23 5 9 Try.underlying23 Try.underlying5 Try.underlying9; clear hR hb hS5 HA5))
    go_wp2
    have hw6d : Below w.heap.size w w6.drew := hw6.trans (((Below.refl _ _).drew).mono hw6.size)
    have HRd := Lib.hid (show Rd w6.drew g (form x ++ (formB l ++ (form (foldL y) ++ (formB l ++ l)))) true from HR.out.below (Below.refl _ _).drew)
    have hwl := whole_len hx h1 h2 Hlen.out
    have HL1 := Lib.hid (show (formB l ++ (form (foldL y) ++ (formB l ++ l))).length ≤ 1000000 by unfold whole at hwl; rw [List.length_append] at hwl; omega)
    have HL3 := Lib.hid (show (formB l ++ l).length ≤ 1000000 by unfold whole at hwl; rw [List.length_append, List.length_append, List.length_append] at hwl; omega)
    have Hnl := Lib.hid HB.out.len
    have hn6 : n ≤ 1000000 := by omega
    have hq := str_eq l
    have hS6d := convert_bytes (P := Try.prog) (HB.out.grow hw6d) 23 5 9 Try.underlying23 Try.underlying5 Try.underlying9
    clear hwl HR hS6
    go_region_held (fun w' => (convert 23 9 (.slice a n cap)).run Try.prog w' = .ok (.string (str l)) w')
      (first | exact hS6d | exact hS7 | exact hS8 | exact hS9 | exact hS10 | exact hS11 | exact hS12 | exact hS13 | exact hS14)
      (first
        | (go_at_call 8; (with_reducible refine (alive_any w6.drew).mono ?_); rintro e w7 ⟨rfl, hb⟩; have hw7 := hw6d.trans (hb.mono hw6d.size); have HR7 := Lib.hid (HRd.out.below hb); have hS7 := convert_bytes (P := Try.prog) (HB.out.grow hw7) 23 5 9 Try.underlying23 Try.underlying5 Try.underlying9; clear hb hS6d HRd)
        | (go_at_call 18; (with_reducible refine (iUint hx HR7.out).mono ?_); rintro e w8 ⟨rfl, hE⟩; have hw8 := below_rd hw7 hwg hE; have HR8 := Lib.hid hE.1; have hS8 := convert_bytes (P := Try.prog) (HB.out.grow hw8) 23 5 9 Try.underlying23 Try.underlying5 Try.underlying9; clear hE hS7 HR7)
        | (go_at_call 22; (with_reducible refine (iBytes HL1.out HR8.out).mono ?_); rintro e w9 ⟨p9, m9, c9, rfl, hG, hE⟩; have hw9 := below_rd hw8 hwg hE; have HR9 := Lib.hid hE.1; have HG9 := Lib.hid hG; have hS9 := convert_bytes (P := Try.prog) (HB.out.grow hw9) 23 5 9 Try.underlying23 Try.underlying5 Try.underlying9; clear hE hG hS8 HR8)
        | (go_at_call 9; (with_reducible refine (equal_yes _ _ _ _ _ _ l w9 HG9.out (HB.out.grow hw9)).mono ?_); rintro e w10 ⟨rfl, hb⟩; have hw10 := hw9.trans (hb.mono hw9.size); have HR10 := Lib.hid (HR9.out.below hb); have hS10 := convert_bytes (P := Try.prog) (HB.out.grow hw10) 23 5 9 Try.underlying23 Try.underlying5 Try.underlying9; clear hb hS9 HR9 HG9)
        | (go_at_call 20; (with_reducible refine (iInt h1 h2 HR10.out).mono ?_); rintro e w11 ⟨rfl, hE⟩; have hw11 := below_rd hw10 hwg hE; have HR11 := Lib.hid hE.1; have hS11 := convert_bytes (P := Try.prog) (HB.out.grow hw11) 23 5 9 Try.underlying23 Try.underlying5 Try.underlying9; clear hE hS10 HR10)
        | (go_at_call 24; (with_reducible refine (iText HL3.out HR11.out).mono ?_); rintro e w12 ⟨rfl, hE⟩; have hw12 := below_rd hw11 hwg hE; have HR12 := Lib.hid hE.1; have hS12 := convert_bytes (P := Try.prog) (HB.out.grow hw12) 23 5 9 Try.underlying23 Try.underlying5 Try.underlying9; clear hE hS11 HR11)
        | (go_at_call 25; (with_reducible refine (iTake Hnl.out hn6 HR12.out).mono ?_); rintro e w13 ⟨p13, m13, c13, rfl, hG, hE⟩; have hw13 := below_rd hw12 hwg hE; have HR13 := Lib.hid hE.1; have HG13 := Lib.hid hG; have hS13 := convert_bytes (P := Try.prog) (HB.out.grow hw13) 23 5 9 Try.underlying23 Try.underlying5 Try.underlying9; clear hE hG hS12 HR12)
        | (go_at_call 9; (with_reducible refine (equal_yes _ _ _ _ _ _ l w13 HG13.out (HB.out.grow hw13)).mono ?_); rintro e w14 ⟨rfl, hb⟩; have hw14 := hw13.trans (hb.mono hw13.size); have HR14 := Lib.hid (HR13.out.below hb); have hS14 := convert_bytes (P := Try.prog) (HB.out.grow hw14) 23 5 9 Try.underlying23 Try.underlying5 Try.underlying9; clear hb hS13 HR13 HG13)
        | (go_at_call 29; (with_reducible refine (iDone HR14.out).mono ?_); rintro e w15 ⟨rfl, rfl⟩))
    all_goals go_wp2
    all_goals go_ret
    all_goals exact ⟨rfl, hw14⟩
  · have hn' : (500 : Int) < (n : Int) := by omega
    go_enter Try.func5, Try.ntmps5
    go_wp2_with ((with_reducible refine (alive_any _).mono ?_); rintro e w1 ⟨rfl, hb1⟩)
    go_ret
    exact ⟨rfl, hb1⟩
end Go.Proofs.Ytjkpcpoplpgecaa
