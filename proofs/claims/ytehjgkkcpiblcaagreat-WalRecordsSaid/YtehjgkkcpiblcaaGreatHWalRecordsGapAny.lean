/- The walk of the code's Gap, at numbers of segments in ascending order. -/
import Derived.Test.YtehjgkkcpiblcaaGreatHWalRecordsGap
namespace Go.Proofs.YtehjgkkcpiblcaaGreat
open Go.RowKit Go.Shelf

/-- The least number that is missing between two neighbours. -/
def gapL : List Int → Int
  | a :: b :: r => if a + 1 < b then a + 1 else gapL (b :: r)
  | _ => 0

theorem gapL_at {L : List Int} {j : Nat} (h : j + 1 < L.length) : gapL (L.drop j) = if L[j] + 1 < L[j + 1] then L[j] + 1 else gapL (L.drop (j + 1)) := by
  rw [List.drop_eq_getElem_cons (by omega : j < L.length), List.drop_eq_getElem_cons h]
  rfl

theorem gapL_end {L : List Int} {j : Nat} (h : L.length ≤ j + 1) : gapL (L.drop j) = 0 := by
  rcases Nat.lt_or_ge j L.length with h1 | h1
  · rw [List.drop_eq_getElem_cons h1, List.drop_eq_nil_of_le h]
    rfl
  · rw [List.drop_eq_nil_of_le h1]
    rfl

/-- No number is missing exactly where each is followed by the next one. -/
theorem gapL_zero {L : List Int} (hp : ∀ x ∈ L, 0 < x) : ∀ j, gapL (L.drop j) = 0 ↔ ∀ i (h : i + 1 < L.length), j ≤ i → L[i + 1] ≤ L[i] + 1 := by
  suffices H : ∀ k j, L.length ≤ j + k → (gapL (L.drop j) = 0 ↔ ∀ i (h : i + 1 < L.length), j ≤ i → L[i + 1] ≤ L[i] + 1) from fun j => H L.length j (by omega)
  intro k
  induction k with
  | zero =>
    intro j hj
    rw [gapL_end (by omega)]
    exact ⟨fun _ i h hji => by omega, fun _ => rfl⟩
  | succ k ih =>
    intro j hj
    by_cases h : j + 1 < L.length
    · rw [gapL_at h]
      have hpos := hp L[j] (List.getElem_mem _)
      by_cases hc : L[j] + 1 < L[j + 1]
      · rw [if_pos hc]
        constructor
        · intro e; omega
        · intro q
          have := q j h (Nat.le_refl _)
          omega
      · rw [if_neg hc, ih (j + 1) (by omega)]
        constructor
        · intro q i hi hji
          rcases Nat.lt_or_eq_of_le hji with h1 | h1
          · exact q i hi h1
          · subst h1; omega
        · intro q i hi hji
          exact q i hi (by omega)
    · rw [gapL_end (by omega)]
      exact ⟨fun _ i h' hji => by omega, fun _ => rfl⟩

set_option maxRecDepth 100000 in
set_option maxHeartbeats 3200000 in
theorem gap_any (p : Option Addr) (n c : Nat) (L : List Int) (w : World) (hI : Ints w p n c L) (hn : n ≤ 1000000) (hs : Asc L) (hp : ∀ x ∈ L, 0 < x ∧ x ≤ 1000000000) :
    Calls Tryz.prog 25 #[.slice p n c] w fun e w' => e = .returned (.int .i64 (gapL L)) ∧ Below w.heap.size w w' := by
  have hb1 := (Below.refl w.heap.size w).alloc (Nat.le_refl _) (.cells #[.slice p n c] 40)
  have HV := Lib.hid (values_any p n c w)
  have HS := Lib.hid (sorted_any p n c L w.heap.size (w.alloc (.cells #[.slice p n c] 40)) (hI.grow hb1) (Boxed.new w 40 (.slice p n c)).cell hn hs)
  have Hb1 := Lib.hid hb1
  have Hln := Lib.hid hI.len
  have Hp := Lib.hid hp
  clear hI hs hb1 hp
  go_enter Tryz.func25, Tryz.ntmps25
  go_wp2_with fail
  refine HV.out.mono ?_
  rintro e w1 ⟨rfl, rfl⟩
  go_wp2_with fail
  refine HS.out.mono ?_
  rintro e w2 ⟨q, cp, rfl, hI2, hb2⟩
  have HI2 := Lib.hid hI2
  have Hb2 := Lib.hid (Hb1.out.trans (hb2.mono Hb1.out.size))
  clear hI2 hb2 HV HS
  go_wp2_with fail
  go_loopw [13] (fun i wr => ∃ j : Nat, (j : Int) ≤ max ((n : Int) - 1) 0 ∧ i = .int .i64 (j : Int) ∧ gapL L = gapL (L.drop j) ∧ Below w2.heap.size w2 wr) (fun i _ => n - (intOf i).toNat)
  case atStart => exact ⟨0, by omega, rfl, rfl, Below.refl _ _⟩
  case round =>
    obtain ⟨j, hj, rfl, hg, hb⟩ := hrel
    have Hb := Lib.hid hb
    have Hbw := Lib.hid (Hb2.out.trans (hb.mono Hb2.out.size))
    have hln := Hln.out
    by_cases hlt : j + 1 < n
    · obtain ⟨b, o, rfl, hc0⟩ := (HI2.out.grow hb).cell (by omega)
      have hc := hc0 j (by omega)
      have hc2 := hc0 (j + 1) hlt
      have hj0 : j < L.length := by omega
      have hj1 : j + 1 < L.length := by omega
      have e1 : L.getD j 0 = L[j] := by rw [List.getD_eq_getElem?_getD, List.getElem?_eq_getElem hj0]; rfl
      have e2 : L.getD (j + 1) 0 = L[j + 1] := by rw [List.getD_eq_getElem?_getD, List.getElem?_eq_getElem hj1]; rfl
      rw [e1] at hc
      rw [e2] at hc2
      have hat := gapL_at hj1
      obtain ⟨p1, p2⟩ := Hp.out L[j] (List.getElem_mem _)
      obtain ⟨p3, p4⟩ := Hp.out L[j + 1] (List.getElem_mem _)
      rw [← hg] at hat
      have Hat := Lib.hid hat
      generalize L[j] = x at *
      generalize L[j + 1] = y at *
      have hji : (j : Int) < (n : Int) - 1 := by omega
      have hj64 : (j : Int) + 1 < (n : Int) := by omega
      have hx1 : ¬ y ≤ x ∨ y ≤ x := by omega
      clear hc0 e1 e2 hg hat hj hb
      by_cases hxy : x < y
      · by_cases hxy2 : x + 1 < y
        · have hr := Hat.out
          rw [if_pos hxy2] at hr
          have Hr := Lib.hid hr
          clear hr
          go_wp2
          go_region
          go_wp2
          go_ret
          exact ⟨by rw [Hr.out]; rfl, Hbw.out.drew⟩
        · have hr := Hat.out
          rw [if_neg hxy2] at hr
          have Hr := Lib.hid hr
          clear hr
          go_wp2
          go_region
          go_wp2
          go_roundw
          case rel => exact ⟨j + 1, by omega, by go_num, Hr.out, Hb.out.drew⟩
          case measure => simp [intOf]; omega
      · have hr := Hat.out
        rw [if_neg (by omega)] at hr
        have Hr := Lib.hid hr
        clear hr
        go_wp2
        go_region
        go_wp2
        go_roundw
        case rel => exact ⟨j + 1, by omega, by go_num, Hr.out, Hb.out.drew⟩
        case measure => simp [intOf]; omega
    · have hji : ¬ (j : Int) < (n : Int) - 1 := by omega
      have hend := gapL_end (L := L) (j := j) (by omega)
      rw [← hg] at hend
      have Hend := Lib.hid hend
      clear hg hend hb
      go_wp2
      go_ret
      exact ⟨by rw [Hend.out]; rfl, Hbw.out⟩
end Go.Proofs.YtehjgkkcpiblcaaGreat
