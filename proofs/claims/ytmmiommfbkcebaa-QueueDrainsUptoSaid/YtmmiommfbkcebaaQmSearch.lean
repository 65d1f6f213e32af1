/- The walks of the library's order of numbers, of an item's compare, and of slices.BinarySearchFunc by it. -/
import Derived.Test.YtmmiommfbkcebaaQmDel
import Derived.BigQuiet
import Derived.Deep.RegionHeld3
import Derived.Deep.Cut
namespace Go.Proofs.Ytmmiommfbkcebaa
open Go.RowKit

/-- The order of two numbers. -/
def cmpU (a b : Nat) : Int := if a < b then -1 else if b < a then 1 else 0

theorem cmpU_neg (a b : Nat) : cmpU a b < 0 ↔ a < b := by
  unfold cmpU
  split
  · exact ⟨fun _ => by assumption, fun _ => by decide⟩
  · split
    · exact ⟨fun h => absurd h (by decide), fun h => by omega⟩
    · exact ⟨fun h => absurd h (by decide), fun h => by omega⟩

set_option maxRecDepth 100000 in
theorem nan_any (a : Nat) (w : World) : Calls Try.prog 34 #[.int .u64 (a : Int)] w fun r w' => r = .returned (.bool false) ∧ w' = w := by
  go_enter Try.func34, Try.ntmps34
  go_wp2
  go_ret
  exact ⟨ret_bool (by simp), rfl⟩

set_option maxRecDepth 100000 in
theorem cmp_any (a b : Nat) (w : World) : Calls Try.prog 33 #[.int .u64 (a : Int), .int .u64 (b : Int)] w fun r w' => r = .returned (.int .i64 (cmpU a b)) ∧ w' = w := by
  have HN := Lib.hid (fun a w => nan_any a w)
  unfold cmpU
  by_cases h1 : a < b
  · rw [if_pos h1]
    have hq : (a : Int) < (b : Int) := by omega
    go_enter Try.func33, Try.ntmps33
    go_wp2_with fail
    refine (HN.out a _).mono ?_
    rintro r w1 ⟨rfl, rfl⟩
    go_wp2_with fail
    refine (HN.out b _).mono ?_
    rintro r w1 ⟨rfl, rfl⟩
    go_wp2
    go_ret
    exact ⟨rfl, rfl⟩
  · rw [if_neg h1]
    have hq : ¬ (a : Int) < (b : Int) := by omega
    by_cases h2 : b < a
    · rw [if_pos h2]
      have hq2 : (b : Int) < (a : Int) := by omega
      go_enter Try.func33, Try.ntmps33
      go_wp2_with fail
      refine (HN.out a _).mono ?_
      rintro r w1 ⟨rfl, rfl⟩
      go_wp2_with fail
      refine (HN.out b _).mono ?_
      rintro r w1 ⟨rfl, rfl⟩
      go_wp2
      go_ret
      exact ⟨rfl, rfl⟩
    · rw [if_neg h2]
      have hq2 : ¬ (b : Int) < (a : Int) := by omega
      go_enter Try.func33, Try.ntmps33
      go_wp2_with fail
      refine (HN.out a _).mono ?_
      rintro r w1 ⟨rfl, rfl⟩
      go_wp2_with fail
      refine (HN.out b _).mono ?_
      rintro r w1 ⟨rfl, rfl⟩
      go_wp2
      go_ret
      exact ⟨rfl, rfl⟩

set_option maxRecDepth 100000 in
theorem compare_any (x : Int) (n m : Nat) (w : World) : Calls Try.prog 30 #[.agg #[.int .i64 x, .int .u64 (n : Int)], .int .u64 (m : Int)] w fun r w' => r = .returned (.int .i64 (cmpU n m)) ∧ Below w.heap.size w w' := by
  have HC := Lib.hid (fun w => cmp_any n m w)
  obtain ⟨w1, hw1⟩ : ∃ w1, w1 = w.alloc (.cells #[.int .i64 x, .int .u64 (n : Int)] 59) := ⟨_, rfl⟩
  have d1 : w1.cell? ⟨w.heap.size, 1, none⟩ = some (.int .u64 (n : Int)) := by rw [hw1, cell_of_row _ _ _ _ _ (0, 0) (heap_alloc_new _ _)]; rfl
  have Hb := Lib.hid (show Below w.heap.size w w1 from by rw [hw1]; exact (Below.refl _ _).alloc (Nat.le_refl _) _)
  go_enter Try.func30, Try.ntmps30
  go_upto_region 1 with fail
  rw [← hw1]
  clear hw1
  go_wp2_with fail
  refine (HC.out _).mono ?_
  rintro r w2 ⟨rfl, rfl⟩
  go_wp2
  go_ret
  exact ⟨rfl, Hb.out⟩

/-- The items l lie at the beginning of a slice. -/
structure Items (w : World) (p : Option Addr) (n c : Nat) (l : List (Int × Nat)) : Prop where
  len : l.length = n
  le : n ≤ c
  max : c ≤ 9223372036854775807
  cell : 0 < n → ∃ b o, p = some ⟨b, o, none⟩ ∧ ∀ (i : Nat) (x : Int × Nat), l[i]? = some x → w.cell? ⟨b, o + i * 2, none⟩ = some (.int .i64 x.1) ∧ w.cell? ⟨b, o + i * 2 + 1, none⟩ = some (.int .u64 (x.2 : Int))

theorem Items.below {w w' : World} {p : Option Addr} {n c : Nat} {l : List (Int × Nat)} (h : Items w p n c l) (hb : Below w.heap.size w w') : Items w' p n c l :=
  ⟨h.len, h.le, h.max, fun hn => by obtain ⟨b, o, e, hc⟩ := h.cell hn; exact ⟨b, o, e, fun i x hi => ⟨cell_below hb (hc i x hi).1, cell_below hb (hc i x hi).2⟩⟩⟩

theorem items_of {w : World} {base : Nat} {v : Value} {l : List (Int × Nat)} (h : ItI w base v l) : ∃ p c, v = .slice p l.length c ∧ Items w p l.length c l := by
  rcases Nat.eq_zero_or_pos l.length with h0 | h0
  · obtain ⟨p, c, rfl, h1, h2⟩ := h.slice
    exact ⟨p, c, rfl, rfl, h1, h2, fun h => by omega⟩
  · obtain ⟨g, o, c, rfl, h1, h2, h3⟩ := h.cell h0
    exact ⟨_, c, rfl, rfl, h1, h2, fun _ => ⟨g, o, rfl, h3⟩⟩

/-- What a search leaves. -/
def SeEnd (w : World) (K : Nat) (r : Ending) (w' : World) : Prop := ∃ b, r = .returned (.tuple #[.int .i64 (K : Int), .bool b]) ∧ Below w.heap.size w w'

set_option maxRecDepth 100000 in
set_option maxHeartbeats 3200000 in
theorem search_any (p : Option Addr) (n c : Nat) (l : List (Int × Nat)) (x : Nat) (K : Nat) (w : World) (h : Items w p n c l) (hn : n ≤ 2000000) (hK : K ≤ n) (hlt : ∀ i y, l[i]? = some y → (y.2 < x ↔ i < K)) :
    Calls Try.prog 29 #[.slice p n c, .int .u64 (x : Int), .func (.func 30) #[] #[]] w (SeEnd w K) := by
  have hlen := h.len
  have hle := h.le
  have hcm := h.max
  have Hlt := Lib.hid hlt
  have hent := fun W args => enters_of Try.func30 (by kernel_rfl) rfl args W
  have HI := Lib.hid h
  clear h hlt
  go_enter Try.func29, Try.ntmps29
  go_wp2_with fail
  obtain ⟨wo, hwo⟩ : ∃ wo, wo = w := ⟨_, rfl⟩
  subst hwo
  go_loopw [9, 10] (fun i j wr => ∃ a b : Nat, a ≤ K ∧ K ≤ b ∧ b ≤ n ∧ i = .int .i64 (a : Int) ∧ j = .int .i64 (b : Int) ∧ Below wo.heap.size wo wr) (fun i j _ => ((intOf j).toNat - (intOf i).toNat))
  case atStart => exact ⟨0, n, Nat.zero_le _, hK, Nat.le_refl _, rfl, rfl, Below.refl _ _⟩
  case round =>
    obtain ⟨a, b, ha, hb, hbn, rfl, rfl, hbw⟩ := hrel
    have Hbw := Lib.hid hbw
    clear hbw
    by_cases hab : a < b
    · have hji : (a : Int) < (b : Int) := by omega
      obtain ⟨m, hm⟩ : ∃ m, m = (a + b) / 2 := ⟨_, rfl⟩
      have hmv : ((a : Int) + (b : Int)) / 2 = (m : Int) := by omega
      have hma : a ≤ m := by omega
      have hmb : m < b := by omega
      have hmn : m < n := by omega
      have hmi : (m : Int) < (n : Int) := by omega
      obtain ⟨g, o, rfl, hc⟩ := HI.out.cell (by omega)
      obtain ⟨y, hy⟩ : ∃ y, l[m]? = some y := ⟨_, List.getElem?_eq_getElem (by omega)⟩
      obtain ⟨c0, c1⟩ := hc m y hy
      have g0 := cell_below Hbw.out c0
      have g1 := cell_below Hbw.out c1
      have Hy := Lib.hid (Hlt.out m y hy)
      obtain ⟨y1, y2⟩ := y
      have HC := Lib.hid (fun W => compare_any y1 y2 x W)
      clear c0 c1 hc hy hm
      change wr.cell? _ = some (.int .i64 y1) at g0
      change wr.cell? _ = some (.int .u64 (y2 : Int)) at g1
      obtain ⟨R, hR⟩ : ∃ R, R = cmpU y2 x := ⟨_, rfl⟩
      rw [← hR] at HC
      have Hy2 := Lib.hid (show R < 0 ↔ m < K from by rw [hR, cmpU_neg]; exact Hy.out)
      clear Hy hR
      go_wp2_with fail
      refine (HC.out _).mono ?_
      rintro r w2 ⟨rfl, hb2⟩
      have Hb2 := Lib.hid (Hbw.out.trans (hb2.mono Hbw.out.size))
      clear hb2 g0 g1
      by_cases hr : R < 0
      · have hmK := Hy2.out.1 hr
        go_wp2
        go_roundw
        case rel => exact ⟨m + 1, b, by omega, hb, hbn, by go_num, rfl, Hb2.out⟩
        case measure => simp [intOf]; omega
      · have hmK : ¬ m < K := fun h => hr (Hy2.out.2 h)
        go_wp2
        go_roundw
        case rel => exact ⟨a, m, ha, by omega, by omega, rfl, rfl, Hb2.out⟩
        case measure => simp [intOf]; omega
    · have hji : ¬ (a : Int) < (b : Int) := by omega
      obtain rfl : a = K := by omega
      by_cases han : a < n
      · have hai : (a : Int) < (n : Int) := by omega
        obtain ⟨g, o, rfl, hc⟩ := HI.out.cell (by omega)
        obtain ⟨y, hy⟩ : ∃ y, l[a]? = some y := ⟨_, List.getElem?_eq_getElem (by omega)⟩
        obtain ⟨c0, c1⟩ := hc a y hy
        have g0 := cell_below Hbw.out c0
        have g1 := cell_below Hbw.out c1
        obtain ⟨y1, y2⟩ := y
        have HC := Lib.hid (fun W => compare_any y1 y2 x W)
        clear c0 c1 hc hy
        change wr.cell? _ = some (.int .i64 y1) at g0
        change wr.cell? _ = some (.int .u64 (y2 : Int)) at g1
        generalize cmpU y2 x = R at *
        go_wp2_with fail
        refine (HC.out _).mono ?_
        rintro r w2 ⟨rfl, hb2⟩
        have Hb2 := Lib.hid (Hbw.out.trans (hb2.mono Hbw.out.size))
        clear hb2 g0 g1
        go_wp2
        go_ret2
        exact ⟨_, rfl, Hb2.out⟩
      · have hai : ¬ (a : Int) < (n : Int) := by omega
        go_wp2
        go_ret2
        exact ⟨_, rfl, Hbw.out⟩
end Go.Proofs.Ytmmiommfbkcebaa
