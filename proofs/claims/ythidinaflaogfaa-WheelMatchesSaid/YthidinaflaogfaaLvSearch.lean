/- The walk of slices.BinarySearchFunc by the order of items. -/
import Derived.Test.YthidinaflaogfaaLvIns4
import Derived.Deep.RegionHeld3
namespace Go.Proofs.Ythidinaflaogfaa
open Go.RowKit

/-- The items l lie at the beginning of a slice. -/
structure Items (w : World) (p : Option Addr) (n c : Nat) (l : List It) : Prop where
  len : l.length = n
  le : n ≤ c
  max : c ≤ 9223372036854775807
  cell : 0 < n → ∃ b o, p = some ⟨b, o, none⟩ ∧ ∀ (i : Nat) (x : It), l[i]? = some x → w.cell? ⟨b, o + i * 2, none⟩ = some (.int .u64 (x.1 : Int)) ∧ w.cell? ⟨b, o + i * 2 + 1, none⟩ = some (.int .u64 (x.2 : Int))

theorem Items.below {w w' : World} {p : Option Addr} {n c : Nat} {l : List It} (h : Items w p n c l) (hb : Below w.heap.size w w') : Items w' p n c l :=
  ⟨h.len, h.le, h.max, fun hn => by obtain ⟨b, o, e, hc⟩ := h.cell hn; exact ⟨b, o, e, fun i x hi => ⟨cell_below hb (hc i x hi).1, cell_below hb (hc i x hi).2⟩⟩⟩

theorem items_own {w : World} {base : Nat} {t : TypeId} {v : Value} {l : List It} (h : w.ownsRow base t 2 v l.length (flatI l)) : ∃ p c, v = .slice p l.length c ∧ Items w p l.length c l := by
  rcases h.2 with ⟨rfl, hn⟩ | ⟨g, cap, cur, rfl, hb, hg, hnc, hcm, hcs, htake⟩
  · rw [hn]
    exact ⟨none, 0, rfl, hn, Nat.le_refl _, by omega, fun h => absurd h (by omega)⟩
  · rw [maxLen_nat] at hcm
    refine ⟨_, cap, rfl, rfl, hnc, hcm, fun _ => ⟨g, 0, rfl, fun i x hi => ?_⟩⟩
    obtain ⟨h1, h2⟩ := flatI_get l i x hi
    rw [Nat.zero_add]
    exact ⟨cell_in hg htake h1, cell_in hg htake h2⟩

/-- Whether an item comes before another. -/
def ltI (y x : It) : Bool := decide (cmpI y.1 y.2 x.1 x.2 < 0)

/-- What a search leaves. -/
def SeEnd (w : World) (K : Nat) (r : Ending) (w' : World) : Prop := ∃ b, r = .returned (.tuple #[.int .i64 (K : Int), .bool b]) ∧ Below w.heap.size w w'

set_option maxRecDepth 100000 in
set_option maxHeartbeats 3200000 in
theorem search_any (p : Option Addr) (n c : Nat) (l : List It) (x : It) (K : Nat) (w : World) (h : Items w p n c l) (hn : n ≤ 1000) (hK : K ≤ n) (hlt : ∀ i y, l[i]? = some y → (cmpI y.1 y.2 x.1 x.2 < 0 ↔ i < K)) :
    Calls Try.prog 55 #[.slice p n c, .agg #[.int .u64 (x.1 : Int), .int .u64 (x.2 : Int)], .func (.func 54) #[] #[]] w (SeEnd w K) := by
  have hlen := h.len
  have hle := h.le
  have hcm := h.max
  obtain ⟨x1, x2⟩ := x
  have Hlt := Lib.hid hlt
  have hent := fun W args => enters_of Try.func54 (by kernel_rfl) rfl args W
  obtain ⟨w1, hw1⟩ : ∃ w1, w1 = w.alloc (.cells #[.int .u64 (x1 : Int), .int .u64 (x2 : Int)] 44) := ⟨_, rfl⟩
  have hb1 : Below w.heap.size w w1 := by rw [hw1]; exact (Below.refl _ _).alloc (Nat.le_refl _) _
  obtain ⟨d0, d1⟩ := box2 w (.int .u64 (x1 : Int)) (.int .u64 (x2 : Int)) 44
  rw [← hw1] at d0 d1
  have HI := Lib.hid (h.below hb1)
  have HD := Lib.hid (And.intro d0 d1)
  have Hb1 := Lib.hid hb1
  clear h hlt hb1 d0 d1
  go_enter Try.func55, Try.ntmps55
  go_wp2_with fail
  rw [← hw1]
  clear hw1
  obtain ⟨wo, hwo⟩ : ∃ wo, wo = w1 := ⟨_, rfl⟩
  subst hwo
  go_loopw [9, 10] (fun i j wr => ∃ a b : Nat, a ≤ K ∧ K ≤ b ∧ b ≤ n ∧ i = .int .i64 (a : Int) ∧ j = .int .i64 (b : Int) ∧ Below wo.heap.size wo wr) (fun i j _ => ((intOf j).toNat - (intOf i).toNat))
  case atStart => exact ⟨0, n, Nat.zero_le _, hK, Nat.le_refl _, rfl, rfl, Below.refl _ _⟩
  case round =>
    obtain ⟨a, b, ha, hb, hbn, rfl, rfl, hbw⟩ := hrel
    have Hbw := Lib.hid hbw
    clear hbw
    by_cases hab : a < b
    · have hji : (a : Int) < (b : Int) := by omega
      obtain ⟨m, hm⟩ : ∃ m, m = (a + b) / 2 := ⟨_, rfl⟩
      have hmv : ((a : Int) + (b : Int)) / 2 = (m : Int) := by omega
      have hma : a ≤ m := by omega
      have hmb : m < b := by omega
      have hmn : m < n := by omega
      have hmi : (m : Int) < (n : Int) := by omega
      obtain ⟨g, o, rfl, hc⟩ := HI.out.cell (by omega)
      obtain ⟨y, hy⟩ : ∃ y, l[m]? = some y := ⟨_, List.getElem?_eq_getElem (by omega)⟩
      obtain ⟨c0, c1⟩ := hc m y hy
      have g0 := cell_below Hbw.out c0
      have g1 := cell_below Hbw.out c1
      have e0 := cell_below Hbw.out HD.out.1
      have e1 := cell_below Hbw.out HD.out.2
      have Hy := Lib.hid (Hlt.out m y hy)
      obtain ⟨y1, y2⟩ := y
      have HC := Lib.hid (fun W => compare_any y1 y2 x1 x2 W)
      clear c0 c1 hc hy hm
      change wr.cell? _ = some (.int .u64 (y1 : Int)) at g0
      change wr.cell? _ = some (.int .u64 (y2 : Int)) at g1
      obtain ⟨R, hR⟩ : ∃ R, R = cmpI y1 y2 x1 x2 := ⟨_, rfl⟩
      rw [← hR] at HC
      have Hy2 := Lib.hid (show R < 0 ↔ m < K from by rw [hR]; exact Hy.out)
      clear Hy hR
      go_wp2_with fail
      go_region_held3 (fun w' => (w'.cell? ⟨g, o + m * 2, none⟩ = some (.int .u64 (y1 : Int)) ∧ w'.cell? ⟨g, o + m * 2 + 1, none⟩ = some (.int .u64 (y2 : Int))) ∧ w'.cell? ⟨w.heap.size, 0, none⟩ = some (.int .u64 (x1 : Int)) ∧ w'.cell? ⟨w.heap.size, 1, none⟩ = some (.int .u64 (x2 : Int)))
        (first | exact ⟨⟨g0, g1⟩, e0, e1⟩ | exact ⟨⟨cell_below hb2 g0, cell_below hb2 g1⟩, cell_below hb2 e0, cell_below hb2 e1⟩)
        (first | (go_at_call 54; (with_reducible refine (HC.out _).mono ?_); rintro r w2 ⟨rfl, hb2⟩))
      have Hb2 := Lib.hid (Hbw.out.trans (((Below.refl _ _).drew.trans (hb2.mono (Nat.le_refl _))).mono Hbw.out.size))
      clear hb2 g0 g1 e0 e1
      by_cases hr : R < 0
      · have hmK := Hy2.out.1 hr
        go_wp2
        go_roundw
        case rel => exact ⟨m + 1, b, by omega, hb, hbn, by go_num, rfl, Hb2.out⟩
        case measure => simp [intOf]; omega
      · have hmK : ¬ m < K := fun h => hr (Hy2.out.2 h)
        go_wp2
        go_roundw
        case rel => exact ⟨a, m, ha, by omega, by omega, rfl, rfl, Hb2.out⟩
        case measure => simp [intOf]; omega
    · have hji : ¬ (a : Int) < (b : Int) := by omega
      obtain rfl : a = K := by omega
      have Hfin := Lib.hid (Hb1.out.trans (Hbw.out.mono Hb1.out.size))
      by_cases han : a < n
      · have hai : (a : Int) < (n : Int) := by omega
        obtain ⟨g, o, rfl, hc⟩ := HI.out.cell (by omega)
        obtain ⟨y, hy⟩ : ∃ y, l[a]? = some y := ⟨_, List.getElem?_eq_getElem (by omega)⟩
        obtain ⟨c0, c1⟩ := hc a y hy
        have g0 := cell_below Hbw.out c0
        have g1 := cell_below Hbw.out c1
        have e0 := cell_below Hbw.out HD.out.1
        have e1 := cell_below Hbw.out HD.out.2
        obtain ⟨y1, y2⟩ := y
        have HC := Lib.hid (fun W => compare_any y1 y2 x1 x2 W)
        clear c0 c1 hc hy
        change wr.cell? _ = some (.int .u64 (y1 : Int)) at g0
        change wr.cell? _ = some (.int .u64 (y2 : Int)) at g1
        generalize cmpI y1 y2 x1 x2 = R at *
        go_wp2_with fail
        go_region_held3 (fun w' => (w'.cell? ⟨g, o + a * 2, none⟩ = some (.int .u64 (y1 : Int)) ∧ w'.cell? ⟨g, o + a * 2 + 1, none⟩ = some (.int .u64 (y2 : Int))) ∧ w'.cell? ⟨w.heap.size, 0, none⟩ = some (.int .u64 (x1 : Int)) ∧ w'.cell? ⟨w.heap.size, 1, none⟩ = some (.int .u64 (x2 : Int)))
          (first | exact ⟨⟨g0, g1⟩, e0, e1⟩ | exact ⟨⟨cell_below hb2 g0, cell_below hb2 g1⟩, cell_below hb2 e0, cell_below hb2 e1⟩)
          (first | (go_at_call 54; (with_reducible refine (HC.out _).mono ?_); rintro r w2 ⟨rfl, hb2⟩))
        have Hb2 := Lib.hid (Hfin.out.trans (((Below.refl _ _).drew.trans (hb2.mono (Nat.le_refl _))).mono Hfin.out.size))
        clear hb2 g0 g1 e0 e1
        go_wp2
        go_ret2
        exact ⟨_, rfl, Hb2.out⟩
      · have hai : ¬ (a : Int) < (n : Int) := by omega
        go_wp2_with fail
        go_quiet (fail)
        go_wp2
        go_ret2
        exact ⟨_, rfl, below_drewN Hfin.out _⟩
end Go.Proofs.Ythidinaflaogfaa
