/- The walk of the statement WalMatches: it returns true whatever the operations, the room and the greatest size are. -/
import Derived.Test.YtehjgkkcpiblcaaGreatHWalMatchesWlPlay
import Derived.Test.YtehjgkkcpiblcaaGreatHWalMatchesWlFew
import Derived.Test.YtehjgkkcpiblcaaGreatMB38
import Derived.Test.YtehjgkkcpiblcaaGreatMB39
import Derived.Test.YtehjgkkcpiblcaaGreatMB41
import Derived.Test.YtehjgkkcpiblcaaGreatMB42
import Derived.Test.YtehjgkkcpiblcaaGreatMB43
import Derived.Deep.RegionHeld3
namespace Go.Proofs.YtehjgkkcpiblcaaGreat
open Go.RowKit Go.Maps Go.Shelf

attribute [local go_sem ↓] Go.wp_at_zero Go.wp_at_succ

theorem few_small3 {ls : List (List Nat)} (h : minsF ls ≤ 1500 ∧ ls.length ≤ 60) : sizeL ls ≤ 2000 ∧ ls.length ≤ 60 := by
  have := (minsF_bound ls h.1).1
  exact ⟨by omega, h.2⟩

def ks4 : List Int := [1000, 1000, 1000, 1000]

theorem nums_four {w : World} {b : Nat} {t : TypeId} (h : w.heap[b]? = some (.cells #[.int .i64 1000, .int .i64 1000, .int .i64 1000, .int .i64 1000] t (0, 0))) : Nums w (some ⟨b, 0, none⟩) 4 4 ks4 := by
  refine ⟨rfl, Nat.le_refl _, by omega, fun x hx => ?_, fun _ => ⟨b, 0, rfl, fun i hi => ?_⟩⟩
  · unfold ks4 at hx
    simp at hx
    omega
  · rw [Nat.zero_add, cell_of_row _ _ _ _ _ (0, 0) h]
    rcases (show i = 0 ∨ i = 1 ∨ i = 2 ∨ i = 3 by omega) with rfl | rfl | rfl | rfl <;> rfl

set_option maxRecDepth 100000 in
set_option maxHeartbeats 12800000 in
theorem walMatches_any (x y : Nat) (a : Option Addr) (n c : Nat) (l : List OM) (w : World) (hx : x < 65536) (hy : y < 65536) (hO : Ops w a n c l) (hn40 : n * 40 ≤ 140737488351232) :
    Calls Tryz.prog 3 #[.int .u16 (x : Int), .int .u16 (y : Int), .slice a n c] w fun e w' => e = .returned (.bool true) ∧ Below w.heap.size w w' := by
  have HFew := Lib.hid (wfew_any a n c l w hO hn40)
  have HO := Lib.hid hO
  clear hO hn40
  go_enter Tryz.func3, Tryz.ntmps3
  go_wp2_with fail
  refine HFew.out.mono ?_
  rintro e w1 ⟨⟨b, rfl, hb⟩, hb1⟩
  have Hb := Lib.hid hb
  have Hb1 := Lib.hid hb1
  clear hb HFew hb1
  cases b
  · go_wp2_with fail
    refine (walive_any _).mono ?_
    rintro e w2 ⟨rfl, hb2⟩
    have Hend := Lib.hid (Hb1.out.trans (hb2.mono Hb1.out.size))
    clear hb2
    go_wp2
    go_ret
    exact ⟨rfl, Hend.out⟩
  · obtain ⟨hz, h60⟩ := few_small3 (Hb.out rfl)
    rw [recsO_len] at h60
    have HSt := Lib.hid (start_any (x : Int) (y : Int) w1 (by omega))
    go_wp2_with fail
    refine HSt.out.mono ?_
    rintro e w2 ⟨d, g, rfl, hL2⟩
    have HL2 := Lib.hid hL2
    have HNew := Lib.hid (rnew_any (x : Int) (y : Int) w2 (by omega) (by omega))
    clear hL2 HSt
    go_wp2_with fail
    refine HNew.out.mono ?_
    rintro e w3 ⟨v3, rfl, hR3, hb3⟩
    have hgl := HL2.out.lt
    have hfs := start_fs (x : Int) (y : Int)
    have HPl := Lib.hid (play_any (HL2.out.all hb3) hR3 (fun b hb => ⟨.inr hb, by omega⟩) a n c l (HO.out.grow Hb1.out) h60 (by omega) (by show 1 ≤ 1 ∧ 1 ≤ 1000; omega) (by show 0 ≤ 1000; omega) (by show 0 ≤ 1000; omega) (by show 0 ≤ (y : Int) ∧ (y : Int) ≤ 1000000; omega) (by rw [hfs.2.1]; omega) (by rw [hfs.1]; decide))
    have Hok := Lib.hid (op_ok (startW (x : Int) (y : Int)) l l.length (Nat.le_refl _))
    have hrm : (runO (startW (x : Int) (y : Int)) l).D.room ≤ 65535 ∧ (runO (startW (x : Int) (y : Int)) l).D.fs.length ≤ 61 := by
      have h1 := Hok.out.rm
      have h2 := Hok.out.len
      rw [List.take_length] at h1 h2
      rw [hfs.2.1] at h1
      rw [hfs.1] at h2
      have h3 : [F.mk (nmB 1) [] 0].length = 1 := rfl
      omega
    have Hrm := Lib.hid hrm
    have Hb3 := Lib.hid (HL2.out.own.base.trans (hb3.mono HL2.out.own.base.size))
    obtain ⟨Wf, hWf⟩ : ∃ Wf, Wf = runO (startW (x : Int) (y : Int)) l := ⟨_, rfl⟩
    rw [← hWf] at HPl Hrm
    clear hR3 hgl hfs hrm HNew hb3 hWf Hok
    go_wp2_with fail
    refine HPl.out.mono ?_
    rintro e w4 ⟨a4, n4, c4, R4, X4, rfl, hR4, hf4, hn4, hX4, ⟨Y4, hL4, hYY, hXY⟩, _, hb4, hs4⟩
    unfold logV
    have hX4lt : ∀ b, X4 b → b < w4.heap.size := fun b hb => hL4.own.blocks b (hXY b hb).1
    have hnames : ∀ f ∈ Wf.D.fs, f.n.length ≤ 9223372036854775807 := by
      intro f hf
      rw [← hf4] at hf
      obtain ⟨y, hy, rfl⟩ := List.mem_map.1 hf
      exact (hR4.files y hy).name
    obtain ⟨w5, hw5⟩ : ∃ w5, w5 = (w4.alloc (logO (Wf.D.room : Int) a4 n4 c4 (Wf.D.plan : Int) Wf.D.down Wf.most (Wf.n : Int) (Wf.size : Int) (Wf.wait : Int))).alloc (.cells #[.int .i64 1000, .int .i64 1000, .int .i64 1000, .int .i64 1000] 3) := ⟨_, rfl⟩
    have hb5 : Below w4.heap.size w4 w5 := by rw [hw5]; exact ((Below.refl _ _).alloc (Nat.le_refl _) _).alloc (by simp) _
    have hz5 : w5.heap.size = w4.heap.size + 2 := by rw [hw5]; simp
    have hB5 : w5.heap[w4.heap.size]? = some (logO (Wf.D.room : Int) a4 n4 c4 (Wf.D.plan : Int) Wf.D.down Wf.most (Wf.n : Int) (Wf.size : Int) (Wf.wait : Int)) := by
      rw [hw5]; exact (Below.heap_alloc _ _ _ (by simp)).trans (heap_alloc_new _ _)
    have hK5 : w5.heap[w4.heap.size + 1]? = some (.cells #[.int .i64 1000, .int .i64 1000, .int .i64 1000, .int .i64 1000] 3 (0, 0)) := by
      have := heap_alloc_new (w4.alloc (logO (Wf.D.room : Int) a4 n4 c4 (Wf.D.plan : Int) Wf.D.down Wf.most (Wf.n : Int) (Wf.size : Int) (Wf.wait : Int))) (.cells #[.int .i64 1000, .int .i64 1000, .int .i64 1000, .int .i64 1000] 3)
      rw [hw5]
      rw [World.size_alloc] at this
      exact this
    have hA5 := hL4.all hb5
    have hCr := own_crash hA5.own (by have := Hrm.out.2; omega) (some ⟨w4.heap.size + 1, 0, none⟩) 4 4 ks4 (nums_four hK5) (fun _ z hz => .inl (.inr (by cases hz; exact ⟨by show w4.heap.size ≤ w4.heap.size + 1; omega, by show w4.heap.size + 1 < _; omega⟩)))
    have HCr := Lib.hid hCr
    have HB5 := Lib.hid hB5
    have HR4 := Lib.hid hR4
    have Hf4 := Lib.hid hf4
    have HXY := Lib.hid hXY
    have Hb45 := Lib.hid hb5
    have HX4lt := Lib.hid hX4lt
    have Hnm := Lib.hid hnames
    have Hn4 := Lib.hid hn4
    have Hz5 := Lib.hid hz5
    have HA5 := Lib.hid hA5
    have Hw5 := Lib.hid hw5
    have Hused := Lib.hid (own_sorted hL4.own).2.2
    have Hb4 := Lib.hid hb4
    have Hb05 := Lib.hid hA5.own.base
    unfold logO at Hw5
    clear hR4 hf4 hn4 hX4 hL4 hYY hXY hs4 hX4lt hnames hw5 hb5 hz5 hB5 hK5 hA5 hCr HPl hb4
    go_wp2_with fail
    rw [← Hw5.out]
    refine HCr.out.mono ?_
    rintro e w6 ⟨⟨v6, rfl⟩, ho6, hk6, hb6, hs6⟩
    have hB6 := (hk6 w4.heap.size (.inr ⟨Nat.le_refl _, by have := Hz5.out; omega⟩)).trans HB5.out
    have hR6 : RowF X4 w6 a4 n4 c4 R4 := HR4.out.mono (fun b hb => (hk6 b (.inl (HXY.out b hb).1)).trans (Hb45.out.block b (HX4lt.out b hb))) (fun _ h => h)
    have hX6 : ∀ b, X4 b → b < w6.heap.size := fun b hb => Nat.lt_of_lt_of_le (Nat.lt_of_lt_of_le (HX4lt.out b hb) Hb45.out.size) hs6
    have hb6' : Below w1.heap.size w1 w6 := Hb05.out.trans hb6
    have HB6 := Lib.hid hB6
    have HR6 := Lib.hid hR6
    have HX6 := Lib.hid hX6
    have Ho6 := Lib.hid ho6
    have Hb6 := Lib.hid hb6'
    have HCs := Lib.hid (crashM_small ks4 Wf.D)
    unfold logO at hB6
    obtain ⟨c0, c1, c2, c3, c4', c5, c6, c7, cf⟩ := box8 hB6
    clear hk6 hb6 hs6
    obtain ⟨w7, hw7⟩ : ∃ w7, w7 = w6.alloc (.cells #[.int .i64 1000, .int .i64 1000, .int .i64 1000, .int .i64 1000] 3) := ⟨_, rfl⟩
    have hb7 : Below w6.heap.size w6 w7 := by rw [hw7]; exact (Below.refl _ _).alloc (Nat.le_refl _) _
    have hK7 : w7.heap[w6.heap.size]? = some (.cells #[.int .i64 1000, .int .i64 1000, .int .i64 1000, .int .i64 1000] 3 (0, 0)) := by rw [hw7]; exact heap_alloc_new _ _
    have HRc := Lib.hid (rcrash_any (X := X4) (w := w7) (M := Wf.D) ⟨a4, n4, c4, R4, rfl, hR6.below hX6 hb7, Hf4.out, Hn4.out⟩ (fun b hb => Nat.lt_of_lt_of_le (hX6 b hb) hb7.size) (some ⟨w6.heap.size, 0, none⟩) 4 4 ks4 (nums_four hK7))
    unfold refV at HRc
    have Hb7 := Lib.hid hb7
    have Hw7 := Lib.hid hw7
    clear hB6 hR6 hX6 ho6 hb6' hK7 hb7 hw7
    go_wp2_with fail
    rw [← Hw7.out]
    refine HRc.out.mono ?_
    rintro e w8 ⟨a8, n8, c8, R8, rfl, hR8, hf8, hb8⟩
    unfold refV
    have hb68 : Below w6.heap.size w6 w8 := Hb7.out.trans (hb8.mono Hb7.out.size)
    have hltB : w4.heap.size < w6.heap.size := (Array.getElem?_eq_some_iff.1 HB6.out).1
    have hB8 := (hb68.block _ hltB).trans HB6.out
    obtain ⟨Wc, hWc⟩ : ∃ Wc, Wc = crashM ks4 Wf.D := ⟨_, rfl⟩
    have hCs := HCs.out
    rw [← hWc] at hf8 hCs Ho6
    rw [← hWc]
    have HR8 := Lib.hid hR8
    have Hf8 := Lib.hid hf8
    have Hb68 := Lib.hid hb68
    have HB8 := Lib.hid hB8
    have Hb8 := Lib.hid hb8
    have HCs2 := Lib.hid hCs
    have HltB := Lib.hid hltB
    have HWc := Lib.hid hWc
    unfold logO at hB8
    obtain ⟨c0, c1, c2, c3, c4', c5, c6, c7, cf⟩ := box8 hB8
    clear hB8 hR8 hf8 hb68 hb8 hCs hltB hWc
    go_wp2_with fail
    obtain ⟨w9, hw9⟩ : ∃ w9, w9 = ((((w8.setCell ⟨w4.heap.size, 0, none⟩ (.int .i64 (Wc.room : Int))).setCell ⟨w4.heap.size, 1, none⟩ (.slice a8 n8 c8)).setCell ⟨w4.heap.size, 2, none⟩ (.int .i64 (Wc.plan : Int))).setCell ⟨w4.heap.size, 3, none⟩ (.bool Wc.down)) := ⟨_, rfl⟩
    rw [← hw9]
    have hC9 : Chg (fun b => b = w4.heap.size) w8 w9 := by
      rw [hw9]
      exact ((((Chg.set (fun b => b = w4.heap.size) w8 rfl _).same (Chg.set (fun b => b = w4.heap.size) _ rfl _)).same (Chg.set (fun b => b = w4.heap.size) _ rfl _)).same (Chg.set (fun b => b = w4.heap.size) _ rfl _))
    have hsz8 := Hb68.out.size
    have hltB := HltB.out
    have hw7s : w7.heap.size = w6.heap.size + 1 := by rw [Hw7.out]; simp
    have hR9 : RowF (fun b => (X4 b ∨ w7.heap.size ≤ b) ∧ b < w8.heap.size) w9 a8 n8 c8 R8 := HR8.out.mono (fun b hb => hC9.block b hb.2 (fun e => by
      rcases hb.1 with h1 | h1
      · have := HX4lt.out b h1; omega
      · omega)) (fun _ h => h)
    have hX9 : ∀ b, ((X4 b ∨ w7.heap.size ≤ b) ∧ b < w8.heap.size) → b < w9.heap.size := fun b hb => Nat.lt_of_lt_of_le hb.2 hC9.size
    have hO9 := ((Ho6.out.below Hb68.out).turned hC9 (fun b hb => .inr (by rw [hb]; exact ⟨Nat.le_refl _, by have := Hz5.out; omega⟩)) (fun b hb => by rw [hb]; have := Hb4.out.size; have := Hb3.out.size; omega) (Y := fun _ => False) (fun b hb => hb.elim))
    have hc9 : w9.heap[w4.heap.size]? = some (.cells #[.int .i64 (Wc.room : Int), .slice a8 n8 c8, .int .i64 (Wc.plan : Int), .bool Wc.down, .int .i64 Wf.most, .int .i64 (Wf.n : Int), .int .i64 (Wf.size : Int), .int .i64 (Wf.wait : Int)] 34 (0, 0)) := by
      have hq := HB8.out
      have h1 := set_head (i := 0) hq (.int .i64 (Wc.room : Int))
      have h2 := set_head (i := 1) h1 (.slice a8 n8 c8)
      have h3 := set_head (i := 2) h2 (.int .i64 (Wc.plan : Int))
      have h4 := set_head (i := 3) h3 (.bool Wc.down)
      rw [hw9]
      simpa [logO] using h4
    obtain ⟨d0, d1, d2, d3, _, _, _, _, _⟩ := box8 hc9
    have HKK := Lib.hid (fun V (hV : Below w9.heap.size w9 V) => (show V.cell? ⟨w4.heap.size, 0, none⟩ = some (.int .i64 (Wc.room : Int)) ∧ V.cell? ⟨w4.heap.size, 1, none⟩ = some (.slice a8 n8 c8) ∧ V.cell? ⟨w4.heap.size, 2, none⟩ = some (.int .i64 (Wc.plan : Int)) ∧ V.cell? ⟨w4.heap.size, 3, none⟩ = some (.bool Wc.down) from
      ⟨cell_keep hV d0, cell_keep hV d1, cell_keep hV d2, cell_keep hV d3⟩))
    have hfl : Wc.fs.length ≤ 1000 := by have := HCs2.out.1; have := Hrm.out.2; omega
    have hus : usedF Wc.fs ≤ 200000 := by have := HCs2.out.2.2.1; have := Hused.out; have := Hrm.out.1; omega
    have hnm : ∀ f ∈ Wc.fs, f.n.length ≤ 9223372036854775807 := by rw [HWc.out]; exact crashM_names Hnm.out
    have hdn : Wc.down = false := HCs2.out.2.2.2.1
    have hn8 : n8 ≤ 1000000 := by rw [← HR8.out.len, ← List.length_map (f := FR.f), Hf8.out]; omega
    have HRe := Lib.hid (fun V (hV : Below w9.heap.size w9 V) => records_any (hO9.below hV) hfl hus hnm)
    have HRR := Lib.hid (fun V (hV : Below w9.heap.size w9 V) => rrecords_any (M := Wc) (w := V) ⟨a8, n8, c8, R8, rfl, hR9.below hX9 hV, Hf8.out, hn8⟩ (fun b hb => Nat.lt_of_lt_of_le (hX9 b hb) hV.size) hdn hfl hus hnm)
    unfold refV at HRR
    have Hb9 := Lib.hid ((Hb6.out.trans (Hb68.out.mono Hb6.out.size)).trans (hC9.below (k := w1.heap.size) (fun b e => by rw [e]; have := Hb4.out.size; have := Hb3.out.size; omega) (Nat.le_trans Hb6.out.size hsz8)))
    clear hC9 hR9 hX9 hO9 hc9 d0 d1 d2 d3 hfl hus hnm hdn hn8 hw9 hsz8 hltB hw7s c0 c1 c2 c3 c4' c5 c6 c7 cf
    generalize (Wc.room : Int) = ro at *
    generalize (Wc.plan : Int) = pl at *
    generalize Wc.down = dn at *
    go_region_held3 (fun w' => w'.cell? ⟨w4.heap.size, 0, none⟩ = some (.int .i64 ro) ∧ w'.cell? ⟨w4.heap.size, 1, none⟩ = some (.slice a8 n8 c8) ∧ w'.cell? ⟨w4.heap.size, 2, none⟩ = some (.int .i64 pl) ∧ w'.cell? ⟨w4.heap.size, 3, none⟩ = some (.bool dn))
      (first | exact HKK.out _ hg4 | exact HKK.out _ hg3 | exact HKK.out _ hg2 | exact HKK.out _ hg1 | exact HKK.out _ ((Below.refl _ _).drew))
      (first
        | (go_at_call 13; (with_reducible refine (walive_any _).mono ?_); rintro e wa ⟨rfl, hb0⟩; have hg1 : Below w9.heap.size w9 wa := ((Below.refl _ _).drew).trans hb0; clear hb0)
        | (go_at_call 20; (with_reducible refine (HRe.out _ hg1).mono ?_); rintro e wb ⟨v1, l1, rfl, hP1, hRc1, hb0⟩; have hg2 : Below w9.heap.size w9 wb := hg1.trans (hb0.mono hg1.size); obtain ⟨p1, k1, rfl, hQ1⟩ := hP1.own.parts; have HQ1 := Lib.hid hQ1; have HRc1 := Lib.hid hRc1; clear hP1 hQ1 hRc1 hb0)
        | (go_at_call 21; (with_reducible refine (HRR.out _ hg2).mono ?_); rintro e wd ⟨v2, l2, rfl, hP2, hRc2, hb0⟩; have hg3 : Below w9.heap.size w9 wd := hg2.trans (hb0.mono hg2.size); obtain rfl := recsOf_uniq HRc1.out hRc2; obtain ⟨p2, k2, rfl, hQ2⟩ := hP2.parts; have HS2 := Lib.hid (same_yes _ _ _ _ _ _ _ (HQ1.out.grow hb0) hQ2); clear hP2 hQ2 hRc2 hb0)
        | (go_at_call 19; (with_reducible refine HS2.out.mono ?_); rintro e we ⟨rfl, q, rfl⟩; have hg4 := below_drewN hg3 q))
    have Hend := Lib.hid (Hb1.out.trans ((Hb9.out.trans (hg4.mono (by have := Hb9.out.size; exact this))).mono Hb1.out.size))
    clear hg1 hg2 hg3 hg4
    go_wp2
    go_ret
    exact ⟨rfl, Hend.out⟩
end Go.Proofs.YtehjgkkcpiblcaaGreat
