/- The statement ScanLooks answers true. -/
import Derived.Test.YtmiepigieajpcaaGreatHScanLooksJ2
import Derived.Test.YtmiepigieajpcaaGreatHScanLooksJ5
import Derived.Test.YtmiepigieajpcaaGreatHScanLooksJ1
import Derived.Test.YtmiepigieajpcaaGreatMB42
namespace Go.Proofs.YtmiepigieajpcaaGreat
open Go.RowKit Go.Maps Go.Shelf

attribute [local go_sem ↓] Go.wp_at_zero Go.wp_at_succ

set_option maxRecDepth 100000 in
set_option maxHeartbeats 6400000 in
theorem scanLooks_any (room : Int) (hr0 : -9223372036854775808 ≤ room) (hr : room < 9223372036854775808) (p : Option Addr) (n c : Nat) (l : List FI) (w : World) (hl : FIs w p n c l) :
    Calls Tryz.prog 3 #[.int .i64 room, .slice p n c] w fun e w' => e = .returned (.bool true) ∧ Below w.heap.size w w' := by
  have HF := Lib.hid (fun W (h : Below w.heap.size w W) => files_any room p n c l W hr0 hr (hl.grow h))
  clear hl
  go_enter Tryz.func3, Tryz.ntmps3
  go_wp2_with fail
  refine (HF.out w (Below.refl _ _)).mono ?_
  rintro e w1 ⟨d, a1, n1, c1, R1, hb1, hE⟩
  have Hb1 := Lib.hid hb1
  clear hb1
  rcases hE with ⟨M, rfl⟩ | ⟨rfl, hY⟩
  · unfold refV
    go_wp2_with fail
    refine (salive_any _).mono ?_
    rintro e w2 ⟨rfl, hb2⟩
    have Hb2 := Lib.hid ((Hb1.out.alloc Hb1.out.size _).trans (hb2.mono (Hb1.out.alloc Hb1.out.size _).size))
    clear hb2
    go_wp2
    go_ret
    exact ⟨rfl, Hb2.out⟩
  · obtain ⟨_, _, hnt, X, hO, hR, hRf⟩ := hY
    have hup := up_files l room l.length (Nat.le_refl _)
    generalize filesF l (newM room) l.length = M at *
    obtain ⟨out, hout⟩ := segs_ex M
    obtain ⟨ps, _, hA⟩ := allOf_ex hout
    have hfl : M.fs.length ≤ 90 := hnt.small.files
    have hus : usedF M.fs ≤ 1500 := hnt.small.used
    have hnm : ∀ f ∈ M.fs, f.n.length ≤ 9223372036854775807 := fun f hf => by
      rw [← hRf] at hf
      obtain ⟨y, hy, rfl⟩ := List.mem_map.1 hf
      exact (hR.files y hy).name
    have hXl : ∀ b, X b → b < w1.heap.size := by obtain ⟨_, _, _, h, _⟩ := hO; exact h
    have hn1 : n1 ≤ 1000000 := by rw [← hR.len, ← List.length_map (f := FR.f), hRf]; omega
    have HFd := Lib.hid (fun W (h : Below w1.heap.size w1 W) => find_up (hO.below h) hup.1 (by omega) (by omega) hnm ps hA)
    have HRF := Lib.hid (fun W (h : Below w1.heap.size w1 W) => rfind9_any (X := X) (w := W) (v := refV (M.room : Int) a1 n1 c1 (M.plan : Int) M.down) (M := M) ⟨a1, n1, c1, R1, rfl, hR.below hXl h, hRf, hn1⟩ (fun b hb => Nat.lt_of_lt_of_le (hXl b hb) h.size) hup.1 (by omega) (by omega) hnm ps hA)
    have HSm := Lib.hid (fun W (h : Below w1.heap.size w1 W) => ssame_any (hO.below h) (hR.below hXl h) (fun b hb => Nat.lt_of_lt_of_le (hXl b hb) h.size) hRf hnt.sorted (by omega) (by omega))
    unfold refV at *
    have hal := (Below.refl w1.heap.size w1).alloc (Nat.le_refl _) (.cells #[.int .i64 (M.room : Int), .slice a1 n1 c1, .int .i64 (M.plan : Int), .bool M.down] 25)
    obtain ⟨e0, e1, e2, e3⟩ := box4 w1 (M.room : Int) a1 n1 c1 (M.plan : Int) M.down
    clear hO hnt hR hRf hup hout hA hfl hus hnm hXl hn1
    generalize M.down = dn at *
    generalize (M.plan : Int) = pl at *
    generalize (M.room : Int) = ro at *
    obtain ⟨w2, hw2⟩ : ∃ w2, w2 = w1.alloc (.cells #[.int .i64 ro, .slice a1 n1 c1, .int .i64 pl, .bool dn] 25) := ⟨_, rfl⟩
    rw [← hw2] at hal e0 e1 e2 e3
    have Hal := Lib.hid hal
    have HK := Lib.hid (fun W (hW : Below w2.heap.size w2 W) => (show W.cell? ⟨w1.heap.size, 0, none⟩ = some (.int .i64 ro) ∧ W.cell? ⟨w1.heap.size, 1, none⟩ = some (.slice a1 n1 c1) ∧ W.cell? ⟨w1.heap.size, 2, none⟩ = some (.int .i64 pl) ∧ W.cell? ⟨w1.heap.size, 3, none⟩ = some (.bool dn) from
      ⟨cell_keep hW e0, cell_keep hW e1, cell_keep hW e2, cell_keep hW e3⟩))
    clear hal e0 e1 e2 e3
    go_wp2_with fail
    rw [← hw2]
    clear hw2
    refine (look_of findQ_grow (HFd.out w2 Hal.out)).mono ?_
    rintro e w3 ⟨x, z, rfl, hq, hb3⟩
    obtain ⟨y, hy, rfl, _, hxr, hP⟩ := findQ_log hq
    have Hb3 := Lib.hid hb3
    have HP := Lib.hid hP
    have Hy := Lib.hid hy
    have Hxr := Lib.hid hxr
    obtain ⟨d0, d1, d2, d3⟩ := HK.out _ hb3
    clear hq hb3 hP hy hxr
    go_wp2_with fail
    refine (HRF.out w3 (Hal.out.trans (Hb3.out.mono Hal.out.size))).mono ?_
    intro e w4 hr4
    obtain ⟨y2, aa, an, ac, first, last, va, vc, size, hy2, rfl, hP2, hb4⟩ := rfind_log hr4
    obtain rfl := isLog_uniq Hy.out hy2
    have HP2 := Lib.hid hP2
    have Hb4 := Lib.hid (Hb3.out.trans (hb4.mono Hb3.out.size))
    have HB34 := Lib.hid hb4
    clear hr4 hy2 hP2 hb4
    unfold logRV
    obtain ⟨xra, xrn, xrc, xoa, xon, xoc, xxn, xm, xpa, xpn, xpc, xwa, xwn, xwc, xtn, xno⟩ := x
    simp only at *
    obtain rfl := Hxr.out
    go_wp2_with fail
    obtain ⟨w5, hw5⟩ : ∃ w5, w5 = w4.alloc (.cells #[.slice aa an ac, .int .i64 first, .int .i64 last, .slice va y.recs.length vc, .int .i64 size, .int .i64 (y.torn : Int), .int .i64 y.z] 35) := ⟨_, rfl⟩
    rw [← hw5]
    have hb5 : Below w4.heap.size w4 w5 := by rw [hw5]; exact (Below.refl _ _).alloc (Nat.le_refl _) _
    have hB5 : w5.heap[w4.heap.size]? = some (.cells #[.slice aa an ac, .int .i64 first, .int .i64 last, .slice va y.recs.length vc, .int .i64 size, .int .i64 (y.torn : Int), .int .i64 y.z] 35 (0, 0)) := by rw [hw5]; exact heap_alloc_new _ _
    have Hb15 := Lib.hid (Hal.out.trans ((Hb4.out.trans (hb5.mono Hb4.out.size)).mono Hal.out.size))
    have Hb25 := Lib.hid (Hb4.out.trans (hb5.mono Hb4.out.size))
    have HP5 := Lib.hid (HP.out.grow (HB34.out.trans (hb5.mono HB34.out.size)))
    have HQ5 := Lib.hid (HP2.out.grow hb5)
    have HK5 := Lib.hid (fun W (hW : Below w5.heap.size w5 W) => by
      obtain ⟨d0, d1, d2, d3⟩ := HK.out _ (Hb25.out.trans (hW.mono Hb25.out.size))
      obtain ⟨g0, g1, g2, g3, g4, g5, g6, gf⟩ := box7 hB5
      exact (show W.cell? ⟨w1.heap.size, 0, none⟩ = some (.int .i64 ro) ∧ W.cell? ⟨w1.heap.size, 1, none⟩ = some (.slice a1 n1 c1) ∧ W.cell? ⟨w1.heap.size, 2, none⟩ = some (.int .i64 pl) ∧ W.cell? ⟨w1.heap.size, 3, none⟩ = some (.bool dn) ∧ W.cell? ⟨w4.heap.size, 3, none⟩ = some (.slice va y.recs.length vc) ∧ W.cell? ⟨w4.heap.size, 5, none⟩ = some (.int .i64 (y.torn : Int)) ∧ W.cell? ⟨w4.heap.size, 6, none⟩ = some (.int .i64 y.z) from ⟨d0, d1, d2, d3, cell_keep hW g3, cell_keep hW g5, cell_keep hW g6⟩))
    have hqz : (y.z == y.z) = true := by simp
    have hqt : ((y.torn : Int) == (y.torn : Int)) = true := by simp
    have HTn := Lib.hid (fun W (hW : Below w5.heap.size w5 W) => (torn_of (HFd.out W (Hb15.out.trans (hW.mono Hb15.out.size)))).mono (R' := fun e w' => e = .returned (.int .i64 (y.torn : Int)) ∧ Below W.heap.size W w') (by
      rintro e w' ⟨x, z, w1', rfl, hq, hb⟩
      obtain ⟨y', hy', _, ht', _⟩ := findQ_log hq
      obtain rfl := isLog_uniq Hy.out hy'
      exact ⟨by rw [ht'], hb⟩))
    clear hb5 hB5 hw5
    go_region_held (fun w' => w'.cell? ⟨w1.heap.size, 0, none⟩ = some (.int .i64 ro) ∧ w'.cell? ⟨w1.heap.size, 1, none⟩ = some (.slice a1 n1 c1) ∧ w'.cell? ⟨w1.heap.size, 2, none⟩ = some (.int .i64 pl) ∧ w'.cell? ⟨w1.heap.size, 3, none⟩ = some (.bool dn) ∧ w'.cell? ⟨w4.heap.size, 3, none⟩ = some (.slice va y.recs.length vc) ∧ w'.cell? ⟨w4.heap.size, 5, none⟩ = some (.int .i64 (y.torn : Int)) ∧ w'.cell? ⟨w4.heap.size, 6, none⟩ = some (.int .i64 y.z))
      (first | exact HK5.out _ hb9 | exact HK5.out _ hb8 | exact HK5.out _ hb7 | exact HK5.out _ hb6 | exact HK5.out _ ((Below.refl _ _).drew))
      (first
        | (go_at_call 14; (with_reducible refine (salive_any _).mono ?_); rintro e w6 ⟨rfl, hb0⟩; have hb6 : Below w5.heap.size w5 w6 := ((Below.refl _ _).drew).trans hb0; clear hb0)
        | (go_at_call 17; (with_reducible refine (same_yes _ _ _ _ _ _ _ (HP5.out.grow hb6) (HQ5.out.grow hb6)).mono ?_); rintro e w7 ⟨rfl, q, rfl⟩; have hb7 := below_drewN hb6 q)
        | (go_at_call 18; (with_reducible refine (HTn.out _ hb7).mono ?_); rintro e w8 ⟨rfl, hb0⟩; have hb8 := hb7.trans (hb0.mono hb7.size); clear hb0)
        | (go_at_call 19; (with_reducible refine (HSm.out _ (Hb15.out.trans (hb8.mono Hb15.out.size))).mono ?_); rintro e w9 ⟨rfl, hb0⟩; have hb9 := hb8.trans (hb0.mono hb8.size); clear hb0))
    have Hend := Lib.hid (Hb1.out.trans ((Hb15.out.trans (hb9.mono Hb15.out.size)).mono Hb1.out.size))
    clear hb6 hb7 hb8 hb9
    go_wp2
    go_ret
    exact ⟨rfl, Hend.out⟩
end Go.Proofs.YtmiepigieajpcaaGreat
