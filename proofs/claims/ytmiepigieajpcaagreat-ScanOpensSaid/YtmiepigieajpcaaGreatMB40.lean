import Derived.Test.YtmiepigieajpcaaGreatMB39
import Derived.Test.YtmiepigieajpcaaGreatMB24
import Derived.Test.YtmiepigieajpcaaGreatMB28
/- The walks of a log's Put, Sync and New, and of what tells its state. -/
namespace Go.Proofs.YtmiepigieajpcaaGreat
open Go.RowKit Go.Maps Go.Shelf

section
variable {w0 : World} {Y : Nat → Prop} {w : World} {g d : Nat} {W : WM}

theorem Own.used_le {X : Nat → Prop} {M : DM} (h : Own w0 X w d M) : usedF M.fs ≤ M.room := by
  obtain ⟨S, ⟨mb, p, L, hD⟩, _⟩ := h
  exact hD.used

set_option maxRecDepth 100000 in
/-- Appending a frame, and the slice that holds this step alone. -/
theorem put_tail (h : LogAt w0 Y w g d W) (q : Option Addr) (cb : Nat) (l : List Nat) (hB : Bytes w q (l.length + 8) cb (frameL l)) (hq : ∀ a, q = some a → Y a.block ∨ a.block < w0.heap.size) (h1 : 1 ≤ W.n) (hN : W.n ≤ 99999999) (hs : W.size ≤ 1000000000) (hk : W.wait ≤ 1000000000)
    (hl : l.length ≤ 1048576) (hR : W.D.room ≤ 100000000000) :
    Calls Tryz.prog 79 #[.pointer (some ⟨g, 0, none⟩), .slice q (l.length + 8 : Nat) cb] w fun e w1 => ∃ k caps n s z, e = .returned (stepV k caps n s z) ∧
      Calls Tryz.prog 78 #[.pointer (some ⟨g, 0, none⟩), .slice (some ⟨w1.heap.size, 0, none⟩) 1 1] (w1.alloc (.cells #[.func (.func k) #[] caps, .int .i64 n, .int .i64 s, .int .i64 z] 135)) fun e w' => e = .returned (.int .i64 (appW W l).2) ∧ LogEnd w0 Y w g d (appW W l).1 w' := by
  obtain ⟨g0, g1, g2, g3, g4⟩ := h.cell
  refine (appending_any g W.n W.size W.wait q (l.length + 8) cb w h1 hN (by omega) (by omega) g0 g1 g2).mono ?_
  rintro e w1 ⟨b1, b2, b3, rfl, c1, c2, c3, k1, k2, k3, hb⟩
  refine ⟨_, _, _, _, _, rfl, ?_⟩
  obtain ⟨w2, hw2⟩ : ∃ w2, w2 = w1.alloc (.cells #[.func (.func 124) #[] #[.pointer (some ⟨b1, 0, none⟩), .pointer (some ⟨b2, 0, none⟩), .pointer (some ⟨b3, 0, none⟩)], .int .i64 (W.n : Int), .int .i64 ((W.size + (l.length + 8) : Nat) : Int), .int .i64 ((W.wait + 1 : Nat) : Int)] 135) := ⟨_, rfl⟩
  rw [← hw2]
  have hrow : w2.heap[w1.heap.size]? = some (.cells ([StepD.mk 124 #[.pointer (some ⟨b1, 0, none⟩), .pointer (some ⟨b2, 0, none⟩), .pointer (some ⟨b3, 0, none⟩)] (W.n : Int) ((W.size + (l.length + 8) : Nat) : Int) ((W.wait + 1 : Nat) : Int)].flatMap fun x => x.cells.toList).toArray 135 (0, 0)) := by
    rw [hw2]
    exact heap_alloc_new _ _
  have hb12 : Below w1.heap.size w1 w2 := by rw [hw2]; exact (Below.refl _ _).alloc (Nat.le_refl _) _
  have hb2 : Below w.heap.size w w2 := hb.trans (hb12.mono hb.size)
  have hA := h.all hb2
  have d1 := cell_below hb12 (Nat.le_refl _) c1
  have d2 := cell_below hb12 (Nat.le_refl _) c2
  have d3 := cell_below hb12 (Nat.le_refl _) c3
  have l1 := World.block_lt_of_cell? _ _ d1
  have l2 := World.block_lt_of_cell? _ _ d2
  have l3 := World.block_lt_of_cell? _ _ d3
  have hu := h.own.used_le
  have hY := h.own.blocks
  refine (take1_any hA w1.heap.size 1 _ (enters_of Tryz.func124 (by kernel_rfl) rfl) (appendM (nmB W.n) (frameL l) W.D) { W with D := (appendM (nmB W.n) (frameL l) W.D).1, size := W.size + (l.length + 8), wait := W.wait + 1 } rfl rfl rfl rfl rfl hrow
    (fun Z w' hZ ho hkk => do_append ho g W.n b1 b2 b3 q (l.length + 8) cb (frameL l) (by rw [World.cell?_of_block (hkk b1 (.inr ⟨k1, l1⟩))]; exact d1) (by rw [World.cell?_of_block (hkk b2 (.inr ⟨k2, l2⟩))]; exact d2) (by rw [World.cell?_of_block (hkk b3 (.inr ⟨k3, l3⟩))]; exact d3)
      (by rw [World.cell?_of_block (hkk g (.inl h.inY))]; exact hA.cell.2.2.2.1) ?_ (fun _ a ha => (hq a ha).imp (fun hy => hZ _ (.inl hy)) id) (by rw [frameL_len]; omega))).mono ?_
  · refine (hB.grow hb2).off fun hn a ha hlt => ?_
    rcases hq a ha with hy | hy
    · exact hkk _ (.inl hy)
    · exact (ho.base.block _ hy).trans ((hA.own.base.block _ hy).symm)
  · rintro e w' ⟨rfl, hq2⟩
    rw [appW_eq]
    exact ⟨rfl, LogEnd.behind h hb2 (fun b hy => .inl hy) hq2⟩

set_option maxRecDepth 100000 in
set_option maxHeartbeats 6400000 in
theorem put_any (h : LogAt w0 Y w g d W) (p : Option Addr) (m c : Nat) (l : List Nat) (hB : Bytes w p m c l) (h1 : 1 ≤ W.n) (hN : W.n ≤ 99999999) (hs : W.size ≤ 1000000000) (hk : W.wait ≤ 1000000000) (hm1 : -9223372036854775808 ≤ W.most) (hm2 : W.most ≤ 9223372036854775807)
    (hL : W.D.fs.length < 999999) (hR : W.D.room ≤ 100000000000) :
    Calls Tryz.prog 30 #[.pointer (some ⟨g, 0, none⟩), .slice p m c] w fun e w' => e = .returned (.int .i64 (putW W l).2) ∧ LogEnd w0 Y w g d (putW W l).1 w' := by
  have hlen := hB.len
  have hmax := hB.max
  by_cases hm0 : m = 0
  · have e : putW W l = (W, 2) := by
      have : l = [] := List.length_eq_zero_iff.1 (by omega)
      unfold putW
      rw [if_pos this]
    rw [e]
    subst hm0
    have HE := Lib.hid h.refl
    clear h hB hlen e
    go_enter Tryz.func30, Tryz.ntmps30
    go_wp2
    go_ret
    exact ⟨rfl, HE.out⟩
  · have hne : l ≠ [] := by rintro rfl; exact hm0 (by simpa using hlen.symm)
    have hz : ((m : Int) == 0) = false := by rw [beq_eq_false_iff_ne]; omega
    by_cases hbig : 1048576 < m
    · have e : putW W l = (W, 4) := by
        unfold putW
        rw [if_neg hne, if_pos (.inl (by omega))]
      rw [e]
      have HE := Lib.hid h.refl
      have HM := Lib.hid (make_no p m c w hbig)
      clear h hB hlen e hne
      go_enter Tryz.func30, Tryz.ntmps30
      go_wp2_with fail
      refine HM.out.mono ?_
      rintro e w' ⟨rfl, rfl⟩
      go_wp2
      go_ret
      exact ⟨rfl, HE.out⟩
    · have HM := Lib.hid (make_yes p m c l w hB (by omega))
      have H := Lib.hid h
      obtain ⟨g0, g1, g2, g3, g4⟩ := h.cell
      have Hne := Lib.hid hne
      have Hlen := Lib.hid hlen
      have G1 := Lib.hid g1
      have G4 := Lib.hid g4
      have HBy := Lib.hid hB.byte
      clear h hB hne hlen g0 g1 g2 g3 g4
      go_enter Tryz.func30, Tryz.ntmps30
      go_wp2_with fail
      refine HM.out.mono ?_
      rintro e w1 ⟨v, rfl, hown, hb⟩
      have hll : l.length ≤ 1048576 := by rw [Hlen.out]; omega
      obtain ⟨q, cb, rfl, hq⟩ := own_slice hown (frameL_byte HBy.out (by omega))
      have hqb : ∀ a, q = some a → w.heap.size ≤ a.block ∧ a.block < w1.heap.size := fun a ha => hown.lt a.block (by rw [ha]; rfl)
      rw [frameL_len] at hq
      rw [frameL_len]
      have HA := Lib.hid (H.out.all hb)
      have HE := Lib.hid (fun W2 w' (hq : LogEnd w0 (fun b => Y b ∨ (w.heap.size ≤ b ∧ b < w1.heap.size)) w1 g d W2 w') => LogEnd.behind H.out hb (fun b hy => Or.inl hy) hq)
      have HQ := Lib.hid hq
      have Hqb := Lib.hid hqb
      have HEn := Lib.hid (H.out.ended hb)
      have k1 := cell_below hb (Nat.le_refl _) G1.out
      have k4 := cell_below hb (Nat.le_refl _) G4.out
      clear hown hb hq hqb
      have hbq : ∀ q, Below w1.heap.size w1 (w1.drewN q) := fun q => below_drewN (Below.refl _ _) q
      have Hbq := Lib.hid hbq
      by_cases hmo : W.most < ((l.length + 8 : Nat) : Int)
      · have He := Lib.hid (show putW W l = (W, 4) from by
          unfold putW
          rw [if_neg Hne.out, if_pos (.inr hmo)])
        have hmo2 : W.most < (l.length : Int) + 8 := by omega
        clear hbq hmo
        go_wp2
        go_ret
        rw [He.out]
        exact ⟨rfl, HEn.out⟩
      · have hsub : IntKind.i64.wrap (W.most - ((l.length : Int) + 8)) = W.most - ((l.length : Int) + 8) := IntWalk.i64_in _ (by omega)
        have hmo2 : ¬ W.most < (l.length : Int) + 8 := by omega
        have hmo3 : ¬ (1048576 < l.length ∨ W.most < ((l.length + 8 : Nat) : Int)) := by omega
        have Hmo3 := Lib.hid hmo3
        have Hll := Lib.hid hll
        have HqY := Lib.hid (fun a (ha : q = some a) => (show (Y a.block ∨ (w.heap.size ≤ a.block ∧ a.block < w1.heap.size)) ∨ a.block < w0.heap.size from .inl (.inr (Hqb.out a ha))))
        by_cases hrot : W.most - ((l.length : Int) + 8) < (W.size : Int)
        · have Hput := Lib.hid (show putW W l = if (rotW W).2 ≠ 0 then rotW W else appW (rotW W).1 l from by
            unfold putW
            rw [if_neg Hne.out, if_neg hmo3, if_pos (by omega)])
          have HG := Lib.hid (fun q => goOn_any (HA.out.below (hbq q)) h1 hN (by omega))
          obtain ⟨f1, f2, f3, f4, f5⟩ := rotW_facts W
          have HF := Lib.hid (And.intro f1 (And.intro f2 f3))
          have HF4 := Lib.hid f4
          generalize hr : rotW W = r at *
          have Hr := Lib.hid hr
          clear hbq hmo hmo3 f1 f2 f3 f4 f5 hll hr
          go_wp2_with fail
          go_quiet (fail)
          go_wp2_with fail
          refine (HG.out _).mono ?_
          rintro e w2 ⟨rfl, hq⟩
          have hq1 := LogEnd.behind HA.out (Hbq.out nq) (fun b hy => hy) hq
          have Hq1 := Lib.hid hq1
          clear hq hq1
          by_cases hc : r.2 = 0
          · obtain ⟨e1, e2, e3, e4⟩ := HF4.out hc
            have HT := Lib.hid (put_tail Hq1.out.1 q cb l (HQ.out.off fun _ a ha _ => by
                have hb2 := Hqb.out a ha
                have hgl := H.out.lt
                exact Hq1.out.2.1 a.block (.inr hb2) (by omega)) HqY.out (by omega) (by omega) (by omega) (by omega) Hll.out (by rw [HF.out.2.1]; exact hR))
            rw [hc]
            go_wp2_with fail
            refine HT.out.mono ?_
            rintro e w3 ⟨k, caps, n, s, z, rfl, hT⟩
            have HT2 := Lib.hid hT
            clear hT HT
            unfold stepV
            go_wp2_with fail
            refine HT2.out.mono ?_
            rintro e w4 ⟨rfl, hq4⟩
            have Hq4 := Lib.hid (HE.out _ _ (Hq1.out.trans hq4))
            have Hc := Lib.hid hc
            clear hq4 hc
            go_wp2
            go_ret
            rw [Hput.out, if_neg (by rw [Hc.out]; simp)]
            exact ⟨rfl, Hq4.out⟩
          · have hc1 : (r.2 == 0) = false := by simpa using hc
            have hc2 : (r.2 != 0) = true := by simpa using hc
            have Hc := Lib.hid hc
            have Hq4 := Lib.hid (HE.out _ _ Hq1.out)
            clear hc
            go_wp2
            go_ret
            rw [Hput.out, if_pos Hc.out]
            exact ⟨rfl, Hq4.out⟩
        · have Hput := Lib.hid (show putW W l = appW W l from by
            unfold putW
            rw [if_neg Hne.out, if_neg hmo3, if_neg (by omega)])
          have HT := Lib.hid (fun z => put_tail (HA.out.below (hbq z)) q cb l (HQ.out.grow (hbq z)) HqY.out h1 hN hs hk Hll.out hR)
          clear hbq hmo hmo3 hll
          go_wp2_with fail
          go_quiet (fail)
          go_wp2_with fail
          refine (HT.out _).mono ?_
          rintro e w3 ⟨k, caps, n, s, z, rfl, hT⟩
          have HT2 := Lib.hid hT
          clear hT HT
          unfold stepV
          go_wp2_with fail
          refine HT2.out.mono ?_
          rintro e w4 ⟨rfl, hq4⟩
          have Hq4 := Lib.hid (HE.out _ _ (LogEnd.behind HA.out (Hbq.out nq) (fun b hy => hy) hq4))
          clear hq4
          go_wp2
          go_ret
          rw [Hput.out]
          exact ⟨rfl, Hq4.out⟩

end
end Go.Proofs.YtmiepigieajpcaaGreat

/- The walks of New, of what tells a log's state, of a nil log, and of the statements' start. -/
namespace Go.Proofs.YtmiepigieajpcaaGreat
open Go.RowKit Go.Maps Go.Shelf

theorem wnew_any (d N S : Nat) (most : Int) (w : World) :
    Calls Tryz.prog 67 #[.pointer (some ⟨d, 0, none⟩), .int .i64 most, .int .i64 (N : Int), .int .i64 (S : Int)] w fun e w' => e = .returned (.pointer (some ⟨w.heap.size, 0, none⟩)) ∧
      w' = w.alloc (.cells #[.int .i64 (N : Int), .int .i64 (S : Int), .int .i64 0, .pointer (some ⟨d, 0, none⟩), .int .i64 most] 129) := by
  go_enter Tryz.func67, Tryz.ntmps67
  go_wp2
  go_ret
  exact ⟨rfl, rfl⟩

theorem segment_any {g : Nat} {z : Int} {w : World} (h : w.cell? ⟨g, 0, none⟩ = some (.int .i64 z)) :
    Calls Tryz.prog 25 #[.pointer (some ⟨g, 0, none⟩)] w fun e w' => e = .returned (.int .i64 z) ∧ w' = w := by
  go_enter Tryz.func25, Tryz.ntmps25
  go_wp2
  go_ret
  exact ⟨rfl, rfl⟩

theorem wsize_any {g : Nat} {z : Int} {w : World} (h : w.cell? ⟨g, 1, none⟩ = some (.int .i64 z)) :
    Calls Tryz.prog 26 #[.pointer (some ⟨g, 0, none⟩)] w fun e w' => e = .returned (.int .i64 z) ∧ w' = w := by
  go_enter Tryz.func26, Tryz.ntmps26
  go_wp2
  go_ret
  exact ⟨rfl, rfl⟩

theorem waiting_any {g : Nat} {z : Int} {w : World} (h : w.cell? ⟨g, 2, none⟩ = some (.int .i64 z)) :
    Calls Tryz.prog 45 #[.pointer (some ⟨g, 0, none⟩)] w fun e w' => e = .returned (.int .i64 z) ∧ w' = w := by
  go_enter Tryz.func45, Tryz.ntmps45
  go_wp2
  go_ret
  exact ⟨rfl, rfl⟩

theorem segment_nil (w : World) : Calls Tryz.prog 25 #[.pointer none] w fun e w' => e = .returned (.int .i64 0) ∧ w' = w := by
  go_enter Tryz.func25, Tryz.ntmps25
  go_wp2
  go_ret
  exact ⟨rfl, rfl⟩

theorem wsize_nil (w : World) : Calls Tryz.prog 26 #[.pointer none] w fun e w' => e = .returned (.int .i64 0) ∧ w' = w := by
  go_enter Tryz.func26, Tryz.ntmps26
  go_wp2
  go_ret
  exact ⟨rfl, rfl⟩

theorem waiting_nil (w : World) : Calls Tryz.prog 45 #[.pointer none] w fun e w' => e = .returned (.int .i64 0) ∧ w' = w := by
  go_enter Tryz.func45, Tryz.ntmps45
  go_wp2
  go_ret
  exact ⟨rfl, rfl⟩

theorem wsync_nil (w : World) : Calls Tryz.prog 32 #[.pointer none] w fun e w' => e = .returned (.int .i64 1) ∧ w' = w := by
  go_enter Tryz.func32, Tryz.ntmps32
  go_wp2
  go_ret
  exact ⟨rfl, rfl⟩

theorem put_nil (p : Option Addr) (m c : Nat) (w : World) : Calls Tryz.prog 30 #[.pointer none, .slice p m c] w fun e w' => e = .returned (.int .i64 1) ∧ w' = w := by
  go_enter Tryz.func30, Tryz.ntmps30
  go_wp2
  go_ret
  exact ⟨rfl, rfl⟩

theorem nmB_one : nmB 1 = [108, 111, 103, 45, 48, 48, 48, 48, 48, 48, 48, 49] := by decide +kernel

end Go.Proofs.YtmiepigieajpcaaGreat

