import Derived.Test.YtmcdfmhciinocaaGreatDoorSR26
import Derived.Test.YtmcdfmhciinocaaGreatDoorSR32
import Derived.Test.YtmcdfmhciinocaaGreatDoorSR38
import Derived.Test.YtmcdfmhciinocaaGreatDoorSR30
import Derived.Test.YtmcdfmhciinocaaGreatDoorSR6
import Derived.Deep.RegionHeld3
import Derived.Test.YtmcdfmhciinocaaGreatDoorCards
import Derived.Test.YtmcdfmhciinocaaGreatDoorTie
/- The walk of the statement EventReads. -/
namespace Go.Proofs.YtmcdfmhciinocaaGreatDoor
open Go.RowKit Go.Shelf Fl
attribute [local go_sem ↓] Go.wp_at_zero Go.wp_at_succ

def NewK (w : World) (l : List Nat) (e : Ending) (w' : World) : Prop := ∃ g, e = .returned (.pointer (some ⟨g, 0, none⟩)) ∧ w.heap.size ≤ g ∧ RdK (fun b => b < w'.heap.size) w' g l true ∧ Below w.heap.size w w'

theorem new_k (a : Option Addr) (n cap : Nat) (l : List Nat) (w : World) (hl : Bytes w a n cap l) (hn : n ≤ 100000000000000) :
    Calls Tryz.prog 15 #[.slice a n cap] w (NewK w l) := by
  have HB := Lib.hid hl
  clear hl
  go_enter Tryz.func15, Tryz.ntmps15
  go_wp2_with fail
  refine (bclone_any a n cap l w HB.out (by omega)).mono ?_
  rintro e w1 ⟨x, rfl, hown, hb⟩
  have hown : w1.ownsRow w.heap.size 5 1 x l.length (u8s l) := hown
  have hnear : ∀ p n c, x = .slice (some p) n c → p.block < w1.heap.size := by
    rintro p n c rfl
    rcases hown.2 with ⟨hv, _⟩ | ⟨g, cap', cur, hv, hg, hh, _⟩
    · cases hv
    · cases hv; exact (Array.getElem?_eq_some_iff.1 hh).1
  obtain ⟨p, cp, rfl, hP⟩ := own_slice hown HB.out.byte
  have hfp := own_formed hown
  have HP := Lib.hid hP
  have Hfp := Lib.hid hfp
  have Hnear := Lib.hid hnear
  clear hP hown hfp hnear
  go_wp2
  go_ret
  refine ⟨w1.heap.size, rfl, hb.size, ⟨p, _, cp, heap_alloc_new _ _, HP.out.grow ((Below.refl _ _).alloc (Nat.le_refl _) _), Hfp.out, fun x hx => ?_⟩, hb.alloc hb.size _⟩
  subst hx
  have := Hnear.out x _ _ rfl
  simp
  omega

theorem evZ_in (w : World) : EvIn w (ev0 0) evZ :=
  ⟨(show -9223372036854775808 ≤ (0 : Int) ∧ (0 : Int) ≤ 9223372036854775807 by omega), (show 0 < 18446744073709551616 by omega), (show -9223372036854775808 ≤ (0 : Int) ∧ (0 : Int) ≤ 9223372036854775807 by omega), (show 0 < 18446744073709551616 by omega), ⟨fun c h => (by cases h), (show 0 ≤ 9223372036854775807 by omega)⟩, ⟨fun c h => (by cases h), (show 0 ≤ 9223372036854775807 by omega)⟩, none, 0, rfl, zero_in w⟩

set_option maxRecDepth 100000 in
set_option maxHeartbeats 12800000 in
theorem eventReads_any (a : Option Addr) (n cap : Nat) (l : List Nat) (w : World) (hl : Bytes w a n cap l) (hf : Formed a cap) (hp : Pow10 w) (ht : Tab16 w) :
    Calls Tryz.prog 4 #[.slice a n cap] w fun r w' => r = .returned (.bool true) ∧ Below w.heap.size w w' := by
  have HA := Lib.hid (fun W (hW : Below w.heap.size w W) => alive11_any W (hp.below hW) (tab_below ht hW))
  have hlen := hl.len
  have HB := Lib.hid hl
  have HF := Lib.hid hf
  have hsf := fun (W : World) (A : Addr) (f : Nat) (m : Mode) => (run_store Tryz.prog W A (.float .f64 f) m rfl)
  clear hl hf hp ht
  by_cases h6 : n ≤ 600
  rotate_left
  · have h6' : (600 : Int) < (n : Int) := by omega
    clear h6 hlen
    go_enter Tryz.func4, Tryz.ntmps4
    go_wp2_with fail
    refine (HA.out _ (Below.refl _ _)).mono ?_
    rintro r w3 ⟨rfl, hb3⟩
    have Hb3 := Lib.hid hb3
    clear hb3
    go_wp2
    go_ret
    exact ⟨rfl, Hb3.out⟩
  have h6' : ¬ (600 : Int) < (n : Int) := by omega
  have Hlen := Lib.hid (show l.length ≤ 600 by omega)
  have HN := Lib.hid (new_k a n cap l w HB.out (by omega))
  clear h6 hlen
  go_enter Tryz.func4, Tryz.ntmps4
  go_wp2_with fail
  refine HN.out.mono ?_
  rintro r w1 ⟨g, rfl, hg, hR, hb1⟩
  have HRK := Lib.hid hR
  have Hb1 := Lib.hid hb1
  have Hg := Lib.hid hg
  clear hg hR hb1 HN
  have HEv := Lib.hid (evread_any (fun b => b < w1.heap.size) g l w1 (fun _ h => h) (by have := Hlen.out; omega) HRK.out)
  go_wp2_with fail
  refine HEv.out.mono ?_
  rintro r w2 (⟨q, rest, xq, rfl, hq, hqi, hqr⟩ | ⟨hno, rfl, ls, ok, hqr⟩)
  · have Hq := Lib.hid hq
    have HqI := Lib.hid hqi
    obtain ⟨_, _, _, _, _, _, qa, qcap, rfl, _⟩ := hqi
    have Hqr := Lib.hid hqr
    have Hw2 := Lib.hid (show Below w.heap.size w w2 from ⟨hqr.2.os.trans Hb1.out.os, hqr.2.tape.trans Hb1.out.tape, hqr.2.output.trans Hb1.out.output, Nat.le_trans Hb1.out.size hqr.2.size, fun i hi => (hqr.2.block i (Nat.lt_of_lt_of_le hi Hb1.out.size) (fun h => by cases h; have := Hg.out; omega)).trans (Hb1.out.block i hi)⟩)
    have hbz := (Below.refl w2.heap.size w2).alloc (Nat.le_refl _) (.cells (evC q.k q.id q.n q.t q.nm q.tx q.v.kind q.v.n q.v.f q.v.s qa q.v.l.length qcap) 28)
    have HZ0 := Lib.hid (heap_alloc_new w2 (.cells (evC q.k q.id q.n q.t q.nm q.tx q.v.kind q.v.n q.v.f q.v.s qa q.v.l.length qcap) 28))
    have Hbz := Lib.hid hbz
    have Hw3 := Lib.hid (Hw2.out.trans (hbz.mono Hw2.out.size))
    obtain ⟨K2, hRR⟩ := rread11_raw l a n cap _ (by have := Hlen.out; omega) (HB.out.grow Hw3.out) HF.out
    have HRR := Lib.hid hRR
    clear hq hqr hbz HEv hRR
    go_wp2_with fail
    refine HRR.out.mono ?_
    rintro r w4 ⟨a4, n4, c4, bad, ls, hB4, hf4, hb4, ⟨q2, x2, rfl, rfl, hq2i, hq2⟩ | ⟨hno, _⟩⟩
    rotate_left
    · exact absurd Hq.out (hno q rest)
    obtain ⟨hsame, hrest⟩ := Hq.out.uniq hq2
    subst hrest
    obtain rfl : n4 = rest.length := hB4.len.symm
    have Hsame := Lib.hid hsame
    have Hq2I := Lib.hid hq2i
    obtain ⟨_, _, _, _, _, _, qb, qcb, rfl, _⟩ := hq2i
    have Hb4 := Lib.hid hb4
    clear hsame hb4 hB4 hf4 hq2 HRR
    go_upto_region 6 with fail
    have hal1 := (Below.refl w4.heap.size w4).alloc (Nat.le_refl _) (.cells #[.slice a4 rest.length c4, .bool false] 42)
    have hal2 := (Below.refl (w4.alloc (.cells #[.slice a4 rest.length c4, .bool false] 42)).heap.size _).alloc (Nat.le_refl _) (.cells (evC q2.k q2.id q2.n q2.t q2.nm q2.tx q2.v.kind q2.v.n q2.v.f q2.v.s qb q2.v.l.length qcb) 28)
    have HX5 := Lib.hid (blk (heap_alloc_new w4 (.cells #[.slice a4 rest.length c4, .bool false] 42)) hal2)
    have HY5 := Lib.hid (heap_alloc_new (w4.alloc (.cells #[.slice a4 rest.length c4, .bool false] 42)) (.cells (evC q2.k q2.id q2.n q2.t q2.nm q2.tx q2.v.kind q2.v.n q2.v.f q2.v.s qb q2.v.l.length qcb) 28))
    rw [World.size_alloc] at HY5
    have Hal := Lib.hid (hal1.trans (hal2.mono hal1.size))
    clear hal1 hal2
    generalize (w4.alloc (.cells #[.slice a4 rest.length c4, .bool false] 42)).alloc (.cells (evC q2.k q2.id q2.n q2.t q2.nm q2.tx q2.v.kind q2.v.n q2.v.f q2.v.s qb q2.v.l.length qcb) 28) = w5 at *
    have Hb25 := Lib.hid (Hbz.out.trans ((Hb4.out.trans (Hal.out.mono Hb4.out.size)).mono Hbz.out.size))
    have HZ5 := Lib.hid (blk (blk HZ0.out Hb4.out) Hal.out)
    have HR5 := Lib.hid ((Hqr.out.1.below Hb25.out).rd)
    have Hw5 := Lib.hid (Hw2.out.trans (Hb25.out.mono Hw2.out.size))
    have HK5 := Lib.hid (fun W (hW : Below w5.heap.size w5 W) => And.intro (box11 (blk HZ5.out hW)) (And.intro (box11 (blk HY5.out hW)) (block_cells (blk HX5.out hW)).1))
    have HJ := Lib.hid (fun W (hW : Below w5.heap.size w5 W) => Hw5.out.trans (hW.mono Hw5.out.size))
    have HSm := Lib.hid (fun W (hW : Below w5.heap.size w5 W) => rsame11_any q q2 _ _ W (HqI.out.below (Hb25.out.trans (hW.mono Hb25.out.size))) (Hq2I.out.below (Hal.out.trans (hW.mono Hal.out.size))))
    rw [Hsame.out] at HSm
    have HLf := Lib.hid (fun W (hW : Below w5.heap.size w5 W) => mLeft _ g rest true W W (orNone_some g W) (HR5.out.below hW))
    have HVl := Lib.hid (fun W (hW : Below w5.heap.size w5 W) => evalid_any 9 (by omega) q _ W (right_small 8 _ (ok_right Hq.out.1)) (HqI.out.below (Hb25.out.trans (hW.mono Hb25.out.size))))
    rw [Hq.out.1] at HVl
    have Hd := Lib.hid (show Below w5.heap.size w5 w5.drew from (Below.refl _ _).drew)
    clear HZ0
    go_wp2_with fail
    go_region_held3 (fun W => (W.cell? ⟨w2.heap.size, 0, none⟩ = some (.int .i64 q.k) ∧ W.cell? ⟨w2.heap.size, 1, none⟩ = some (.int .u64 (q.id : Int)) ∧ W.cell? ⟨w2.heap.size, 2, none⟩ = some (.int .i64 q.n) ∧ W.cell? ⟨w2.heap.size, 3, none⟩ = some (.int .u64 (q.t : Int)) ∧ W.cell? ⟨w2.heap.size, 4, none⟩ = some (.string (str q.nm)) ∧ W.cell? ⟨w2.heap.size, 5, none⟩ = some (.string (str q.tx)) ∧ W.cell? ⟨w2.heap.size, 6, none⟩ = some (.int .i64 q.v.kind) ∧ W.cell? ⟨w2.heap.size, 7, none⟩ = some (.int .i64 q.v.n) ∧ W.cell? ⟨w2.heap.size, 8, none⟩ = some (.float .f64 q.v.f) ∧ W.cell? ⟨w2.heap.size, 9, none⟩ = some (.string (str q.v.s)) ∧ W.cell? ⟨w2.heap.size, 10, none⟩ = some (.slice qa q.v.l.length qcap)) ∧ (W.cell? ⟨w4.heap.size + 1, 0, none⟩ = some (.int .i64 q2.k) ∧ W.cell? ⟨w4.heap.size + 1, 1, none⟩ = some (.int .u64 (q2.id : Int)) ∧ W.cell? ⟨w4.heap.size + 1, 2, none⟩ = some (.int .i64 q2.n) ∧ W.cell? ⟨w4.heap.size + 1, 3, none⟩ = some (.int .u64 (q2.t : Int)) ∧ W.cell? ⟨w4.heap.size + 1, 4, none⟩ = some (.string (str q2.nm)) ∧ W.cell? ⟨w4.heap.size + 1, 5, none⟩ = some (.string (str q2.tx)) ∧ W.cell? ⟨w4.heap.size + 1, 6, none⟩ = some (.int .i64 q2.v.kind) ∧ W.cell? ⟨w4.heap.size + 1, 7, none⟩ = some (.int .i64 q2.v.n) ∧ W.cell? ⟨w4.heap.size + 1, 8, none⟩ = some (.float .f64 q2.v.f) ∧ W.cell? ⟨w4.heap.size + 1, 9, none⟩ = some (.string (str q2.v.s)) ∧ W.cell? ⟨w4.heap.size + 1, 10, none⟩ = some (.slice qb q2.v.l.length qcb)) ∧ W.cell? ⟨w4.heap.size, 0, none⟩ = some (.slice a4 rest.length c4))
      (first | with_reducible exact HK5.out _ Hd.out | with_reducible exact HK5.out _ hb6 | with_reducible exact HK5.out _ hb7 | with_reducible exact HK5.out _ hb8 | with_reducible exact HK5.out _ hb9)
      (first | (go_at_call 8; (with_reducible refine (HA.out _ (HJ.out _ Hd.out)).mono ?_); rintro r w6 ⟨rfl, hb60⟩
                have hb6 : Below w5.heap.size w5 w6 := Hd.out.trans (hb60.mono Hd.out.size)
                clear hb60)
             | (go_at_call 18; (with_reducible refine (HSm.out _ hb6).mono ?_); rintro r w7 ⟨rfl, hb70⟩
                have hb7 : Below w5.heap.size w5 w7 := hb6.trans (hb70.mono hb6.size)
                clear hb70)
             | (go_at_call 20; (with_reducible refine (HLf.out _ hb7).mono ?_); rintro r w8 ⟨rfl, rfl⟩
                have hb8 := hb7)
             | (go_at_call 11; (with_reducible refine (HVl.out _ hb7).mono ?_); rintro r w9 ⟨rfl, hb90⟩
                have hb9 : Below w5.heap.size w5 w9 := hb7.trans (hb90.mono hb7.size)
                clear hb90))
    have Hz := Lib.hid (HJ.out _ hb9)
    go_wp2
    go_ret
    exact ⟨rfl, Hz.out⟩
  · have Hno := Lib.hid hno
    have Hqr := Lib.hid hqr
    have Hw2 := Lib.hid (show Below w.heap.size w w2 from ⟨hqr.2.os.trans Hb1.out.os, hqr.2.tape.trans Hb1.out.tape, hqr.2.output.trans Hb1.out.output, Nat.le_trans Hb1.out.size hqr.2.size, fun i hi => (hqr.2.block i (Nat.lt_of_lt_of_le hi Hb1.out.size) (fun h => by cases h; have := Hg.out; omega)).trans (Hb1.out.block i hi)⟩)
    have hbz := (Below.refl w2.heap.size w2).alloc (Nat.le_refl _) (.cells evZ 28)
    have HZ0 := Lib.hid (heap_alloc_new w2 (.cells evZ 28))
    have Hbz := Lib.hid hbz
    have Hw3 := Lib.hid (Hw2.out.trans (hbz.mono Hw2.out.size))
    obtain ⟨K2, hRR⟩ := rread11_raw l a n cap _ (by have := Hlen.out; omega) (HB.out.grow Hw3.out) HF.out
    have HRR := Lib.hid hRR
    clear hno hqr hbz HEv hRR
    go_wp2_with fail
    refine HRR.out.mono ?_
    rintro r w4 ⟨a4, n4, c4, bad, ls2, hB4, hf4, hb4, ⟨q2, x2, rfl, rfl, hq2i, hq2⟩ | ⟨hno2, rfl⟩⟩
    · exact absurd hq2 (Hno.out q2 ls2)
    have Hb4 := Lib.hid hb4
    clear hb4 hB4 hf4 hno2 HRR
    go_upto_region 6 with fail
    have hal1 := (Below.refl w4.heap.size w4).alloc (Nat.le_refl _) (.cells #[.slice a4 n4 c4, .bool bad] 42)
    have hal2 := (Below.refl (w4.alloc (.cells #[.slice a4 n4 c4, .bool bad] 42)).heap.size _).alloc (Nat.le_refl _) (.cells evZ 28)
    have HY5 := Lib.hid (heap_alloc_new (w4.alloc (.cells #[.slice a4 n4 c4, .bool bad] 42)) (.cells evZ 28))
    rw [World.size_alloc] at HY5
    have Hal := Lib.hid (hal1.trans (hal2.mono hal1.size))
    clear hal1 hal2
    generalize (w4.alloc (.cells #[.slice a4 n4 c4, .bool bad] 42)).alloc (.cells evZ 28) = w5 at *
    have Hb25 := Lib.hid (Hbz.out.trans ((Hb4.out.trans (Hal.out.mono Hb4.out.size)).mono Hbz.out.size))
    have HZ5 := Lib.hid (blk (blk HZ0.out Hb4.out) Hal.out)
    have Hw5 := Lib.hid (Hw2.out.trans (Hb25.out.mono Hw2.out.size))
    have HK5 := Lib.hid (fun W (hW : Below w5.heap.size w5 W) => And.intro (box11 (blk HZ5.out hW)) (box11 (blk HY5.out hW)))
    have HJ := Lib.hid (fun W (hW : Below w5.heap.size w5 W) => Hw5.out.trans (hW.mono Hw5.out.size))
    have HSm := Lib.hid (fun W (hW : Below w5.heap.size w5 W) => rsame11_any (ev0 0) (ev0 0) _ _ W (evZ_in W) (evZ_in W))
    rw [show sameE (ev0 0) (ev0 0) = true by decide +kernel] at HSm
    clear HZ0
    go_wp2_with fail
    refine wp_region_held_drew (S := (fun W => Below w5.heap.size w5 W)) (by kernel_rfl) ((Below.refl _ _).drew) (fun hHeld => ?_)
    refine wpAnyH_ready (rs := [0]) (by kernel_rfl) (by simp) ?_
    refine AllReadyH.cons (o := { dst := some 27, op := Op.call { callee := Callee.value (Operand.func 8), args := #[], argTypes := #[] }, type := 4, pos := "law.go:48", after := #[], guard := none }) rfl (fun K hK => ?_) AllReadyH.nil
    go_simp
    go_at_call 8
    refine (HA.out _ (HJ.out _ hHeld)).mono ?_
    rintro r w6 ⟨rfl, hb60⟩
    have hb6 : Below w5.heap.size w5 w6 := hHeld.trans (hb60.mono hHeld.size)
    clear hb60
    refine hK.out _ _ hb6 (fun _ => ?_)
    clear hK K
    try simp only [Act.put, List.setIfInBounds_toArray, List.set_cons_zero, List.set_cons_succ]
    refine wpAnyH_take (i := 1) (oi := { dst := some 28, op := Op.move (Operand.tmp 27), type := 4, pos := "law.go:48", after := #[{ on := 0, ground := Ground.data }, { on := 0, ground := Ground.chain }], guard := none }) (v := ?v1) rfl (by kernel_rfl) (by kernel_rfl) (by kernel_rfl) (fun _ _ _ h => h) (Or.inl ⟨by rfl, ?y1⟩) hb6 ?r1
    case y1 => (intro W hSw; go_simp; first | done | with_reducible rfl)
    try simp only [Act.put, List.setIfInBounds_toArray, List.set_cons_zero, List.set_cons_succ]
    refine wpAnyH_take (i := 2) (oi := { dst := some 29, op := Op.load 28 (Operand.tmp 4), type := 28, pos := "law.go:48", after := #[{ on := 1, ground := Ground.guard }], guard := some (1, true) }) (v := ?v2) rfl (by kernel_rfl) (by kernel_rfl) (by kernel_rfl) (fun _ _ _ h => h) (Or.inl ⟨by rfl, ?y2⟩) hb6 ?r2
    case y2 => (intro W hSw; obtain ⟨⟨g0, g1, g2, g3, g4, g5, g6, g7, g8, g9, g10⟩, k0, k1, k2, k3, k4, k5, k6, k7, k8, k9, k10⟩ := HK5.out W hSw; go_simp; first | done | with_reducible rfl)
    try simp only [Act.put, List.setIfInBounds_toArray, List.set_cons_zero, List.set_cons_succ]
    refine wpAnyH_take (i := 3) (oi := { dst := some 30, op := Op.load 28 (Operand.tmp 7), type := 28, pos := "law.go:48", after := #[{ on := 1, ground := Ground.guard }], guard := some (1, true) }) (v := ?v3) rfl (by kernel_rfl) (by kernel_rfl) (by kernel_rfl) (fun _ _ _ h => h) (Or.inl ⟨by rfl, ?y3⟩) hb6 ?r3
    case y3 => (intro W hSw; obtain ⟨⟨g0, g1, g2, g3, g4, g5, g6, g7, g8, g9, g10⟩, k0, k1, k2, k3, k4, k5, k6, k7, k8, k9, k10⟩ := HK5.out W hSw; go_simp; first | done | with_reducible rfl)
    try simp only [Act.put, List.setIfInBounds_toArray, List.set_cons_zero, List.set_cons_succ]
    refine wpAnyH_ready (rs := [4]) (by kernel_rfl) (by simp) ?_
    refine AllReadyH.cons (o := { dst := some 31, op := Op.call { callee := Callee.value (Operand.func 18), args := #[Operand.tmp 29, Operand.tmp 30], argTypes := #[28, 28] }, type := 4, pos := "law.go:48", after := #[{ on := 2, ground := Ground.data }, { on := 3, ground := Ground.data }, { on := 1, ground := Ground.chain }, { on := 1, ground := Ground.guard }], guard := some (1, true) }) rfl (fun K hK => ?_) AllReadyH.nil
    go_simp
    go_at_call 18
    refine (HSm.out _ hb6).mono ?_
    rintro r w7 ⟨rfl, hb70⟩
    have hb7 : Below w5.heap.size w5 w7 := hb6.trans (hb70.mono hb6.size)
    clear hb70
    refine hK.out _ _ hb7 (fun _ => ?_)
    clear hK K
    try simp only [Act.put, List.setIfInBounds_toArray, List.set_cons_zero, List.set_cons_succ]
    refine wpAnyH_take (i := 5) (oi := { dst := some 32, op := Op.pick (Operand.tmp 28) (Operand.tmp 31) (Operand.const (Value.bool false)), type := 4, pos := "law.go:48", after := #[{ on := 1, ground := Ground.data }, { on := 4, ground := Ground.data }], guard := none }) (v := ?v4) rfl (by kernel_rfl) (by kernel_rfl) (by kernel_rfl) (fun _ _ _ h => h) (Or.inl ⟨by rfl, ?y4⟩) hb7 ?r4
    case y4 => (intro W hSw; go_simp; first | done | with_reducible rfl)
    try simp only [Act.put, List.setIfInBounds_toArray, List.set_cons_zero, List.set_cons_succ]
    refine wpAnyH_take (i := 6) (oi := { dst := some 33, op := Op.move (Operand.tmp 32), type := 4, pos := "law.go:48", after := #[{ on := 5, ground := Ground.data }, { on := 4, ground := Ground.chain }], guard := none }) (v := ?v5) rfl (by kernel_rfl) (by kernel_rfl) (by kernel_rfl) (fun _ _ _ h => h) (Or.inl ⟨by rfl, ?y5⟩) hb7 ?r5
    case y5 => (intro W hSw; go_simp; first | done | with_reducible rfl)
    try simp only [Act.put, List.setIfInBounds_toArray, List.set_cons_zero, List.set_cons_succ]
    refine wpAnyH_take (i := 7) (oi := { dst := some 34, op := Op.move (Operand.tmp 5), type := 4, pos := "law.go:48", after := #[{ on := 6, ground := Ground.guard }], guard := some (6, true) }) (v := ?v6) rfl (by kernel_rfl) (by kernel_rfl) (by kernel_rfl) (fun _ _ _ h => h) (Or.inl ⟨by rfl, ?y6⟩) hb7 ?r6
    case y6 => (intro W hSw; go_simp; first | done | with_reducible rfl)
    try simp only [Act.put, List.setIfInBounds_toArray, List.set_cons_zero, List.set_cons_succ]
    refine wpAnyH_take (i := 8) (oi := { dst := some 35, op := Op.move (Operand.tmp 8), type := 4, pos := "law.go:48", after := #[{ on := 6, ground := Ground.guard }], guard := some (6, true) }) (v := ?v7) rfl (by kernel_rfl) (by kernel_rfl) (by kernel_rfl) (fun _ _ _ h => h) (Or.inl ⟨by rfl, ?y7⟩) hb7 ?r7
    case y7 => (intro W hSw; go_simp; first | done | with_reducible rfl)
    try simp only [Act.put, List.setIfInBounds_toArray, List.set_cons_zero, List.set_cons_succ]
    refine wpAnyH_take (i := 9) (oi := { dst := some 36, op := Op.binOp BinOp.eql 4 (Operand.tmp 34) (Operand.tmp 35) 4, type := 4, pos := "law.go:48", after := #[{ on := 7, ground := Ground.data }, { on := 8, ground := Ground.data }, { on := 6, ground := Ground.guard }], guard := some (6, true) }) (v := ?v8) rfl (by kernel_rfl) (by kernel_rfl) (by kernel_rfl) (fun _ _ _ h => h) (Or.inl ⟨by rfl, ?y8⟩) hb7 ?r8
    case y8 => (intro W hSw; go_simp; first | done | with_reducible rfl)
    try simp only [Act.put, List.setIfInBounds_toArray, List.set_cons_zero, List.set_cons_succ]
    refine wpAnyH_take (i := 10) (oi := { dst := some 37, op := Op.pick (Operand.tmp 33) (Operand.tmp 36) (Operand.const (Value.bool false)), type := 4, pos := "law.go:48", after := #[{ on := 6, ground := Ground.data }, { on := 9, ground := Ground.data }], guard := none }) (v := ?v9) rfl (by kernel_rfl) (by kernel_rfl) (by kernel_rfl) (fun _ _ _ h => h) (Or.inl ⟨by rfl, ?y9⟩) hb7 ?r9
    case y9 => (intro W hSw; go_simp; first | done | with_reducible rfl)
    try simp only [Act.put, List.setIfInBounds_toArray, List.set_cons_zero, List.set_cons_succ]
    refine wpAnyH_take (i := 11) (oi := { dst := some 38, op := Op.move (Operand.tmp 37), type := 4, pos := "law.go:48", after := #[{ on := 10, ground := Ground.data }, { on := 6, ground := Ground.chain }], guard := none }) (v := ?v10) rfl (by kernel_rfl) (by kernel_rfl) (by kernel_rfl) (fun _ _ _ h => h) (Or.inl ⟨by rfl, ?y10⟩) hb7 ?r10
    case y10 => (intro W hSw; go_simp; first | done | with_reducible rfl)
    try simp only [Act.put, List.setIfInBounds_toArray, List.set_cons_zero, List.set_cons_succ]
    refine wpAnyH_take (i := 12) (oi := { dst := some 39, op := Op.move (Operand.tmp 5), type := 4, pos := "law.go:48", after := #[{ on := 11, ground := Ground.guard }], guard := some (11, true) }) (v := ?v11) rfl (by kernel_rfl) (by kernel_rfl) (by kernel_rfl) (fun _ _ _ h => h) (Or.inl ⟨by rfl, ?y11⟩) hb7 ?r11
    case y11 => (intro W hSw; go_simp; first | done | with_reducible rfl)
    try simp only [Act.put, List.setIfInBounds_toArray, List.set_cons_zero, List.set_cons_succ]
    refine wpAnyH_take (i := 13) (oi := { dst := some 40, op := Op.unOp UnOp.not 4 (Operand.tmp 39), type := 4, pos := "law.go:48", after := #[{ on := 12, ground := Ground.data }, { on := 11, ground := Ground.guard }], guard := some (11, true) }) (v := ?v12) rfl (by kernel_rfl) (by kernel_rfl) (by kernel_rfl) (fun _ _ _ h => h) (Or.inl ⟨by rfl, ?y12⟩) hb7 ?r12
    case y12 => (intro W hSw; go_simp; first | done | with_reducible rfl)
    try simp only [Act.put, List.setIfInBounds_toArray, List.set_cons_zero, List.set_cons_succ]
    refine wpAnyH_take (i := 14) (oi := { dst := some 41, op := Op.move (Operand.tmp 40), type := 4, pos := "law.go:48", after := #[{ on := 13, ground := Ground.data }, { on := 11, ground := Ground.chain }, { on := 11, ground := Ground.guard }], guard := some (11, true) }) (v := ?v13) rfl (by kernel_rfl) (by kernel_rfl) (by kernel_rfl) (fun _ _ _ h => h) (Or.inl ⟨by rfl, ?y13⟩) hb7 ?r13
    case y13 => (intro W hSw; go_simp; first | done | with_reducible rfl)
    try simp only [Act.put, List.setIfInBounds_toArray, List.set_cons_zero, List.set_cons_succ]
    refine wpAnyH_take (i := 15) (oi := { dst := some 42, op := Op.move (Operand.tmp 3), type := 36, pos := "law.go:48", after := #[{ on := 14, ground := Ground.guard }], guard := some (14, false) }) (v := undef) rfl (by kernel_rfl) (by kernel_rfl) (by kernel_rfl) (fun _ _ _ h => h) (Or.inr ⟨by rfl, rfl⟩) hb7 ?_
    try simp only [Act.put, List.setIfInBounds_toArray, List.set_cons_zero, List.set_cons_succ]
    refine wpAnyH_take (i := 16) (oi := { dst := some 43, op := Op.call { callee := Callee.value (Operand.func 20), args := #[Operand.tmp 42], argTypes := #[36] }, type := 3, pos := "law.go:48", after := #[{ on := 15, ground := Ground.data }, { on := 14, ground := Ground.chain }, { on := 14, ground := Ground.guard }], guard := some (14, false) }) (v := undef) rfl (by kernel_rfl) (by kernel_rfl) (by kernel_rfl) (fun _ _ _ h => h) (Or.inr ⟨by rfl, rfl⟩) hb7 ?_
    try simp only [Act.put, List.setIfInBounds_toArray, List.set_cons_zero, List.set_cons_succ]
    refine wpAnyH_take (i := 17) (oi := { dst := some 44, op := Op.fieldAddr 42 (Operand.tmp 6) 0, type := 0, pos := "law.go:48", after := #[{ on := 14, ground := Ground.guard }], guard := some (14, false) }) (v := undef) rfl (by kernel_rfl) (by kernel_rfl) (by kernel_rfl) (fun _ _ _ h => h) (Or.inr ⟨by rfl, rfl⟩) hb7 ?_
    try simp only [Act.put, List.setIfInBounds_toArray, List.set_cons_zero, List.set_cons_succ]
    refine wpAnyH_take (i := 18) (oi := { dst := some 45, op := Op.load 31 (Operand.tmp 44), type := 31, pos := "law.go:48", after := #[{ on := 17, ground := Ground.data }, { on := 14, ground := Ground.guard }], guard := some (14, false) }) (v := undef) rfl (by kernel_rfl) (by kernel_rfl) (by kernel_rfl) (fun _ _ _ h => h) (Or.inr ⟨by rfl, rfl⟩) hb7 ?_
    try simp only [Act.put, List.setIfInBounds_toArray, List.set_cons_zero, List.set_cons_succ]
    refine wpAnyH_take (i := 19) (oi := { dst := some 46, op := Op.call { callee := Callee.builtin Builtin.len, args := #[Operand.tmp 45], argTypes := #[31] }, type := 3, pos := "law.go:48", after := #[{ on := 18, ground := Ground.data }, { on := 14, ground := Ground.guard }], guard := some (14, false) }) (v := undef) rfl (by kernel_rfl) (by kernel_rfl) (by kernel_rfl) (fun _ _ _ h => h) (Or.inr ⟨by rfl, rfl⟩) hb7 ?_
    try simp only [Act.put, List.setIfInBounds_toArray, List.set_cons_zero, List.set_cons_succ]
    refine wpAnyH_take (i := 20) (oi := { dst := some 47, op := Op.binOp BinOp.eql 3 (Operand.tmp 43) (Operand.tmp 46) 3, type := 4, pos := "law.go:48", after := #[{ on := 16, ground := Ground.data }, { on := 19, ground := Ground.data }, { on := 14, ground := Ground.guard }], guard := some (14, false) }) (v := undef) rfl (by kernel_rfl) (by kernel_rfl) (by kernel_rfl) (fun _ _ _ h => h) (Or.inr ⟨by rfl, rfl⟩) hb7 ?_
    try simp only [Act.put, List.setIfInBounds_toArray, List.set_cons_zero, List.set_cons_succ]
    refine wpAnyH_take (i := 21) (oi := { dst := some 48, op := Op.move (Operand.tmp 47), type := 4, pos := "law.go:48", after := #[{ on := 20, ground := Ground.data }, { on := 16, ground := Ground.chain }, { on := 14, ground := Ground.guard }], guard := some (14, false) }) (v := undef) rfl (by kernel_rfl) (by kernel_rfl) (by kernel_rfl) (fun _ _ _ h => h) (Or.inr ⟨by rfl, rfl⟩) hb7 ?_
    try simp only [Act.put, List.setIfInBounds_toArray, List.set_cons_zero, List.set_cons_succ]
    refine wpAnyH_take (i := 22) (oi := { dst := some 49, op := Op.load 28 (Operand.tmp 4), type := 28, pos := "law.go:48", after := #[{ on := 21, ground := Ground.guard }], guard := some (21, true) }) (v := undef) rfl (by kernel_rfl) (by kernel_rfl) (by kernel_rfl) (fun _ _ _ h => h) (Or.inr ⟨by rfl, rfl⟩) hb7 ?_
    try simp only [Act.put, List.setIfInBounds_toArray, List.set_cons_zero, List.set_cons_succ]
    refine wpAnyH_take (i := 23) (oi := { dst := some 50, op := Op.call { callee := Callee.value (Operand.func 11), args := #[Operand.tmp 49], argTypes := #[28] }, type := 4, pos := "law.go:48", after := #[{ on := 22, ground := Ground.data }, { on := 21, ground := Ground.chain }, { on := 21, ground := Ground.guard }], guard := some (21, true) }) (v := undef) rfl (by kernel_rfl) (by kernel_rfl) (by kernel_rfl) (fun _ _ _ h => h) (Or.inr ⟨by rfl, rfl⟩) hb7 ?_
    try simp only [Act.put, List.setIfInBounds_toArray, List.set_cons_zero, List.set_cons_succ]
    refine wpAnyH_take (i := 24) (oi := { dst := some 51, op := Op.pick (Operand.tmp 48) (Operand.tmp 50) (Operand.const (Value.bool false)), type := 4, pos := "law.go:48", after := #[{ on := 21, ground := Ground.data }, { on := 23, ground := Ground.data }, { on := 14, ground := Ground.guard }], guard := some (14, false) }) (v := undef) rfl (by kernel_rfl) (by kernel_rfl) (by kernel_rfl) (fun _ _ _ h => h) (Or.inr ⟨by rfl, rfl⟩) hb7 ?_
    try simp only [Act.put, List.setIfInBounds_toArray, List.set_cons_zero, List.set_cons_succ]
    refine wpAnyH_take (i := 25) (oi := { dst := some 52, op := Op.pick (Operand.tmp 41) (Operand.const (Value.bool true)) (Operand.tmp 51), type := 4, pos := "law.go:48", after := #[{ on := 14, ground := Ground.data }, { on := 24, ground := Ground.data }, { on := 11, ground := Ground.guard }], guard := some (11, true) }) (v := ?v14) rfl (by kernel_rfl) (by kernel_rfl) (by kernel_rfl) (fun _ _ _ h => h) (Or.inl ⟨by rfl, ?y14⟩) hb7 ?r14
    case y14 => (intro W hSw; go_simp; first | done | with_reducible rfl)
    try simp only [Act.put, List.setIfInBounds_toArray, List.set_cons_zero, List.set_cons_succ]
    refine wpAnyH_take (i := 26) (oi := { dst := some 53, op := Op.pick (Operand.tmp 38) (Operand.tmp 52) (Operand.const (Value.bool false)), type := 4, pos := "law.go:48", after := #[{ on := 11, ground := Ground.data }, { on := 25, ground := Ground.data }], guard := none }) (v := ?v15) rfl (by kernel_rfl) (by kernel_rfl) (by kernel_rfl) (fun _ _ _ h => h) (Or.inl ⟨by rfl, ?y15⟩) hb7 ?r15
    case y15 => (intro W hSw; go_simp; first | done | with_reducible rfl)
    try simp only [Act.put, List.setIfInBounds_toArray, List.set_cons_zero, List.set_cons_succ]
    refine wpAnyH_take (i := 27) (oi := { dst := some 2, op := Op.assign (Operand.tmp 53), type := 4, pos := "law.go:48", after := #[{ on := 26, ground := Ground.data }, { on := 23, ground := Ground.chain }, { on := 0, ground := Ground.phase }, { on := 1, ground := Ground.phase }, { on := 2, ground := Ground.phase }, { on := 3, ground := Ground.phase }, { on := 4, ground := Ground.phase }, { on := 5, ground := Ground.phase }, { on := 6, ground := Ground.phase }, { on := 7, ground := Ground.phase }, { on := 8, ground := Ground.phase }, { on := 9, ground := Ground.phase }, { on := 10, ground := Ground.phase }, { on := 11, ground := Ground.phase }, { on := 12, ground := Ground.phase }, { on := 13, ground := Ground.phase }, { on := 14, ground := Ground.phase }, { on := 15, ground := Ground.phase }, { on := 16, ground := Ground.phase }, { on := 17, ground := Ground.phase }, { on := 18, ground := Ground.phase }, { on := 19, ground := Ground.phase }, { on := 20, ground := Ground.phase }, { on := 21, ground := Ground.phase }, { on := 22, ground := Ground.phase }, { on := 23, ground := Ground.phase }, { on := 24, ground := Ground.phase }, { on := 25, ground := Ground.phase }, { on := 26, ground := Ground.phase }], guard := none }) (v := ?v16) rfl (by kernel_rfl) (by kernel_rfl) (by kernel_rfl) (fun _ _ _ h => h) (Or.inl ⟨by rfl, ?y16⟩) hb7 ?r16
    case y16 => (intro W hSw; go_simp; first | done | with_reducible rfl)
    try simp only [Act.put, List.setIfInBounds_toArray, List.set_cons_zero, List.set_cons_succ]
    refine wpAnyH_done (by kernel_rfl) ?_ _
    have Hz := Lib.hid (HJ.out _ hb7)
    go_wp2
    go_ret
    exact ⟨rfl, Hz.out⟩
end Go.Proofs.YtmcdfmhciinocaaGreatDoor

/- For all arguments, in whatever memory in which the listed package-level variables hold what the program's text lays, the statement EventReads answers true, and leaves its arguments as they were. The card ties the listed variables to the text. No condition of our own. -/
namespace Go.Proofs.YtmcdfmhciinocaaGreatDoor.EventReadsP
open Go.ChangeShapes Go.WideShapes Go.ChangeAt Go.WideMaps Go.WideElems Go.RowKit
open Go.ChangeMaps (open_string)

theorem own : ownKnob Tryz.prog.godebug = none := by kernel_rfl
theorem laidOut : laidOutB Tryz.prog = true := by kernel_rfl
theorem cells_b : Tryz.prog.cellsOf 5 = 1 := by kernel_rfl

theorem door_met (os : Os) (args : Array Value) : laidMetH Tryz.prog Rows.eventReadsRow.laid ((World.doorLaid Tryz.prog 400 os).forCall (fun _ _ => 0) ⟨#[], args, []⟩).memory :=
  laidMetH_of_parts3 (fuel := 8) (laidMet_of_run' 8 (by kernel_rfl) (by kernel_rfl)) (by kernel_rfl) (by kernel_rfl)

set_option maxRecDepth 100000 in
theorem lifted (os : Os) (started : os.Started) (H : Type) (enc : TypeId × Value → H) :
    ReturnsInHanded {} Tryz.checked os 4 .any (fun w args => (Rows.eventReadsSpec.pre enc Tryz.prog Tryz.f4 [] false w args ∧ laidMetH Tryz.prog Rows.eventReadsRow.laid w) ∧ sizedMet enc Tryz.prog Tryz.f4 (OpenSpec.ofChange Rows.eventReadsSpec) false w args)
      (Rows.eventReadsSpec.post enc Tryz.prog Tryz.f4 false true false false) := by
  refine returnsInHanded_of_change_and (C := Tryz.checked) (X := fun w _ => laidMetH Tryz.prog Rows.eventReadsRow.laid w) (fun _ _ _ hh h => h.of_heap hh) own started (by kernel_rfl) Tryz.func4
    (ChangeSpec.witness_shaped (enc := enc) (C := Tryz.checked) (os := os) (X := fun w _ => laidMetH Tryz.prog Rows.eventReadsRow.laid w) false (World.doorLaid Tryz.prog 400 os) #[.slice none 0 0] 8 rfl (World.shaped_of_RefB (by kernel_rfl) (by kernel_rfl)) (by kernel_rfl) (by kernel_rfl) (by kernel_rfl) (door_met os _)) ?_
  intro W base args ds gs before hval0 hW _ _ hL _
  have hval : ∀ (j : Nat) t v, Tryz.f4.params[j]? = some t → args[j]? = some v → Value.okWide Tryz.prog W .any base t v := hval0
  have hW' := hW
  obtain ⟨p, q, hA0, hV, rfl, _, _⟩ := hW
  have hA : DataW.TrodAll enc Tryz.prog W 0 (fun _ => true) true Tryz.f4.params.toList args.toList ds p := hA0
  rw [Tryz.params4] at hA hval
  obtain ⟨v0, d0, rfl, rfl, h0⟩ := trodAll_one hA
  obtain ⟨rfl, rfl⟩ := trodVars_none hV
  obtain ⟨a0, n0, cap0, l0, rfl, hP0, hF0⟩ := open_bytesF Tryz.underlying31 Tryz.underlying5 cells_b (hval 0 31 v0 rfl rfl) h0
  have hM : laidMet Tryz.prog Rows.eventReadsRow.laid W := by
    have h := hL
    rw [MakeChecks.laidMetH_plain _ _ _ (by kernel_rfl)] at h
    exact h
  have hpw := pow10w_of_laid hM
  have htw := tab_of_laid hM
  refine (eventReads_any a0 n0 cap0 l0 W hP0 hF0 hpw htw).mono fun e W' ⟨he, hb⟩ => ?_
  subst he
  exact ⟨_, rfl, law_post laidOut (by kernel_rfl) rfl (by kernel_rfl) Tryz.underlying4 hW' rfl hb⟩

theorem row_holds : Rows.EventReadsSaid :=
  OpenClaim.holds_of_wide 4 Tryz.f4 rfl rfl rfl rfl rfl rfl rfl ⟨rfl, rfl, rfl, rfl, rfl⟩ rfl rfl rfl rfl rfl (by kernel_rfl) Tryz.func4 (by kernel_rfl)
    (of_decide_eq_true (by kernel_rfl)) (by unfold Func.isWrapper; first | (rw [if_pos (by decide +kernel)]; kernel_rfl) | (rw [if_neg (by decide +kernel)]; exact ⟨rfl, rfl⟩))
    (fun os started H enc _ => lifted os started H enc)

theorem proved : Rows.EventReadsCardSaid :=
  Claim7.holds_tied_plain_at .later [] Rows.eventReadsCard.laidKinds Rows.eventReadsCard.laidTests Rows.eventReadsCard.stood.harness Rows.eventReadsCard.stood.looks
    row_holds (fun _ h => by cases h) (by kernel_rfl) (fun _ h => by cases h) eventReads_row_tie rfl ⟨rfl, rfl⟩ (by kernel_rfl) rfl
    (fun f fn hf hfn => by
      obtain rfl : f = 4 := Option.some.inj ((show Tryz.prog.funcNamed "clockwork/clockworklaw11.EventReads" = some 4 by kernel_rfl).symm.trans hf) |>.symm
      obtain rfl : fn = Tryz.f4 := (Option.some.inj (Tryz.func4.symm.trans hfn)).symm
      exact ⟨by kernel_rfl, fun j t ht => by
        rw [Tryz.params4] at ht
        have hm : t ∈ [31] := by simpa using Array.mem_of_getElem? ht
        have hall : ([31].all fun u => !Tryz.prog.wantsStandIn u) = true := by kernel_rfl
        exact (show Tryz.prog.wantsStandIn t = false by simpa using List.all_eq_true.1 hall t hm)⟩)
    (by kernel_rfl)
#print axioms proved
end Go.Proofs.YtmcdfmhciinocaaGreatDoor.EventReadsP

