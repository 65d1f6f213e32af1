import Derived.Test.YtcapbaocchaenaaGreatDoorSG35
import Derived.Test.YtcapbaocchaenaaGreatDoorSG33
import Derived.Test.YtcapbaocchaenaaGreatDoorSG34
import Derived.Test.YtcapbaocchaenaaGreatDoorSG30
import Derived.Test.YtcapbaocchaenaaGreatDoorSG31
import Derived.RegionTactic
import Derived.Test.YtcapbaocchaenaaGreatDoorSG29
import Derived.Test.YtcapbaocchaenaaGreatDoorSG28
import Derived.Deep.AppendLies
import Derived.WalkMore
/- The walk of the code's cloneOf. -/
namespace Go.Proofs.YtcapbaocchaenaaGreatDoor
open Go.RowKit Go.Shelf Fl

theorem set_tail5 {w : World} {E : Nat} {v0 v1 v2 v3 v4 v5 v6 v7 v8 v9 v10 : Value} {t : TypeId} {m : Nat × Nat} (h : w.heap[E]? = some (.cells #[v0, v1, v2, v3, v4, v5, v6, v7, v8, v9, v10] t m)) (u6 u7 u8 u9 u10 : Value) :
    (((((w.setCell ⟨E, 6, none⟩ u6).setCell ⟨E, 7, none⟩ u7).setCell ⟨E, 8, none⟩ u8).setCell ⟨E, 9, none⟩ u9).setCell ⟨E, 10, none⟩ u10).heap[E]? = some (.cells #[v0, v1, v2, v3, v4, v5, u6, u7, u8, u9, u10] t m) := by
  simp [World.setCell, Array.getElem?_modify, h]

theorem sets5_below {w0 w : World} {E bs o : Nat} (hb : Below bs w0 w) (h : bs ≤ E) (u0 u1 u2 u3 u4 : Value) : Below bs w0 (((((w.setCell ⟨E, o, none⟩ u0).setCell ⟨E, o + 1, none⟩ u1).setCell ⟨E, o + 2, none⟩ u2).setCell ⟨E, o + 3, none⟩ u3).setCell ⟨E, o + 4, none⟩ u4) :=
  ((((hb.setCell (p := ⟨E, o, none⟩) h u0).setCell (p := ⟨E, o + 1, none⟩) h u1).setCell (p := ⟨E, o + 2, none⟩) h u2).setCell (p := ⟨E, o + 3, none⟩) h u3).setCell (p := ⟨E, o + 4, none⟩) h u4

/-- What cloneOf returns. -/
def CloneEnd (w : World) (e : Ev) (r : Ending) (w' : World) : Prop := ∃ x', r = .returned (.agg x') ∧ EvInP (fun b => w.heap.size ≤ b ∧ b < w'.heap.size) w' e x' ∧ Below w.heap.size w w'

set_option maxRecDepth 100000 in
set_option maxHeartbeats 6400000 in
theorem cloneof_any (e : Ev) (x : Array Value) (w : World) (hb : bulkV e.v ≤ 1000000) (h : EvIn w e x) :
    Calls Tryz.prog 49 #[.agg x] w (CloneEnd w e) := by
  obtain ⟨h1, h2, h3, h4, h5, h6, a, cap, rfl, hv⟩ := h
  have HC := Lib.hid (fun W (hW : Below w.heap.size w W) => vclone_any e.v _ W hb (hv.below hW))
  unfold cells5 at HC
  have Hsc := Lib.hid (And.intro h1 (And.intro h2 (And.intro h3 (And.intro h4 (And.intro h5 h6)))))
  clear hb hv h1 h2 h3 h4 h5 h6
  have hfl : ∀ (w : World) (a : Addr) (m : Mode) (b : Nat), (store a (.float .f64 b) m).run Tryz.prog w = stored Tryz.prog w a (.float .f64 b) m := fun w a m b => run_store Tryz.prog w a _ m rfl
  have Hal := Lib.hid (((Below.refl w.heap.size w).alloc (Nat.le_refl _) (.cells (evC e.k e.id e.n e.t e.nm e.tx e.v.kind e.v.n e.v.f e.v.s a e.v.l.length cap) 45)).alloc (by simp) (.cells #[.int .i64 0, .int .u64 0, .int .i64 0, .int .u64 0, .string ⟨#[]⟩, .string ⟨#[]⟩, .int .i64 0, .int .i64 0, .float .f64 0, .string ⟨#[]⟩, .slice none 0 0] 45))
  go_enter Tryz.func49, Tryz.ntmps49
  go_wp2_with fail
  have HB1 := Lib.hid ((Below.heap_alloc (w.alloc (.cells (evC e.k e.id e.n e.t e.nm e.tx e.v.kind e.v.n e.v.f e.v.s a e.v.l.length cap) 45)) (.cells #[.int .i64 0, .int .u64 0, .int .i64 0, .int .u64 0, .string ⟨#[]⟩, .string ⟨#[]⟩, .int .i64 0, .int .i64 0, .float .f64 0, .string ⟨#[]⟩, .slice none 0 0] 45) w.heap.size (by simp)).trans (heap_alloc_new w (.cells (evC e.k e.id e.n e.t e.nm e.tx e.v.kind e.v.n e.v.f e.v.s a e.v.l.length cap) 45)))
  have hr1 := heap_alloc_new (w.alloc (.cells (evC e.k e.id e.n e.t e.nm e.tx e.v.kind e.v.n e.v.f e.v.s a e.v.l.length cap) 45)) (.cells #[.int .i64 0, .int .u64 0, .int .i64 0, .int .u64 0, .string ⟨#[]⟩, .string ⟨#[]⟩, .int .i64 0, .int .i64 0, .float .f64 0, .string ⟨#[]⟩, .slice none 0 0] 45)
  rw [World.size_alloc] at hr1
  have HR1 := Lib.hid hr1
  clear hr1
  generalize (w.alloc (.cells (evC e.k e.id e.n e.t e.nm e.tx e.v.kind e.v.n e.v.f e.v.s a e.v.l.length cap) 45)).alloc (.cells #[.int .i64 0, .int .u64 0, .int .i64 0, .int .u64 0, .string ⟨#[]⟩, .string ⟨#[]⟩, .int .i64 0, .int .i64 0, .float .f64 0, .string ⟨#[]⟩, .slice none 0 0] 45) = w1 at *
  refine (HC.out w1 Hal.out).mono ?_
  rintro r w3 ⟨x3, rfl, hv3, hb3⟩
  obtain ⟨a3, c3, rfl⟩ := hv3.parts5
  have HB3 := Lib.hid (blk HB1.out hb3)
  have HR3 := Lib.hid (blk HR1.out hb3)
  have Hv3 := Lib.hid hv3
  have Hb3 := Lib.hid (Hal.out.trans (hb3.mono Hal.out.size))
  have Hz := Lib.hid (show w.heap.size + 1 < w1.heap.size ∧ w1.heap.size ≤ w3.heap.size from ⟨(Array.getElem?_eq_some_iff.1 HR1.out).1, hb3.size⟩)
  clear hv3 hb3 HB1 HR1 HC Hal
  obtain ⟨g0, g1, g2, g3, g4, g5, g6, g7, g8, g9, g10⟩ := box11 HB3.out
  obtain ⟨_, q6, q7, q8, q9, q10⟩ := box11z HB3.out
  go_upto_region 2 with fail
  have HB4 := Lib.hid (set_tail5 HB3.out (.int .i64 e.v.kind) (.int .i64 e.v.n) (.float .f64 e.v.f) (.string (str e.v.s)) (.slice a3 e.v.l.length c3))
  have hbl := sets5_below (E := w.heap.size) (o := 6) Hb3.out (Nat.le_refl _) (.int .i64 e.v.kind) (.int .i64 e.v.n) (.float .f64 e.v.f) (.string (str e.v.s)) (.slice a3 e.v.l.length c3)
  have hoth : ∀ b, b ≠ w.heap.size → (((((w3.setCell ⟨w.heap.size, 6, none⟩ (.int .i64 e.v.kind)).setCell ⟨w.heap.size, 7, none⟩ (.int .i64 e.v.n)).setCell ⟨w.heap.size, 8, none⟩ (.float .f64 e.v.f)).setCell ⟨w.heap.size, 9, none⟩ (.string (str e.v.s))).setCell ⟨w.heap.size, 10, none⟩ (.slice a3 e.v.l.length c3)).heap[b]? = w3.heap[b]? := fun b hb => by simp [World.setCell, Array.getElem?_modify, Ne.symm hb]
  have hszz : (((((w3.setCell ⟨w.heap.size, 6, none⟩ (.int .i64 e.v.kind)).setCell ⟨w.heap.size, 7, none⟩ (.int .i64 e.v.n)).setCell ⟨w.heap.size, 8, none⟩ (.float .f64 e.v.f)).setCell ⟨w.heap.size, 9, none⟩ (.string (str e.v.s))).setCell ⟨w.heap.size, 10, none⟩ (.slice a3 e.v.l.length c3)).heap.size = w3.heap.size := by simp [World.setCell]
  clear g0 g1 g2 g3 g4 g5 g6 g7 g8 g9 g10 q6 q7 q8 q9 q10
  generalize World.setCell (World.setCell (World.setCell (World.setCell (World.setCell w3 _ _) _ _) _ _) _ _) _ _ = w4 at *
  have hzz := Hz.out
  have HR4 := Lib.hid ((hoth (w.heap.size + 1) (by omega)).trans HR3.out)
  have Hb4 := Lib.hid hbl
  have Hv4 := Lib.hid (VInP.turn (w' := w4) (q' := fun b => w1.heap.size ≤ b ∧ b < w4.heap.size) (fun b hb => ⟨hb.1, by have := hb.2; omega⟩) (fun p hp => World.cell?_of_block (hoth p.block (by have := hp.1; omega))) _ _ Hv3.out)
  clear hbl hoth hszz Hv3 HR3 HB3 Hb3 hzz
  obtain ⟨g0, g1, g2, g3, g4, g5, g6, g7, g8, g9, g10⟩ := box11 HB4.out
  obtain ⟨c0, c1, c2, c3', c4, c5, c6, c7, c8, c9, c10⟩ := box11 HR4.out
  obtain ⟨⟨z0, z1, z2, z3, z4, z5⟩, z6, z7, z8, z9, z10⟩ := box11z HR4.out
  go_wp2
  have hZ := sets11_at HR4.out (.int .i64 e.k) (.int .u64 (e.id : Int)) (.int .i64 e.n) (.int .u64 (e.t : Int)) (.string (str e.nm)) (.string (str e.tx)) (.int .i64 e.v.kind) (.int .i64 e.v.n) (.float .f64 e.v.f) (.string (str e.v.s)) (.slice a3 e.v.l.length c3)
  have hO := fun j (hj : j ≠ w.heap.size + 1) => sets11_other (w := w4) hj (.int .i64 e.k) (.int .u64 (e.id : Int)) (.int .i64 e.n) (.int .u64 (e.t : Int)) (.string (str e.nm)) (.string (str e.tx)) (.int .i64 e.v.kind) (.int .i64 e.v.n) (.float .f64 e.v.f) (.string (str e.v.s)) (.slice a3 e.v.l.length c3)
  have hS := sets11_below (E := w.heap.size + 1) Hb4.out (by omega) (.int .i64 e.k) (.int .u64 (e.id : Int)) (.int .i64 e.n) (.int .u64 (e.t : Int)) (.string (str e.nm)) (.string (str e.tx)) (.int .i64 e.v.kind) (.int .i64 e.v.n) (.float .f64 e.v.f) (.string (str e.v.s)) (.slice a3 e.v.l.length c3)
  unfold sets11 at hZ hO hS
  clear g0 g1 g2 g3 g4 g5 g6 g7 g8 g9 g10 c0 c1 c2 c3' c4 c5 c6 c7 c8 c9 c10 z0 z1 z2 z3 z4 z5 z6 z7 z8 z9 z10
  have hsz : (World.setCell (World.setCell (World.setCell (World.setCell (World.setCell (World.setCell (World.setCell (World.setCell (World.setCell (World.setCell (World.setCell w4 ⟨w.heap.size + 1, 0, none⟩ (.int .i64 e.k)) ⟨w.heap.size + 1, 1, none⟩ (.int .u64 (e.id : Int))) ⟨w.heap.size + 1, 2, none⟩ (.int .i64 e.n)) ⟨w.heap.size + 1, 3, none⟩ (.int .u64 (e.t : Int))) ⟨w.heap.size + 1, 4, none⟩ (.string (str e.nm))) ⟨w.heap.size + 1, 5, none⟩ (.string (str e.tx))) ⟨w.heap.size + 1, 6, none⟩ (.int .i64 e.v.kind)) ⟨w.heap.size + 1, 7, none⟩ (.int .i64 e.v.n)) ⟨w.heap.size + 1, 8, none⟩ (.float .f64 e.v.f)) ⟨w.heap.size + 1, 9, none⟩ (.string (str e.v.s))) ⟨w.heap.size + 1, 10, none⟩ (.slice a3 e.v.l.length c3)).heap.size = w4.heap.size := by simp [World.setCell]
  generalize World.setCell (World.setCell (World.setCell (World.setCell (World.setCell (World.setCell (World.setCell (World.setCell (World.setCell (World.setCell (World.setCell w4 _ _) _ _) _ _) _ _) _ _) _ _) _ _) _ _) _ _) _ _) _ _ = wz at *
  obtain ⟨c0, c1, c2, c3', c4, c5, c6, c7, c8, c9, c10⟩ := box11 hZ
  have hzz := Hz.out
  refine bodyPost_ret (v := .agg (evC e.k e.id e.n e.t e.nm e.tx e.v.kind e.v.n e.v.f e.v.s a3 e.v.l.length c3)) (by simp [results, Tryz.results49, go_sem, *]) rfl ⟨_, rfl, ⟨Hsc.out.1, Hsc.out.2.1, Hsc.out.2.2.1, Hsc.out.2.2.2.1, Hsc.out.2.2.2.2.1, Hsc.out.2.2.2.2.2, a3, c3, rfl, ?_⟩, hS⟩
  exact VInP.turn (fun b hb => ⟨by omega, by omega⟩) (fun p hp => World.cell?_of_block (hO p.block (by omega))) _ _ Hv4.out
end Go.Proofs.YtcapbaocchaenaaGreatDoor

/- The walk of the code's mapped with cloneOf: copies of events. -/
namespace Go.Proofs.YtcapbaocchaenaaGreatDoor
open Go.RowKit Go.Shelf Fl

theorem info_eventM : (Tryz.prog.info? 45).map (fun i => (i.zero, i.size, i.bytes)) = some (some (.agg #[.int .i64 0, .int .u64 0, .int .i64 0, .int .u64 0, .string ⟨#[]⟩, .string ⟨#[]⟩, .int .i64 0, .int .i64 0, .float .f64 0, .string ⟨#[]⟩, .slice none 0 0]), 11, 128) := by kernel_rfl

/-- The cells of the event that is zero. -/
abbrev evM : Array Value := #[.int .i64 0, .int .u64 0, .int .i64 0, .int .u64 0, .string ⟨#[]⟩, .string ⟨#[]⟩, .int .i64 0, .int .i64 0, .float .f64 0, .string ⟨#[]⟩, .slice none 0 0]

theorem run_make_events (n : Nat) (hn : n ≤ 1048576) (W : World) : (Instr.makeSlice 23 (.int .i64 (n : Int)) (.int .i64 (n : Int))).run Tryz.prog W = .ok (.slice (some ⟨W.heap.size, 0, none⟩) n n) (W.alloc (.cells (madeCells evM (n * 11)) 45)) := by
  obtain ⟨i0, hi, hz0, hz1, hz2⟩ := info_parts info_eventM
  have hr := run_make (P := Tryz.prog) W 23 45 i0 _ Tryz.underlying23 hi hz0 .i64 .i64 n n (by omega) (Int.le_refl _) (by rw [hz2]; omega) (by omega)
  simp only [Int.toNat_natCast, hz1] at hr
  exact hr

theorem rowC_made (w : World) (n : Nat) : RowC (w.alloc (.cells (madeCells evM (n * 11)) 45)) 45 11 w.heap.size n (fun _ => evM) := by
  refine ⟨⟨_, heap_alloc_new w _, by rw [size_madeCells]; exact Nat.le_refl _⟩, fun k hk => rfl, fun k hk i hi => ?_⟩
  rw [cell_of_row _ _ _ _ _ _ (heap_alloc_new w _)]
  have hlt : k * 11 + i < n * 11 := by omega
  unfold madeCells
  rw [Array.getElem?_map, Array.getElem?_range, if_pos hlt]
  have hm : (k * 11 + i) % evM.size = i := by
    show (k * 11 + i) % 11 = i
    omega
  show some (evM[(k * 11 + i) % evM.size]!) = evM[i]?
  rw [hm, getElem!_pos evM i hi, Array.getElem?_eq_getElem hi]

/-- What mapped returns: a row of copies, all of it in blocks of the call's own. -/
def MapCEnd (w : World) (es : List Ev) (n : Nat) (r : Ending) (w' : World) : Prop := r = .returned (.slice (some ⟨w.heap.size, 0, none⟩) n n) ∧ Evs w' (some ⟨w.heap.size, 0, none⟩) n n es ∧ Below w.heap.size w w'

set_option maxRecDepth 100000 in
set_option maxHeartbeats 3200000 in
theorem mapclone_any (a : Option Addr) (n c : Nat) (es : List Ev) (w : World) (hn : n ≤ 1048576) (hf : ∀ e ∈ es, bulkV e.v ≤ 1000000) (h : Evs w a n c es) :
    Calls Tryz.prog 48 #[.slice a n c, fnV 49] w (MapCEnd w es n) := by
  have hlen := h.len
  have hcm := h.max
  have hle := h.le
  have H := Lib.hid h
  have HF := Lib.hid hf
  have Hlen := Lib.hid hlen
  have hent := fun W args => enters_of Tryz.func49 (by kernel_rfl) rfl args W
  have hsf := fun (W : World) (A : Addr) (f : Nat) (m : Mode) => (run_store Tryz.prog W A (.float .f64 f) m rfl)
  have hmk := fun W => run_make_events n hn W
  have HR0 := Lib.hid (rowC_made w n)
  have Hb0 := Lib.hid ((Below.refl w.heap.size w).alloc (Nat.le_refl _) (.cells (madeCells evM (n * 11)) 45))
  clear h hf
  go_enter Tryz.func48, Tryz.ntmps48
  go_wp2_with fail
  generalize w.alloc (.cells (madeCells evM (n * 11)) 45) = w1 at *
  go_loopw [13] (fun i wr => ∃ (j : Nat) (d : Nat → Array Value), j ≤ n ∧ i = .int .i64 (j : Int) ∧ RowC wr 45 11 w.heap.size n d ∧ (∀ q u, q < j → es[q]? = some u → EvInP (fun b => w.heap.size < b ∧ b < wr.heap.size) wr u (d q)) ∧ (∀ q, j ≤ q → d q = evM) ∧ Below w.heap.size w wr) (fun i _ => n - (intOf i).toNat)
  case atStart => exact ⟨0, _, Nat.zero_le _, rfl, HR0.out, fun q u hq => absurd hq (by omega), fun q _ => rfl, Hb0.out⟩
  case round =>
    obtain ⟨j, d, hj, rfl, hr, hdn, hdo, hb⟩ := hrel
    have Hr := Lib.hid hr
    have Hdn := Lib.hid hdn
    have Hdo := Lib.hid hdo
    have Hb := Lib.hid hb
    clear hr hdn hdo hb
    by_cases hlt : j < n
    · have hl1 : j < es.length := by omega
      obtain ⟨b, o, rfl, hc⟩ := H.out.cell (by omega)
      obtain ⟨p, cap, hI, ⟨g0, g1, g2, g3, g4, g5⟩, g6, g7, g8, g9, g10⟩ := ((hc j hl1).below Hb.out).all
      have HC := Lib.hid (fun W hb1 => cloneof_any es[j] _ W (HF.out _ (List.getElem_mem hl1)) (hI.below (w' := W) hb1))
      have Hje := Lib.hid (List.getElem?_eq_getElem hl1)
      have hji : (j : Int) < (n : Int) := by omega
      have Hlt := Lib.hid hlt
      generalize es[j] = e at *
      have Hal := Lib.hid ((Below.refl wr.heap.size wr).alloc (Nat.le_refl _) (.cells (evC e.k e.id e.n e.t e.nm e.tx e.v.kind e.v.n e.v.f e.v.s p e.v.l.length cap) 45))
      clear hc hI hlt hl1
      go_wp2_with fail
      refine (HC.out _ Hal.out).mono ?_
      rintro r w2 ⟨x3, rfl, hx3, hb2⟩
      have Hb42 := Lib.hid (Hal.out.trans (hb2.mono Hal.out.size))
      have HX := Lib.hid (show EvInP (fun b => wr.heap.size ≤ b ∧ b < w2.heap.size) w2 e x3 from hx3.turn (fun b hb => ⟨Nat.le_trans Hal.out.size hb.1, hb.2⟩) (fun _ _ => rfl))
      obtain ⟨_, _, _, _, _, _, a3, c3, rfl, _⟩ := hx3
      have HR2 := Lib.hid (Hr.out.below Hb42.out)
      have hrc := HR2.out.cell j Hlt.out
      rw [Hdo.out j (Nat.le_refl _)] at hrc
      have e0 : w2.cell? ⟨w.heap.size, j * 11, none⟩ = some (.int .i64 0) := hrc 0 (by omega)
      have e1 : w2.cell? ⟨w.heap.size, j * 11 + 1, none⟩ = some (.int .u64 0) := hrc 1 (by omega)
      have e2 : w2.cell? ⟨w.heap.size, j * 11 + 2, none⟩ = some (.int .i64 0) := hrc 2 (by omega)
      have e3 : w2.cell? ⟨w.heap.size, j * 11 + 3, none⟩ = some (.int .u64 0) := hrc 3 (by omega)
      have e4 : w2.cell? ⟨w.heap.size, j * 11 + 4, none⟩ = some (.string ⟨#[]⟩) := hrc 4 (by omega)
      have e5 : w2.cell? ⟨w.heap.size, j * 11 + 5, none⟩ = some (.string ⟨#[]⟩) := hrc 5 (by omega)
      have e6 : w2.cell? ⟨w.heap.size, j * 11 + 6, none⟩ = some (.int .i64 0) := hrc 6 (by omega)
      have e7 : w2.cell? ⟨w.heap.size, j * 11 + 7, none⟩ = some (.int .i64 0) := hrc 7 (by omega)
      have e8 : w2.cell? ⟨w.heap.size, j * 11 + 8, none⟩ = some (.float .f64 0) := hrc 8 (by omega)
      have e9 : w2.cell? ⟨w.heap.size, j * 11 + 9, none⟩ = some (.string ⟨#[]⟩) := hrc 9 (by omega)
      have e10 : w2.cell? ⟨w.heap.size, j * 11 + 10, none⟩ = some (.slice none 0 0) := hrc 10 (by omega)
      have hfz : ∀ i, w2.frozen? ⟨w.heap.size, i, none⟩ = false := fun i => by
        obtain ⟨x, hx, _⟩ := HR2.out.row
        simp [World.frozen?, hx]
      have q0 := hfz (j * 11)
      have q1 := hfz (j * 11 + 1)
      have q2 := hfz (j * 11 + 2)
      have q3 := hfz (j * 11 + 3)
      have q4 := hfz (j * 11 + 4)
      have q5 := hfz (j * 11 + 5)
      have q6 := hfz (j * 11 + 6)
      have q7 := hfz (j * 11 + 7)
      have q8 := hfz (j * 11 + 8)
      have q9 := hfz (j * 11 + 9)
      have q10 := hfz (j * 11 + 10)
      clear hb2 hrc hfz g0 g1 g2 g3 g4 g5 g6 g7 g8 g9 g10 HC
      go_wp2
      have hw7 : (((((((((((w2).setCell ⟨w.heap.size, j * 11, none⟩ (.int .i64 e.k)).setCell ⟨w.heap.size, j * 11 + 1, none⟩ (.int .u64 (e.id : Int))).setCell ⟨w.heap.size, j * 11 + 2, none⟩ (.int .i64 e.n)).setCell ⟨w.heap.size, j * 11 + 3, none⟩ (.int .u64 (e.t : Int))).setCell ⟨w.heap.size, j * 11 + 4, none⟩ (.string (str e.nm))).setCell ⟨w.heap.size, j * 11 + 5, none⟩ (.string (str e.tx))).setCell ⟨w.heap.size, j * 11 + 6, none⟩ (.int .i64 e.v.kind)).setCell ⟨w.heap.size, j * 11 + 7, none⟩ (.int .i64 e.v.n)).setCell ⟨w.heap.size, j * 11 + 8, none⟩ (.float .f64 e.v.f)).setCell ⟨w.heap.size, j * 11 + 9, none⟩ (.string (str e.v.s))).setCell ⟨w.heap.size, j * 11 + 10, none⟩ (.slice a3 e.v.l.length c3) = setsAt w2 w.heap.size (j * 11) (#[.int .i64 e.k, .int .u64 (e.id : Int), .int .i64 e.n, .int .u64 (e.t : Int), .string (str e.nm), .string (str e.tx), .int .i64 e.v.kind, .int .i64 e.v.n, .float .f64 e.v.f, .string (str e.v.s), .slice a3 e.v.l.length c3] : Array Value).toList := rfl
      rw [hw7]
      clear hw7 e0 e1 e2 e3 e4 e5 e6 e7 e8 e9 e10 q0 q1 q2 q3 q4 q5 q6 q7 q8 q9 q10
      have HR7 := Lib.hid (HR2.out.set Hlt.out #[.int .i64 e.k, .int .u64 (e.id : Int), .int .i64 e.n, .int .u64 (e.t : Int), .string (str e.nm), .string (str e.tx), .int .i64 e.v.kind, .int .i64 e.v.n, .float .f64 e.v.f, .string (str e.v.s), .slice a3 e.v.l.length c3] rfl)
      have hoth := fun b (hb : b ≠ w.heap.size) => setsAt_other (#[.int .i64 e.k, .int .u64 (e.id : Int), .int .i64 e.n, .int .u64 (e.t : Int), .string (str e.nm), .string (str e.tx), .int .i64 e.v.kind, .int .i64 e.v.n, .float .f64 e.v.f, .string (str e.v.s), .slice a3 e.v.l.length c3] : Array Value).toList w2 w.heap.size (j * 11) b hb
      have hszz := setsAt_size (#[.int .i64 e.k, .int .u64 (e.id : Int), .int .i64 e.n, .int .u64 (e.t : Int), .string (str e.nm), .string (str e.tx), .int .i64 e.v.kind, .int .i64 e.v.n, .float .f64 e.v.f, .string (str e.v.s), .slice a3 e.v.l.length c3] : Array Value).toList w2 w.heap.size (j * 11)
      have Hb7 := Lib.hid (setsAt_below (#[.int .i64 e.k, .int .u64 (e.id : Int), .int .i64 e.n, .int .u64 (e.t : Int), .string (str e.nm), .string (str e.tx), .int .i64 e.v.kind, .int .i64 e.v.n, .float .f64 e.v.f, .string (str e.v.s), .slice a3 e.v.l.length c3] : Array Value).toList w w2 w.heap.size (j * 11) w.heap.size (Hb.out.trans (Hb42.out.mono Hb.out.size)) (Nat.le_refl _))
      generalize setsAt w2 w.heap.size (j * 11) (#[.int .i64 e.k, .int .u64 (e.id : Int), .int .i64 e.n, .int .u64 (e.t : Int), .string (str e.nm), .string (str e.tx), .int .i64 e.v.kind, .int .i64 e.v.n, .float .f64 e.v.f, .string (str e.v.s), .slice a3 e.v.l.length c3] : Array Value).toList = w7 at *
      have hz2 := Hb42.out.size
      have hzr := Hr.out.lt
      go_roundw
      case rel => exact ⟨j + 1, _, Hlt.out, by go_num, HR7.out, fun q u' hq hu' => by
        by_cases e' : q = j
        · subst e'
          rw [Hje.out] at hu'
          cases hu'
          show EvInP _ _ _ (if q = q then _ else d q)
          rw [if_pos rfl]
          exact HX.out.turn (fun b hb => ⟨by omega, by omega⟩) (fun b hb => hoth b (by omega))
        · show EvInP _ _ _ (if q = j then _ else d q)
          rw [if_neg e']
          exact (Hdn.out q u' (by omega) hu').turn (fun b hb => ⟨hb.1, by omega⟩) (fun b hb => (hoth b (by omega)).trans (Hb42.out.block b hb.2)), fun q hq => by
        show (if q = j then _ else d q) = _
        rw [if_neg (by omega)]
        exact Hdo.out q (by omega), Hb7.out⟩
      case measure => simp [intOf]; have := Hlt.out; omega
    · obtain rfl : j = n := by omega
      have hji : ¬ ((j : Int) < (j : Int)) := by omega
      clear hlt
      go_wp2
      go_ret
      refine ⟨rfl, ⟨Hlen.out, Nat.le_refl _, by omega, fun _ => ⟨w.heap.size, 0, rfl, fun i hi => ?_⟩⟩, Hb.out⟩
      have hin : i < j := by have := Hlen.out; omega
      have hv := (Hdn.out i es[i] hin (List.getElem?_eq_getElem hi)).weak
      have hcl := Hr.out.cell i hin
      have hv2 := hv
      obtain ⟨_, _, _, _, _, _, a3, c3, e, _⟩ := hv2
      rw [e] at hv hcl
      exact ⟨a3, c3, hv, fun q hq => by rw [Nat.zero_add]; exact hcl q hq⟩
end Go.Proofs.YtcapbaocchaenaaGreatDoor

/- The walk of the code's Parse of a batch, whatever the bytes. -/
namespace Go.Proofs.YtcapbaocchaenaaGreatDoor
open Go.RowKit Go.Shelf Fl

/-- The cells of the batch that is zero. -/
abbrev btZ : Array Value := #[.string ⟨#[]⟩, .int .u64 0, .slice none 0 0]
theorem info_event : (Tryz.prog.info? 45).map (fun i => (i.zero, i.size, i.bytes)) = some (some (.agg #[.int .i64 0, .int .u64 0, .int .i64 0, .int .u64 0, .string ByteArray.empty, .string ByteArray.empty, .int .i64 0, .int .i64 0, .float .f64 0, .string ByteArray.empty, .slice none 0 0]), 11, 128) := by kernel_rfl

/-- The two boxes of Parse: its result's, and that of the batch that is found. -/
structure PH (w wr : World) (u v x : Value) : Prop where
  res : wr.heap[w.heap.size]? = some (.cells btZ 25 (0, 0))
  box : wr.heap[w.heap.size + 1]? = some (.cells #[u, v, x] 25 (0, 0))
  below : Below w.heap.size w wr

section
variable {w wr w' : World} {u v x : Value}
end

end Go.Proofs.YtcapbaocchaenaaGreatDoor

