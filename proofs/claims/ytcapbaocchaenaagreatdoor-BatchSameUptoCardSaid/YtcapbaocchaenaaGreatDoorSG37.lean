import Derived.Test.YtcapbaocchaenaaGreatDoorSG36
import Derived.Test.YtcapbaocchaenaaGreatDoorSG32
import Derived.Deep.AppendLies
/- The walks of Commands, the code's and the reference's. -/
namespace Go.Proofs.YtcapbaocchaenaaGreatDoor
open Go.RowKit Go.Shelf Fl

/-- The events that do not come from outside. -/
def cmdsE (es : List Ev) : List Ev := es.filter fun e => !(decide (1 ≤ e.k) && decide (e.k ≤ 6))

mutual
/-- Whatever lies in memory lies in blocks that are there. -/
theorem VInP.of {w : World} : ∀ (v : V) (x : Array Value), VIn w v x → VInP (fun b => b < w.heap.size) w v x
  | .mk k n f s l, x, h => by
    rw [VIn] at h
    rw [VInP]
    obtain ⟨h1, h2, h3, h4, h5, a, cap, h6, h7, h8, h9⟩ := h
    refine ⟨h1, h2, h3, h4, h5, a, cap, h6, h7, h8, ?_⟩
    by_cases hl : l = []
    · exact .inl hl
    · rcases h9 with h9 | ⟨b, o, ha, hv⟩
      · exact .inl h9
      · exact .inr ⟨b, o, ha, VsInP.blk l b o hl hv, VsInP.of l b o hv⟩
theorem VsInP.of {w : World} : ∀ (l : List V) (b o : Nat), VsIn w l b o → VsInP (fun b => b < w.heap.size) w l b o
  | [], _, _, _ => by rw [VsInP]; trivial
  | v :: r, b, o, h => by
    rw [VsIn] at h
    rw [VsInP]
    obtain ⟨⟨x, hx, hc, hv⟩, hr⟩ := h
    exact ⟨⟨x, hx, hc, VInP.of v x hv⟩, VsInP.of r b (o + 5) hr⟩
theorem VsInP.blk {w : World} : ∀ (l : List V) (b o : Nat), l ≠ [] → VsIn w l b o → b < w.heap.size
  | [], _, _, h, _ => absurd rfl h
  | v :: r, b, o, _, h => by
    rw [VsIn] at h
    obtain ⟨⟨x, hx, hc, _⟩, _⟩ := h
    have h0 := hc 0 (by omega)
    rw [Array.getElem?_eq_getElem (by omega)] at h0
    exact World.block_lt_of_cell? _ _ h0
end

theorem EvInP.of {w : World} {e : Ev} {x : Array Value} (h : EvIn w e x) : EvInP (fun b => b < w.heap.size) w e x := by
  obtain ⟨h1, h2, h3, h4, h5, h6, a, cap, h7, h8⟩ := h
  exact ⟨h1, h2, h3, h4, h5, h6, a, cap, h7, VInP.of _ _ h8⟩

/-- The eleven cells of an event in a slice that lay in an earlier world, one by one. -/
theorem EvCells.allP {w wr : World} {b o : Nat} {e : Ev} (h : EvCells w b o e) (hb : Below w.heap.size w wr) : ∃ a cap, EvInP (fun b => b < w.heap.size) wr e (evC e.k e.id e.n e.t e.nm e.tx e.v.kind e.v.n e.v.f e.v.s a e.v.l.length cap) ∧
    (wr.cell? ⟨b, o, none⟩ = some (.int .i64 e.k) ∧ wr.cell? ⟨b, o + 1, none⟩ = some (.int .u64 (e.id : Int)) ∧ wr.cell? ⟨b, o + 2, none⟩ = some (.int .i64 e.n) ∧ wr.cell? ⟨b, o + 3, none⟩ = some (.int .u64 (e.t : Int)) ∧ wr.cell? ⟨b, o + 4, none⟩ = some (.string (str e.nm)) ∧ wr.cell? ⟨b, o + 5, none⟩ = some (.string (str e.tx))) ∧
    wr.cell? ⟨b, o + 6, none⟩ = some (.int .i64 e.v.kind) ∧ wr.cell? ⟨b, o + 7, none⟩ = some (.int .i64 e.v.n) ∧ wr.cell? ⟨b, o + 8, none⟩ = some (.float .f64 e.v.f) ∧ wr.cell? ⟨b, o + 9, none⟩ = some (.string (str e.v.s)) ∧ wr.cell? ⟨b, o + 10, none⟩ = some (.slice a e.v.l.length cap) := by
  obtain ⟨a, cap, h1, h2⟩ := h
  exact ⟨a, cap, (EvInP.of h1).turn (fun _ hb => hb) (fun b hlt => hb.block b hlt), ⟨cell_below hb (h2 0 (by omega)), cell_below hb (h2 1 (by omega)), cell_below hb (h2 2 (by omega)), cell_below hb (h2 3 (by omega)), cell_below hb (h2 4 (by omega)), cell_below hb (h2 5 (by omega))⟩, cell_below hb (h2 6 (by omega)), cell_below hb (h2 7 (by omega)), cell_below hb (h2 8 (by omega)), cell_below hb (h2 9 (by omega)), cell_below hb (h2 10 (by omega))⟩

/-- What Commands returns. -/
def CmdEnd (w : World) (es : List Ev) (r : Ending) (w' : World) : Prop := ∃ a n c, r = .returned (.slice a n c) ∧ Evs w' a n c (cmdsE es) ∧ Below w.heap.size w w'

theorem cmds_take {es : List Ev} {j : Nat} (h : j < es.length) : cmdsE (es.take (j + 1)) = cmdsE (es.take j) ++ (if !(decide (1 ≤ es[j].k) && decide (es[j].k ≤ 6)) then [es[j]] else []) := by
  rw [List.take_succ_eq_append_getElem h]
  unfold cmdsE
  rw [List.filter_append, List.filter_cons, List.filter_nil]

set_option maxRecDepth 100000 in
set_option maxHeartbeats 6400000 in
theorem cmds_any (t : Bt) (x : Array Value) (w : World) (hn : t.es.length ≤ 1048576) (hf : ∀ e ∈ t.es, bulkV e.v ≤ 1000000) (h : BtIn w t x) :
    Calls Tryz.prog 17 #[.agg x] w (CmdEnd w t.es) := by
  obtain ⟨fl, at_, es⟩ := t
  obtain ⟨_, _, a, n, c, rfl, hE⟩ := h
  change Evs w a n c es at hE
  change es.length ≤ 1048576 at hn
  change ∀ e ∈ es, _ at hf
  have hlen := hE.len
  have hcm := hE.max
  have hle := hE.le
  have hal := (Below.refl w.heap.size w).alloc (Nat.le_refl _) (.cells #[.string (str fl), .int .u64 (at_ : Int), .slice a n c] 25)
  have HX := Lib.hid (heap_alloc_new w (.cells #[.string (str fl), .int .u64 (at_ : Int), .slice a n c] 25))
  have Hal := Lib.hid hal
  have HE := Lib.hid hE
  have HF := Lib.hid hf
  have Hn := Lib.hid hn
  have Hlen := Lib.hid hlen
  obtain ⟨y0, y1, y2⟩ := box3 HX.out
  have hfl : ∀ (w : World) (a : Addr) (m : Mode) (b : Nat), (store a (.float .f64 b) m).run Tryz.prog w = stored Tryz.prog w a (.float .f64 b) m := fun w a m b => run_store Tryz.prog w a _ m rfl
  clear hal hE hf hn
  go_enter Tryz.func17, Tryz.ntmps17
  go_wp2_with fail
  generalize w.alloc (.cells #[.string (str fl), .int .u64 (at_ : Int), .slice a n c] 25) = w1 at *
  go_loopw [3, 9] (fun v i wr => ∃ j : Nat, j ≤ n ∧ i = .int .i64 (j : Int) ∧ OwnEs (fun b => b < w.heap.size) wr w1.heap.size v (cmdsE (es.take j)) ∧ Below w.heap.size w wr ∧ w1.heap.size ≤ wr.heap.size) (fun _ i _ => n - (intOf i).toNat)
  case atStart => exact ⟨0, Nat.zero_le _, rfl, OwnEs.nil _ _ _, Hal.out, Nat.le_refl _⟩
  case round =>
    obtain ⟨j, hj, rfl, hO, hb, hz⟩ := hrel
    have HO := Lib.hid hO
    have Hb := Lib.hid hb
    have Hz := Lib.hid hz
    clear hO hb hz
    by_cases hlt : j < n
    · have hl1 : j < es.length := by omega
      obtain ⟨b, o, rfl, hc⟩ := HE.out.cell (by omega)
      obtain ⟨p, cap, hI, ⟨g0, g1, g2, g3, g4, g5⟩, g6, g7, g8, g9, g10⟩ := (hc j hl1).allP Hb.out
      have Htk := Lib.hid (cmds_take hl1)
      have Hlt := Lib.hid hlt
      have hji : (j : Int) < (n : Int) := by omega
      have hlc : (cmdsE (es.take j)).length ≤ 1048576 := Nat.le_trans (List.length_filter_le _ _) (by rw [List.length_take]; have := Hn.out; omega)
      have Hlc := Lib.hid hlc
      have HI := Lib.hid hI
      generalize es[j] = e at *
      have HX4 := Lib.hid (heap_alloc_new wr (.cells #[.int .i64 e.k, .int .u64 (e.id : Int), .int .i64 e.n, .int .u64 (e.t : Int), .string (str e.nm), .string (str e.tx), .int .i64 e.v.kind, .int .i64 e.v.n, .float .f64 e.v.f, .string (str e.v.s), .slice p e.v.l.length cap] 45))
      have HS := Lib.hid ((Below.refl wr.heap.size wr).alloc (Nat.le_refl _) (.cells #[.int .i64 e.k, .int .u64 (e.id : Int), .int .i64 e.n, .int .u64 (e.t : Int), .string (str e.nm), .string (str e.tx), .int .i64 e.v.kind, .int .i64 e.v.n, .float .f64 e.v.f, .string (str e.v.s), .slice p e.v.l.length cap] 45))
      have HOt := Lib.hid (fun W => outside_any e.k W)
      clear hc hI hlt hl1 hlc
      go_upto_region 5 with fail
      generalize wr.alloc (.cells #[.int .i64 e.k, .int .u64 (e.id : Int), .int .i64 e.n, .int .u64 (e.t : Int), .string (str e.nm), .string (str e.tx), .int .i64 e.v.kind, .int .i64 e.v.n, .float .f64 e.v.f, .string (str e.v.s), .slice p e.v.l.length cap] 45) = w4 at *
      have HO4 := Lib.hid (HO.out.below HS.out)
      have HI4 := Lib.hid (HI.out.turn (q' := fun b => b < w.heap.size) (fun _ hb => hb) (fun b hb => HS.out.block b (by have := Hb.out.size; omega)))
      have Hb4 := Lib.hid (Hb.out.trans (HS.out.mono Hb.out.size))
      have Hz4 := Lib.hid (Nat.le_trans Hz.out HS.out.size)
      clear g0 g1 g2 g3 g4 g5 g6 g7 g8 g9 g10 HO HI
      obtain ⟨g0, g1, g2, g3, g4, g5, g6, g7, g8, g9, g10⟩ := box11 HX4.out
      go_wp2_with fail
      refine (HOt.out w4).mono ?_
      rintro r w5 ⟨rfl, rfl⟩
      obtain ⟨q, hq⟩ : ∃ q, q = (decide (1 ≤ e.k) && decide (e.k ≤ 6)) := ⟨_, rfl⟩
      rw [← hq] at Htk ⊢
      clear hq HOt
      cases q with
      | true =>
        have Htk2 := Lib.hid (show cmdsE (es.take (j + 1)) = cmdsE (es.take j) from by rw [Htk.out]; simp)
        go_wp2
        go_roundw
        case rel => exact ⟨j + 1, Hlt.out, by go_num, by rw [Htk2.out]; exact HO4.out, Hb4.out, Hz4.out⟩
        case measure => simp [intOf]; have := Hlt.out; omega
      | false =>
        have Htk2 := Lib.hid (show cmdsE (es.take (j + 1)) = cmdsE (es.take j) ++ [e] from by rw [Htk.out]; simp)
        have hal : Below w5.heap.size w5 (w5.alloc (.cells #[.int .i64 e.k, .int .u64 (e.id : Int), .int .i64 e.n, .int .u64 (e.t : Int), .string (str e.nm), .string (str e.tx), .int .i64 e.v.kind, .int .i64 e.v.n, .float .f64 e.v.f, .string (str e.v.s), .slice p e.v.l.length cap] 45)) := (Below.refl _ _).alloc (Nat.le_refl _) _
        obtain ⟨cs, hcl, hrow, hel⟩ := HO4.out.below hal
        have hown := fun k hk => HO4.out.block (g := k) hk
        have hu := HI4.out.turn (w' := w5.alloc (.cells #[.int .i64 e.k, .int .u64 (e.id : Int), .int .i64 e.n, .int .u64 (e.t : Int), .string (str e.nm), .string (str e.tx), .int .i64 e.v.kind, .int .i64 e.v.n, .float .f64 e.v.f, .string (str e.v.s), .slice p e.v.l.length cap] 45)) (q' := fun b => (b < w.heap.size ∧ some b ≠ u3.ownBlock) ∧ b < (w5.alloc (.cells #[.int .i64 e.k, .int .u64 (e.id : Int), .int .i64 e.n, .int .u64 (e.t : Int), .string (str e.nm), .string (str e.tx), .int .i64 e.v.kind, .int .i64 e.v.n, .float .f64 e.v.f, .string (str e.v.s), .slice p e.v.l.length cap] 45)).heap.size) (fun b hb => ⟨⟨hb, fun h => by have := (hown b h.symm).1; have := Hal.out.size; omega⟩, by have := hal.size; have := Hb4.out.size; omega⟩) (fun b hb => hal.block b (by have := Hb4.out.size; omega))
        have Hcl := Lib.hid hcl
        have HRw := Lib.hid hrow
        have Hcs := Lib.hid hel
        have Hu := Lib.hid hu
        have Hown := Lib.hid hown
        have Hal5 := Lib.hid hal
        have Hz5 := Lib.hid (Nat.le_trans Hz4.out hal.size)
        clear hal hcl hrow hel hu hown
        obtain ⟨i0, hi, hz0, hz1, hz2⟩ := info_parts info_event
        go_wp2_with (at_builtin; refine wpList_append_lies _ rfl _ _ 23 rfl w1.heap.size 45 i0 _ 11 128 Tryz.underlying23 hi hz0 hz1 hz2 rfl (by decide) u3 (cmdsE (es.take j)).length _ rfl HRw.out ⟨w5.heap.size, 0, none⟩ 1 1 [.int .i64 e.k, .int .u64 (e.id : Int), .int .i64 e.n, .int .u64 (e.t : Int), .string (str e.nm), .string (str e.tx), .int .i64 e.v.kind, .int .i64 e.v.n, .float .f64 e.v.f, .string (str e.v.s), .slice p e.v.l.length cap] rfl rfl (World.news_of_block (heap_alloc_new w5 _)) (by simp [Value.oneCell']) (by decide) (by have := Hlc.out; rw [maxLen_nat]; omega) (by have := Hlc.out; omega) Hz5.out _ rfl ?_; intro gg cap4 w7 g1 g2 g3 g4; have HO7 := Lib.hid (OwnEs.snoc Hcl.out Hcs.out Hu.out g1 g2 (g3.imp (fun e => e.symm) (fun e => by rw [e]; rfl))); have Hb7 := Lib.hid ((Hb4.out.trans (Hal5.out.mono Hb4.out.size)).grown g2 (Nat.le_trans Hb4.out.size Hal5.out.size) (fun k hk => by have := (Hown.out k hk).1; have := Hal.out.size; omega)); have Hz7 := Lib.hid (Nat.le_trans Hz5.out g2.size); clear g1 g2 g3)
        go_roundw
        case rel => exact ⟨j + 1, Hlt.out, by go_num, by rw [Htk2.out]; exact HO7.out, Hb7.out, Hz7.out⟩
        case measure => simp [intOf]; have := Hlt.out; omega
    · obtain rfl : j = n := by omega
      have hji : ¬ ((j : Int) < (j : Int)) := by omega
      have hall : es.take j = es := List.take_of_length_le (by have := Hlen.out; omega)
      rw [hall] at HO
      obtain ⟨va, vc, rfl, hEv, _⟩ := HO.out.evs
      have HM := Lib.hid (mapclone_any va (cmdsE es).length vc (cmdsE es) wr (Nat.le_trans (List.length_filter_le _ _) Hn.out) (fun e he => HF.out e (List.mem_filter.1 he).1) hEv)
      clear hlt hall hEv HO
      go_wp2_with fail
      refine HM.out.mono ?_
      rintro r w5 ⟨rfl, hE5, hb5⟩
      have HE5 := Lib.hid hE5
      have Hb5 := Lib.hid (Hb.out.trans (hb5.mono Hb.out.size))
      clear hE5 hb5 HM
      go_wp2
      go_ret
      exact ⟨_, _, _, rfl, HE5.out, Hb5.out⟩
end Go.Proofs.YtcapbaocchaenaaGreatDoor

