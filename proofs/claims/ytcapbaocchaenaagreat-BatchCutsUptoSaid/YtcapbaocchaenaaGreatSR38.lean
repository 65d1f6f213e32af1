import Derived.Test.YtcapbaocchaenaaGreatSR37
import Derived.Test.YtcapbaocchaenaaGreatSR31
import Derived.Test.YtcapbaocchaenaaGreatSR29
/- The walk of the reference's Read of an event: where the version or the kind is not there. -/
namespace Go.Proofs.YtcapbaocchaenaaGreat
open Go.RowKit Go.Shelf Fl

/-- What the reference's Read of an event answers. -/
def ErAny (K : Nat → Prop) (w : World) (l : List Nat) (r : Ending) (w' : World) : Prop :=
  ∃ (a : Option Addr) (n c : Nat) (bad : Bool) (ls : List Nat), Bytes w' a n c ls ∧ FormedK K a c ∧ Below w.heap.size w w' ∧
  ((∃ e x, bad = false ∧ r = .returned (.tuple #[.agg #[.slice a n c, .bool false], .agg x, .bool true]) ∧ EvInP (fun b => w.heap.size ≤ b ∧ b < w'.heap.size) w' e x ∧ IsE l e ls) ∨
   (NoE l ∧ r = .returned (.tuple #[.agg #[.slice a n c, .bool bad], .agg evZ, .bool false])))

/-- The three blocks that the call begins with. -/
structure EH (w wr : World) (a : Option Addr) (n c : Nat) (bad : Bool) : Prop where
  rd : wr.heap[w.heap.size]? = some (.cells #[.slice a n c, .bool bad] 55 (0, 0))
  rr : wr.heap[w.heap.size + 1]? = some (.cells #[.slice none 0 0, .bool false] 55 (0, 0))
  rv : wr.heap[w.heap.size + 1 + 1]? = some (.cells #[.int .i64 0, .int .u64 0, .int .i64 0, .int .u64 0, .string ⟨#[]⟩, .string ⟨#[]⟩, .int .i64 0, .int .i64 0, .float .f64 0, .string ⟨#[]⟩, .slice none 0 0] 43 (0, 0))
  below : Below w.heap.size w wr

theorem EH.below' {w wr w' : World} {a : Option Addr} {n c : Nat} {bad : Bool} (h : EH w wr a n c bad) (hb : Below wr.heap.size wr w') : EH w w' a n c bad :=
  ⟨blk h.rd hb, blk h.rr hb, blk h.rv hb, h.below.trans (hb.mono h.below.size)⟩

abbrev ehW (w : World) (a : Option Addr) (n c : Nat) : World := ((w.alloc (.cells #[.slice a n c, .bool false] 55)).alloc (.cells #[.slice none 0 0, .bool false] 55)).alloc (.cells #[.int .i64 0, .int .u64 0, .int .i64 0, .int .u64 0, .string ⟨#[]⟩, .string ⟨#[]⟩, .int .i64 0, .int .i64 0, .float .f64 0, .string ⟨#[]⟩, .slice none 0 0] 43)
theorem eh_start (w : World) (a : Option Addr) (n c : Nat) : EH w (ehW w a n c) a n c false := by
  refine ⟨?_, ?_, ?_, (((Below.refl _ _).alloc (Nat.le_refl _) _).alloc (by simp) _).alloc (by simp; omega) _⟩
  · exact (Below.heap_alloc _ _ _ (by simp; omega)).trans ((Below.heap_alloc _ _ _ (by simp)).trans (heap_alloc_new _ _))
  · refine (Below.heap_alloc _ _ _ (by simp)).trans ?_
    have := heap_alloc_new (w.alloc (.cells #[.slice a n c, .bool false] 55)) (.cells #[.slice none 0 0, .bool false] 55)
    rwa [World.size_alloc] at this
  · have := heap_alloc_new ((w.alloc (.cells #[.slice a n c, .bool false] 55)).alloc (.cells #[.slice none 0 0, .bool false] 55)) (.cells #[.int .i64 0, .int .u64 0, .int .i64 0, .int .u64 0, .string ⟨#[]⟩, .string ⟨#[]⟩, .int .i64 0, .int .i64 0, .float .f64 0, .string ⟨#[]⟩, .slice none 0 0] 43)
    rwa [World.size_alloc, World.size_alloc] at this

theorem EH.setR {w wr : World} {a : Option Addr} {n c : Nat} {bad : Bool} (h : EH w wr a n c bad) (a' : Option Addr) (n' c' : Nat) (bad' : Bool) :
    EH w ((wr.setCell ⟨w.heap.size, 0, none⟩ (.slice a' n' c')).setCell ⟨w.heap.size, 1, none⟩ (.bool bad')) a' n' c' bad' ∧ Below w.heap.size wr ((wr.setCell ⟨w.heap.size, 0, none⟩ (.slice a' n' c')).setCell ⟨w.heap.size, 1, none⟩ (.bool bad')) := by
  have hb := ((Below.refl w.heap.size wr).setCell (p := ⟨w.heap.size, 0, none⟩) (Nat.le_refl _) (.slice a' n' c')).setCell (p := ⟨w.heap.size, 1, none⟩) (Nat.le_refl _) (.bool bad')
  refine ⟨⟨set_headE (set_headE h.rd (.slice a' n' c')) (.bool bad'), ?_, ?_, h.below.trans hb⟩, hb⟩
  · rw [← h.rr]; simp [World.setCell, Array.getElem?_modify]
  · rw [← h.rv]; simp [World.setCell, Array.getElem?_modify, show w.heap.size ≠ w.heap.size + 1 + 1 by omega]
theorem EH.setO {w wr : World} {a : Option Addr} {n c : Nat} {bad : Bool} (h : EH w wr a n c bad) {g i : Nat} (hg : w.heap.size + 2 < g) (v : Value) : EH w (wr.setCell ⟨g, i, none⟩ v) a n c bad ∧ Below w.heap.size wr (wr.setCell ⟨g, i, none⟩ v) := by
  have hb := (Below.refl w.heap.size wr).setCell (p := ⟨g, i, none⟩) (show w.heap.size ≤ g by omega) v
  refine ⟨⟨?_, ?_, ?_, h.below.trans hb⟩, hb⟩
  · rw [← h.rd]; simp [World.setCell, Array.getElem?_modify, show g ≠ w.heap.size by omega]
  · rw [← h.rr]; simp [World.setCell, Array.getElem?_modify, show g ≠ w.heap.size + 1 by omega]
  · rw [← h.rv]; simp [World.setCell, Array.getElem?_modify, show g ≠ w.heap.size + 1 + 1 by omega]

/-- The results' blocks at the end. -/
structure EZ (w wr wz : World) (a : Option Addr) (n c : Nat) (bad : Bool) (v0 v1 v2 v3 v4 v5 v6 v7 v8 v9 v10 : Value) : Prop where
  r : wz.heap[w.heap.size + 1]? = some (.cells #[.slice a n c, .bool bad] 55 (0, 0))
  v : wz.heap[w.heap.size + 1 + 1]? = some (.cells #[v0, v1, v2, v3, v4, v5, v6, v7, v8, v9, v10] 43 (0, 0))
  below : Below w.heap.size wr wz
  far : ∀ b, w.heap.size + 2 < b → wz.heap[b]? = wr.heap[b]?

theorem EH.done {w wr : World} {a : Option Addr} {n c : Nat} {bad : Bool} (h : EH w wr a n c bad) (a' : Option Addr) (n' c' : Nat) (bad' : Bool) (v0 v1 v2 v3 v4 v5 v6 v7 v8 v9 v10 : Value) :
    EZ w wr (sets11 ((wr.setCell ⟨w.heap.size + 1, 0, none⟩ (.slice a' n' c')).setCell ⟨w.heap.size + 1, 1, none⟩ (.bool bad')) (w.heap.size + 1 + 1) v0 v1 v2 v3 v4 v5 v6 v7 v8 v9 v10) a' n' c' bad' v0 v1 v2 v3 v4 v5 v6 v7 v8 v9 v10 := by
  have hrr := set_headE (i := 1) (set_headE (i := 0) h.rr (.slice a' n' c')) (.bool bad')
  have hrv : ((wr.setCell ⟨w.heap.size + 1, 0, none⟩ (.slice a' n' c')).setCell ⟨w.heap.size + 1, 1, none⟩ (.bool bad')).heap[w.heap.size + 1 + 1]? = some (.cells #[.int .i64 0, .int .u64 0, .int .i64 0, .int .u64 0, .string ⟨#[]⟩, .string ⟨#[]⟩, .int .i64 0, .int .i64 0, .float .f64 0, .string ⟨#[]⟩, .slice none 0 0] 43 (0, 0)) := by
    rw [← h.rv]
    simp [World.setCell, Array.getElem?_modify]
  have hb := ((Below.refl w.heap.size wr).setCell (p := ⟨w.heap.size + 1, 0, none⟩) (Nat.le_succ _) (.slice a' n' c')).setCell (p := ⟨w.heap.size + 1, 1, none⟩) (Nat.le_succ _) (.bool bad')
  refine ⟨?_, sets11_at hrv v0 v1 v2 v3 v4 v5 v6 v7 v8 v9 v10, sets11_below hb (by omega) v0 v1 v2 v3 v4 v5 v6 v7 v8 v9 v10, fun b hb => ?_⟩
  · rw [sets11_other (show w.heap.size + 1 ≠ w.heap.size + 1 + 1 by omega)]
    exact hrr
  · rw [sets11_other (show b ≠ w.heap.size + 1 + 1 by omega)]
    simp [World.setCell, Array.getElem?_modify, show w.heap.size + 1 ≠ b by omega]
theorem EZ.drew {w wr wz : World} {a : Option Addr} {n c : Nat} {bad : Bool} {v0 v1 v2 v3 v4 v5 v6 v7 v8 v9 v10 : Value} (h : EZ w wr wz a n c bad v0 v1 v2 v3 v4 v5 v6 v7 v8 v9 v10) : EZ w wr wz.drew a n c bad v0 v1 v2 v3 v4 v5 v6 v7 v8 v9 v10 :=
  ⟨h.r, h.v, ⟨h.below.os, h.below.tape, h.below.output, h.below.size, h.below.block⟩, h.far⟩

section
variable (K : Nat → Prop) (a : Option Addr) (n c : Nat) (w : World)

set_option maxRecDepth 100000 in
set_option maxHeartbeats 6400000 in
theorem er_short  (hB : Bytes w a n c ([])) (hf : FormedK K a c) (hK : ∀ b, K b → b < w.heap.size) :
    Calls Tryz.prog 28 #[.agg #[.slice a n c, .bool false]] w (ErAny K w ([])) := by
  have h0 := eh_start w a n c
  have HI := Lib.hid (rtakeK_any K a n c false ([]) 1 _ (hB.grow h0.below) hf (by omega) (by omega))
  have hn' : takeN ([]) (!false) 1 = ([], [], false) := rfl
  rw [hn'] at HI
  have H0 := Lib.hid h0
  have HK := Lib.hid hK
  have hsz0 : (ehW w a n c).heap.size = w.heap.size + 3 := by simp
  clear h0 hn' hB hf hK
  have hfl : ∀ (w : World) (a : Addr) (m : Mode) (b : Nat), (store a (.float .f64 b) m).run Tryz.prog w = stored Tryz.prog w a (.float .f64 b) m := fun w a m b => run_store Tryz.prog w a _ m rfl
  go_enter Tryz.func28, Tryz.ntmps28
  go_wp2_with fail
  unfold ehW at HI H0 hsz0
  generalize ((w.alloc (.cells #[.slice a n c, .bool false] 55)).alloc (.cells #[.slice none 0 0, .bool false] 55)).alloc (.cells #[.int .i64 0, .int .u64 0, .int .i64 0, .int .u64 0, .string ⟨#[]⟩, .string ⟨#[]⟩, .int .i64 0, .int .i64 0, .float .f64 0, .string ⟨#[]⟩, .slice none 0 0] 43) = w0 at *
  refine HI.out.mono ?_
  rintro e w1 ⟨a1, n1, c1, p1, m1, cp1, rfl, hB1, hf1, hP1, hb1⟩
  have h1 := H0.out.below' hb1
  obtain ⟨y0, y1, y2, y3⟩ := block_cells h1.rd
  have HB1 := Lib.hid hB1
  have Hf1 := Lib.hid hf1
  have H1 := Lib.hid h1
  have HP1 := Lib.hid hP1
  have hsz1 : w.heap.size + 3 ≤ w1.heap.size := by have := hb1.size; omega
  clear h1 hB1 hf1 hb1 hP1
  go_upto_region 2 with fail
  have H2 := Lib.hid (H1.out.setR a1 n1 c1 true)
  have HP2 := Lib.hid ((HP1.out.setFar (fun hn _ hx => rd_other H1.out.rd HP1.out hn hx) (i := 0) (.slice a1 n1 c1)).setFar (fun hn _ hx => rd_other H1.out.rd HP1.out hn hx) (i := 1) (.bool true))
  clear y0 y1 y2 y3
  generalize (w1.setCell ⟨w.heap.size, 0, none⟩ (.slice a1 n1 c1)).setCell ⟨w.heap.size, 1, none⟩ (.bool true) = w2 at *
  obtain ⟨y0, y1, y2, y3⟩ := block_cells H2.out.1.rd
  obtain ⟨q0, q1, q2, q3⟩ := block_cells H2.out.1.rr
  obtain ⟨s0, s1, s2, s3, s4, s5, s6, s7, s8, s9, s10⟩ := box11 H2.out.1.rv
  obtain ⟨⟨z0, z1, z2, z3, z4, z5⟩, z6, z7, z8, z9, z10⟩ := box11z H2.out.1.rv
  go_wp2
  have hZ := H2.out.1.done a1 n1 c1 true (.int .i64 0) (.int .u64 0) (.int .i64 0) (.int .u64 0) (.string ⟨#[]⟩) (.string ⟨#[]⟩) (.int .i64 0) (.int .i64 0) (.float .f64 0) (.string ⟨#[]⟩) (.slice none 0 0)
  unfold sets11 at hZ
  clear y0 y1 y2 y3 q0 q1 q2 q3 s0 s1 s2 s3 s4 s5 s6 s7 s8 s9 s10 z0 z1 z2 z3 z4 z5 z6 z7 z8 z9 z10
  generalize World.setCell (World.setCell (World.setCell (World.setCell (World.setCell (World.setCell (World.setCell (World.setCell (World.setCell (World.setCell (World.setCell (World.setCell (World.setCell w2 _ _) _ _) _ _) _ _) _ _) _ _) _ _) _ _) _ _) _ _) _ _) _ _) _ _ = wz at *
  obtain ⟨r0, r1, _, _⟩ := block_cells hZ.r
  obtain ⟨s0, s1, s2, s3, s4, s5, s6, s7, s8, s9, s10⟩ := box11 hZ.v
  have HZ := Lib.hid hZ
  clear hZ
  refine bodyPost_ret (v := .tuple #[.agg #[.slice a1 n1 c1, .bool true], .agg #[.int .i64 0, .int .u64 0, .int .i64 0, .int .u64 0, .string ⟨#[]⟩, .string ⟨#[]⟩, .int .i64 0, .int .i64 0, .float .f64 0, .string ⟨#[]⟩, .slice none 0 0], .bool false]) (by simp [results, Tryz.results28, go_sem, *]) rfl ?_
  have hbz := H2.out.2.trans HZ.out.below
  exact ⟨a1, n1, c1, true, [], bytesB HB1.out Hf1.out HK.out hbz, Hf1.out, H1.out.below.trans hbz, .inr ⟨noE_version (fun r h => by have := congrArg List.length h; rw [List.length_append] at this; have := form_pos 1; simp at *; omega), rfl⟩⟩

set_option maxRecDepth 100000 in
set_option maxHeartbeats 6400000 in
theorem er_ne (x : Nat) (l1 : List Nat) (hx : x ≠ 1) (hB : Bytes w a n c (x :: l1)) (hf : FormedK K a c) (hK : ∀ b, K b → b < w.heap.size) :
    Calls Tryz.prog 28 #[.agg #[.slice a n c, .bool false]] w (ErAny K w (x :: l1)) := by
  have h0 := eh_start w a n c
  have HI := Lib.hid (rtakeK_any K a n c false (x :: l1) 1 _ (hB.grow h0.below) hf (by omega) (by omega))
  have hn' : takeN (x :: l1) (!false) 1 = ([x], l1, true) := by unfold takeN; rw [if_pos ⟨rfl, by omega, by simp; omega⟩]; rfl
  rw [hn'] at HI
  have H0 := Lib.hid h0
  have HK := Lib.hid hK
  have hsz0 : (ehW w a n c).heap.size = w.heap.size + 3 := by simp
  have Hno := Lib.hid (noE_version (l := x :: l1) (fun r h => by rw [form_small (by omega)] at h; exact hx (List.cons.inj h).1))
  have hxi : ((x : Int) != 1) = true := by simp; omega
  clear h0 hn' hB hf hK hx
  have hfl : ∀ (w : World) (a : Addr) (m : Mode) (b : Nat), (store a (.float .f64 b) m).run Tryz.prog w = stored Tryz.prog w a (.float .f64 b) m := fun w a m b => run_store Tryz.prog w a _ m rfl
  go_enter Tryz.func28, Tryz.ntmps28
  go_wp2_with fail
  unfold ehW at HI H0 hsz0
  generalize ((w.alloc (.cells #[.slice a n c, .bool false] 55)).alloc (.cells #[.slice none 0 0, .bool false] 55)).alloc (.cells #[.int .i64 0, .int .u64 0, .int .i64 0, .int .u64 0, .string ⟨#[]⟩, .string ⟨#[]⟩, .int .i64 0, .int .i64 0, .float .f64 0, .string ⟨#[]⟩, .slice none 0 0] 43) = w0 at *
  refine HI.out.mono ?_
  rintro e w1 ⟨a1, n1, c1, p1, m1, cp1, rfl, hB1, hf1, hP1, hb1⟩
  have h1 := H0.out.below' hb1
  obtain ⟨y0, y1, y2, y3⟩ := block_cells h1.rd
  have HB1 := Lib.hid hB1
  have Hf1 := Lib.hid hf1
  have H1 := Lib.hid h1
  have HP1 := Lib.hid hP1
  have hsz1 : w.heap.size + 3 ≤ w1.heap.size := by have := hb1.size; omega
  clear h1 hB1 hf1 hb1 hP1
  go_upto_region 2 with fail
  have H2 := Lib.hid (H1.out.setR a1 n1 c1 false)
  have HP2 := Lib.hid ((HP1.out.setFar (fun hn _ hx => rd_other H1.out.rd HP1.out hn hx) (i := 0) (.slice a1 n1 c1)).setFar (fun hn _ hx => rd_other H1.out.rd HP1.out hn hx) (i := 1) (.bool false))
  clear y0 y1 y2 y3
  generalize (w1.setCell ⟨w.heap.size, 0, none⟩ (.slice a1 n1 c1)).setCell ⟨w.heap.size, 1, none⟩ (.bool false) = w2 at *
  obtain ⟨b0, o0, rfl, hc⟩ := HP2.out.cell (by rw [← HP2.out.len]; exact Nat.one_pos)
  have hm1 : m1 = 1 := by rw [← HP2.out.len]; rfl
  subst hm1
  have hc0 := hc 0 (by omega)
  have hcz : w2.cell? ⟨b0, o0, none⟩ = some (.int .u8 (x : Int)) := hc0
  clear hc hc0
  obtain ⟨y0, y1, y2, y3⟩ := block_cells H2.out.1.rd
  obtain ⟨q0, q1, q2, q3⟩ := block_cells H2.out.1.rr
  obtain ⟨s0, s1, s2, s3, s4, s5, s6, s7, s8, s9, s10⟩ := box11 H2.out.1.rv
  obtain ⟨⟨z0, z1, z2, z3, z4, z5⟩, z6, z7, z8, z9, z10⟩ := box11z H2.out.1.rv
  go_wp2
  have hZ := H2.out.1.done a1 n1 c1 false (.int .i64 0) (.int .u64 0) (.int .i64 0) (.int .u64 0) (.string ⟨#[]⟩) (.string ⟨#[]⟩) (.int .i64 0) (.int .i64 0) (.float .f64 0) (.string ⟨#[]⟩) (.slice none 0 0)
  unfold sets11 at hZ
  clear y0 y1 y2 y3 q0 q1 q2 q3 s0 s1 s2 s3 s4 s5 s6 s7 s8 s9 s10 z0 z1 z2 z3 z4 z5 z6 z7 z8 z9 z10
  generalize World.setCell (World.setCell (World.setCell (World.setCell (World.setCell (World.setCell (World.setCell (World.setCell (World.setCell (World.setCell (World.setCell (World.setCell (World.setCell w2 _ _) _ _) _ _) _ _) _ _) _ _) _ _) _ _) _ _) _ _) _ _) _ _) _ _ = wz at *
  obtain ⟨r0, r1, _, _⟩ := block_cells hZ.r
  obtain ⟨s0, s1, s2, s3, s4, s5, s6, s7, s8, s9, s10⟩ := box11 hZ.v
  have HZ := Lib.hid hZ
  clear hZ
  refine bodyPost_ret (v := .tuple #[.agg #[.slice a1 n1 c1, .bool false], .agg #[.int .i64 0, .int .u64 0, .int .i64 0, .int .u64 0, .string ⟨#[]⟩, .string ⟨#[]⟩, .int .i64 0, .int .i64 0, .float .f64 0, .string ⟨#[]⟩, .slice none 0 0], .bool false]) (by simp [results, Tryz.results28, go_sem, *]) rfl ?_
  have hbz := H2.out.2.trans HZ.out.below
  exact ⟨a1, n1, c1, false, l1, bytesB HB1.out Hf1.out HK.out hbz, Hf1.out, H1.out.below.trans hbz, .inr ⟨Hno.out, rfl⟩⟩

set_option maxRecDepth 100000 in
set_option maxHeartbeats 6400000 in
theorem er_nokind (x : Nat) (l1 l2 : List Nat) (ok : Bool) (hn : readN l1 true = (x, l2, ok)) (hk : ok = true → x < 1 ∨ 11 < x) (hno : NoE (1 :: l1)) (hB : Bytes w a n c (1 :: l1)) (hf : FormedK K a c) (hK : ∀ b, K b → b < w.heap.size) :
    Calls Tryz.prog 28 #[.agg #[.slice a n c, .bool false]] w (ErAny K w (1 :: l1)) := by
  have h0 := eh_start w a n c
  have HI := Lib.hid (rtakeK_any K a n c false (1 :: l1) 1 _ (hB.grow h0.below) hf (by omega) (by omega))
  have hn' : takeN (1 :: l1) (!false) 1 = ([1], l1, true) := by unfold takeN; rw [if_pos ⟨rfl, by omega, by simp; omega⟩]; rfl
  rw [hn'] at HI
  have H0 := Lib.hid h0
  have HK := Lib.hid hK
  have hsz0 : (ehW w a n c).heap.size = w.heap.size + 3 := by simp
  have Hn := Lib.hid hn
  have Hk := Lib.hid hk
  have Hno := Lib.hid hno
  clear h0 hn' hB hf hK hn hk hno
  have hfl : ∀ (w : World) (a : Addr) (m : Mode) (b : Nat), (store a (.float .f64 b) m).run Tryz.prog w = stored Tryz.prog w a (.float .f64 b) m := fun w a m b => run_store Tryz.prog w a _ m rfl
  go_enter Tryz.func28, Tryz.ntmps28
  go_wp2_with fail
  unfold ehW at HI H0 hsz0
  generalize ((w.alloc (.cells #[.slice a n c, .bool false] 55)).alloc (.cells #[.slice none 0 0, .bool false] 55)).alloc (.cells #[.int .i64 0, .int .u64 0, .int .i64 0, .int .u64 0, .string ⟨#[]⟩, .string ⟨#[]⟩, .int .i64 0, .int .i64 0, .float .f64 0, .string ⟨#[]⟩, .slice none 0 0] 43) = w0 at *
  refine HI.out.mono ?_
  rintro e w1 ⟨a1, n1, c1, p1, m1, cp1, rfl, hB1, hf1, hP1, hb1⟩
  have h1 := H0.out.below' hb1
  obtain ⟨y0, y1, y2, y3⟩ := block_cells h1.rd
  have HB1 := Lib.hid hB1
  have Hf1 := Lib.hid hf1
  have H1 := Lib.hid h1
  have HP1 := Lib.hid hP1
  have hsz1 : w.heap.size + 3 ≤ w1.heap.size := by have := hb1.size; omega
  clear h1 hB1 hf1 hb1 hP1
  go_upto_region 2 with fail
  have H2 := Lib.hid (H1.out.setR a1 n1 c1 false)
  have HP2 := Lib.hid ((HP1.out.setFar (fun hn _ hx => rd_other H1.out.rd HP1.out hn hx) (i := 0) (.slice a1 n1 c1)).setFar (fun hn _ hx => rd_other H1.out.rd HP1.out hn hx) (i := 1) (.bool false))
  clear y0 y1 y2 y3
  generalize (w1.setCell ⟨w.heap.size, 0, none⟩ (.slice a1 n1 c1)).setCell ⟨w.heap.size, 1, none⟩ (.bool false) = w2 at *
  obtain ⟨b0, o0, rfl, hc⟩ := HP2.out.cell (by rw [← HP2.out.len]; exact Nat.one_pos)
  have hm1 : m1 = 1 := by rw [← HP2.out.len]; rfl
  subst hm1
  have hc0 := hc 0 (by omega)
  have hcz : w2.cell? ⟨b0, o0, none⟩ = some (.int .u8 1) := hc0
  clear hc hc0
  have HB2 := Lib.hid (bytesB HB1.out Hf1.out HK.out H2.out.2)
  have HU := Lib.hid (readUintK_any K a1 n1 c1 false l1 w2 HB2.out Hf1.out)
  have hn'' : readN l1 (!false) = (x, l2, ok) := Hn.out
  rw [hn''] at HU
  clear hn''
  obtain ⟨y0, y1, y2, y3⟩ := block_cells H2.out.1.rd
  go_wp2_with fail
  refine HU.out.mono ?_
  rintro e w3 ⟨a3, n3, c3, rfl, hB3, hf3, hb3⟩
  have h3 := H2.out.1.below' hb3
  clear y0 y1 y2 y3
  obtain ⟨y0, y1, y2, y3⟩ := block_cells h3.rd
  have HB3 := Lib.hid hB3
  have Hf3 := Lib.hid hf3
  have H3 := Lib.hid h3
  have Hs3 := Lib.hid (show w.heap.size + 3 ≤ w3.heap.size from by have := hb3.size; have := H2.out.2.size; omega)
  clear h3 hB3 hf3 hb3 hcz
  go_upto_region 5 with fail
  have H4 := Lib.hid (H3.out.setR a3 n3 c3 (!ok))
  clear y0 y1 y2 y3
  have hsz4 : ((w3.setCell ⟨w.heap.size, 0, none⟩ (.slice a3 n3 c3)).setCell ⟨w.heap.size, 1, none⟩ (.bool (!ok))).heap.size = w3.heap.size := by simp
  have Hsz4 := Lib.hid hsz4
  clear hsz4
  generalize (w3.setCell ⟨w.heap.size, 0, none⟩ (.slice a3 n3 c3)).setCell ⟨w.heap.size, 1, none⟩ (.bool (!ok)) = w4 at *
  cases ok with
  | false =>
    obtain ⟨y0, y1, y2, y3⟩ := block_cells H4.out.1.rd
    obtain ⟨q0, q1, q2, q3⟩ := block_cells H4.out.1.rr
    obtain ⟨s0, s1, s2, s3, s4, s5, s6, s7, s8, s9, s10⟩ := box11 H4.out.1.rv
    obtain ⟨⟨z0, z1, z2, z3, z4, z5⟩, z6, z7, z8, z9, z10⟩ := box11z H4.out.1.rv
    go_wp2
    have hZ := H4.out.1.done a3 n3 c3 true (.int .i64 0) (.int .u64 0) (.int .i64 0) (.int .u64 0) (.string ⟨#[]⟩) (.string ⟨#[]⟩) (.int .i64 0) (.int .i64 0) (.float .f64 0) (.string ⟨#[]⟩) (.slice none 0 0)
    unfold sets11 at hZ
    clear y0 y1 y2 y3 q0 q1 q2 q3 s0 s1 s2 s3 s4 s5 s6 s7 s8 s9 s10 z0 z1 z2 z3 z4 z5 z6 z7 z8 z9 z10
    generalize World.setCell (World.setCell (World.setCell (World.setCell (World.setCell (World.setCell (World.setCell (World.setCell (World.setCell (World.setCell (World.setCell (World.setCell (World.setCell w4 _ _) _ _) _ _) _ _) _ _) _ _) _ _) _ _) _ _) _ _) _ _) _ _) _ _ = wz at *
    obtain ⟨r0, r1, _, _⟩ := block_cells hZ.r
    obtain ⟨s0, s1, s2, s3, s4, s5, s6, s7, s8, s9, s10⟩ := box11 hZ.v
    have HZ := Lib.hid hZ
    clear hZ
    refine bodyPost_ret (v := .tuple #[.agg #[.slice a3 n3 c3, .bool true], .agg #[.int .i64 0, .int .u64 0, .int .i64 0, .int .u64 0, .string ⟨#[]⟩, .string ⟨#[]⟩, .int .i64 0, .int .i64 0, .float .f64 0, .string ⟨#[]⟩, .slice none 0 0], .bool false]) (by simp [results, Tryz.results28, go_sem, *]) rfl ?_
    have hbz := H4.out.2.trans HZ.out.below
    exact ⟨a3, n3, c3, true, l2, bytesB HB3.out Hf3.out HK.out hbz, Hf3.out, H3.out.below.trans hbz, .inr ⟨Hno.out, rfl⟩⟩
  | true =>
    rcases Hk.out rfl with hx | hx
    · have hxi : (x : Int) < 1 := by omega
      obtain ⟨y0, y1, y2, y3⟩ := block_cells H4.out.1.rd
      obtain ⟨q0, q1, q2, q3⟩ := block_cells H4.out.1.rr
      obtain ⟨s0, s1, s2, s3, s4, s5, s6, s7, s8, s9, s10⟩ := box11 H4.out.1.rv
      obtain ⟨⟨z0, z1, z2, z3, z4, z5⟩, z6, z7, z8, z9, z10⟩ := box11z H4.out.1.rv
      go_wp2
      have hZ := H4.out.1.done a3 n3 c3 false (.int .i64 0) (.int .u64 0) (.int .i64 0) (.int .u64 0) (.string ⟨#[]⟩) (.string ⟨#[]⟩) (.int .i64 0) (.int .i64 0) (.float .f64 0) (.string ⟨#[]⟩) (.slice none 0 0)
      unfold sets11 at hZ
      clear y0 y1 y2 y3 q0 q1 q2 q3 s0 s1 s2 s3 s4 s5 s6 s7 s8 s9 s10 z0 z1 z2 z3 z4 z5 z6 z7 z8 z9 z10
      generalize World.setCell (World.setCell (World.setCell (World.setCell (World.setCell (World.setCell (World.setCell (World.setCell (World.setCell (World.setCell (World.setCell (World.setCell (World.setCell w4 _ _) _ _) _ _) _ _) _ _) _ _) _ _) _ _) _ _) _ _) _ _) _ _) _ _ = wz at *
      obtain ⟨r0, r1, _, _⟩ := block_cells hZ.r
      obtain ⟨s0, s1, s2, s3, s4, s5, s6, s7, s8, s9, s10⟩ := box11 hZ.v
      have HZ := Lib.hid hZ
      clear hZ
      refine bodyPost_ret (v := .tuple #[.agg #[.slice a3 n3 c3, .bool false], .agg #[.int .i64 0, .int .u64 0, .int .i64 0, .int .u64 0, .string ⟨#[]⟩, .string ⟨#[]⟩, .int .i64 0, .int .i64 0, .float .f64 0, .string ⟨#[]⟩, .slice none 0 0], .bool false]) (by simp [results, Tryz.results28, go_sem, *]) rfl ?_
      have hbz := H4.out.2.trans HZ.out.below
      exact ⟨a3, n3, c3, false, l2, bytesB HB3.out Hf3.out HK.out hbz, Hf3.out, H3.out.below.trans hbz, .inr ⟨Hno.out, rfl⟩⟩
    · have hxi : (11 : Int) < (x : Int) := by omega
      have hxj : ¬ (x : Int) < 1 := by omega
      obtain ⟨y0, y1, y2, y3⟩ := block_cells H4.out.1.rd
      obtain ⟨q0, q1, q2, q3⟩ := block_cells H4.out.1.rr
      obtain ⟨s0, s1, s2, s3, s4, s5, s6, s7, s8, s9, s10⟩ := box11 H4.out.1.rv
      obtain ⟨⟨z0, z1, z2, z3, z4, z5⟩, z6, z7, z8, z9, z10⟩ := box11z H4.out.1.rv
      go_wp2
      have hZ := H4.out.1.done a3 n3 c3 false (.int .i64 0) (.int .u64 0) (.int .i64 0) (.int .u64 0) (.string ⟨#[]⟩) (.string ⟨#[]⟩) (.int .i64 0) (.int .i64 0) (.float .f64 0) (.string ⟨#[]⟩) (.slice none 0 0)
      unfold sets11 at hZ
      clear y0 y1 y2 y3 q0 q1 q2 q3 s0 s1 s2 s3 s4 s5 s6 s7 s8 s9 s10 z0 z1 z2 z3 z4 z5 z6 z7 z8 z9 z10
      generalize World.setCell (World.setCell (World.setCell (World.setCell (World.setCell (World.setCell (World.setCell (World.setCell (World.setCell (World.setCell (World.setCell (World.setCell (World.setCell w4 _ _) _ _) _ _) _ _) _ _) _ _) _ _) _ _) _ _) _ _) _ _) _ _) _ _ = wz at *
      obtain ⟨r0, r1, _, _⟩ := block_cells hZ.r
      obtain ⟨s0, s1, s2, s3, s4, s5, s6, s7, s8, s9, s10⟩ := box11 hZ.v
      have HZ := Lib.hid hZ
      clear hZ
      refine bodyPost_ret (v := .tuple #[.agg #[.slice a3 n3 c3, .bool false], .agg #[.int .i64 0, .int .u64 0, .int .i64 0, .int .u64 0, .string ⟨#[]⟩, .string ⟨#[]⟩, .int .i64 0, .int .i64 0, .float .f64 0, .string ⟨#[]⟩, .slice none 0 0], .bool false]) (by simp [results, Tryz.results28, go_sem, *]) rfl ?_
      have hbz := H4.out.2.trans HZ.out.below
      exact ⟨a3, n3, c3, false, l2, bytesB HB3.out Hf3.out HK.out hbz, Hf3.out, H3.out.below.trans hbz, .inr ⟨Hno.out, rfl⟩⟩
end
end Go.Proofs.YtcapbaocchaenaaGreat

/- The states of the reference's Read of an event, between two letters: plain. -/
namespace Go.Proofs.YtcapbaocchaenaaGreat
open Go.RowKit Go.Shelf Fl

/-- The bounds of an event that is being read. -/
structure QB (x : Nat) (q : Ev) : Prop where
  k : q.k = (x : Int)
  id : q.id < 18446744073709551616
  n : 0 ≤ q.n ∧ q.n ≤ 1099511627776
  t : q.t < 18446744073709551616
  nm : (∀ c ∈ q.nm, c < 256) ∧ q.nm.length ≤ 100000000000
  tx : (∀ c ∈ q.tx, c < 256) ∧ q.tx.length ≤ 100000000000

/-- How far the reading has come: on the way, or at no event. -/
def St (L l2 : List Nat) (x j : Nat) (q : Ev) (lj : List Nat) (bad okv : Bool) : Prop :=
  (j ≤ 5 → okv = true ∧ lj.length ≤ 100000000000) ∧ ((bad = false ∧ okv = true ∧ Dec2 (x : Int) l2 j q lj) ∨ (NoE L ∧ (bad = true ∨ okv = false ∨ (2 ≤ j ∧ 2147483647 < q.n))))

theorem readN_len (l : List Nat) (ok : Bool) : (readN l ok).2.1.length ≤ l.length := by
  unfold readN
  split
  · show (l.drop _).length ≤ _; rw [List.length_drop]; omega
  · exact Nat.le_refl _
theorem readB_len (l : List Nat) (ok : Bool) : (readB l ok).2.1.length ≤ l.length ∧ (readB l ok).1.length ≤ l.length ∧ ∀ c ∈ (readB l ok).1, c ∈ l := by
  unfold readB
  split
  · refine ⟨?_, ?_, fun c hc => List.mem_of_mem_drop (List.mem_of_mem_take hc)⟩
    · show (l.drop _).length ≤ _; rw [List.length_drop]; omega
    · show ((l.drop _).take _).length ≤ _; rw [List.length_take, List.length_drop]; omega
  · exact ⟨Nat.le_refl _, Nat.zero_le _, fun c hc => by cases hc⟩

section
variable {l2 lj l' : List Nat} {x j : Nat} {q : Ev} {bad okv ok : Bool}

theorem St.skip {L : List Nat} (h : St L l2 x j q lj bad okv) (hm : j ∉ evFields (x : Int)) : St L l2 x (j + 1) q lj bad okv := by
  obtain ⟨h1, h2⟩ := h
  refine ⟨fun hj => h1 (by omega), h2.imp (fun ⟨a, b, c⟩ => ⟨a, b, c.skip hm⟩) (fun ⟨a, b⟩ => ⟨a, b.imp id (fun b => b.imp id (fun ⟨c, d⟩ => ⟨by omega, d⟩))⟩)⟩

/-- A field that is a number. -/
theorem St.num (hx : x < 18446744073709551616) (h : St (form 1 ++ (form x ++ l2)) l2 x j q lj bad okv) (hj : j < 6) (_ : j ≠ 1) (hm : j ∈ evFields (x : Int)) {y : Nat} {q' : Ev} (hb : ∀ c ∈ lj, c < 256) (hr : readN lj (!bad) = (y, l', ok))
    (hq : ∀ z r, z < 18446744073709551616 → lj = form z ++ r → z = y → FldOk j lj q q' r) (hno : (∀ z r, z < 18446744073709551616 → lj ≠ form z ++ r) → FldNo j lj) (hn : q'.n = q.n) : St (form 1 ++ (form x ++ l2)) l2 x (j + 1) q' l' (!ok) okv := by
  obtain ⟨h1, h2⟩ := h
  have hl := readN_len lj (!bad)
  rw [hr] at hl
  refine ⟨fun hj5 => ⟨(h1 (by omega)).1, Nat.le_trans hl (h1 (by omega)).2⟩, ?_⟩
  rcases h2 with ⟨rfl, hok, hd⟩ | ⟨hN, hc⟩
  · rcases readN_only hb with ⟨z, r, hz, e⟩ | ⟨hn', hno'⟩
    · have e2 : readN lj true = (z, r, true) := by rw [e]; exact readN_form hz r
      rw [show (!false) = true from rfl, e2] at hr
      obtain ⟨rfl, rfl, rfl⟩ : z = y ∧ r = l' ∧ true = ok := by simpa using hr
      exact .inl ⟨rfl, hok, hd.step hj hm (hq z r hz e rfl)⟩
    · rw [show (!false) = true from rfl, hn'] at hr
      obtain ⟨_, _, rfl⟩ : 0 = y ∧ lj = l' ∧ false = ok := by simpa using hr
      exact .inr ⟨hd.no hx hj hm (hno hno'), .inl rfl⟩
  · refine .inr ⟨hN, ?_⟩
    rcases hc with rfl | hc | ⟨c1, c2⟩
    · have e2 : readN lj (!true) = (0, lj, false) := by unfold readN; rw [if_neg (fun h => by cases h.1)]
      rw [e2] at hr
      obtain ⟨_, _, rfl⟩ : 0 = y ∧ lj = l' ∧ false = ok := by simpa using hr
      exact .inl rfl
    · exact .inr (.inl hc)
    · exact .inr (.inr ⟨by omega, by rw [hn]; exact c2⟩)

/-- The number of the attempt. -/
theorem St.att (hx : x < 18446744073709551616) (h : St (form 1 ++ (form x ++ l2)) l2 x 1 q lj bad okv) (hm : 1 ∈ evFields (x : Int)) {y : Nat} (hb : ∀ c ∈ lj, c < 256) (hr : readN lj (!bad) = (y, l', ok)) :
    St (form 1 ++ (form x ++ l2)) l2 x 2 { q with n := ((min y 1099511627776 : Nat) : Int) } l' (!ok) okv := by
  obtain ⟨h1, h2⟩ := h
  have hl := readN_len lj (!bad)
  rw [hr] at hl
  refine ⟨fun hj5 => ⟨(h1 (by omega)).1, Nat.le_trans hl (h1 (by omega)).2⟩, ?_⟩
  rcases h2 with ⟨rfl, hok, hd⟩ | ⟨hN, hc⟩
  · rcases readN_only hb with ⟨z, r, hz, e⟩ | ⟨hn', hno'⟩
    · have e2 : readN lj true = (z, r, true) := by rw [e]; exact readN_form hz r
      rw [show (!false) = true from rfl, e2] at hr
      obtain ⟨rfl, rfl, rfl⟩ : z = y ∧ r = l' ∧ true = ok := by simpa using hr
      by_cases hs : z ≤ 2147483647
      · refine .inl ⟨rfl, hok, hd.step (by omega) hm ⟨?_, rfl, fun i hi hne => ?_, fun h => { h with n := (show (0 : Int) ≤ ((min z 1099511627776 : Nat) : Int) ∧ ((min z 1099511627776 : Nat) : Int) ≤ 2147483647 by omega) }⟩⟩
        · show lj = form ((min z 1099511627776 : Nat) : Int).toNat ++ r
          rw [Int.toNat_natCast, Nat.min_eq_left (by omega)]
          exact e
        · match i, hi, hne with
          | 1, _, h => exact absurd rfl h
          | 0, _, _ | 2, _, _ | 3, _, _ | 4, _, _ | 5, _, _ => exact ⟨rfl, rfl⟩
      · refine .inr ⟨hd.no hx (by omega) hm (fun e' r' hb' hr' hq' => ?_), .inr (.inr ⟨Nat.le_refl _, (show (2147483647 : Int) < ((min z 1099511627776 : Nat) : Int) by omega)⟩)⟩
        have h5 : 1 ≤ e'.n ∧ e'.n ≤ 2147483647 := by simpa [rightE] using hr'
        rw [e] at hq'
        obtain ⟨e2, _⟩ := form_split (y := e'.n.toNat) hz (by omega) hq'
        omega
    · rw [show (!false) = true from rfl, hn'] at hr
      obtain ⟨_, _, rfl⟩ : 0 = y ∧ lj = l' ∧ false = ok := by simpa using hr
      refine .inr ⟨hd.no hx (by omega) hm (fun e' r' hb' hr' hq' => ?_), .inl rfl⟩
      have h5 : 1 ≤ e'.n ∧ e'.n ≤ 2147483647 := by simpa [rightE] using hr'
      exact hno' e'.n.toNat _ (by omega) hq'
  · refine .inr ⟨hN, ?_⟩
    rcases hc with rfl | hc | ⟨c1, c2⟩
    · have e2 : readN lj (!true) = (0, lj, false) := by unfold readN; rw [if_neg (fun h => by cases h.1)]
      rw [e2] at hr
      obtain ⟨_, _, rfl⟩ : 0 = y ∧ lj = l' ∧ false = ok := by simpa using hr
      exact .inl rfl
    · exact .inr (.inl hc)
    · omega

/-- A field that is a string. -/
theorem St.str (hx : x < 18446744073709551616) (h : St (form 1 ++ (form x ++ l2)) l2 x j q lj bad okv) (hj : 2 ≤ j ∧ j < 6) (hm : j ∈ evFields (x : Int)) {s : List Nat} {q' : Ev} (hb : ∀ c ∈ lj, c < 256) (hr : readB lj (!bad) = (s, l', ok))
    (hq : ∀ z r, z.length < 18446744073709551616 → lj = formB z ++ r → z = s → FldOk j lj q q' r) (hno : (∀ z r, z.length < 18446744073709551616 → lj ≠ formB z ++ r) → FldNo j lj) (hn : q'.n = q.n) : St (form 1 ++ (form x ++ l2)) l2 x (j + 1) q' l' (!ok) okv := by
  obtain ⟨h1, h2⟩ := h
  have hl := (readB_len lj (!bad)).1
  rw [hr] at hl
  refine ⟨fun hj5 => ⟨(h1 (by omega)).1, Nat.le_trans hl (h1 (by omega)).2⟩, ?_⟩
  rcases h2 with ⟨rfl, hok, hd⟩ | ⟨hN, hc⟩
  · rcases readB_only hb with ⟨z, r, hz, e⟩ | ⟨hn', hno'⟩
    · have e2 : readB lj true = (z, r, true) := by rw [e]; exact readB_form hz r
      rw [show (!false) = true from rfl, e2] at hr
      obtain ⟨rfl, rfl, rfl⟩ : z = s ∧ r = l' ∧ true = ok := by simpa using hr
      exact .inl ⟨rfl, hok, hd.step (by omega) hm (hq z r hz e rfl)⟩
    · rw [show (!false) = true from rfl, hn'] at hr
      obtain ⟨_, _, rfl⟩ : [] = s ∧ lj = l' ∧ false = ok := by simpa using hr
      exact .inr ⟨hd.no hx (by omega) hm (hno hno'), .inl rfl⟩
  · refine .inr ⟨hN, ?_⟩
    rcases hc with rfl | hc | ⟨c1, c2⟩
    · have e2 : readB lj (!true) = ([], lj, false) := by unfold readB; rw [if_neg (fun h => by cases h.1)]
      rw [e2] at hr
      obtain ⟨_, _, rfl⟩ : [] = s ∧ lj = l' ∧ false = ok := by simpa using hr
      exact .inl rfl
    · exact .inr (.inl hc)
    · exact .inr (.inr ⟨by omega, by rw [hn]; exact c2⟩)

/-- The value, where it is there. -/
theorem St.val (_ : x < 18446744073709551616) (h : St (form 1 ++ (form x ++ l2)) l2 x 5 q lj false okv) (hm : 5 ∈ evFields (x : Int)) {u : V} (hi : IsV 8 lj u l') :
    St (form 1 ++ (form x ++ l2)) l2 x 6 { q with v := u } l' false true := by
  obtain ⟨h1, h2⟩ := h
  refine ⟨fun hj5 => by omega, ?_⟩
  rcases h2 with ⟨_, hok, hd⟩ | ⟨hN, hc⟩
  · refine .inl ⟨rfl, rfl, hd.step (by omega) hm ⟨hi.2.2, rfl, fun i hi' hne => ?_, fun h => { h with v := hi.2.1, r := hi.1 }⟩⟩
    match i, hi', hne with
    | 5, _, h => exact absurd rfl h
    | 0, _, _ | 1, _, _ | 2, _, _ | 3, _, _ | 4, _, _ => exact ⟨rfl, rfl⟩
  · refine .inr ⟨hN, ?_⟩
    rcases hc with hc | hc | ⟨c1, c2⟩
    · cases hc
    · rw [(h1 (by omega)).1] at hc; cases hc
    · exact .inr (.inr ⟨by omega, c2⟩)

/-- The value, where it is not there. -/
theorem St.noval (hx : x < 18446744073709551616) (h : St (form 1 ++ (form x ++ l2)) l2 x 5 q lj bad okv) (hm : 5 ∈ evFields (x : Int)) (hno : bad = false → NoV 8 lj) (q' : Ev) (l' : List Nat) (bad' : Bool) :
    St (form 1 ++ (form x ++ l2)) l2 x 6 q' l' bad' false := by
  obtain ⟨h1, h2⟩ := h
  refine ⟨fun hj5 => by omega, .inr ⟨?_, .inr (.inl rfl)⟩⟩
  rcases h2 with ⟨hb, hok, hd⟩ | ⟨hN, _⟩
  · exact hd.no hx (by omega) hm (fun e' r' hb' hr' hq' => hno hb _ _ ⟨by simpa [rightE] using hr', hb'.v, hq'⟩)
  · exact hN
end
end Go.Proofs.YtcapbaocchaenaaGreat

