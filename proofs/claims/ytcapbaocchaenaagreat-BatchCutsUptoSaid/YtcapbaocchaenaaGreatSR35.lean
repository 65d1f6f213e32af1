import Derived.Test.YtcapbaocchaenaaGreatSR32
import Derived.Test.YtcapbaocchaenaaGreatSR29
/- The walk of the reference's read of a value: what is no list. -/
namespace Go.Proofs.YtcapbaocchaenaaGreat
open Go.RowKit Go.Shelf Fl

/-- What the reference's read answers. -/
def RrAny (K : Nat → Prop) (w : World) (t : Nat) (l : List Nat) (e : Ending) (w' : World) : Prop :=
  ∃ (a : Option Addr) (n c : Nat) (bad : Bool) (ls : List Nat), Bytes w' a n c ls ∧ FormedK K a c ∧ Below w.heap.size w w' ∧
  ((∃ (u : V) (av : Option Addr) (cap : Nat), bad = false ∧ e = .returned (.tuple #[.agg #[.slice a n c, .bool false], .agg (cells5 u.kind u.n u.f u.s av u.l.length cap), .bool true]) ∧ VInP (fun b => w.heap.size ≤ b ∧ b < w'.heap.size) w' u (cells5 u.kind u.n u.f u.s av u.l.length cap) ∧ IsV t l u ls) ∨
   (NoV t l ∧ e = .returned (.tuple #[.agg #[.slice a n c, .bool bad], .agg (cells5 0 0 0 [] none 0 0), .bool false])))

/-- The three blocks that the call begins with. -/
structure RH (w wr : World) (a : Option Addr) (n c : Nat) (bad : Bool) : Prop where
  rd : wr.heap[w.heap.size]? = some (.cells #[.slice a n c, .bool bad] 55 (0, 0))
  rr : wr.heap[w.heap.size + 1]? = some (.cells #[.slice none 0 0, .bool false] 55 (0, 0))
  rv : wr.heap[w.heap.size + 2]? = some (.cells #[.int .i64 0, .int .i64 0, .float .f64 0, .string ⟨#[]⟩, .slice none 0 0] 41 (0, 0))
  below : Below w.heap.size w wr

theorem RH.below' {w wr w' : World} {a : Option Addr} {n c : Nat} {bad : Bool} (h : RH w wr a n c bad) (hb : Below wr.heap.size wr w') : RH w w' a n c bad :=
  ⟨(hb.block _ (Array.getElem?_eq_some_iff.1 h.rd).1).trans h.rd, (hb.block _ (Array.getElem?_eq_some_iff.1 h.rr).1).trans h.rr, (hb.block _ (Array.getElem?_eq_some_iff.1 h.rv).1).trans h.rv, h.below.trans (hb.mono h.below.size)⟩

theorem rh_start (w : World) (a : Option Addr) (n c : Nat) (bad : Bool) :
    RH w (((w.alloc (.cells #[.slice a n c, .bool bad] 55)).alloc (.cells #[.slice none 0 0, .bool false] 55)).alloc (.cells #[.int .i64 0, .int .i64 0, .float .f64 0, .string ⟨#[]⟩, .slice none 0 0] 41)) a n c bad := by
  refine ⟨?_, ?_, ?_, (((Below.refl _ _).alloc (Nat.le_refl _) _).alloc (by simp) _).alloc (by simp; omega) _⟩
  · exact (Below.heap_alloc _ _ _ (by simp; omega)).trans ((Below.heap_alloc _ _ _ (by simp)).trans (heap_alloc_new _ _))
  · refine (Below.heap_alloc _ _ _ (by simp)).trans ?_
    have := heap_alloc_new (w.alloc (.cells #[.slice a n c, .bool bad] 55)) (.cells #[.slice none 0 0, .bool false] 55)
    rwa [World.size_alloc] at this
  · have := heap_alloc_new ((w.alloc (.cells #[.slice a n c, .bool bad] 55)).alloc (.cells #[.slice none 0 0, .bool false] 55)) (.cells #[.int .i64 0, .int .i64 0, .float .f64 0, .string ⟨#[]⟩, .slice none 0 0] 41)
    rwa [World.size_alloc, World.size_alloc] at this

theorem RH.setR {w wr : World} {a : Option Addr} {n c : Nat} {bad : Bool} (h : RH w wr a n c bad) (a' : Option Addr) (n' c' : Nat) (bad' : Bool) :
    RH w ((wr.setCell ⟨w.heap.size, 0, none⟩ (.slice a' n' c')).setCell ⟨w.heap.size, 1, none⟩ (.bool bad')) a' n' c' bad' ∧ Below w.heap.size wr ((wr.setCell ⟨w.heap.size, 0, none⟩ (.slice a' n' c')).setCell ⟨w.heap.size, 1, none⟩ (.bool bad')) := by
  have hb := ((Below.refl w.heap.size wr).setCell (p := ⟨w.heap.size, 0, none⟩) (Nat.le_refl _) (.slice a' n' c')).setCell (p := ⟨w.heap.size, 1, none⟩) (Nat.le_refl _) (.bool bad')
  refine ⟨⟨set_headE (set_headE h.rd (.slice a' n' c')) (.bool bad'), ?_, ?_, h.below.trans hb⟩, hb⟩
  · rw [← h.rr]; simp [World.setCell, Array.getElem?_modify]
  · rw [← h.rv]; simp [World.setCell, Array.getElem?_modify]

/-- A store into a block that is none of the three. -/
theorem RH.setO {w wr : World} {a : Option Addr} {n c : Nat} {bad : Bool} (h : RH w wr a n c bad) {g i : Nat} (hg : w.heap.size + 2 < g) (v : Value) : RH w (wr.setCell ⟨g, i, none⟩ v) a n c bad ∧ Below w.heap.size wr (wr.setCell ⟨g, i, none⟩ v) := by
  have hb := (Below.refl w.heap.size wr).setCell (p := ⟨g, i, none⟩) (show w.heap.size ≤ g by omega) v
  refine ⟨⟨?_, ?_, ?_, h.below.trans hb⟩, hb⟩
  · rw [← h.rd]; simp [World.setCell, Array.getElem?_modify, show g ≠ w.heap.size by omega]
  · rw [← h.rr]; simp [World.setCell, Array.getElem?_modify, show g ≠ w.heap.size + 1 by omega]
  · rw [← h.rv]; simp [World.setCell, Array.getElem?_modify, show g ≠ w.heap.size + 2 by omega]

theorem bytesB {K : Nat → Prop} {B : Nat} {w w' : World} {a : Option Addr} {n c : Nat} {l : List Nat} (h : Bytes w a n c l) (hf : FormedK K a c) (hK : ∀ b, K b → b < B) (hb : Below B w w') : Bytes w' a n c l := by
  rcases Nat.eq_zero_or_pos n with rfl | hn
  · obtain rfl : l = [] := List.length_eq_zero_iff.1 h.len
    exact ⟨rfl, h.le, h.capmax, h.byte, h.nil, fun h => absurd h (Nat.lt_irrefl _)⟩
  · refine h.keep fun p hp hpx => ?_
    obtain ⟨b, o, rfl, _⟩ := h.cell hn
    have hb1 := hK _ (hf.2 _ rfl)
    have hb2 := hpx _ rfl
    simp only at hb1 hb2
    exact World.cell?_of_block (hb.block p.block (by omega))

/-- The results' blocks at the end. -/
structure RZ (w wr wz : World) (a : Option Addr) (n c : Nat) (bad : Bool) (v0 v1 v2 v3 v4 : Value) : Prop where
  r : wz.heap[w.heap.size + 1]? = some (.cells #[.slice a n c, .bool bad] 55 (0, 0))
  v : wz.heap[w.heap.size + 1 + 1]? = some (.cells #[v0, v1, v2, v3, v4] 41 (0, 0))
  below : Below w.heap.size wr wz
  far : ∀ b, w.heap.size + 2 < b → wz.heap[b]? = wr.heap[b]?

abbrev sets7 (w : World) (A B : Nat) (r0 r1 v0 v1 v2 v3 v4 : Value) : World :=
  ((((((w.setCell ⟨A, 0, none⟩ r0).setCell ⟨A, 1, none⟩ r1).setCell ⟨B, 0, none⟩ v0).setCell ⟨B, 1, none⟩ v1).setCell ⟨B, 2, none⟩ v2).setCell ⟨B, 3, none⟩ v3).setCell ⟨B, 4, none⟩ v4

theorem set5A {w : World} {E : Nat} {v0 v1 v2 v3 v4 : Value} {t : TypeId} {m : Nat × Nat} (h : w.heap[E]? = some (.cells #[v0, v1, v2, v3, v4] t m)) (u0 u1 u2 u3 u4 : Value) :
    (((((w.setCell ⟨E, 0, none⟩ u0).setCell ⟨E, 1, none⟩ u1).setCell ⟨E, 2, none⟩ u2).setCell ⟨E, 3, none⟩ u3).setCell ⟨E, 4, none⟩ u4).heap[E]? = some (.cells #[u0, u1, u2, u3, u4] t m) := by
  have h' := set_headE (i := 4) (set_headE (i := 3) (set_headE (i := 2) (set_headE (i := 1) (set_headE (i := 0) h u0) u1) u2) u3) u4
  simp only [List.setIfInBounds_toArray, List.set_cons_zero, List.set_cons_succ] at h'
  exact h'

theorem RH.done {w wr : World} {a : Option Addr} {n c : Nat} {bad : Bool} (h : RH w wr a n c bad) (a' : Option Addr) (n' c' : Nat) (bad' : Bool) (v0 v1 v2 v3 v4 : Value) :
    RZ w wr (sets7 wr (w.heap.size + 1) (w.heap.size + 1 + 1) (.slice a' n' c') (.bool bad') v0 v1 v2 v3 v4) a' n' c' bad' v0 v1 v2 v3 v4 := by
  have hrr := set_headE (i := 1) (set_headE (i := 0) h.rr (.slice a' n' c')) (.bool bad')
  have hrv : ((wr.setCell ⟨w.heap.size + 1, 0, none⟩ (.slice a' n' c')).setCell ⟨w.heap.size + 1, 1, none⟩ (.bool bad')).heap[w.heap.size + 1 + 1]? = some (.cells #[.int .i64 0, .int .i64 0, .float .f64 0, .string ⟨#[]⟩, .slice none 0 0] 41 (0, 0)) := by
    rw [show (some (Obj.cells #[.int .i64 0, .int .i64 0, .float .f64 0, .string ⟨#[]⟩, .slice none 0 0] 41 (0, 0))) = wr.heap[w.heap.size + 1 + 1]? from h.rv.symm]
    simp [World.setCell, Array.getElem?_modify]
  have hb := ((((((((Below.refl w.heap.size wr).setCell (p := ⟨w.heap.size + 1, 0, none⟩) (Nat.le_succ _) (.slice a' n' c')).setCell (p := ⟨w.heap.size + 1, 1, none⟩) (Nat.le_succ _) (.bool bad')).setCell (p := ⟨w.heap.size + 1 + 1, 0, none⟩) (by show w.heap.size ≤ w.heap.size + 1 + 1; omega) v0).setCell (p := ⟨w.heap.size + 1 + 1, 1, none⟩) (by show w.heap.size ≤ w.heap.size + 1 + 1; omega) v1).setCell (p := ⟨w.heap.size + 1 + 1, 2, none⟩) (by show w.heap.size ≤ w.heap.size + 1 + 1; omega) v2).setCell (p := ⟨w.heap.size + 1 + 1, 3, none⟩) (by show w.heap.size ≤ w.heap.size + 1 + 1; omega) v3).setCell (p := ⟨w.heap.size + 1 + 1, 4, none⟩) (by show w.heap.size ≤ w.heap.size + 1 + 1; omega) v4)
  refine ⟨?_, set5A hrv v0 v1 v2 v3 v4, hb, fun b hb => ?_⟩
  · rw [show some (Obj.cells #[.slice a' n' c', .bool bad'] 55 (0, 0)) = _ from hrr.symm]
    simp [World.setCell, Array.getElem?_modify]
  · simp [World.setCell, Array.getElem?_modify, show w.heap.size + 1 ≠ b by omega, show w.heap.size + 1 + 1 ≠ b by omega]
theorem RZ.drew {w wr wz : World} {a : Option Addr} {n c : Nat} {bad : Bool} {v0 v1 v2 v3 v4 : Value} (h : RZ w wr wz a n c bad v0 v1 v2 v3 v4) : RZ w wr wz.drew a n c bad v0 v1 v2 v3 v4 :=
  ⟨h.r, h.v, ⟨h.below.os, h.below.tape, h.below.output, h.below.size, h.below.block⟩, h.far⟩
theorem RZ.cells {w wr wz : World} {a : Option Addr} {n c : Nat} {bad : Bool} {v0 v1 v2 v3 v4 : Value} (h : RZ w wr wz a n c bad v0 v1 v2 v3 v4) :
    (wz.cell? ⟨w.heap.size + 1, 0, none⟩ = some (.slice a n c) ∧ wz.cell? ⟨w.heap.size + 1, 1, none⟩ = some (.bool bad)) ∧ wz.cell? ⟨w.heap.size + 1 + 1, 0, none⟩ = some v0 ∧ wz.cell? ⟨w.heap.size + 1 + 1, 1, none⟩ = some v1 ∧ wz.cell? ⟨w.heap.size + 1 + 1, 2, none⟩ = some v2 ∧ wz.cell? ⟨w.heap.size + 1 + 1, 3, none⟩ = some v3 ∧ wz.cell? ⟨w.heap.size + 1 + 1, 4, none⟩ = some v4 := by
  refine ⟨⟨?_, ?_⟩, ?_, ?_, ?_, ?_, ?_⟩
  · rw [cell_of_row _ _ _ _ _ _ h.r]; rfl
  · rw [cell_of_row _ _ _ _ _ _ h.r]; rfl
  · rw [cell_of_row _ _ _ _ _ _ h.v]; rfl
  · rw [cell_of_row _ _ _ _ _ _ h.v]; rfl
  · rw [cell_of_row _ _ _ _ _ _ h.v]; rfl
  · rw [cell_of_row _ _ _ _ _ _ h.v]; rfl
  · rw [cell_of_row _ _ _ _ _ _ h.v]; rfl

theorem box5 {w : World} {g : Nat} {v0 v1 v2 v3 v4 : Value} {t : TypeId} (h : w.heap[g]? = some (.cells #[v0, v1, v2, v3, v4] t (0, 0))) :
    w.cell? ⟨g, 0, none⟩ = some v0 ∧ w.cell? ⟨g, 1, none⟩ = some v1 ∧ w.cell? ⟨g, 2, none⟩ = some v2 ∧ w.cell? ⟨g, 3, none⟩ = some v3 ∧ w.cell? ⟨g, 4, none⟩ = some v4 := by
  refine ⟨?_, ?_, ?_, ?_, ?_⟩ <;> (rw [cell_of_row _ _ _ _ _ _ h]; rfl)
theorem box5f {w : World} {g : Nat} {v0 v1 v2 v3 v4 : Value} {t : TypeId} (h : w.heap[g]? = some (.cells #[v0, v1, v2, v3, v4] t (0, 0))) :
    (w.cell? ⟨g, 0, none⟩ = some v0 ∧ w.cell? ⟨g, 1, none⟩ = some v1 ∧ w.cell? ⟨g, 2, none⟩ = some v2 ∧ w.cell? ⟨g, 3, none⟩ = some v3 ∧ w.cell? ⟨g, 4, none⟩ = some v4) ∧
    (w.frozen? ⟨g, 0, none⟩ = false ∧ w.frozen? ⟨g, 1, none⟩ = false ∧ w.frozen? ⟨g, 2, none⟩ = false ∧ w.frozen? ⟨g, 3, none⟩ = false ∧ w.frozen? ⟨g, 4, none⟩ = false) :=
  ⟨box5 h, froz h 0, froz h 1, froz h 2, froz h 3, froz h 4⟩

section
variable (K : Nat → Prop) (a : Option Addr) (n c : Nat) (T : Int) (w : World)

set_option maxRecDepth 100000 in
set_option maxHeartbeats 3200000 in
theorem rr_bad0 (t : Nat) (l : List Nat) (hn : readN l true = (0, l, false)) (hno : NoV t l) (hB : Bytes w a n c l) (hf : FormedK K a c) (hK : ∀ b, K b → b < w.heap.size) :
    Calls Tryz.prog 82 #[.agg #[.slice a n c, .bool false], .int .i64 T] w (RrAny K w t l) := by
  have h0 := rh_start w a n c false
  have hw0 : (((w.alloc (.cells #[.slice a n c, .bool false] 55)).alloc (.cells #[.slice none 0 0, .bool false] 55)).alloc (.cells #[.int .i64 0, .int .i64 0, .float .f64 0, .string ⟨#[]⟩, .slice none 0 0] 41)).heap.size = w.heap.size + 3 := by simp
  have HU := Lib.hid (readUintK_any K a n c false l _ (hB.grow h0.below) hf)
  have hn' : readN l (!false) = (0, l, false) := hn
  rw [hn'] at HU
  have H0 := Lib.hid h0
  have HK := Lib.hid hK
  have Hno := Lib.hid hno
  clear h0 hn hn' hno hB hf hK
  have hfl : ∀ (w : World) (a : Addr) (m : Mode) (b : Nat), (store a (.float .f64 b) m).run Tryz.prog w = stored Tryz.prog w a (.float .f64 b) m := fun w a m b => run_store Tryz.prog w a _ m rfl
  go_enter Tryz.func82, Tryz.ntmps82
  go_wp2_with fail
  generalize (((w.alloc (.cells #[.slice a n c, .bool false] 55)).alloc (.cells #[.slice none 0 0, .bool false] 55)).alloc (.cells #[.int .i64 0, .int .i64 0, .float .f64 0, .string ⟨#[]⟩, .slice none 0 0] 41)) = w0 at *
  refine HU.out.mono ?_
  rintro e w1 ⟨a1, n1, c1, rfl, hB1, hf1, hb1⟩
  have h1 := H0.out.below' hb1
  obtain ⟨p0, p1, p2, p3⟩ := block_cells h1.rd
  have HB1 := Lib.hid hB1
  have Hf1 := Lib.hid hf1
  have H1 := Lib.hid h1
  have hsz1 : w.heap.size + 3 ≤ w1.heap.size := by have := hb1.size; omega
  clear h1 hB1 hf1 hb1
  have hal := (Below.refl ((w1.setCell ⟨w.heap.size, 0, none⟩ (.slice a1 n1 c1)).setCell ⟨w.heap.size, 1, none⟩ (.bool true)).heap.size _).alloc (Nat.le_refl _) (.cells #[.int .i64 0, .int .i64 0, .float .f64 0, .string ⟨#[]⟩, .slice none 0 0] 41)
  have H2 := Lib.hid ((H1.out.setR a1 n1 c1 true).1.below' hal)
  have HV8 := Lib.hid (heap_alloc_new ((w1.setCell ⟨w.heap.size, 0, none⟩ (.slice a1 n1 c1)).setCell ⟨w.heap.size, 1, none⟩ (.bool true)) (.cells #[.int .i64 0, .int .i64 0, .float .f64 0, .string ⟨#[]⟩, .slice none 0 0] 41))
  have Hb12 := Lib.hid (((H1.out.setR a1 n1 c1 true).2).trans (hal.mono (by simp; omega)))
  clear hal
  go_upto_region 3 with fail
  have hsz2 : ((w1.setCell ⟨w.heap.size, 0, none⟩ (.slice a1 n1 c1)).setCell ⟨w.heap.size, 1, none⟩ (.bool true)).heap.size = w1.heap.size := by simp
  rw [hsz2] at HV8
  generalize ((w1.setCell ⟨w.heap.size, 0, none⟩ (.slice a1 n1 c1)).setCell ⟨w.heap.size, 1, none⟩ (.bool true)).alloc (.cells #[.int .i64 0, .int .i64 0, .float .f64 0, .string ⟨#[]⟩, .slice none 0 0] 41) = w2 at *
  obtain ⟨y0, y1, y2, y3⟩ := block_cells H2.out.rd
  clear p0 p1 p2 p3 hsz2
  go_wp2_with fail
  obtain ⟨⟨v0, v1, v2, v3, v4⟩, _⟩ := res_cells HV8.out
  obtain ⟨_, _, q2, q3⟩ := block_cells H2.out.rr
  obtain ⟨q0, q1, _, _⟩ := block_cells H2.out.rr
  have hrv : w2.heap[w.heap.size + 1 + 1]? = some (.cells #[.int .i64 0, .int .i64 0, .float .f64 0, .string ⟨#[]⟩, .slice none 0 0] 41 (0, 0)) := H2.out.rv
  obtain ⟨⟨s0, s1, s2, s3, s4⟩, ⟨u0, u1, u2, u3, u4⟩⟩ := res_cells hrv
  clear hrv
  go_region
  have hZ := (H2.out.done a1 n1 c1 true (.int .i64 0) (.int .i64 0) (.float .f64 0) (.string ⟨#[]⟩) (.slice none 0 0)).drew
  unfold sets7 at hZ
  clear v0 v1 v2 v3 v4 q0 q1 q2 q3 s0 s1 s2 s3 s4 u0 u1 u2 u3 u4 y0 y1 y2 y3
  generalize World.drew _ = wz at *
  obtain ⟨⟨r0, r1⟩, r2, r3, r4, r5, r6⟩ := hZ.cells
  have HZ := Lib.hid hZ
  clear hZ
  go_wp2
  refine bodyPost_ret (v := .tuple #[.agg #[.slice a1 n1 c1, .bool true], .agg #[.int .i64 0, .int .i64 0, .float .f64 0, .string ⟨#[]⟩, .slice none 0 0], .bool false]) (by simp [results, Tryz.results82, go_sem, *]) rfl ?_
  have hbz := Hb12.out.trans HZ.out.below
  exact ⟨a1, n1, c1, true, _, bytesB HB1.out Hf1.out HK.out hbz, Hf1.out, H1.out.below.trans hbz, .inr ⟨Hno.out, rfl⟩⟩
set_option maxRecDepth 100000 in
set_option maxHeartbeats 3200000 in
theorem rr_big (t x : Nat) (l1 : List Nat) (hx : x < 18446744073709551616) (h4 : 4 < x) (hno : NoV t (form x ++ l1)) (hB : Bytes w a n c (form x ++ l1)) (hf : FormedK K a c) (hK : ∀ b, K b → b < w.heap.size) :
    Calls Tryz.prog 82 #[.agg #[.slice a n c, .bool false], .int .i64 T] w (RrAny K w t (form x ++ l1)) := by
  have h0 := rh_start w a n c false
  have hw0 : (((w.alloc (.cells #[.slice a n c, .bool false] 55)).alloc (.cells #[.slice none 0 0, .bool false] 55)).alloc (.cells #[.int .i64 0, .int .i64 0, .float .f64 0, .string ⟨#[]⟩, .slice none 0 0] 41)).heap.size = w.heap.size + 3 := by simp
  have HU := Lib.hid (readUintK_any K a n c false (form x ++ l1) _ (hB.grow h0.below) hf)
  have hn' : readN (form x ++ l1) (!false) = (x, l1, true) := readN_form hx l1
  rw [hn'] at HU
  have hxi : (4 : Int) < (x : Int) := by omega
  have H0 := Lib.hid h0
  have HK := Lib.hid hK
  have Hno := Lib.hid hno
  clear h0 hn' hno hB hf hK hx h4
  have hfl : ∀ (w : World) (a : Addr) (m : Mode) (b : Nat), (store a (.float .f64 b) m).run Tryz.prog w = stored Tryz.prog w a (.float .f64 b) m := fun w a m b => run_store Tryz.prog w a _ m rfl
  go_enter Tryz.func82, Tryz.ntmps82
  go_wp2_with fail
  generalize (((w.alloc (.cells #[.slice a n c, .bool false] 55)).alloc (.cells #[.slice none 0 0, .bool false] 55)).alloc (.cells #[.int .i64 0, .int .i64 0, .float .f64 0, .string ⟨#[]⟩, .slice none 0 0] 41)) = w0 at *
  refine HU.out.mono ?_
  rintro e w1 ⟨a1, n1, c1, rfl, hB1, hf1, hb1⟩
  have h1 := H0.out.below' hb1
  obtain ⟨p0, p1, p2, p3⟩ := block_cells h1.rd
  have HB1 := Lib.hid hB1
  have Hf1 := Lib.hid hf1
  have H1 := Lib.hid h1
  have hsz1 : w.heap.size + 3 ≤ w1.heap.size := by have := hb1.size; omega
  clear h1 hB1 hf1 hb1
  have hal := (Below.refl ((w1.setCell ⟨w.heap.size, 0, none⟩ (.slice a1 n1 c1)).setCell ⟨w.heap.size, 1, none⟩ (.bool false)).heap.size _).alloc (Nat.le_refl _) (.cells #[.int .i64 0, .int .i64 0, .float .f64 0, .string ⟨#[]⟩, .slice none 0 0] 41)
  have H2 := Lib.hid ((H1.out.setR a1 n1 c1 false).1.below' hal)
  have HV8 := Lib.hid (heap_alloc_new ((w1.setCell ⟨w.heap.size, 0, none⟩ (.slice a1 n1 c1)).setCell ⟨w.heap.size, 1, none⟩ (.bool false)) (.cells #[.int .i64 0, .int .i64 0, .float .f64 0, .string ⟨#[]⟩, .slice none 0 0] 41))
  have Hb12 := Lib.hid (((H1.out.setR a1 n1 c1 false).2).trans (hal.mono (by simp; omega)))
  clear hal
  go_upto_region 3 with fail
  have hsz2 : ((w1.setCell ⟨w.heap.size, 0, none⟩ (.slice a1 n1 c1)).setCell ⟨w.heap.size, 1, none⟩ (.bool false)).heap.size = w1.heap.size := by simp
  rw [hsz2] at HV8
  generalize ((w1.setCell ⟨w.heap.size, 0, none⟩ (.slice a1 n1 c1)).setCell ⟨w.heap.size, 1, none⟩ (.bool false)).alloc (.cells #[.int .i64 0, .int .i64 0, .float .f64 0, .string ⟨#[]⟩, .slice none 0 0] 41) = w2 at *
  obtain ⟨y0, y1, y2, y3⟩ := block_cells H2.out.rd
  clear p0 p1 p2 p3 hsz2
  go_wp2_with fail
  obtain ⟨⟨v0, v1, v2, v3, v4⟩, _⟩ := res_cells HV8.out
  obtain ⟨_, _, q2, q3⟩ := block_cells H2.out.rr
  obtain ⟨q0, q1, _, _⟩ := block_cells H2.out.rr
  have hrv : w2.heap[w.heap.size + 1 + 1]? = some (.cells #[.int .i64 0, .int .i64 0, .float .f64 0, .string ⟨#[]⟩, .slice none 0 0] 41 (0, 0)) := H2.out.rv
  obtain ⟨⟨s0, s1, s2, s3, s4⟩, ⟨u0, u1, u2, u3, u4⟩⟩ := res_cells hrv
  clear hrv
  go_region
  have hZ := (H2.out.done a1 n1 c1 false (.int .i64 0) (.int .i64 0) (.float .f64 0) (.string ⟨#[]⟩) (.slice none 0 0)).drew
  unfold sets7 at hZ
  clear v0 v1 v2 v3 v4 q0 q1 q2 q3 s0 s1 s2 s3 s4 u0 u1 u2 u3 u4 y0 y1 y2 y3
  generalize World.drew _ = wz at *
  obtain ⟨⟨r0, r1⟩, r2, r3, r4, r5, r6⟩ := hZ.cells
  have HZ := Lib.hid hZ
  clear hZ
  go_wp2
  refine bodyPost_ret (v := .tuple #[.agg #[.slice a1 n1 c1, .bool false], .agg #[.int .i64 0, .int .i64 0, .float .f64 0, .string ⟨#[]⟩, .slice none 0 0], .bool false]) (by simp [results, Tryz.results82, go_sem, *]) rfl ?_
  have hbz := Hb12.out.trans HZ.out.below
  exact ⟨a1, n1, c1, false, _, bytesB HB1.out Hf1.out HK.out hbz, Hf1.out, H1.out.below.trans hbz, .inr ⟨Hno.out, rfl⟩⟩
set_option maxRecDepth 100000 in
set_option maxHeartbeats 3200000 in
theorem rr_nil (t : Nat) (l1 : List Nat) (hB : Bytes w a n c (form 0 ++ l1)) (hf : FormedK K a c) (hK : ∀ b, K b → b < w.heap.size) :
    Calls Tryz.prog 82 #[.agg #[.slice a n c, .bool false], .int .i64 T] w (RrAny K w t (form 0 ++ l1)) := by
  have h0 := rh_start w a n c false
  have hw0 : (((w.alloc (.cells #[.slice a n c, .bool false] 55)).alloc (.cells #[.slice none 0 0, .bool false] 55)).alloc (.cells #[.int .i64 0, .int .i64 0, .float .f64 0, .string ⟨#[]⟩, .slice none 0 0] 41)).heap.size = w.heap.size + 3 := by simp
  have HU := Lib.hid (readUintK_any K a n c false (form 0 ++ l1) _ (hB.grow h0.below) hf)
  have hn' : readN (form 0 ++ l1) (!false) = (0, l1, true) := readN_form (by omega) l1
  rw [hn'] at HU
  have H0 := Lib.hid h0
  have HK := Lib.hid hK
  clear h0 hn' hB hf hK
  have hfl : ∀ (w : World) (a : Addr) (m : Mode) (b : Nat), (store a (.float .f64 b) m).run Tryz.prog w = stored Tryz.prog w a (.float .f64 b) m := fun w a m b => run_store Tryz.prog w a _ m rfl
  go_enter Tryz.func82, Tryz.ntmps82
  go_wp2_with fail
  generalize (((w.alloc (.cells #[.slice a n c, .bool false] 55)).alloc (.cells #[.slice none 0 0, .bool false] 55)).alloc (.cells #[.int .i64 0, .int .i64 0, .float .f64 0, .string ⟨#[]⟩, .slice none 0 0] 41)) = w0 at *
  refine HU.out.mono ?_
  rintro e w1 ⟨a1, n1, c1, rfl, hB1, hf1, hb1⟩
  have h1 := H0.out.below' hb1
  obtain ⟨p0, p1, p2, p3⟩ := block_cells h1.rd
  have HB1 := Lib.hid hB1
  have Hf1 := Lib.hid hf1
  have H1 := Lib.hid h1
  have hsz1 : w.heap.size + 3 ≤ w1.heap.size := by have := hb1.size; omega
  clear h1 hB1 hf1 hb1
  have hal := (Below.refl ((w1.setCell ⟨w.heap.size, 0, none⟩ (.slice a1 n1 c1)).setCell ⟨w.heap.size, 1, none⟩ (.bool false)).heap.size _).alloc (Nat.le_refl _) (.cells #[.int .i64 0, .int .i64 0, .float .f64 0, .string ⟨#[]⟩, .slice none 0 0] 41)
  have H2 := Lib.hid ((H1.out.setR a1 n1 c1 false).1.below' hal)
  have HV8 := Lib.hid (heap_alloc_new ((w1.setCell ⟨w.heap.size, 0, none⟩ (.slice a1 n1 c1)).setCell ⟨w.heap.size, 1, none⟩ (.bool false)) (.cells #[.int .i64 0, .int .i64 0, .float .f64 0, .string ⟨#[]⟩, .slice none 0 0] 41))
  have Hb12 := Lib.hid (((H1.out.setR a1 n1 c1 false).2).trans (hal.mono (by simp; omega)))
  clear hal
  go_upto_region 3 with fail
  have hsz2 : ((w1.setCell ⟨w.heap.size, 0, none⟩ (.slice a1 n1 c1)).setCell ⟨w.heap.size, 1, none⟩ (.bool false)).heap.size = w1.heap.size := by simp
  rw [hsz2] at HV8
  generalize ((w1.setCell ⟨w.heap.size, 0, none⟩ (.slice a1 n1 c1)).setCell ⟨w.heap.size, 1, none⟩ (.bool false)).alloc (.cells #[.int .i64 0, .int .i64 0, .float .f64 0, .string ⟨#[]⟩, .slice none 0 0] 41) = w2 at *
  obtain ⟨y0, y1, y2, y3⟩ := block_cells H2.out.rd
  clear p0 p1 p2 p3 hsz2
  obtain ⟨⟨v0, v1, v2, v3, v4⟩, ⟨f0, f1, f2, f3, f4⟩⟩ := res_cells HV8.out
  go_upto_region 7 with fail
  have H3 := Lib.hid (H2.out.setO (g := w1.heap.size) (i := 0) (by omega) (.int .i64 0))
  have HV9 := Lib.hid (show (w2.setCell ⟨w1.heap.size, 0, none⟩ (.int .i64 0)).heap[w1.heap.size]? = some (.cells #[.int .i64 0, .int .i64 0, .float .f64 0, .string ⟨#[]⟩, .slice none 0 0] 41 (0, 0)) from set_headE HV8.out (i := 0) (.int .i64 0))
  clear v0 v1 v2 v3 v4 f0 f1 f2 f3 f4 y0 y1 y2 y3
  generalize w2.setCell ⟨w1.heap.size, 0, none⟩ (.int .i64 0) = w3 at *
  obtain ⟨y0, y1, y2, y3⟩ := block_cells H3.out.1.rd
  have Hb13 := Lib.hid (Hb12.out.trans H3.out.2)
  have HB3 := Lib.hid (bytesB HB1.out Hf1.out HK.out Hb13.out)
  obtain ⟨y0, y1, y2, y3⟩ := block_cells H3.out.1.rd
  obtain ⟨q0, q1, q2, q3⟩ := block_cells H3.out.1.rr
  have hrv : w3.heap[w.heap.size + 1 + 1]? = some (.cells #[.int .i64 0, .int .i64 0, .float .f64 0, .string ⟨#[]⟩, .slice none 0 0] 41 (0, 0)) := H3.out.1.rv
  obtain ⟨⟨s0, s1, s2, s3, s4⟩, ⟨u0, u1, u2, u3, u4⟩⟩ := res_cells hrv
  obtain ⟨k0, k1, k2, k3, k4⟩ := box5 HV9.out
  clear hrv
  go_wp2_with fail
  go_region
  have hZ := (H3.out.1.done a1 n1 c1 false (.int .i64 0) (.int .i64 0) (.float .f64 0) (.string ⟨#[]⟩) (.slice none 0 0)).drew
  unfold sets7 at hZ
  clear q0 q1 q2 q3 s0 s1 s2 s3 s4 u0 u1 u2 u3 u4 y0 y1 y2 y3 k0 k1 k2 k3 k4
  generalize World.drew _ = wz at *
  obtain ⟨⟨r0, r1⟩, r2, r3, r4, r5, r6⟩ := hZ.cells
  have HZ := Lib.hid hZ
  clear hZ
  go_wp2
  refine bodyPost_ret (v := .tuple #[.agg #[.slice a1 n1 c1, .bool false], .agg #[.int .i64 0, .int .i64 0, .float .f64 0, .string ⟨#[]⟩, .slice none 0 0], .bool true]) (by simp [results, Tryz.results82, go_sem, *]) rfl ?_
  have hbz := Hb13.out.trans HZ.out.below
  refine ⟨a1, n1, c1, false, l1, bytesB HB1.out Hf1.out HK.out hbz, Hf1.out, H1.out.below.trans hbz, .inl ⟨.mk 0 0 0 [] [], none, 0, rfl, rfl, vin_atom wz 0 0 0 [] (by omega) (by omega) (by omega) (by simp) (by simp), ?_⟩⟩
  exact ⟨rightN_plain ⟨.inr rfl, .inr (by decide), .inr rfl, .inr rfl⟩ (show (0 : Int) ≠ 4 by omega) (show (0 : Int) ≤ 0 ∧ (0 : Int) ≤ 4 by omega), bound_atom (by omega) (by omega) (by simp), by rw [formV_is]; simp [pieceV, contF, formsV, V.kind, V.l]⟩

set_option maxRecDepth 100000 in
set_option maxHeartbeats 3200000 in
theorem rr_int (t y : Nat) (l1 l2 : List Nat) (ok : Bool) (hn : readN l1 true = (y, l2, ok)) (hy : y < 18446744073709551616) (hyes : ok = true → l1 = form y ++ l2) (hnot : ok = false → NoV t (form 1 ++ l1)) (hB : Bytes w a n c (form 1 ++ l1)) (hf : FormedK K a c) (hK : ∀ b, K b → b < w.heap.size) :
    Calls Tryz.prog 82 #[.agg #[.slice a n c, .bool false], .int .i64 T] w (RrAny K w t (form 1 ++ l1)) := by
  have h0 := rh_start w a n c false
  have hw0 : (((w.alloc (.cells #[.slice a n c, .bool false] 55)).alloc (.cells #[.slice none 0 0, .bool false] 55)).alloc (.cells #[.int .i64 0, .int .i64 0, .float .f64 0, .string ⟨#[]⟩, .slice none 0 0] 41)).heap.size = w.heap.size + 3 := by simp
  have HU := Lib.hid (readUintK_any K a n c false (form 1 ++ l1) _ (hB.grow h0.below) hf)
  have hn' : readN (form 1 ++ l1) (!false) = (1, l1, true) := readN_form (by omega) l1
  rw [hn'] at HU
  have H0 := Lib.hid h0
  have HK := Lib.hid hK
  clear h0 hn' hB hf hK
  have hfl : ∀ (w : World) (a : Addr) (m : Mode) (b : Nat), (store a (.float .f64 b) m).run Tryz.prog w = stored Tryz.prog w a (.float .f64 b) m := fun w a m b => run_store Tryz.prog w a _ m rfl
  go_enter Tryz.func82, Tryz.ntmps82
  go_wp2_with fail
  generalize (((w.alloc (.cells #[.slice a n c, .bool false] 55)).alloc (.cells #[.slice none 0 0, .bool false] 55)).alloc (.cells #[.int .i64 0, .int .i64 0, .float .f64 0, .string ⟨#[]⟩, .slice none 0 0] 41)) = w0 at *
  refine HU.out.mono ?_
  rintro e w1 ⟨a1, n1, c1, rfl, hB1, hf1, hb1⟩
  have h1 := H0.out.below' hb1
  obtain ⟨p0, p1, p2, p3⟩ := block_cells h1.rd
  have HB1 := Lib.hid hB1
  have Hf1 := Lib.hid hf1
  have H1 := Lib.hid h1
  have hsz1 : w.heap.size + 3 ≤ w1.heap.size := by have := hb1.size; omega
  clear h1 hB1 hf1 hb1
  have hal := (Below.refl ((w1.setCell ⟨w.heap.size, 0, none⟩ (.slice a1 n1 c1)).setCell ⟨w.heap.size, 1, none⟩ (.bool false)).heap.size _).alloc (Nat.le_refl _) (.cells #[.int .i64 0, .int .i64 0, .float .f64 0, .string ⟨#[]⟩, .slice none 0 0] 41)
  have H2 := Lib.hid ((H1.out.setR a1 n1 c1 false).1.below' hal)
  have HV8 := Lib.hid (heap_alloc_new ((w1.setCell ⟨w.heap.size, 0, none⟩ (.slice a1 n1 c1)).setCell ⟨w.heap.size, 1, none⟩ (.bool false)) (.cells #[.int .i64 0, .int .i64 0, .float .f64 0, .string ⟨#[]⟩, .slice none 0 0] 41))
  have Hb12 := Lib.hid (((H1.out.setR a1 n1 c1 false).2).trans (hal.mono (by simp; omega)))
  clear hal
  go_upto_region 3 with fail
  have hsz2 : ((w1.setCell ⟨w.heap.size, 0, none⟩ (.slice a1 n1 c1)).setCell ⟨w.heap.size, 1, none⟩ (.bool false)).heap.size = w1.heap.size := by simp
  rw [hsz2] at HV8
  generalize ((w1.setCell ⟨w.heap.size, 0, none⟩ (.slice a1 n1 c1)).setCell ⟨w.heap.size, 1, none⟩ (.bool false)).alloc (.cells #[.int .i64 0, .int .i64 0, .float .f64 0, .string ⟨#[]⟩, .slice none 0 0] 41) = w2 at *
  obtain ⟨y0, y1, y2, y3⟩ := block_cells H2.out.rd
  clear p0 p1 p2 p3 hsz2
  obtain ⟨⟨v0, v1, v2, v3, v4⟩, ⟨f0, f1, f2, f3, f4⟩⟩ := res_cells HV8.out
  go_upto_region 7 with fail
  have H3 := Lib.hid (H2.out.setO (g := w1.heap.size) (i := 0) (by omega) (.int .i64 1))
  have HV9 := Lib.hid (show (w2.setCell ⟨w1.heap.size, 0, none⟩ (.int .i64 1)).heap[w1.heap.size]? = some (.cells #[.int .i64 1, .int .i64 0, .float .f64 0, .string ⟨#[]⟩, .slice none 0 0] 41 (0, 0)) from set_headE HV8.out (i := 0) (.int .i64 1))
  clear v0 v1 v2 v3 v4 f0 f1 f2 f3 f4 y0 y1 y2 y3
  generalize w2.setCell ⟨w1.heap.size, 0, none⟩ (.int .i64 1) = w3 at *
  obtain ⟨y0, y1, y2, y3⟩ := block_cells H3.out.1.rd
  have Hb13 := Lib.hid (Hb12.out.trans H3.out.2)
  have HB3 := Lib.hid (bytesB HB1.out Hf1.out HK.out Hb13.out)
  have HI := Lib.hid (readIntK_any K a1 n1 c1 false l1 w3 HB3.out Hf1.out)
  have hn'' : readN l1 (!false) = (y, l2, ok) := hn
  rw [hn''] at HI
  have HY := Lib.hid hyes
  have HN := Lib.hid hnot
  have Hy := Lib.hid hy
  have hsz3 : w.heap.size + 2 < w1.heap.size := by omega
  have HG := Lib.hid (show w1.heap.size < w3.heap.size from (Array.getElem?_eq_some_iff.1 HV9.out).1)
  clear hn hn'' hyes hnot hy
  go_wp2_with fail
  refine HI.out.mono ?_
  rintro e w4 ⟨a2, n2, c2, rfl, hB4, hf4, hb4⟩
  have h4 := H3.out.1.below' hb4
  have hv4 := blk HV9.out hb4
  obtain ⟨y0, y1, y2, y3⟩ := block_cells h4.rd
  obtain ⟨⟨v0, v1, v2, v3, v4⟩, ⟨f0, f1, f2, f3, f4⟩⟩ := box5f hv4
  have H4 := Lib.hid h4
  have HB4 := Lib.hid hB4
  have Hf4 := Lib.hid hf4
  have HV4 := Lib.hid hv4
  clear h4 hB4 hf4 hv4 hb4
  go_upto_region 36 with fail
  have H5 := Lib.hid (H4.out.setR a2 n2 c2 (!ok))
  have HV5 := Lib.hid (show ((w4.setCell ⟨w.heap.size, 0, none⟩ (.slice a2 n2 c2)).setCell ⟨w.heap.size, 1, none⟩ (.bool (!ok))).heap[w1.heap.size]? = some (.cells #[.int .i64 1, .int .i64 0, .float .f64 0, .string ⟨#[]⟩, .slice none 0 0] 41 (0, 0)) from by rw [← HV4.out]; simp [World.setCell, Array.getElem?_modify, show w.heap.size ≠ w1.heap.size by omega])
  have H6 := Lib.hid (H5.out.1.setO (g := w1.heap.size) (i := 1) hsz3 (.int .i64 (unfoldL y)))
  have HV6 := Lib.hid (set_headE HV5.out (i := 1) (.int .i64 (unfoldL y)))
  have HB6 := Lib.hid (H5.out.2.trans H6.out.2)
  clear v0 v1 v2 v3 v4 f0 f1 f2 f3 f4 y0 y1 y2 y3 H5 HV5
  generalize ((w4.setCell ⟨w.heap.size, 0, none⟩ (.slice a2 n2 c2)).setCell ⟨w.heap.size, 1, none⟩ (.bool (!ok))).setCell ⟨w1.heap.size, 1, none⟩ (.int .i64 (unfoldL y)) = w5 at *
  cases ok with
  | true =>
    have hl := HY.out rfl
    obtain ⟨y0, y1, y2, y3⟩ := block_cells H6.out.1.rd
    obtain ⟨q0, q1, q2, q3⟩ := block_cells H6.out.1.rr
    have hrv : w5.heap[w.heap.size + 1 + 1]? = some (.cells #[.int .i64 0, .int .i64 0, .float .f64 0, .string ⟨#[]⟩, .slice none 0 0] 41 (0, 0)) := H6.out.1.rv
    obtain ⟨⟨s0, s1, s2, s3, s4⟩, ⟨u0, u1, u2, u3, u4⟩⟩ := res_cells hrv
    obtain ⟨k0, k1, k2, k3, k4⟩ := box5 (show w5.heap[w1.heap.size]? = some (.cells #[.int .i64 1, .int .i64 (unfoldL y), .float .f64 0, .string ⟨#[]⟩, .slice none 0 0] 41 (0, 0)) from HV6.out)
    clear hrv
    go_wp2_with fail
    go_region
    have hZ := (H6.out.1.done a2 n2 c2 false (.int .i64 1) (.int .i64 (unfoldL y)) (.float .f64 0) (.string ⟨#[]⟩) (.slice none 0 0)).drew
    unfold sets7 at hZ
    clear q0 q1 q2 q3 s0 s1 s2 s3 s4 u0 u1 u2 u3 u4 y0 y1 y2 y3 k0 k1 k2 k3 k4
    generalize World.drew _ = wz at *
    obtain ⟨⟨r0, r1⟩, r2, r3, r4, r5, r6⟩ := hZ.cells
    have HZ := Lib.hid hZ
    clear hZ
    go_wp2
    refine bodyPost_ret (v := .tuple #[.agg #[.slice a2 n2 c2, .bool false], .agg #[.int .i64 1, .int .i64 (unfoldL y), .float .f64 0, .string ⟨#[]⟩, .slice none 0 0], .bool true]) (by simp [results, Tryz.results82, go_sem, *]) rfl ?_
    have hbz := HB6.out.trans HZ.out.below
    obtain ⟨e1, e2, e3⟩ := fold_unfold y Hy.out
    refine ⟨a2, n2, c2, false, l2, bytesB HB4.out Hf4.out HK.out hbz, Hf4.out, H4.out.below.trans hbz, .inl ⟨.mk 1 (unfoldL y) 0 [] [], none, 0, rfl, rfl, vin_atom wz 1 (unfoldL y) 0 [] (by omega) ⟨e2, e3⟩ (by omega) (by simp) (by simp), ?_⟩⟩
    exact ⟨rightN_plain ⟨.inl rfl, .inr (show bitsB 0 = 0 by decide), .inr rfl, .inr rfl⟩ (show (1 : Int) ≠ 4 by omega) (show (0 : Int) ≤ 1 ∧ (1 : Int) ≤ 4 by omega), bound_atom ⟨e2, e3⟩ (by omega) (by simp), by rw [formV_is, hl]; simp [pieceV, contF, formsV, V.kind, V.l, V.n, e1]⟩
  | false =>
    have hno := HN.out rfl
    obtain ⟨y0, y1, y2, y3⟩ := block_cells H6.out.1.rd
    obtain ⟨q0, q1, q2, q3⟩ := block_cells H6.out.1.rr
    have hrv : w5.heap[w.heap.size + 1 + 1]? = some (.cells #[.int .i64 0, .int .i64 0, .float .f64 0, .string ⟨#[]⟩, .slice none 0 0] 41 (0, 0)) := H6.out.1.rv
    obtain ⟨⟨s0, s1, s2, s3, s4⟩, ⟨u0, u1, u2, u3, u4⟩⟩ := res_cells hrv
    clear hrv
    go_wp2
    have hZ := H6.out.1.done a2 n2 c2 true (.int .i64 0) (.int .i64 0) (.float .f64 0) (.string ⟨#[]⟩) (.slice none 0 0)
    unfold sets7 at hZ
    clear q0 q1 q2 q3 s0 s1 s2 s3 s4 u0 u1 u2 u3 u4 y0 y1 y2 y3
    generalize World.setCell (World.setCell (World.setCell (World.setCell (World.setCell (World.setCell (World.setCell w5 _ _) _ _) _ _) _ _) _ _) _ _) _ _ = wz at *
    obtain ⟨⟨r0, r1⟩, r2, r3, r4, r5, r6⟩ := hZ.cells
    have HZ := Lib.hid hZ
    clear hZ
    refine bodyPost_ret (v := .tuple #[.agg #[.slice a2 n2 c2, .bool true], .agg #[.int .i64 0, .int .i64 0, .float .f64 0, .string ⟨#[]⟩, .slice none 0 0], .bool false]) (by simp [results, Tryz.results82, go_sem, *]) rfl ?_
    have hbz := HB6.out.trans HZ.out.below
    exact ⟨a2, n2, c2, true, l2, bytesB HB4.out Hf4.out HK.out hbz, Hf4.out, H4.out.below.trans hbz, .inr ⟨hno, rfl⟩⟩

end
end Go.Proofs.YtcapbaocchaenaaGreat

/- The walk of the reference's read of a text. -/
namespace Go.Proofs.YtcapbaocchaenaaGreat
open Go.RowKit Go.Shelf Fl

section
variable (K : Nat → Prop) (a : Option Addr) (n c : Nat) (T : Int) (w : World)

set_option maxRecDepth 100000 in
set_option maxHeartbeats 3200000 in
theorem rr_text (t : Nat) (s l1 l2 : List Nat) (ok : Bool) (hn : readB l1 true = (s, l2, ok)) (hs8 : ∀ x ∈ s, x < 256) (hsl : s.length ≤ 100000000000) (hyes : ok = true → l1 = formB s ++ l2) (hnot : ok = false → NoV t (form 3 ++ l1)) (hB : Bytes w a n c (form 3 ++ l1)) (hf : FormedK K a c) (hK : ∀ b, K b → b < w.heap.size) :
    Calls Tryz.prog 82 #[.agg #[.slice a n c, .bool false], .int .i64 T] w (RrAny K w t (form 3 ++ l1)) := by
  have h0 := rh_start w a n c false
  have hw0 : (((w.alloc (.cells #[.slice a n c, .bool false] 55)).alloc (.cells #[.slice none 0 0, .bool false] 55)).alloc (.cells #[.int .i64 0, .int .i64 0, .float .f64 0, .string ⟨#[]⟩, .slice none 0 0] 41)).heap.size = w.heap.size + 3 := by simp
  have HU := Lib.hid (readUintK_any K a n c false (form 3 ++ l1) _ (hB.grow h0.below) hf)
  have hn' : readN (form 3 ++ l1) (!false) = (3, l1, true) := readN_form (by omega) l1
  rw [hn'] at HU
  have H0 := Lib.hid h0
  have HK := Lib.hid hK
  clear h0 hn' hB hf hK
  have hfl : ∀ (w : World) (a : Addr) (m : Mode) (b : Nat), (store a (.float .f64 b) m).run Tryz.prog w = stored Tryz.prog w a (.float .f64 b) m := fun w a m b => run_store Tryz.prog w a _ m rfl
  go_enter Tryz.func82, Tryz.ntmps82
  go_wp2_with fail
  generalize (((w.alloc (.cells #[.slice a n c, .bool false] 55)).alloc (.cells #[.slice none 0 0, .bool false] 55)).alloc (.cells #[.int .i64 0, .int .i64 0, .float .f64 0, .string ⟨#[]⟩, .slice none 0 0] 41)) = w0 at *
  refine HU.out.mono ?_
  rintro e w1 ⟨a1, n1, c1, rfl, hB1, hf1, hb1⟩
  have h1 := H0.out.below' hb1
  obtain ⟨p0, p1, p2, p3⟩ := block_cells h1.rd
  have HB1 := Lib.hid hB1
  have Hf1 := Lib.hid hf1
  have H1 := Lib.hid h1
  have hsz1 : w.heap.size + 3 ≤ w1.heap.size := by have := hb1.size; omega
  clear h1 hB1 hf1 hb1
  have hal := (Below.refl ((w1.setCell ⟨w.heap.size, 0, none⟩ (.slice a1 n1 c1)).setCell ⟨w.heap.size, 1, none⟩ (.bool false)).heap.size _).alloc (Nat.le_refl _) (.cells #[.int .i64 0, .int .i64 0, .float .f64 0, .string ⟨#[]⟩, .slice none 0 0] 41)
  have H2 := Lib.hid ((H1.out.setR a1 n1 c1 false).1.below' hal)
  have HV8 := Lib.hid (heap_alloc_new ((w1.setCell ⟨w.heap.size, 0, none⟩ (.slice a1 n1 c1)).setCell ⟨w.heap.size, 1, none⟩ (.bool false)) (.cells #[.int .i64 0, .int .i64 0, .float .f64 0, .string ⟨#[]⟩, .slice none 0 0] 41))
  have Hb12 := Lib.hid (((H1.out.setR a1 n1 c1 false).2).trans (hal.mono (by simp; omega)))
  clear hal
  go_upto_region 3 with fail
  have hsz2 : ((w1.setCell ⟨w.heap.size, 0, none⟩ (.slice a1 n1 c1)).setCell ⟨w.heap.size, 1, none⟩ (.bool false)).heap.size = w1.heap.size := by simp
  rw [hsz2] at HV8
  generalize ((w1.setCell ⟨w.heap.size, 0, none⟩ (.slice a1 n1 c1)).setCell ⟨w.heap.size, 1, none⟩ (.bool false)).alloc (.cells #[.int .i64 0, .int .i64 0, .float .f64 0, .string ⟨#[]⟩, .slice none 0 0] 41) = w2 at *
  obtain ⟨y0, y1, y2, y3⟩ := block_cells H2.out.rd
  clear p0 p1 p2 p3 hsz2
  obtain ⟨⟨v0, v1, v2, v3, v4⟩, ⟨f0, f1, f2, f3, f4⟩⟩ := res_cells HV8.out
  go_upto_region 7 with fail
  have H3 := Lib.hid (H2.out.setO (g := w1.heap.size) (i := 0) (by omega) (.int .i64 3))
  have HV9 := Lib.hid (show (w2.setCell ⟨w1.heap.size, 0, none⟩ (.int .i64 3)).heap[w1.heap.size]? = some (.cells #[.int .i64 3, .int .i64 0, .float .f64 0, .string ⟨#[]⟩, .slice none 0 0] 41 (0, 0)) from set_headE HV8.out (i := 0) (.int .i64 3))
  clear v0 v1 v2 v3 v4 f0 f1 f2 f3 f4 y0 y1 y2 y3
  generalize w2.setCell ⟨w1.heap.size, 0, none⟩ (.int .i64 3) = w3 at *
  obtain ⟨y0, y1, y2, y3⟩ := block_cells H3.out.1.rd
  have Hb13 := Lib.hid (Hb12.out.trans H3.out.2)
  have HB3 := Lib.hid (bytesB HB1.out Hf1.out HK.out Hb13.out)
  have HI := Lib.hid (readBytesK_any K a1 n1 c1 false l1 w3 HB3.out Hf1.out)
  have hn'' : readB l1 (!false) = (s, l2, ok) := hn
  rw [hn''] at HI
  have HY := Lib.hid hyes
  have HN := Lib.hid hnot
  have HS8 := Lib.hid hs8
  have HSl := Lib.hid hsl
  have hsz3 : w.heap.size + 2 < w1.heap.size := by omega
  have HG := Lib.hid (show w1.heap.size < w3.heap.size from (Array.getElem?_eq_some_iff.1 HV9.out).1)
  clear hn hn'' hyes hnot hs8 hsl
  go_wp2_with fail
  refine HI.out.mono ?_
  rintro e w4 ⟨a2, n2, c2, p4, m4, cp4, rfl, hB4, hf4, hP4, hb4⟩
  have h4 := H3.out.1.below' hb4
  have hv4 := blk HV9.out hb4
  have H4 := Lib.hid h4
  have HB4 := Lib.hid hB4
  have Hf4 := Lib.hid hf4
  have HV4 := Lib.hid hv4
  have HP4 := Lib.hid hP4
  clear hP4
  clear h4 hB4 hf4 hv4 hb4
  go_upto_region 21 with fail
  have hal4 := (Below.refl w4.heap.size w4).alloc (Nat.le_refl _) (.cells #[.slice a2 n2 c2, .bool (!ok)] 55)
  have HX5 := Lib.hid (heap_alloc_new w4 (.cells #[.slice a2 n2 c2, .bool (!ok)] 55))
  have H5 := Lib.hid (H4.out.below' hal4)
  have HV5 := Lib.hid (blk HV4.out hal4)
  have HB5 := Lib.hid (bytesB HB4.out Hf4.out HK.out (hal4.mono H4.out.below.size))
  have Hb45 := Lib.hid (show Below w.heap.size w4 _ from hal4.mono H4.out.below.size)
  have HP5 := Lib.hid (HP4.out.grow hal4)
  clear hal4
  generalize w4.alloc (.cells #[.slice a2 n2 c2, .bool (!ok)] 55) = w5 at *
  obtain ⟨x0, x1, _, _⟩ := block_cells HX5.out
  obtain ⟨y0, y1, y2, y3⟩ := block_cells H5.out.rd
  go_upto_region 22 with fail
  have H6 := Lib.hid (H5.out.setR a2 n2 c2 (!ok))
  have HV6 := Lib.hid (show ((w5.setCell ⟨w.heap.size, 0, none⟩ (.slice a2 n2 c2)).setCell ⟨w.heap.size, 1, none⟩ (.bool (!ok))).heap[w1.heap.size]? = some (.cells #[.int .i64 3, .int .i64 0, .float .f64 0, .string ⟨#[]⟩, .slice none 0 0] 41 (0, 0)) from by rw [← HV5.out]; simp [World.setCell, Array.getElem?_modify, show w.heap.size ≠ w1.heap.size by omega])
  have HB6 := Lib.hid (Hb45.out.trans H6.out.2)
  have HP6 := Lib.hid ((HP5.out.setFar (fun hn _ hx => rd_other H5.out.rd HP5.out hn hx) (i := 0) (.slice a2 n2 c2)).setFar (fun hn _ hx => rd_other H5.out.rd HP5.out hn hx) (i := 1) (.bool (!ok)))
  clear y0 y1 y2 y3 x0 x1
  generalize (w5.setCell ⟨w.heap.size, 0, none⟩ (.slice a2 n2 c2)).setCell ⟨w.heap.size, 1, none⟩ (.bool (!ok)) = w6 at *
  have hcv := convert_bytes (P := Tryz.prog) HP6.out 22 5 9 Tryz.underlying22 Tryz.underlying5 Tryz.underlying9
  obtain ⟨⟨v0, v1, v2, v3, v4⟩, ⟨f0, f1, f2, f3, f4⟩⟩ := box5f HV6.out
  go_upto_region 36 with fail
  have H7 := Lib.hid (H6.out.1.setO (g := w1.heap.size) (i := 3) hsz3 (.string (str s)))
  have HV7 := Lib.hid (set_headE HV6.out (i := 3) (.string (str s)))
  have HB7 := Lib.hid (HB6.out.trans H7.out.2)
  clear v0 v1 v2 v3 v4 f0 f1 f2 f3 f4 hcv
  generalize w6.setCell ⟨w1.heap.size, 3, none⟩ (.string (str s)) = w7 at *
  cases ok with
  | true =>
    have hl := HY.out rfl
    obtain ⟨y0, y1, y2, y3⟩ := block_cells H7.out.1.rd
    obtain ⟨q0, q1, q2, q3⟩ := block_cells H7.out.1.rr
    have hrv : w7.heap[w.heap.size + 1 + 1]? = some (.cells #[.int .i64 0, .int .i64 0, .float .f64 0, .string ⟨#[]⟩, .slice none 0 0] 41 (0, 0)) := H7.out.1.rv
    obtain ⟨⟨s0, s1, s2, s3, s4⟩, ⟨u0, u1, u2, u3, u4⟩⟩ := res_cells hrv
    obtain ⟨k0, k1, k2, k3, k4⟩ := box5 (show w7.heap[w1.heap.size]? = some (.cells #[.int .i64 3, .int .i64 0, .float .f64 0, .string (str s), .slice none 0 0] 41 (0, 0)) from HV7.out)
    clear hrv
    go_wp2_with fail
    go_region
    have hZ := (H7.out.1.done a2 n2 c2 false (.int .i64 3) (.int .i64 0) (.float .f64 0) (.string (str s)) (.slice none 0 0)).drew
    unfold sets7 at hZ
    clear q0 q1 q2 q3 s0 s1 s2 s3 s4 u0 u1 u2 u3 u4 y0 y1 y2 y3 k0 k1 k2 k3 k4
    generalize World.drew _ = wz at *
    obtain ⟨⟨r0, r1⟩, r2, r3, r4, r5, r6⟩ := hZ.cells
    have HZ := Lib.hid hZ
    clear hZ
    go_wp2
    refine bodyPost_ret (v := .tuple #[.agg #[.slice a2 n2 c2, .bool false], .agg #[.int .i64 3, .int .i64 0, .float .f64 0, .string (str s), .slice none 0 0], .bool true]) (by simp [results, Tryz.results82, go_sem, *]) rfl ?_
    have hbz := HB7.out.trans HZ.out.below
    refine ⟨a2, n2, c2, false, l2, bytesB HB4.out Hf4.out HK.out hbz, Hf4.out, H4.out.below.trans hbz, .inl ⟨.mk 3 0 0 s [], none, 0, rfl, rfl, vin_atom wz 3 0 0 s (by omega) (by omega) (by omega) HS8.out (by have := HSl.out; omega), ?_⟩⟩
    exact ⟨rightN_plain ⟨.inr rfl, .inr (show bitsB 0 = 0 by decide), .inl rfl, .inr rfl⟩ (show (3 : Int) ≠ 4 by omega) (show (0 : Int) ≤ 3 ∧ (3 : Int) ≤ 4 by omega), bound_atom (by omega) (by omega) (by have := HSl.out; omega), by rw [formV_is, hl]; simp [pieceV, contF, formsV, V.kind, V.l, V.s]⟩
  | false =>
    have hno := HN.out rfl
    obtain ⟨y0, y1, y2, y3⟩ := block_cells H7.out.1.rd
    obtain ⟨q0, q1, q2, q3⟩ := block_cells H7.out.1.rr
    have hrv : w7.heap[w.heap.size + 1 + 1]? = some (.cells #[.int .i64 0, .int .i64 0, .float .f64 0, .string ⟨#[]⟩, .slice none 0 0] 41 (0, 0)) := H7.out.1.rv
    obtain ⟨⟨s0, s1, s2, s3, s4⟩, ⟨u0, u1, u2, u3, u4⟩⟩ := res_cells hrv
    clear hrv
    go_wp2
    have hZ := H7.out.1.done a2 n2 c2 true (.int .i64 0) (.int .i64 0) (.float .f64 0) (.string ⟨#[]⟩) (.slice none 0 0)
    unfold sets7 at hZ
    clear q0 q1 q2 q3 s0 s1 s2 s3 s4 u0 u1 u2 u3 u4 y0 y1 y2 y3
    generalize World.setCell (World.setCell (World.setCell (World.setCell (World.setCell (World.setCell (World.setCell w7 _ _) _ _) _ _) _ _) _ _) _ _) _ _ = wz at *
    obtain ⟨⟨r0, r1⟩, r2, r3, r4, r5, r6⟩ := hZ.cells
    have HZ := Lib.hid hZ
    clear hZ
    refine bodyPost_ret (v := .tuple #[.agg #[.slice a2 n2 c2, .bool true], .agg #[.int .i64 0, .int .i64 0, .float .f64 0, .string ⟨#[]⟩, .slice none 0 0], .bool false]) (by simp [results, Tryz.results82, go_sem, *]) rfl ?_
    have hbz := HB7.out.trans HZ.out.below
    exact ⟨a2, n2, c2, true, l2, bytesB HB4.out Hf4.out HK.out hbz, Hf4.out, H4.out.below.trans hbz, .inr ⟨hno, rfl⟩⟩

end
end Go.Proofs.YtcapbaocchaenaaGreat

/- The walk of the reference's read of a float. -/
namespace Go.Proofs.YtcapbaocchaenaaGreat
open Go.RowKit Go.Shelf Fl

section
variable (K : Nat → Prop) (a : Option Addr) (n c : Nat) (T : Int) (w : World)

set_option maxRecDepth 100000 in
set_option maxHeartbeats 3200000 in
theorem rr_short (t : Nat) (l1 : List Nat) (hn : takeN l1 true 8 = ([], l1, false)) (hnot : NoV t (form 2 ++ l1)) (hB : Bytes w a n c (form 2 ++ l1)) (hf : FormedK K a c) (hK : ∀ b, K b → b < w.heap.size) :
    Calls Tryz.prog 82 #[.agg #[.slice a n c, .bool false], .int .i64 T] w (RrAny K w t (form 2 ++ l1)) := by
  have h0 := rh_start w a n c false
  have hw0 : (((w.alloc (.cells #[.slice a n c, .bool false] 55)).alloc (.cells #[.slice none 0 0, .bool false] 55)).alloc (.cells #[.int .i64 0, .int .i64 0, .float .f64 0, .string ⟨#[]⟩, .slice none 0 0] 41)).heap.size = w.heap.size + 3 := by simp
  have HU := Lib.hid (readUintK_any K a n c false (form 2 ++ l1) _ (hB.grow h0.below) hf)
  have hn' : readN (form 2 ++ l1) (!false) = (2, l1, true) := readN_form (by omega) l1
  rw [hn'] at HU
  have H0 := Lib.hid h0
  have HK := Lib.hid hK
  clear h0 hn' hB hf hK
  have hfl : ∀ (w : World) (a : Addr) (m : Mode) (b : Nat), (store a (.float .f64 b) m).run Tryz.prog w = stored Tryz.prog w a (.float .f64 b) m := fun w a m b => run_store Tryz.prog w a _ m rfl
  go_enter Tryz.func82, Tryz.ntmps82
  go_wp2_with fail
  generalize (((w.alloc (.cells #[.slice a n c, .bool false] 55)).alloc (.cells #[.slice none 0 0, .bool false] 55)).alloc (.cells #[.int .i64 0, .int .i64 0, .float .f64 0, .string ⟨#[]⟩, .slice none 0 0] 41)) = w0 at *
  refine HU.out.mono ?_
  rintro e w1 ⟨a1, n1, c1, rfl, hB1, hf1, hb1⟩
  have h1 := H0.out.below' hb1
  obtain ⟨p0, p1, p2, p3⟩ := block_cells h1.rd
  have HB1 := Lib.hid hB1
  have Hf1 := Lib.hid hf1
  have H1 := Lib.hid h1
  have hsz1 : w.heap.size + 3 ≤ w1.heap.size := by have := hb1.size; omega
  clear h1 hB1 hf1 hb1
  have hal := (Below.refl ((w1.setCell ⟨w.heap.size, 0, none⟩ (.slice a1 n1 c1)).setCell ⟨w.heap.size, 1, none⟩ (.bool false)).heap.size _).alloc (Nat.le_refl _) (.cells #[.int .i64 0, .int .i64 0, .float .f64 0, .string ⟨#[]⟩, .slice none 0 0] 41)
  have H2 := Lib.hid ((H1.out.setR a1 n1 c1 false).1.below' hal)
  have HV8 := Lib.hid (heap_alloc_new ((w1.setCell ⟨w.heap.size, 0, none⟩ (.slice a1 n1 c1)).setCell ⟨w.heap.size, 1, none⟩ (.bool false)) (.cells #[.int .i64 0, .int .i64 0, .float .f64 0, .string ⟨#[]⟩, .slice none 0 0] 41))
  have Hb12 := Lib.hid (((H1.out.setR a1 n1 c1 false).2).trans (hal.mono (by simp; omega)))
  clear hal
  go_upto_region 3 with fail
  have hsz2 : ((w1.setCell ⟨w.heap.size, 0, none⟩ (.slice a1 n1 c1)).setCell ⟨w.heap.size, 1, none⟩ (.bool false)).heap.size = w1.heap.size := by simp
  rw [hsz2] at HV8
  generalize ((w1.setCell ⟨w.heap.size, 0, none⟩ (.slice a1 n1 c1)).setCell ⟨w.heap.size, 1, none⟩ (.bool false)).alloc (.cells #[.int .i64 0, .int .i64 0, .float .f64 0, .string ⟨#[]⟩, .slice none 0 0] 41) = w2 at *
  obtain ⟨y0, y1, y2, y3⟩ := block_cells H2.out.rd
  clear p0 p1 p2 p3 hsz2
  obtain ⟨⟨v0, v1, v2, v3, v4⟩, ⟨f0, f1, f2, f3, f4⟩⟩ := res_cells HV8.out
  go_upto_region 7 with fail
  have H3 := Lib.hid (H2.out.setO (g := w1.heap.size) (i := 0) (by omega) (.int .i64 2))
  have HV9 := Lib.hid (show (w2.setCell ⟨w1.heap.size, 0, none⟩ (.int .i64 2)).heap[w1.heap.size]? = some (.cells #[.int .i64 2, .int .i64 0, .float .f64 0, .string ⟨#[]⟩, .slice none 0 0] 41 (0, 0)) from set_headE HV8.out (i := 0) (.int .i64 2))
  clear v0 v1 v2 v3 v4 f0 f1 f2 f3 f4 y0 y1 y2 y3
  generalize w2.setCell ⟨w1.heap.size, 0, none⟩ (.int .i64 2) = w3 at *
  obtain ⟨y0, y1, y2, y3⟩ := block_cells H3.out.1.rd
  have Hb13 := Lib.hid (Hb12.out.trans H3.out.2)
  have HB3 := Lib.hid (bytesB HB1.out Hf1.out HK.out Hb13.out)
  have HI := Lib.hid (rtakeK_any K a1 n1 c1 false l1 8 w3 HB3.out Hf1.out (by omega) (by omega))
  obtain ⟨ok, hn'', hok⟩ : ∃ ok : Bool, takeN l1 (!false) 8 = ([], l1, ok) ∧ ok = false := ⟨false, hn, rfl⟩
  rw [hn''] at HI
  have HN := Lib.hid hnot
  have hsz3 : w.heap.size + 2 < w1.heap.size := by omega
  have HG := Lib.hid (show w1.heap.size < w3.heap.size from (Array.getElem?_eq_some_iff.1 HV9.out).1)
  have Hok := Lib.hid hok
  clear hn'' hn hnot hok
  go_wp2_with fail
  refine HI.out.mono ?_
  rintro e w4 ⟨a2, n2, c2, p4, m4, cp4, rfl, hB4, hf4, hP4, hb4⟩
  have h4 := H3.out.1.below' hb4
  have hv4 := blk HV9.out hb4
  have H4 := Lib.hid h4
  have HB4 := Lib.hid hB4
  have Hf4 := Lib.hid hf4
  have HV4 := Lib.hid hv4
  have HP4 := Lib.hid hP4
  clear hP4
  clear h4 hB4 hf4 hv4 hb4
  go_upto_region 12 with fail
  have hal4 := (Below.refl w4.heap.size w4).alloc (Nat.le_refl _) (.cells #[.slice a2 n2 c2, .bool (!ok)] 55)
  have HX5 := Lib.hid (heap_alloc_new w4 (.cells #[.slice a2 n2 c2, .bool (!ok)] 55))
  have H5 := Lib.hid (H4.out.below' hal4)
  have HV5 := Lib.hid (blk HV4.out hal4)
  have HB5 := Lib.hid (bytesB HB4.out Hf4.out HK.out (hal4.mono H4.out.below.size))
  have Hb45 := Lib.hid (show Below w.heap.size w4 _ from hal4.mono H4.out.below.size)
  have HP5 := Lib.hid (HP4.out.grow hal4)
  clear hal4
  generalize w4.alloc (.cells #[.slice a2 n2 c2, .bool (!ok)] 55) = w5 at *
  obtain ⟨x0, x1, _, _⟩ := block_cells HX5.out
  obtain ⟨y0, y1, y2, y3⟩ := block_cells H5.out.rd
  go_upto_region 13 with fail
  have H6 := Lib.hid (H5.out.setR a2 n2 c2 (!ok))
  have HV6 := Lib.hid (show ((w5.setCell ⟨w.heap.size, 0, none⟩ (.slice a2 n2 c2)).setCell ⟨w.heap.size, 1, none⟩ (.bool (!ok))).heap[w1.heap.size]? = some (.cells #[.int .i64 2, .int .i64 0, .float .f64 0, .string ⟨#[]⟩, .slice none 0 0] 41 (0, 0)) from by rw [← HV5.out]; simp [World.setCell, Array.getElem?_modify, show w.heap.size ≠ w1.heap.size by omega])
  have HB6 := Lib.hid (Hb45.out.trans H6.out.2)
  have HP6 := Lib.hid ((HP5.out.setFar (fun hn _ hx => rd_other H5.out.rd HP5.out hn hx) (i := 0) (.slice a2 n2 c2)).setFar (fun hn _ hx => rd_other H5.out.rd HP5.out hn hx) (i := 1) (.bool (!ok)))
  clear y0 y1 y2 y3 x0 x1
  generalize (w5.setCell ⟨w.heap.size, 0, none⟩ (.slice a2 n2 c2)).setCell ⟨w.heap.size, 1, none⟩ (.bool (!ok)) = w6 at *
  have hm : m4 = 0 := by rw [← HP6.out.len]; rfl
  subst hm
  have HO := Lib.hid (fun w => rof_any 0 w (by omega))
  rw [show ofB 0 = some 0 from bitsB_ofB (by decide)] at HO
  obtain ⟨⟨v0, v1, v2, v3, v4⟩, ⟨f0, f1, f2, f3, f4⟩⟩ := box5f HV6.out
  go_wp2
  go_loop [12, 13] (fun b i => i = .int .i64 0 ∧ b = .int .u64 0) (fun _ _ => 0)
  case atStart => exact ⟨rfl, rfl⟩
  case round =>
  obtain ⟨rfl, rfl⟩ := hrel
  go_wp2_with fail
  refine (HO.out _).mono ?_
  rintro e w8 ⟨rfl, rfl⟩
  go_upto_region 36 with fail
  have H7 := Lib.hid (H6.out.1.setO (g := w1.heap.size) (i := 2) hsz3 (.float .f64 0))
  have HB7 := Lib.hid (HB6.out.trans H7.out.2)
  clear v0 v1 v2 v3 v4 f0 f1 f2 f3 f4
  generalize w6.setCell ⟨w1.heap.size, 2, none⟩ (.float .f64 0) = w7 at *
  have hokf := Hok.out
  subst hokf
  obtain ⟨y0, y1, y2, y3⟩ := block_cells H7.out.1.rd
  obtain ⟨q0, q1, q2, q3⟩ := block_cells H7.out.1.rr
  have hrv : w7.heap[w.heap.size + 1 + 1]? = some (.cells #[.int .i64 0, .int .i64 0, .float .f64 0, .string ⟨#[]⟩, .slice none 0 0] 41 (0, 0)) := H7.out.1.rv
  obtain ⟨⟨s0, s1, s2, s3, s4⟩, ⟨u0, u1, u2, u3, u4⟩⟩ := res_cells hrv
  clear hrv
  go_wp2
  have hZ := H7.out.1.done a2 n2 c2 true (.int .i64 0) (.int .i64 0) (.float .f64 0) (.string ⟨#[]⟩) (.slice none 0 0)
  unfold sets7 at hZ
  clear q0 q1 q2 q3 s0 s1 s2 s3 s4 u0 u1 u2 u3 u4 y0 y1 y2 y3
  generalize World.setCell (World.setCell (World.setCell (World.setCell (World.setCell (World.setCell (World.setCell w7 _ _) _ _) _ _) _ _) _ _) _ _) _ _ = wz at *
  obtain ⟨⟨r0, r1⟩, r2, r3, r4, r5, r6⟩ := hZ.cells
  have HZ := Lib.hid hZ
  clear hZ
  refine bodyPost_ret (v := .tuple #[.agg #[.slice a2 n2 c2, .bool true], .agg #[.int .i64 0, .int .i64 0, .float .f64 0, .string ⟨#[]⟩, .slice none 0 0], .bool false]) (by simp [results, Tryz.results82, go_sem, *]) rfl ?_
  have hbz := HB7.out.trans HZ.out.below
  exact ⟨a2, n2, c2, true, l1, bytesB HB4.out Hf4.out HK.out hbz, Hf4.out, H4.out.below.trans hbz, .inr ⟨HN.out, rfl⟩⟩

set_option maxRecDepth 100000 in
set_option maxHeartbeats 3200000 in
theorem rr_eight (t x : Nat) (l2 : List Nat) (hx : x < 18446744073709551616) (hB : Bytes w a n c (form 2 ++ (be8 x ++ l2))) (hf : FormedK K a c) (hK : ∀ b, K b → b < w.heap.size) :
    Calls Tryz.prog 82 #[.agg #[.slice a n c, .bool false], .int .i64 T] w (RrAny K w t (form 2 ++ (be8 x ++ l2))) := by
  have h0 := rh_start w a n c false
  have hw0 : (((w.alloc (.cells #[.slice a n c, .bool false] 55)).alloc (.cells #[.slice none 0 0, .bool false] 55)).alloc (.cells #[.int .i64 0, .int .i64 0, .float .f64 0, .string ⟨#[]⟩, .slice none 0 0] 41)).heap.size = w.heap.size + 3 := by simp
  have HU := Lib.hid (readUintK_any K a n c false (form 2 ++ (be8 x ++ l2)) _ (hB.grow h0.below) hf)
  have hn' : readN (form 2 ++ (be8 x ++ l2)) (!false) = (2, (be8 x ++ l2), true) := readN_form (by omega) (be8 x ++ l2)
  rw [hn'] at HU
  have H0 := Lib.hid h0
  have HK := Lib.hid hK
  clear h0 hn' hB hf hK
  have hfl : ∀ (w : World) (a : Addr) (m : Mode) (b : Nat), (store a (.float .f64 b) m).run Tryz.prog w = stored Tryz.prog w a (.float .f64 b) m := fun w a m b => run_store Tryz.prog w a _ m rfl
  go_enter Tryz.func82, Tryz.ntmps82
  go_wp2_with fail
  generalize (((w.alloc (.cells #[.slice a n c, .bool false] 55)).alloc (.cells #[.slice none 0 0, .bool false] 55)).alloc (.cells #[.int .i64 0, .int .i64 0, .float .f64 0, .string ⟨#[]⟩, .slice none 0 0] 41)) = w0 at *
  refine HU.out.mono ?_
  rintro e w1 ⟨a1, n1, c1, rfl, hB1, hf1, hb1⟩
  have h1 := H0.out.below' hb1
  obtain ⟨p0, p1, p2, p3⟩ := block_cells h1.rd
  have HB1 := Lib.hid hB1
  have Hf1 := Lib.hid hf1
  have H1 := Lib.hid h1
  have hsz1 : w.heap.size + 3 ≤ w1.heap.size := by have := hb1.size; omega
  clear h1 hB1 hf1 hb1
  have hal := (Below.refl ((w1.setCell ⟨w.heap.size, 0, none⟩ (.slice a1 n1 c1)).setCell ⟨w.heap.size, 1, none⟩ (.bool false)).heap.size _).alloc (Nat.le_refl _) (.cells #[.int .i64 0, .int .i64 0, .float .f64 0, .string ⟨#[]⟩, .slice none 0 0] 41)
  have H2 := Lib.hid ((H1.out.setR a1 n1 c1 false).1.below' hal)
  have HV8 := Lib.hid (heap_alloc_new ((w1.setCell ⟨w.heap.size, 0, none⟩ (.slice a1 n1 c1)).setCell ⟨w.heap.size, 1, none⟩ (.bool false)) (.cells #[.int .i64 0, .int .i64 0, .float .f64 0, .string ⟨#[]⟩, .slice none 0 0] 41))
  have Hb12 := Lib.hid (((H1.out.setR a1 n1 c1 false).2).trans (hal.mono (by simp; omega)))
  clear hal
  go_upto_region 3 with fail
  have hsz2 : ((w1.setCell ⟨w.heap.size, 0, none⟩ (.slice a1 n1 c1)).setCell ⟨w.heap.size, 1, none⟩ (.bool false)).heap.size = w1.heap.size := by simp
  rw [hsz2] at HV8
  generalize ((w1.setCell ⟨w.heap.size, 0, none⟩ (.slice a1 n1 c1)).setCell ⟨w.heap.size, 1, none⟩ (.bool false)).alloc (.cells #[.int .i64 0, .int .i64 0, .float .f64 0, .string ⟨#[]⟩, .slice none 0 0] 41) = w2 at *
  obtain ⟨y0, y1, y2, y3⟩ := block_cells H2.out.rd
  clear p0 p1 p2 p3 hsz2
  obtain ⟨⟨v0, v1, v2, v3, v4⟩, ⟨f0, f1, f2, f3, f4⟩⟩ := res_cells HV8.out
  go_upto_region 7 with fail
  have H3 := Lib.hid (H2.out.setO (g := w1.heap.size) (i := 0) (by omega) (.int .i64 2))
  have HV9 := Lib.hid (show (w2.setCell ⟨w1.heap.size, 0, none⟩ (.int .i64 2)).heap[w1.heap.size]? = some (.cells #[.int .i64 2, .int .i64 0, .float .f64 0, .string ⟨#[]⟩, .slice none 0 0] 41 (0, 0)) from set_headE HV8.out (i := 0) (.int .i64 2))
  clear v0 v1 v2 v3 v4 f0 f1 f2 f3 f4 y0 y1 y2 y3
  generalize w2.setCell ⟨w1.heap.size, 0, none⟩ (.int .i64 2) = w3 at *
  obtain ⟨y0, y1, y2, y3⟩ := block_cells H3.out.1.rd
  have Hb13 := Lib.hid (Hb12.out.trans H3.out.2)
  have HB3 := Lib.hid (bytesB HB1.out Hf1.out HK.out Hb13.out)
  have HI := Lib.hid (rtakeK_any K a1 n1 c1 false (be8 x ++ l2) 8 w3 HB3.out Hf1.out (by omega) (by omega))
  have hn'' : takeN (be8 x ++ l2) (!false) 8 = (be8 x, l2, true) := takeN_eight (be8_len x) l2
  rw [hn''] at HI
  have hsz3 : w.heap.size + 2 < w1.heap.size := by omega
  have HG := Lib.hid (show w1.heap.size < w3.heap.size from (Array.getElem?_eq_some_iff.1 HV9.out).1)
  obtain ⟨ok, hok⟩ : ∃ ok : Bool, ok = true := ⟨_, rfl⟩
  rw [← hok] at HI
  have Hok := Lib.hid hok
  have Hx := Lib.hid hx
  clear hn'' hok hx
  go_wp2_with fail
  refine HI.out.mono ?_
  rintro e w4 ⟨a2, n2, c2, p4, m4, cp4, rfl, hB4, hf4, hP4, hb4⟩
  have h4 := H3.out.1.below' hb4
  have hv4 := blk HV9.out hb4
  have H4 := Lib.hid h4
  have HB4 := Lib.hid hB4
  have Hf4 := Lib.hid hf4
  have HV4 := Lib.hid hv4
  have HP4 := Lib.hid hP4
  clear hP4
  clear h4 hB4 hf4 hv4 hb4
  go_upto_region 12 with fail
  have hal4 := (Below.refl w4.heap.size w4).alloc (Nat.le_refl _) (.cells #[.slice a2 n2 c2, .bool (!ok)] 55)
  have HX5 := Lib.hid (heap_alloc_new w4 (.cells #[.slice a2 n2 c2, .bool (!ok)] 55))
  have H5 := Lib.hid (H4.out.below' hal4)
  have HV5 := Lib.hid (blk HV4.out hal4)
  have HB5 := Lib.hid (bytesB HB4.out Hf4.out HK.out (hal4.mono H4.out.below.size))
  have Hb45 := Lib.hid (show Below w.heap.size w4 _ from hal4.mono H4.out.below.size)
  have HP5 := Lib.hid (HP4.out.grow hal4)
  clear hal4
  generalize w4.alloc (.cells #[.slice a2 n2 c2, .bool (!ok)] 55) = w5 at *
  obtain ⟨x0, x1, _, _⟩ := block_cells HX5.out
  obtain ⟨y0, y1, y2, y3⟩ := block_cells H5.out.rd
  go_upto_region 13 with fail
  have H6 := Lib.hid (H5.out.setR a2 n2 c2 (!ok))
  have HV6 := Lib.hid (show ((w5.setCell ⟨w.heap.size, 0, none⟩ (.slice a2 n2 c2)).setCell ⟨w.heap.size, 1, none⟩ (.bool (!ok))).heap[w1.heap.size]? = some (.cells #[.int .i64 2, .int .i64 0, .float .f64 0, .string ⟨#[]⟩, .slice none 0 0] 41 (0, 0)) from by rw [← HV5.out]; simp [World.setCell, Array.getElem?_modify, show w.heap.size ≠ w1.heap.size by omega])
  have HB6 := Lib.hid (Hb45.out.trans H6.out.2)
  have HP6 := Lib.hid ((HP5.out.setFar (fun hn _ hx => rd_other H5.out.rd HP5.out hn hx) (i := 0) (.slice a2 n2 c2)).setFar (fun hn _ hx => rd_other H5.out.rd HP5.out hn hx) (i := 1) (.bool (!ok)))
  clear y0 y1 y2 y3 x0 x1
  generalize (w5.setCell ⟨w.heap.size, 0, none⟩ (.slice a2 n2 c2)).setCell ⟨w.heap.size, 1, none⟩ (.bool (!ok)) = w6 at *
  have hm : m4 = 8 := by rw [← HP6.out.len]; exact be8_len x
  subst hm
  have HO := Lib.hid (fun w => rof_any x w Hx.out)
  obtain ⟨⟨v0, v1, v2, v3, v4⟩, ⟨f0, f1, f2, f3, f4⟩⟩ := box5f HV6.out
  go_wp2
  go_loop [12, 13] (fun b i => ∃ j : Nat, j ≤ 8 ∧ i = .int .i64 (j : Int) ∧ b = .int .u64 ((x / 2 ^ (8 * (8 - j)) : Nat) : Int)) (fun _ i => 8 - (intOf i).toNat)
  case atStart =>
    refine ⟨0, by omega, rfl, ?_⟩
    rw [Nat.div_eq_of_lt (by have := Hx.out; omega)]
    rfl
  case round =>
  obtain ⟨j, hj, rfl, rfl⟩ := hrel
  by_cases hlt : j < 8
  · obtain ⟨b, o, rfl, hc⟩ := HP6.out.cell (by omega)
    have hcj := hc j hlt
    rw [be8_getD x j hlt] at hcj
    have Hsn := Lib.hid (shift_next x j hlt)
    have hy := shift_lt x j hlt Hx.out
    have hc8 : x / 2 ^ (8 * (7 - j)) % 256 < 256 := Nat.mod_lt _ (by omega)
    have Hlt := Lib.hid hlt
    clear hc v0 v1 v2 v3 v4 f0 f1 f2 f3 f4
    generalize x / 2 ^ (8 * (7 - j)) % 256 = c at *
    generalize x / 2 ^ (8 * (8 - j)) = y at *
    go_wp2
    go_round
    case rel => exact ⟨j + 1, Hlt.out, by go_num, by rw [← Hsn.out]; go_num⟩
    case measure => simp [intOf]; have := Hlt.out; omega
  obtain rfl : j = 8 := by omega
  have e : x / 2 ^ (8 * (8 - 8)) = x := by simp
  rw [e]
  clear hlt e
  obtain ⟨fv, hfv⟩ : ∃ fv, fv = (ofB x).getD 0 := ⟨_, rfl⟩
  obtain ⟨fo, hfo⟩ : ∃ fo, fo = (ofB x).isSome := ⟨_, rfl⟩
  rw [← hfv, ← hfo] at HO
  have Hfv := Lib.hid (And.intro hfv hfo)
  clear hfv hfo
  go_wp2_with fail
  refine (HO.out _).mono ?_
  rintro e w8 ⟨rfl, rfl⟩
  go_upto_region 36 with fail
  have H7 := Lib.hid (H6.out.1.setO (g := w1.heap.size) (i := 2) hsz3 (.float .f64 fv))
  have HV7 := Lib.hid (set_headE HV6.out (i := 2) (.float .f64 fv))
  have HB7 := Lib.hid (HB6.out.trans H7.out.2)
  clear v0 v1 v2 v3 v4 f0 f1 f2 f3 f4
  generalize w6.setCell ⟨w1.heap.size, 2, none⟩ (.float .f64 fv) = w7 at *
  have hokf := Hok.out
  subst hokf
  cases fo with
  | true =>
    have hbx : bitsB x = x := by
      have h := Hfv.out.2
      rw [ofB_bits] at h
      by_cases hb : bitsB x = x
      · exact hb
      · rw [if_neg hb] at h; cases h
    have hfx : fv = x := by rw [Hfv.out.1, bitsB_ofB hbx]; rfl
    subst hfx
    have Hbx := Lib.hid hbx
    clear hbx
    obtain ⟨y0, y1, y2, y3⟩ := block_cells H7.out.1.rd
    obtain ⟨q0, q1, q2, q3⟩ := block_cells H7.out.1.rr
    have hrv : w7.heap[w.heap.size + 1 + 1]? = some (.cells #[.int .i64 0, .int .i64 0, .float .f64 0, .string ⟨#[]⟩, .slice none 0 0] 41 (0, 0)) := H7.out.1.rv
    obtain ⟨⟨s0, s1, s2, s3, s4⟩, ⟨u0, u1, u2, u3, u4⟩⟩ := res_cells hrv
    obtain ⟨k0, k1, k2, k3, k4⟩ := box5 (show w7.heap[w1.heap.size]? = some (.cells #[.int .i64 2, .int .i64 0, .float .f64 fv, .string ⟨#[]⟩, .slice none 0 0] 41 (0, 0)) from HV7.out)
    clear hrv
    go_wp2_with fail
    go_region
    have hZ := (H7.out.1.done a2 n2 c2 false (.int .i64 2) (.int .i64 0) (.float .f64 fv) (.string ⟨#[]⟩) (.slice none 0 0)).drew
    unfold sets7 at hZ
    clear q0 q1 q2 q3 s0 s1 s2 s3 s4 u0 u1 u2 u3 u4 y0 y1 y2 y3 k0 k1 k2 k3 k4
    generalize World.drew _ = wz at *
    obtain ⟨⟨r0, r1⟩, r2, r3, r4, r5, r6⟩ := hZ.cells
    have HZ := Lib.hid hZ
    clear hZ
    go_wp2
    refine bodyPost_ret (v := .tuple #[.agg #[.slice a2 n2 c2, .bool false], .agg #[.int .i64 2, .int .i64 0, .float .f64 fv, .string ⟨#[]⟩, .slice none 0 0], .bool true]) (by simp [results, Tryz.results82, go_sem, *]) rfl ?_
    have hbz := HB7.out.trans HZ.out.below
    refine ⟨a2, n2, c2, false, l2, bytesB HB4.out Hf4.out HK.out hbz, Hf4.out, H4.out.below.trans hbz, .inl ⟨.mk 2 0 fv [] [], none, 0, rfl, rfl, vin_atom wz 2 0 fv [] (by omega) (by omega) Hx.out (by simp) (by simp), ?_⟩⟩
    exact ⟨rightN_plain ⟨.inr rfl, .inl rfl, .inr rfl, .inr rfl⟩ (show (2 : Int) ≠ 4 by omega) (show (0 : Int) ≤ 2 ∧ (2 : Int) ≤ 4 by omega), bound_atom (by omega) Hx.out (by simp), by rw [formV_is]; simp [pieceV, contF, formsV, V.kind, V.l, V.f, Hbx.out]⟩
  | false =>
    have hno : NoV t (form 2 ++ (be8 x ++ l2)) := noV_nan Hx.out (fun hb => by have h := Hfv.out.2; rw [bitsB_ofB hb] at h; cases h)
    have Hno := Lib.hid hno
    clear hno
    obtain ⟨y0, y1, y2, y3⟩ := block_cells H7.out.1.rd
    obtain ⟨q0, q1, q2, q3⟩ := block_cells H7.out.1.rr
    have hrv : w7.heap[w.heap.size + 1 + 1]? = some (.cells #[.int .i64 0, .int .i64 0, .float .f64 0, .string ⟨#[]⟩, .slice none 0 0] 41 (0, 0)) := H7.out.1.rv
    obtain ⟨⟨s0, s1, s2, s3, s4⟩, ⟨u0, u1, u2, u3, u4⟩⟩ := res_cells hrv
    clear hrv
    go_wp2
    have hZ := H7.out.1.done a2 n2 c2 false (.int .i64 0) (.int .i64 0) (.float .f64 0) (.string ⟨#[]⟩) (.slice none 0 0)
    unfold sets7 at hZ
    clear q0 q1 q2 q3 s0 s1 s2 s3 s4 u0 u1 u2 u3 u4 y0 y1 y2 y3
    generalize World.setCell (World.setCell (World.setCell (World.setCell (World.setCell (World.setCell (World.setCell w7 _ _) _ _) _ _) _ _) _ _) _ _) _ _ = wz at *
    obtain ⟨⟨r0, r1⟩, r2, r3, r4, r5, r6⟩ := hZ.cells
    have HZ := Lib.hid hZ
    clear hZ
    refine bodyPost_ret (v := .tuple #[.agg #[.slice a2 n2 c2, .bool false], .agg #[.int .i64 0, .int .i64 0, .float .f64 0, .string ⟨#[]⟩, .slice none 0 0], .bool false]) (by simp [results, Tryz.results82, go_sem, *]) rfl ?_
    have hbz := HB7.out.trans HZ.out.below
    exact ⟨a2, n2, c2, false, l2, bytesB HB4.out Hf4.out HK.out hbz, Hf4.out, H4.out.below.trans hbz, .inr ⟨Hno.out, rfl⟩⟩

end
end Go.Proofs.YtcapbaocchaenaaGreat

