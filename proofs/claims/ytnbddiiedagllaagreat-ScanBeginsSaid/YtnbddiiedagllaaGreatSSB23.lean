import Derived.Test.YtnbddiiedagllaaGreatSSB22
import Derived.Test.YtnbddiiedagllaaGreatSSB17
import Derived.BigRegion
import Derived.BigQuiet
import Derived.StillTailTactics
import Derived.IntWalk
/- The walks of a log's steps: what appending, syncing and creating answer. -/
namespace Go.Proofs.YtnbddiiedagllaaGreat
open Go.RowKit Go.Maps Go.Shelf

def stepV (k : Nat) (caps : Array Value) (n s z : Int) : Value := .agg #[.func (.func k) #[] caps, .int .i64 n, .int .i64 s, .int .i64 z]

theorem resultsA_one {fn : Func} {p : Tmp} {ty : TypeId} (h : fn.results = #[.cell p ty]) (tmps : Array Value) (P : Program) (w : World) :
  (results fn tmps).run P w = ((asAddr (tmps.getD p undef)).run P w).andThen fun a w₁ => (loadVar ty a).run P w₁ := by
 simp only [results, h]
 simp [Result.andThen]

theorem cell_below {k : Nat} {w w1 : World} (h : Below k w w1) (hk : w.heap.size ≤ k) {a : Addr} {v : Value} (hc : w.cell? a = some v) : w1.cell? a = some v := by
 rw [World.cell?_of_block (h.block a.block (Nat.lt_of_lt_of_le (World.block_lt_of_cell? _ _ hc) hk))]
 exact hc

theorem three_of {w w1 : World} {o1 o2 o3 : Obj} (hb : Below (((w.alloc o1).alloc o2).alloc o3).heap.size (((w.alloc o1).alloc o2).alloc o3) w1) :
  w1.heap[w.heap.size]? = some o1 ∧ w1.heap[w.heap.size + 1]? = some o2 ∧ w1.heap[w.heap.size + 1 + 1]? = some o3 ∧ w.heap.size + 3 ≤ w1.heap.size ∧ Below w.heap.size w w1 := by
 have h1 : (((w.alloc o1).alloc o2).alloc o3).heap[w.heap.size]? = some o1 := (Below.heap_alloc _ _ _ (by simp; omega)).trans ((Below.heap_alloc _ _ _ (by simp)).trans (heap_alloc_new _ _))
 have h2 : (((w.alloc o1).alloc o2).alloc o3).heap[w.heap.size + 1]? = some o2 := (Below.heap_alloc _ _ _ (by simp)).trans (by have := heap_alloc_new (w.alloc o1) o2; simpa using this)
 have h3 : (((w.alloc o1).alloc o2).alloc o3).heap[w.heap.size + 1 + 1]? = some o3 := by have := heap_alloc_new ((w.alloc o1).alloc o2) o3; simpa using this
 have hs := hb.size
 simp only [World.size_alloc] at hs
 exact ⟨(hb.block _ (by simp; omega)).trans h1, (hb.block _ (by simp)).trans h2, (hb.block _ (by simp)).trans h3, by omega,
  ((((Below.refl w.heap.size w).alloc (Nat.le_refl _) o1).alloc (by simp) o2).alloc (by simp; omega) o3).trans (hb.mono (by simp; omega))⟩

theorem row_alloc {w : World} {b : Nat} {cs : Array Value} {t : TypeId} {m : Nat × Nat} (h : w.heap[b]? = some (.cells cs t m)) (o : Obj) (i : Nat) : (w.alloc o).cell? ⟨b, i, none⟩ = cs[i]? := by
 rw [World.cell?_of_block (Below.heap_alloc _ _ _ (Array.getElem?_eq_some_iff.1 h).1)]
 exact cell_of_row _ _ _ _ _ _ h

theorem frozen_alloc {w : World} {b : Nat} {cs : Array Value} {t : TypeId} (h : w.heap[b]? = some (.cells cs t (0, 0))) (o : Obj) (i : Nat) : (w.alloc o).frozen? ⟨b, i, none⟩ = false := by
 have h1 : (w.alloc o).heap[b]? = some (.cells cs t (0, 0)) := (Below.heap_alloc _ _ _ (Array.getElem?_eq_some_iff.1 h).1).trans h
 simp [World.frozen?, h1]

theorem set4_other {w : World} {B b : Nat} (hne : b ≠ B) (v0 v1 v2 v3 : Value) : ((((w.setCell ⟨B, 0, none⟩ v0).setCell ⟨B, 1, none⟩ v1).setCell ⟨B, 2, none⟩ v2).setCell ⟨B, 3, none⟩ v3).heap[b]? = w.heap[b]? := by
 repeat rw [Below.heap_setCell _ _ _ _ hne]

theorem store_func (P : Program) (w : World) (a : Addr) (k : Nat) (ts : Array Value) (caps : Array Value) (m : Mode) : (store a (.func (.func k) ts caps) m).run P w = stored P w a (.func (.func k) ts caps) m := run_store P w a _ m rfl

def SyncingEnd (w : World) (g N : Nat) (n s k : Int) (e : Ending) (w' : World) : Prop :=
 ∃ b1 b2, e = .returned (stepV 125 #[.pointer (some ⟨b1, 0, none⟩), .pointer (some ⟨b2, 0, none⟩)] n s k) ∧ w'.cell? ⟨b1, 0, none⟩ = some (.pointer (some ⟨g, 0, none⟩)) ∧ w'.cell? ⟨b2, 0, none⟩ = some (encStr (nmB N)) ∧
  w.heap.size ≤ b1 ∧ w.heap.size ≤ b2 ∧ Below w.heap.size w w'

set_option maxRecDepth 100000 in
set_option maxHeartbeats 3200000 in
theorem syncing_any (g N : Nat) (q z : Int) (n s k : Int) (w : World) (h1 : 1 ≤ N) (hN : N ≤ 99999999) (g0 : w.cell? ⟨g, 0, none⟩ = some (.int .i64 (N : Int))) (g1 : w.cell? ⟨g, 1, none⟩ = some (.int .i64 q)) (g2 : w.cell? ⟨g, 2, none⟩ = some (.int .i64 z)) :
  Calls Tryz.prog 80 #[.pointer (some ⟨g, 0, none⟩), placeV n s k] w (SyncingEnd w g N n s k) := by
 have HF := Lib.hid (fun w1 => plfile_any N q z w1 h1 hN)
 unfold placeV at HF
 have hal : ∀ o1 o2 o3, Below w.heap.size w (((w.alloc o1).alloc o2).alloc o3) := fun o1 o2 o3 => (((Below.refl w.heap.size w).alloc (Nat.le_refl _) o1).alloc (by simp) o2).alloc (by simp; omega) o3
 have c0 := fun o1 o2 o3 => cell_below (hal o1 o2 o3) (Nat.le_refl _) g0
 have c1 := fun o1 o2 o3 => cell_below (hal o1 o2 o3) (Nat.le_refl _) g1
 have c2 := fun o1 o2 o3 => cell_below (hal o1 o2 o3) (Nat.le_refl _) g2
 have Hal := Lib.hid hal
 clear h1 hN hal
 unfold placeV
 go_enter Tryz.func80, Tryz.ntmps80
 go_wp2_with fail
 refine (HF.out _).mono ?_
 rintro e w1 ⟨rfl, hb⟩
 obtain ⟨k1, k2, k3, hsz, hbw⟩ := three_of hb
 have b10 := fun o => row_alloc k1 o 0
 have b20 := fun o => row_alloc k2 o 0
 have b21 := fun o => row_alloc k2 o 1
 have b22 := fun o => row_alloc k2 o 2
 have b30 := fun o => row_alloc k3 o 0
 have b31 := fun o => row_alloc k3 o 1
 have b32 := fun o => row_alloc k3 o 2
 have b33 := fun o => row_alloc k3 o 3
 have f3 := fun o i => frozen_alloc k3 o i
 simp only [List.getElem?_toArray, List.getElem?_cons_zero, List.getElem?_cons_succ] at b10 b20 b21 b22 b30 b31 b32 b33
 have Hbw := Lib.hid hbw
 have K1 := Lib.hid k1
 have K3 := Lib.hid k3
 clear hb hbw k1 k2 k3 c0 c1 c2 g0 g1 g2
 have hst := fun w a k ts caps m => store_func Tryz.prog w a k ts caps m
 go_wp2
 refine bodyPost_ret (v := stepV 125 #[.pointer (some ⟨w.heap.size, 0, none⟩), .pointer (some ⟨w1.heap.size, 0, none⟩)] n s k) ?_ rfl ⟨w.heap.size, w1.heap.size, rfl, ?_, ?_, Nat.le_refl _, by omega, ?_⟩
 ·rw [resultsA_one rfl]
  go_simp
  rfl
 ·rw [World.cell?_of_block (set4_other (by show w.heap.size ≠ _; omega) _ _ _ _)]
  exact b10 _
 ·rw [World.cell?_of_block (set4_other (by show w1.heap.size ≠ _; omega) _ _ _ _)]
  exact cell_of_row _ _ _ _ _ (0, 0) (heap_alloc_new _ _)
 ·exact ((((Hbw.out.alloc (by omega) _).setCell (by simp; omega) _).setCell (by simp; omega) _).setCell (by simp; omega) _).setCell (by simp; omega) _

def AppendingEnd (w : World) (g N : Nat) (p : Option Addr) (m c : Nat) (n s k : Int) (e : Ending) (w' : World) : Prop :=
 ∃ b1 b2 b3, e = .returned (stepV 124 #[.pointer (some ⟨b1, 0, none⟩), .pointer (some ⟨b2, 0, none⟩), .pointer (some ⟨b3, 0, none⟩)] n s k) ∧ w'.cell? ⟨b1, 0, none⟩ = some (.pointer (some ⟨g, 0, none⟩)) ∧ w'.cell? ⟨b2, 0, none⟩ = some (encStr (nmB N)) ∧
  w'.cell? ⟨b3, 0, none⟩ = some (.slice p m c) ∧ w.heap.size ≤ b1 ∧ w.heap.size ≤ b2 ∧ w.heap.size ≤ b3 ∧ Below w.heap.size w w'

set_option maxRecDepth 100000 in
set_option maxHeartbeats 6400000 in
theorem appending_any (g N S K : Nat) (p : Option Addr) (m c : Nat) (w : World) (h1 : 1 ≤ N) (hN : N ≤ 99999999) (hS : S + m ≤ 9223372036854775807) (hK : K + 1 ≤ 9223372036854775807) (g0 : w.cell? ⟨g, 0, none⟩ = some (.int .i64 (N : Int))) (g1 : w.cell? ⟨g, 1, none⟩ = some (.int .i64 (S : Int))) (g2 : w.cell? ⟨g, 2, none⟩ = some (.int .i64 (K : Int))) :
  Calls Tryz.prog 79 #[.pointer (some ⟨g, 0, none⟩), .slice p m c] w (AppendingEnd w g N p m c (N : Int) ((S + m : Nat) : Int) ((K + 1 : Nat) : Int)) := by
 have HF := Lib.hid (fun w1 => plfile_any N (S : Int) (K : Int) w1 h1 hN)
 unfold placeV at HF
 have hal : ∀ o1 o2 o3, Below w.heap.size w (((w.alloc o1).alloc o2).alloc o3) := fun o1 o2 o3 => (((Below.refl w.heap.size w).alloc (Nat.le_refl _) o1).alloc (by simp) o2).alloc (by simp; omega) o3
 have c0 := fun o1 o2 o3 => cell_below (hal o1 o2 o3) (Nat.le_refl _) g0
 have c1 := fun o1 o2 o3 => cell_below (hal o1 o2 o3) (Nat.le_refl _) g1
 have c2 := fun o1 o2 o3 => cell_below (hal o1 o2 o3) (Nat.le_refl _) g2
 have G0 := Lib.hid g0
 have G1 := Lib.hid g1
 have G2 := Lib.hid g2
 clear h1 hN hal g0 g1 g2
 go_enter Tryz.func79, Tryz.ntmps79
 go_wp2_with fail
 refine (HF.out _).mono ?_
 rintro e w1 ⟨rfl, hb⟩
 obtain ⟨k1, k2, k3, hsz, hbw⟩ := three_of hb
 have e0 := fun o => cell_below ((Below.refl w1.heap.size w1).alloc (Nat.le_refl _) o) (Nat.le_refl _) (cell_below hbw (Nat.le_refl _) G0.out)
 have e1 := fun o => cell_below ((Below.refl w1.heap.size w1).alloc (Nat.le_refl _) o) (Nat.le_refl _) (cell_below hbw (Nat.le_refl _) G1.out)
 have e2 := fun o => cell_below ((Below.refl w1.heap.size w1).alloc (Nat.le_refl _) o) (Nat.le_refl _) (cell_below hbw (Nat.le_refl _) G2.out)
 have b10 := fun o => row_alloc k1 o 0
 have b20 := fun o => row_alloc k2 o 0
 have b30 := fun o => row_alloc k3 o 0
 have b31 := fun o => row_alloc k3 o 1
 have b32 := fun o => row_alloc k3 o 2
 have b33 := fun o => row_alloc k3 o 3
 have f3 := fun o i => frozen_alloc k3 o i
 simp only [List.getElem?_toArray, List.getElem?_cons_zero, List.getElem?_cons_succ] at b10 b20 b30 b31 b32 b33
 have Hbw := Lib.hid hbw
 clear hb hbw k1 k2 k3 c0 c1 c2
 have hst := fun w a k ts caps m => store_func Tryz.prog w a k ts caps m
 go_wp2
 have hsum : IntKind.i64.wrap ((S : Int) + (m : Int)) = ((S + m : Nat) : Int) := (IntWalk.i64_in _ (by omega)).trans (by omega)
 have hsum2 : IntKind.i64.wrap ((K : Int) + 1) = ((K + 1 : Nat) : Int) := (IntWalk.i64_in _ (by omega)).trans (by omega)
 have E0 : (w1.alloc (.cells #[encStr (nmB N)] 9)).drew.cell? ⟨g, 0, none⟩ = some (.int .i64 (N : Int)) := e0 _
 have E1 : (w1.alloc (.cells #[encStr (nmB N)] 9)).drew.cell? ⟨g, 1, none⟩ = some (.int .i64 (S : Int)) := e1 _
 have E2 : (w1.alloc (.cells #[encStr (nmB N)] 9)).drew.cell? ⟨g, 2, none⟩ = some (.int .i64 (K : Int)) := e2 _
 have B1 : (w1.alloc (.cells #[encStr (nmB N)] 9)).drew.cell? ⟨w.heap.size, 0, none⟩ = some (.pointer (some ⟨g, 0, none⟩)) := b10 _
 have B2 : (w1.alloc (.cells #[encStr (nmB N)] 9)).drew.cell? ⟨w.heap.size + 1, 0, none⟩ = some (.slice p m c) := b20 _
 have C0 : (w1.alloc (.cells #[encStr (nmB N)] 9)).drew.cell? ⟨w.heap.size + 1 + 1, 0, none⟩ = some .nilFunc := b30 _
 have C1 : (w1.alloc (.cells #[encStr (nmB N)] 9)).drew.cell? ⟨w.heap.size + 1 + 1, 1, none⟩ = some (.int .i64 0) := b31 _
 have C2 : (w1.alloc (.cells #[encStr (nmB N)] 9)).drew.cell? ⟨w.heap.size + 1 + 1, 2, none⟩ = some (.int .i64 0) := b32 _
 have C3 : (w1.alloc (.cells #[encStr (nmB N)] 9)).drew.cell? ⟨w.heap.size + 1 + 1, 3, none⟩ = some (.int .i64 0) := b33 _
 have CF : ∀ i, (w1.alloc (.cells #[encStr (nmB N)] 9)).drew.frozen? ⟨w.heap.size + 1 + 1, i, none⟩ = false := fun i => f3 _ i
 have F2 : (w1.alloc (.cells #[encStr (nmB N)] 9)).drew.cell? ⟨w1.heap.size, 0, none⟩ = some (encStr (nmB N)) := cell_of_row _ _ _ _ _ (0, 0) (heap_alloc_new _ _)
 have Hb4 : Below w.heap.size w (w1.alloc (.cells #[encStr (nmB N)] 9)).drew := (Hbw.out.alloc (by omega) _).drew
 have Hb4 := Lib.hid Hb4
 have HB1 := Lib.hid B1
 have HB2 := Lib.hid B2
 have HF2 := Lib.hid F2
 have hne := hsz
 clear e0 e1 e2 b10 b20 b30 b31 b32 b33 f3 F2 Hbw
 refine wp_region_still_tail 22 (by kernel_rfl) (by kernel_rfl) ?_
 simp only [List.take_succ_cons, List.take_zero, List.drop_succ_cons, List.drop_zero]
 change wpStill _ _ (w1.alloc (.cells #[encStr (nmB N)] 9)).drew (fun a' => wpList _ _ _ _ a' (w1.alloc (.cells #[encStr (nmB N)] 9)).drew) _ _
 generalize (w1.alloc (.cells #[encStr (nmB N)] 9)).drew = w4 at *
 repeat still_step
 refine wpStill_nil ?_
 go_wp2
 refine bodyPost_ret (v := stepV 124 #[.pointer (some ⟨w.heap.size, 0, none⟩), .pointer (some ⟨w1.heap.size, 0, none⟩), .pointer (some ⟨w.heap.size + 1, 0, none⟩)] (N : Int) ((S + m : Nat) : Int) ((K + 1 : Nat) : Int)) ?_ rfl ⟨w.heap.size, w1.heap.size, w.heap.size + 1, rfl, ?_, ?_, ?_, Nat.le_refl _, by omega, by omega, ?_⟩
 ·rw [resultsA_one rfl]
  go_simp
  rfl
 ·rw [World.cell?_of_block (set4_other (by show w.heap.size ≠ _; omega) _ _ _ _)]
  exact HB1.out
 ·rw [World.cell?_of_block (set4_other (by show w1.heap.size ≠ _; omega) _ _ _ _)]
  exact HF2.out
 ·rw [World.cell?_of_block (set4_other (by show w.heap.size + 1 ≠ _; omega) _ _ _ _)]
  exact HB2.out
 ·exact ((((Hb4.out).setCell (by simp; omega) _).setCell (by simp; omega) _).setCell (by simp; omega) _).setCell (by simp; omega) _

def CreatingEnd (w : World) (g N : Nat) (e : Ending) (w' : World) : Prop :=
 ∃ b1 b2, e = .returned (stepV 160 #[.pointer (some ⟨b1, 0, none⟩), .pointer (some ⟨b2, 0, none⟩)] (N : Int) 0 0) ∧ w'.cell? ⟨b1, 0, none⟩ = some (.pointer (some ⟨g, 0, none⟩)) ∧ w'.cell? ⟨b2, 0, none⟩ = some (encStr (nmB N)) ∧
  w.heap.size ≤ b1 ∧ w.heap.size ≤ b2 ∧ Below w.heap.size w w'

set_option maxRecDepth 100000 in
set_option maxHeartbeats 3200000 in
theorem creating_any (g N : Nat) (w : World) (h1 : 1 ≤ N) (hN : N ≤ 99999999) :
  Calls Tryz.prog 122 #[.pointer (some ⟨g, 0, none⟩), .int .i64 (N : Int)] w (CreatingEnd w g N) := by
 have HF := Lib.hid (fun w1 => plfile_any N 0 0 w1 h1 hN)
 unfold placeV at HF
 clear h1 hN
 go_enter Tryz.func122, Tryz.ntmps122
 go_wp2_with fail
 refine (HF.out _).mono ?_
 rintro e w1 ⟨rfl, hb⟩
 obtain ⟨k1, k2, k3, hsz, hbw⟩ := three_of hb
 have b10 := fun o => row_alloc k1 o 0
 have b20 := fun o => row_alloc k2 o 0
 have b21 := fun o => row_alloc k2 o 1
 have b22 := fun o => row_alloc k2 o 2
 have b23 := fun o => row_alloc k2 o 3
 have b30 := fun o => row_alloc k3 o 0
 have b31 := fun o => row_alloc k3 o 1
 have b32 := fun o => row_alloc k3 o 2
 have f2 := fun o i => frozen_alloc k2 o i
 simp only [List.getElem?_toArray, List.getElem?_cons_zero, List.getElem?_cons_succ] at b10 b20 b21 b22 b23 b30 b31 b32
 have Hbw := Lib.hid hbw
 have hst := fun w a k ts caps m => store_func Tryz.prog w a k ts caps m
 clear hb hbw k1 k2 k3
 go_wp2
 refine bodyPost_ret (v := stepV 160 #[.pointer (some ⟨w.heap.size, 0, none⟩), .pointer (some ⟨w1.heap.size, 0, none⟩)] (N : Int) 0 0) ?_ rfl ⟨w.heap.size, w1.heap.size, rfl, ?_, ?_, Nat.le_refl _, by omega, ?_⟩
 ·rw [resultsA_one rfl]
  go_simp
  rfl
 ·rw [World.cell?_of_block (set4_other (by show w.heap.size ≠ _; omega) _ _ _ _)]
  exact b10 _
 ·rw [World.cell?_of_block (set4_other (by show w1.heap.size ≠ _; omega) _ _ _ _)]
  exact cell_of_row _ _ _ _ _ (0, 0) (heap_alloc_new _ _)
 ·exact ((((Hbw.out.alloc (by omega) _).setCell (by simp) _).setCell (by simp) _).setCell (by simp) _).setCell (by simp) _
end Go.Proofs.YtnbddiiedagllaaGreat

