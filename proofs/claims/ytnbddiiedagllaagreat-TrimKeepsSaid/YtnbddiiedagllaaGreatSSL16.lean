import Derived.Test.YtnbddiiedagllaaGreatSSL12
import Derived.Test.YtnbddiiedagllaaGreatSSL15
import Derived.Deep.RegionHeld
import Derived.Deep.RegionHeld3
import Derived.Deep.DrawnRows
import Derived.StillTailTactics
import Derived.Deep.DeepCutAuto
import Derived.Deep.CutBlock
/- The walks of the reference's logs: name, Sync, rotate, Put, New. -/
namespace Go.Proofs.YtnbddiiedagllaaGreat
open Go.RowKit Go.Maps Go.Shelf

attribute [local go_sem ↓] Go.wp_at_zero Go.wp_at_succ

def logV (ro : Int) (a : Option Addr) (n c : Nat) (pl : Int) (dn : Bool) (mo N S K : Int) : Value := .agg #[.int .i64 ro, .slice a n c, .int .i64 pl, .bool dn, .int .i64 mo, .int .i64 N, .int .i64 S, .int .i64 K]

def logO (ro : Int) (a : Option Addr) (n c : Nat) (pl : Int) (dn : Bool) (mo N S K : Int) : Obj := .cells #[.int .i64 ro, .slice a n c, .int .i64 pl, .bool dn, .int .i64 mo, .int .i64 N, .int .i64 S, .int .i64 K] 47

def RLogAt (X : Nat → Prop) (w : World) (v : Value) (W : WM) : Prop :=
 ∃ a n c R, v = logV (W.D.room : Int) a n c (W.D.plan : Int) W.D.down W.most (W.n : Int) (W.size : Int) (W.wait : Int) ∧ RowF X w a n c R ∧ R.map FR.f = W.D.fs ∧ n ≤ 1000000

def RLogEnd (X : Nat → Prop) (w : World) (r : WM × Int) (e : Ending) (w' : World) : Prop :=
 ∃ a n c R, e = .returned (.tuple #[logV (r.1.D.room : Int) a n c (r.1.D.plan : Int) r.1.D.down r.1.most (r.1.n : Int) (r.1.size : Int) (r.1.wait : Int), .int .i64 r.2]) ∧ RowF (fun b => (X b ∨ w.heap.size ≤ b) ∧ b < w'.heap.size) w' a n c R ∧ R.map FR.f = r.1.D.fs ∧ Below w.heap.size w w'

theorem rname_any (ro : Int) (a : Option Addr) (n c : Nat) (pl : Int) (dn : Bool) (mo : Int) (N : Nat) (S K : Int) (w : World) (h1 : 1 ≤ N) (hN : N ≤ 99999999) :
  Calls Tryz.prog 75 #[logV ro a n c pl dn mo (N : Int) S K] w fun e w' => e = .returned (encStr (nmB N)) ∧ Below w.heap.size w w' := by
 have HI := Lib.hid (fun w1 => rsegname_yes N w1 h1 hN)
 have Hb := Lib.hid ((Below.refl w.heap.size w).alloc (Nat.le_refl _) (logO ro a n c pl dn mo (N : Int) S K))
 unfold logO at Hb
 clear h1 hN
 unfold logV
 go_enter Tryz.func75, Tryz.ntmps75
 go_wp2_with fail
 refine (HI.out _).mono ?_
 rintro e w' ⟨rfl, rfl⟩
 go_wp2
 go_ret
 exact ⟨rfl, Hb.out⟩

theorem box8 {w : World} {B : Nat} {v0 v1 v2 v3 v4 v5 v6 v7 : Value} {t : TypeId} (h : w.heap[B]? = some (.cells #[v0, v1, v2, v3, v4, v5, v6, v7] t (0, 0))) :
  w.cell? ⟨B, 0, none⟩ = some v0 ∧ w.cell? ⟨B, 1, none⟩ = some v1 ∧ w.cell? ⟨B, 2, none⟩ = some v2 ∧ w.cell? ⟨B, 3, none⟩ = some v3 ∧ w.cell? ⟨B, 4, none⟩ = some v4 ∧ w.cell? ⟨B, 5, none⟩ = some v5 ∧ w.cell? ⟨B, 6, none⟩ = some v6 ∧ w.cell? ⟨B, 7, none⟩ = some v7 ∧ ∀ i, w.frozen? ⟨B, i, none⟩ = false := by
 refine ⟨?_, ?_, ?_, ?_, ?_, ?_, ?_, ?_, fun i => by simp [World.frozen?, h]⟩ <;> (rw [cell_of_row _ _ _ _ _ (0, 0) h]; rfl)

theorem box4c {w : World} {B : Nat} {v0 v1 v2 v3 : Value} {t : TypeId} (h : w.heap[B]? = some (.cells #[v0, v1, v2, v3] t (0, 0))) :
  w.cell? ⟨B, 0, none⟩ = some v0 ∧ w.cell? ⟨B, 1, none⟩ = some v1 ∧ w.cell? ⟨B, 2, none⟩ = some v2 ∧ w.cell? ⟨B, 3, none⟩ = some v3 ∧ ∀ i, w.frozen? ⟨B, i, none⟩ = false := by
 refine ⟨?_, ?_, ?_, ?_, fun i => by simp [World.frozen?, h]⟩ <;> (rw [cell_of_row _ _ _ _ _ (0, 0) h]; rfl)

def DoCut (X : Nat → Prop) (w2 : World) (r : DM × Int) (t4 t5 : Value) (wx : World) : Prop :=
 ∃ B a n c R, t4 = .pointer (some ⟨B, 0, none⟩) ∧ t5 = .int .i64 r.2 ∧ wx.heap[B]? = some (.cells #[.int .i64 (r.1.room : Int), .slice a n c, .int .i64 (r.1.plan : Int), .bool r.1.down] 25 (0, 0)) ∧ w2.heap.size ≤ B ∧
  RowF (fun b => (X b ∨ w2.heap.size ≤ b) ∧ b ≠ B ∧ b < wx.heap.size) wx a n c R ∧ R.map FR.f = r.1.fs ∧ Below w2.heap.size w2 wx

theorem set_other {w : World} {B i b : Nat} {v : Value} (h : b ≠ B) : (w.setCell ⟨B, i, none⟩ v).heap[b]? = w.heap[b]? := Below.heap_setCell w ⟨B, i, none⟩ v b h

theorem doCut_new {X : Nat → Prop} {w2 w4 : World} {N : Nat} {r : DM × Int} {a : Option Addr} {n c : Nat} {R : List FR} (hb : Below w2.heap.size w2 w4) (hN : w2.heap.size ≤ N) (hR : RowF (fun b => (X b ∨ N ≤ b) ∧ b < w4.heap.size) w4 a n c R) (hf : R.map FR.f = r.1.fs) :
  DoCut X w2 r (.pointer (some ⟨w4.heap.size, 0, none⟩)) (.int .i64 r.2) (w4.alloc (.cells #[.int .i64 (r.1.room : Int), .slice a n c, .int .i64 (r.1.plan : Int), .bool r.1.down] 25)) := by
 refine ⟨w4.heap.size, a, n, c, R, rfl, rfl, heap_alloc_new _ _, hb.size, hR.mono (fun b h => Below.heap_alloc _ _ _ h.2) (fun b h => ⟨h.1.imp id (fun h1 => Nat.le_trans hN h1), by omega, by rw [World.size_alloc]; omega⟩), hf, hb.alloc hb.size _⟩

theorem doCut_set {X : Nat → Prop} {w2 w4 : World} {N B : Nat} {v0 v1 v2 v3 : Value} {r : DM × Int} {a : Option Addr} {n c : Nat} {R : List FR} (hb : Below w2.heap.size w2 w4) (hN : w2.heap.size ≤ N) (hX : ∀ b, X b → b < w2.heap.size) (hR : RowF (fun b => (X b ∨ N ≤ b) ∧ b < w4.heap.size) w4 a n c R) (hf : R.map FR.f = r.1.fs)
  (hB : w2.heap.size ≤ B) (hBN : B < N) (hq : w4.heap[B]? = some (.cells #[v0, v1, v2, v3] 25 (0, 0))) :
  DoCut X w2 r (.pointer (some ⟨B, 0, none⟩)) (.int .i64 r.2) ((((w4.setCell ⟨B, 0, none⟩ (.int .i64 (r.1.room : Int))).setCell ⟨B, 1, none⟩ (.slice a n c)).setCell ⟨B, 2, none⟩ (.int .i64 (r.1.plan : Int))).setCell ⟨B, 3, none⟩ (.bool r.1.down)) := by
 refine ⟨B, a, n, c, R, rfl, rfl, ?_, hB, hR.mono (fun b h => ?_) (fun b h => ⟨h.1.imp id (fun h1 => Nat.le_trans hN h1), ?_, by simp; exact h.2⟩), hf, (((hb.setCell hB _).setCell hB _).setCell hB _).setCell hB _⟩
 ·have h1 := set_head (i := 0) hq (.int .i64 (r.1.room : Int))
  have h2 := set_head (i := 1) h1 (.slice a n c)
  have h3 := set_head (i := 2) h2 (.int .i64 (r.1.plan : Int))
  have h4 := set_head (i := 3) h3 (.bool r.1.down)
  simpa using h4
 ·have hne : b ≠ B := by
   rcases h.1 with h1 | h1
   ·have := hX b h1; omega
   ·omega
  repeat rw [Below.heap_setCell _ _ _ _ hne]
 ·rcases h.1 with h1 | h1
  ·have := hX b h1; omega
  ·omega

end Go.Proofs.YtnbddiiedagllaaGreat

