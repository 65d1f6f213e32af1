import Derived.Test.YtnbddiiedagllaaGreatSSB9
import Derived.IntWalk
/- The walk of the reference's Do: names that are no names. -/
namespace Go.Proofs.YtnbddiiedagllaaGreat
open Go.RowKit Go.Maps Go.Shelf

structure Alive (M : DM) : Prop where
 down : M.down = false
 plan : M.plan ≠ 1
 le : M.plan ≤ 9223372036854775807

theorem Alive.eq {M : DM} (h : Alive M) : failM M = { M with plan := M.plan - 1 } := by
 unfold failM
 rw [if_neg (by rw [h.down]; decide), if_neg h.plan]

structure DoCells (w : World) (B : Nat) (ro : Int) (a : Option Addr) (n c : Nat) (q : Int) (k : Int) (nm to : List UInt8) (p : Option Addr) (l c2 : Nat) : Prop where
 d : w.heap[B]? = some (.cells #[.int .i64 ro, .slice a n c, .int .i64 q, .bool false] 25 (0, 0))
 o : w.heap[B + 1]? = some (.cells #[.int .i64 k, .string ⟨nm.toArray⟩, .string ⟨to.toArray⟩, .slice p l c2] 101 (0, 0))
 z : w.heap[B + 1 + 1]? = some (.cells #[.int .i64 0, .slice none 0 0, .int .i64 0, .bool false] 25 (0, 0))

def doW (w : World) (ro : Int) (a : Option Addr) (n c : Nat) (q : Int) (k : Int) (nm to : List UInt8) (p : Option Addr) (l c2 : Nat) : World :=
 ((w.alloc (.cells #[.int .i64 ro, .slice a n c, .int .i64 q, .bool false] 25)).alloc (.cells #[.int .i64 k, .string ⟨nm.toArray⟩, .string ⟨to.toArray⟩, .slice p l c2] 101)).alloc (.cells #[.int .i64 0, .slice none 0 0, .int .i64 0, .bool false] 25)

theorem doW_below (w : World) (ro : Int) (a : Option Addr) (n c : Nat) (q : Int) (k : Int) (nm to : List UInt8) (p : Option Addr) (l c2 : Nat) : Below w.heap.size w (doW w ro a n c q k nm to p l c2) := by
 unfold doW
 have h1 := (Below.refl w.heap.size w).alloc (Nat.le_refl _) (.cells #[.int .i64 ro, .slice a n c, .int .i64 q, .bool false] 25)
 have h2 := h1.alloc h1.size (.cells #[.int .i64 k, .string ⟨nm.toArray⟩, .string ⟨to.toArray⟩, .slice p l c2] 101)
 exact h2.alloc h2.size _

theorem doW_cells (w : World) (ro : Int) (a : Option Addr) (n c : Nat) (q : Int) (k : Int) (nm to : List UInt8) (p : Option Addr) (l c2 : Nat) : DoCells (doW w ro a n c q k nm to p l c2) w.heap.size ro a n c q k nm to p l c2 := by
 unfold doW
 have e1 : (w.alloc (.cells #[.int .i64 ro, .slice a n c, .int .i64 q, .bool false] 25)).heap.size = w.heap.size + 1 := Array.size_push _
 have e2 : ((w.alloc (.cells #[.int .i64 ro, .slice a n c, .int .i64 q, .bool false] 25)).alloc (.cells #[.int .i64 k, .string ⟨nm.toArray⟩, .string ⟨to.toArray⟩, .slice p l c2] 101)).heap.size = w.heap.size + 1 + 1 := by rw [show ∀ (w : World) (o : Obj), (w.alloc o).heap.size = w.heap.size + 1 from fun _ _ => Array.size_push _, e1]
 refine ⟨?_, ?_, ?_⟩
 ·rw [heap_alloc_old _ _ (by rw [e2]; omega), heap_alloc_old _ _ (by rw [e1]; omega)]
  exact heap_alloc_new w _
 ·rw [heap_alloc_old _ _ (by rw [e2]; omega)]
  have h := heap_alloc_new (w.alloc (.cells #[.int .i64 ro, .slice a n c, .int .i64 q, .bool false] 25)) (.cells #[.int .i64 k, .string ⟨nm.toArray⟩, .string ⟨to.toArray⟩, .slice p l c2] 101)
  rw [e1] at h
  exact h
 ·have h := heap_alloc_new ((w.alloc (.cells #[.int .i64 ro, .slice a n c, .int .i64 q, .bool false] 25)).alloc (.cells #[.int .i64 k, .string ⟨nm.toArray⟩, .string ⟨to.toArray⟩, .slice p l c2] 101)) (.cells #[.int .i64 0, .slice none 0 0, .int .i64 0, .bool false] 25)
  rw [e2] at h
  exact h

theorem DoCells.below {w w' : World} {B : Nat} {ro : Int} {a : Option Addr} {n c : Nat} {q k : Int} {nm to : List UInt8} {p : Option Addr} {l c2 : Nat} (h : DoCells w B ro a n c q k nm to p l c2) (hb : Below w.heap.size w w') : DoCells w' B ro a n c q k nm to p l c2 := by
 have lt : ∀ {g : Nat} {x : Obj}, w.heap[g]? = some x → g < w.heap.size := fun hg => (Array.getElem?_eq_some_iff.1 hg).1
 exact ⟨(hb.block _ (lt h.d)).trans h.d, (hb.block _ (lt h.o)).trans h.o, (hb.block _ (lt h.z)).trans h.z⟩

theorem DoCells.all {w : World} {B : Nat} {ro : Int} {a : Option Addr} {n c : Nat} {q k : Int} {nm to : List UInt8} {p : Option Addr} {l c2 : Nat} (h : DoCells w B ro a n c q k nm to p l c2) :
  (w.cell? ⟨B, 0, none⟩ = some (.int .i64 ro) ∧ w.cell? ⟨B, 1, none⟩ = some (.slice a n c) ∧ w.cell? ⟨B, 2, none⟩ = some (.int .i64 q) ∧ w.cell? ⟨B, 3, none⟩ = some (.bool false)) ∧
  (w.cell? ⟨B + 1, 0, none⟩ = some (.int .i64 k) ∧ w.cell? ⟨B + 1, 1, none⟩ = some (.string ⟨nm.toArray⟩) ∧ w.cell? ⟨B + 1, 2, none⟩ = some (.string ⟨to.toArray⟩) ∧ w.cell? ⟨B + 1, 3, none⟩ = some (.slice p l c2)) ∧
  (∀ j, w.frozen? ⟨B, j, none⟩ = false) ∧ (∀ j, w.frozen? ⟨B + 1 + 1, j, none⟩ = false) ∧
  (w.cell? ⟨B + 1 + 1, 0, none⟩ = some (.int .i64 0) ∧ w.cell? ⟨B + 1 + 1, 1, none⟩ = some (.slice none 0 0) ∧ w.cell? ⟨B + 1 + 1, 2, none⟩ = some (.int .i64 0) ∧ w.cell? ⟨B + 1 + 1, 3, none⟩ = some (.bool false)) := by
 refine ⟨⟨?_, ?_, ?_, ?_⟩, ⟨?_, ?_, ?_, ?_⟩, fun j => by simp [World.frozen?, h.d], fun j => by simp [World.frozen?, h.z], ⟨?_, ?_, ?_, ?_⟩⟩
 ·rw [cell_of_row _ _ _ _ _ _ h.d]; rfl
 ·rw [cell_of_row _ _ _ _ _ _ h.d]; rfl
 ·rw [cell_of_row _ _ _ _ _ _ h.d]; rfl
 ·rw [cell_of_row _ _ _ _ _ _ h.d]; rfl
 ·rw [cell_of_row _ _ _ _ _ _ h.o]; rfl
 ·rw [cell_of_row _ _ _ _ _ _ h.o]; rfl
 ·rw [cell_of_row _ _ _ _ _ _ h.o]; rfl
 ·rw [cell_of_row _ _ _ _ _ _ h.o]; rfl
 ·rw [cell_of_row _ _ _ _ _ _ h.z]; rfl
 ·rw [cell_of_row _ _ _ _ _ _ h.z]; rfl
 ·rw [cell_of_row _ _ _ _ _ _ h.z]; rfl
 ·rw [cell_of_row _ _ _ _ _ _ h.z]; rfl

theorem do_start {X : Nat → Prop} {w : World} {v : Value} {M : DM} (h : RefAt X w v M) (hX : ∀ b, X b → b < w.heap.size) (hA : Alive M) (k : Int) (nm to : List UInt8) (p : Option Addr) (l c2 : Nat) :
  ∃ a n c R q, v = refV (M.room : Int) a n c (M.plan : Int) false ∧ RowF X w a n c R ∧ R.map FR.f = M.fs ∧ n ≤ 1000000 ∧ IntKind.i64.wrap ((M.plan : Int) - 1) = (M.plan : Int) - 1 ∧ max ((M.plan : Int) - 1) 0 = q ∧ q = ((M.plan - 1 : Nat) : Int) ∧ ((M.plan : Int) == 1) = false ∧
   findN F.n nm M.fs = (findN FR.n nm R).map FR.f ∧
   Calls Tryz.prog 108 #[refV (M.room : Int) a n c q false, .string ⟨nm.toArray⟩] (doW w (M.room : Int) a n c q k nm to p l c2) (FindEnd (doW w (M.room : Int) a n c q k nm to p l c2) R nm) := by
 obtain ⟨a, n, c, R, rfl, hR, hfs, hn⟩ := h
 have hle := hA.le
 have hp1 := hA.plan
 refine ⟨a, n, c, R, ((M.plan - 1 : Nat) : Int), by rw [hA.down], hR, hfs, hn, ?_, ?_, rfl, beq_eq_false_iff_ne.2 (fun e => hp1 (by omega)), by rw [← hfs]; exact findN_map FR.n F.n FR.f (fun _ => rfl) nm R, ?_⟩
 ·exact IntWalk.i64_in _ (by omega)
 ·omega
 ·have hb := doW_below w (M.room : Int) a n c ((M.plan - 1 : Nat) : Int) k nm to p l c2
  exact rfind_any (hR.below hX hb) (fun b hx => Nat.lt_of_lt_of_le (hX b hx) hb.size) nm (M.room : Int) ((M.plan - 1 : Nat) : Int) false
set_option maxRecDepth 100000 in
set_option maxHeartbeats 6400000 in
theorem rdo_name {X : Nat → Prop} {w : World} {v : Value} {M : DM} (h : RefAt X w v M) (hX : ∀ b, X b → b < w.heap.size) (hA : Alive M) (k : Int) (nm to : List UInt8) (p : Option Addr) (l c2 : Nat) (hl : nm.length ≤ 9223372036854775807) (hnm : named nm = false) :
  Calls Tryz.prog 74 #[v, opV k nm to p l c2] w (DoEnd X w (failM M, 6)) := by
 obtain ⟨a, n, c, R, q, rfl, hR, hfs, hn, hwr, hmx, hq, hp1, hfd, HF0⟩ := do_start h hX hA k nm to p l c2
 have HF := Lib.hid HF0
 have HN := Lib.hid (show ∀ w, Calls Tryz.prog 117 #[.string ⟨nm.toArray⟩] w fun e w' => e = .returned (.bool false) ∧ w' = w from fun w => by rw [← hnm]; exact rnamed_any nm w hl)
 have HE := Lib.hid (show ∀ (w' : World), Below w.heap.size w w' → DoEnd X w (failM M, 6) (.returned (.tuple #[refV (M.room : Int) a n c q false, .int .i64 6])) w' from fun w' hb => by
  refine ⟨a, n, c, R, ?_, (hR.below hX hb).mono (fun _ _ => rfl) (fun b hx => ⟨.inl hx, Nat.lt_of_lt_of_le (hX b hx) hb.size⟩), ?_, hb⟩
  ·rw [hA.eq, hq, ← hA.down]
  ·rw [hA.eq]; exact hfs)
 have Hb := Lib.hid (doW_below w (M.room : Int) a n c q k nm to p l c2)
 have HC := Lib.hid (doW_cells w (M.room : Int) a n c q k nm to p l c2)
 clear hR hfs hX HF0 hq hfd hA h
 unfold refV at HE HF
 unfold refV opV
 generalize (M.plan : Int) = pl at *
 generalize (M.room : Int) = ro at *
 go_enter Tryz.func74, Tryz.ntmps74
 go_wp2_with fail
 change Calls _ _ _ (doW w ro a n c q k nm to p l c2) _
 refine HF.out.mono ?_
 rintro e w2 ⟨hb2, h2⟩
 have hcs := (HC.out.below hb2).all
 have Hb2 := Lib.hid (Hb.out.trans (hb2.mono Hb.out.size))
 obtain ⟨z, rfl⟩ : ∃ z, e = .returned (.int .i64 z) := by
  rcases h2 with ⟨i, _, e, _⟩ | ⟨e, _⟩
  ·exact ⟨_, e⟩
  ·exact ⟨_, e⟩
 obtain ⟨⟨d0, d1, d2, d3⟩, ⟨o0, o1, o2, o3⟩, fd, fz, ⟨z0, z1, z2, z3⟩⟩ := hcs
 clear hb2 h2
 go_wp2_with fail
 refine (HN.out _).mono ?_
 rintro e w3 ⟨rfl, rfl⟩
 go_wp2_with fail
 (try simp only [Exit.inBlock, Exit.then])
 refine bodyPost_ret ?_ rfl (HE.out _ ?_)
 ·rw [results_cell_tmp rfl]
  go_simp
 ·repeat (first | exact Hb2.out | refine Below.setCell ?_ (by simp; try omega) _)
end Go.Proofs.YtnbddiiedagllaaGreat

/- The walk of the reference's Do: names that are not there, or are. -/
namespace Go.Proofs.YtnbddiiedagllaaGreat
open Go.RowKit Go.Maps Go.Shelf

set_option maxRecDepth 100000 in
set_option maxHeartbeats 6400000 in
theorem rdo_to {X : Nat → Prop} {w : World} {v : Value} {M : DM} (h : RefAt X w v M) (hX : ∀ b, X b → b < w.heap.size) (hA : Alive M) (nm to : List UInt8) (p : Option Addr) (l c2 : Nat) (hnml : nm.length ≤ 9223372036854775807) (hnm : named nm = true) (htol : to.length ≤ 9223372036854775807) (hto : named to = false) :
  Calls Tryz.prog 74 #[v, opV 4 nm to p l c2] w (DoEnd X w (failM M, 6)) := by
 obtain ⟨a, n, c, R, q, rfl, hR, hfs, hn, hwr, hmx, hq, hp1, hfd, HF0⟩ := do_start h hX hA 4 nm to p l c2
 have HF := Lib.hid HF0
 have HN := Lib.hid (show ∀ w, Calls Tryz.prog 117 #[.string ⟨nm.toArray⟩] w fun e w' => e = .returned (.bool true) ∧ w' = w from fun w => by rw [← hnm]; exact rnamed_any nm w hnml)
 have HT := Lib.hid (show ∀ w, Calls Tryz.prog 117 #[.string ⟨to.toArray⟩] w fun e w' => e = .returned (.bool false) ∧ w' = w from fun w => by rw [← hto]; exact rnamed_any to w htol)
 have HE := Lib.hid (show ∀ (w' : World), Below w.heap.size w w' → DoEnd X w (failM M, 6) (.returned (.tuple #[refV (M.room : Int) a n c q false, .int .i64 6])) w' from fun w' hb => by
  refine ⟨a, n, c, R, ?_, (hR.below hX hb).mono (fun _ _ => rfl) (fun b hx => ⟨.inl hx, Nat.lt_of_lt_of_le (hX b hx) hb.size⟩), ?_, hb⟩
  ·rw [hA.eq, hq, ← hA.down]
  ·rw [hA.eq]; exact hfs)
 have Hb := Lib.hid (doW_below w (M.room : Int) a n c q 4 nm to p l c2)
 have HC := Lib.hid (doW_cells w (M.room : Int) a n c q 4 nm to p l c2)
 clear hR hfs hX HF0 hq hA h
 unfold refV at HE HF
 unfold refV opV
 generalize (M.plan : Int) = pl at *
 generalize (M.room : Int) = ro at *
 go_enter Tryz.func74, Tryz.ntmps74
 go_wp2_with fail
 change Calls _ _ _ (doW w ro a n c q 4 nm to p l c2) _
 refine HF.out.mono ?_
 rintro e w2 ⟨hb2, h2⟩
 have hcs := (HC.out.below hb2).all
 have Hb2 := Lib.hid (Hb.out.trans (hb2.mono Hb.out.size))
 obtain ⟨z, rfl⟩ : ∃ z, e = .returned (.int .i64 z) := by
  rcases h2 with ⟨i, _, e, _⟩ | ⟨e, _⟩
  ·exact ⟨_, e⟩
  ·exact ⟨_, e⟩
 obtain ⟨⟨d0, d1, d2, d3⟩, ⟨o0, o1, o2, o3⟩, fd, fz, ⟨z0, z1, z2, z3⟩⟩ := hcs
 clear hb2 h2 hfd
 go_wp2_with fail
 refine (HN.out _).mono ?_
 rintro e w3 ⟨rfl, rfl⟩
 go_wp2_with fail
 refine (HT.out _).mono ?_
 rintro e w4 ⟨rfl, rfl⟩
 go_wp2_with fail
 (try simp only [Exit.inBlock, Exit.then])
 refine bodyPost_ret ?_ rfl (HE.out _ ?_)
 ·rw [results_cell_tmp rfl]
  go_simp
 ·repeat (first | exact Hb2.out | refine Below.setCell ?_ (by simp; try omega) _)

set_option maxRecDepth 100000 in
set_option maxHeartbeats 6400000 in
theorem rdo_no4 {X : Nat → Prop} {w : World} {v : Value} {M : DM} (h : RefAt X w v M) (hX : ∀ b, X b → b < w.heap.size) (hA : Alive M) (nm to : List UInt8) (p : Option Addr) (l c2 : Nat) (hnml : nm.length ≤ 9223372036854775807) (hnm : named nm = true) (htol : to.length ≤ 9223372036854775807) (hto : named to = true) (hno : findN F.n nm M.fs = none) :
  Calls Tryz.prog 74 #[v, opV 4 nm to p l c2] w (DoEnd X w (failM M, 6)) := by
 obtain ⟨a, n, c, R, q, rfl, hR, hfs, hn, hwr, hmx, hq, hp1, hfd, HF0⟩ := do_start h hX hA 4 nm to p l c2
 have HF := Lib.hid HF0
 have HN := Lib.hid (show ∀ w, Calls Tryz.prog 117 #[.string ⟨nm.toArray⟩] w fun e w' => e = .returned (.bool true) ∧ w' = w from fun w => by rw [← hnm]; exact rnamed_any nm w hnml)
 have HT := Lib.hid (show ∀ w, Calls Tryz.prog 117 #[.string ⟨to.toArray⟩] w fun e w' => e = .returned (.bool true) ∧ w' = w from fun w => by rw [← hto]; exact rnamed_any to w htol)
 have HE := Lib.hid (show ∀ (w' : World), Below w.heap.size w w' → DoEnd X w (failM M, 6) (.returned (.tuple #[refV (M.room : Int) a n c q false, .int .i64 6])) w' from fun w' hb => by
  refine ⟨a, n, c, R, ?_, (hR.below hX hb).mono (fun _ _ => rfl) (fun b hx => ⟨.inl hx, Nat.lt_of_lt_of_le (hX b hx) hb.size⟩), ?_, hb⟩
  ·rw [hA.eq, hq, ← hA.down]
  ·rw [hA.eq]; exact hfs)
 have Hb := Lib.hid (doW_below w (M.room : Int) a n c q 4 nm to p l c2)
 have HC := Lib.hid (doW_cells w (M.room : Int) a n c q 4 nm to p l c2)
 clear hR hfs hX HF0 hq hA h
 unfold refV at HE HF
 unfold refV opV
 generalize (M.plan : Int) = pl at *
 generalize (M.room : Int) = ro at *
 go_enter Tryz.func74, Tryz.ntmps74
 go_wp2_with fail
 change Calls _ _ _ (doW w ro a n c q 4 nm to p l c2) _
 refine HF.out.mono ?_
 rintro e w2 ⟨hb2, h2⟩
 have hcs := (HC.out.below hb2).all
 have Hb2 := Lib.hid (Hb.out.trans (hb2.mono Hb.out.size))
 obtain rfl : e = .returned (.int .i64 (-1)) := by
  rcases h2 with ⟨i, _, _, h⟩ | ⟨e, _⟩
  ·rw [h] at hfd; rw [hno] at hfd; cases hfd
  ·exact e
 obtain ⟨⟨d0, d1, d2, d3⟩, ⟨o0, o1, o2, o3⟩, fd, fz, ⟨z0, z1, z2, z3⟩⟩ := hcs
 clear hb2 h2 hfd
 go_wp2_with fail
 refine (HN.out _).mono ?_
 rintro e w3 ⟨rfl, rfl⟩
 go_wp2_with fail
 refine (HT.out _).mono ?_
 rintro e w4 ⟨rfl, rfl⟩
 go_wp2_with fail
 (try simp only [Exit.inBlock, Exit.then])
 refine bodyPost_ret ?_ rfl (HE.out _ ?_)
 ·rw [results_cell_tmp rfl]
  go_simp
 ·repeat (first | exact Hb2.out | refine Below.setCell ?_ (by simp; try omega) _)

set_option maxRecDepth 100000 in
set_option maxHeartbeats 6400000 in
theorem rdo_no2 {X : Nat → Prop} {w : World} {v : Value} {M : DM} (h : RefAt X w v M) (hX : ∀ b, X b → b < w.heap.size) (hA : Alive M) (nm to : List UInt8) (p : Option Addr) (l c2 : Nat) (hnml : nm.length ≤ 9223372036854775807) (hnm : named nm = true) (hno : findN F.n nm M.fs = none) :
  Calls Tryz.prog 74 #[v, opV 2 nm to p l c2] w (DoEnd X w (failM M, 6)) := by
 obtain ⟨a, n, c, R, q, rfl, hR, hfs, hn, hwr, hmx, hq, hp1, hfd, HF0⟩ := do_start h hX hA 2 nm to p l c2
 have HF := Lib.hid HF0
 have HN := Lib.hid (show ∀ w, Calls Tryz.prog 117 #[.string ⟨nm.toArray⟩] w fun e w' => e = .returned (.bool true) ∧ w' = w from fun w => by rw [← hnm]; exact rnamed_any nm w hnml)
 have HE := Lib.hid (show ∀ (w' : World), Below w.heap.size w w' → DoEnd X w (failM M, 6) (.returned (.tuple #[refV (M.room : Int) a n c q false, .int .i64 6])) w' from fun w' hb => by
  refine ⟨a, n, c, R, ?_, (hR.below hX hb).mono (fun _ _ => rfl) (fun b hx => ⟨.inl hx, Nat.lt_of_lt_of_le (hX b hx) hb.size⟩), ?_, hb⟩
  ·rw [hA.eq, hq, ← hA.down]
  ·rw [hA.eq]; exact hfs)
 have Hb := Lib.hid (doW_below w (M.room : Int) a n c q 2 nm to p l c2)
 have HC := Lib.hid (doW_cells w (M.room : Int) a n c q 2 nm to p l c2)
 clear hR hfs hX HF0 hq hA h
 unfold refV at HE HF
 unfold refV opV
 generalize (M.plan : Int) = pl at *
 generalize (M.room : Int) = ro at *
 go_enter Tryz.func74, Tryz.ntmps74
 go_wp2_with fail
 change Calls _ _ _ (doW w ro a n c q 2 nm to p l c2) _
 refine HF.out.mono ?_
 rintro e w2 ⟨hb2, h2⟩
 have hcs := (HC.out.below hb2).all
 have Hb2 := Lib.hid (Hb.out.trans (hb2.mono Hb.out.size))
 obtain rfl : e = .returned (.int .i64 (-1)) := by
  rcases h2 with ⟨i, _, _, h⟩ | ⟨e, _⟩
  ·rw [h] at hfd; rw [hno] at hfd; cases hfd
  ·exact e
 obtain ⟨⟨d0, d1, d2, d3⟩, ⟨o0, o1, o2, o3⟩, fd, fz, ⟨z0, z1, z2, z3⟩⟩ := hcs
 clear hb2 h2 hfd
 go_wp2_with fail
 refine (HN.out _).mono ?_
 rintro e w3 ⟨rfl, rfl⟩
 go_wp2_with fail
 (try simp only [Exit.inBlock, Exit.then])
 refine bodyPost_ret ?_ rfl (HE.out _ ?_)
 ·rw [results_cell_tmp rfl]
  go_simp
 ·repeat (first | exact Hb2.out | refine Below.setCell ?_ (by simp; try omega) _)

set_option maxRecDepth 100000 in
set_option maxHeartbeats 6400000 in
theorem rdo_no3 {X : Nat → Prop} {w : World} {v : Value} {M : DM} (h : RefAt X w v M) (hX : ∀ b, X b → b < w.heap.size) (hA : Alive M) (nm to : List UInt8) (p : Option Addr) (l c2 : Nat) (hnml : nm.length ≤ 9223372036854775807) (hnm : named nm = true) (hno : findN F.n nm M.fs = none) :
  Calls Tryz.prog 74 #[v, opV 3 nm to p l c2] w (DoEnd X w (failM M, 6)) := by
 obtain ⟨a, n, c, R, q, rfl, hR, hfs, hn, hwr, hmx, hq, hp1, hfd, HF0⟩ := do_start h hX hA 3 nm to p l c2
 have HF := Lib.hid HF0
 have HN := Lib.hid (show ∀ w, Calls Tryz.prog 117 #[.string ⟨nm.toArray⟩] w fun e w' => e = .returned (.bool true) ∧ w' = w from fun w => by rw [← hnm]; exact rnamed_any nm w hnml)
 have HE := Lib.hid (show ∀ (w' : World), Below w.heap.size w w' → DoEnd X w (failM M, 6) (.returned (.tuple #[refV (M.room : Int) a n c q false, .int .i64 6])) w' from fun w' hb => by
  refine ⟨a, n, c, R, ?_, (hR.below hX hb).mono (fun _ _ => rfl) (fun b hx => ⟨.inl hx, Nat.lt_of_lt_of_le (hX b hx) hb.size⟩), ?_, hb⟩
  ·rw [hA.eq, hq, ← hA.down]
  ·rw [hA.eq]; exact hfs)
 have Hb := Lib.hid (doW_below w (M.room : Int) a n c q 3 nm to p l c2)
 have HC := Lib.hid (doW_cells w (M.room : Int) a n c q 3 nm to p l c2)
 clear hR hfs hX HF0 hq hA h
 unfold refV at HE HF
 unfold refV opV
 generalize (M.plan : Int) = pl at *
 generalize (M.room : Int) = ro at *
 go_enter Tryz.func74, Tryz.ntmps74
 go_wp2_with fail
 change Calls _ _ _ (doW w ro a n c q 3 nm to p l c2) _
 refine HF.out.mono ?_
 rintro e w2 ⟨hb2, h2⟩
 have hcs := (HC.out.below hb2).all
 have Hb2 := Lib.hid (Hb.out.trans (hb2.mono Hb.out.size))
 obtain rfl : e = .returned (.int .i64 (-1)) := by
  rcases h2 with ⟨i, _, _, h⟩ | ⟨e, _⟩
  ·rw [h] at hfd; rw [hno] at hfd; cases hfd
  ·exact e
 obtain ⟨⟨d0, d1, d2, d3⟩, ⟨o0, o1, o2, o3⟩, fd, fz, ⟨z0, z1, z2, z3⟩⟩ := hcs
 clear hb2 h2 hfd
 go_wp2_with fail
 refine (HN.out _).mono ?_
 rintro e w3 ⟨rfl, rfl⟩
 go_wp2_with fail
 (try simp only [Exit.inBlock, Exit.then])
 refine bodyPost_ret ?_ rfl (HE.out _ ?_)
 ·rw [results_cell_tmp rfl]
  go_simp
 ·repeat (first | exact Hb2.out | refine Below.setCell ?_ (by simp; try omega) _)

set_option maxRecDepth 100000 in
set_option maxHeartbeats 6400000 in
theorem rdo_no5 {X : Nat → Prop} {w : World} {v : Value} {M : DM} (h : RefAt X w v M) (hX : ∀ b, X b → b < w.heap.size) (hA : Alive M) (nm to : List UInt8) (p : Option Addr) (l c2 : Nat) (hnml : nm.length ≤ 9223372036854775807) (hnm : named nm = true) (hno : findN F.n nm M.fs = none) :
  Calls Tryz.prog 74 #[v, opV 5 nm to p l c2] w (DoEnd X w (failM M, 6)) := by
 obtain ⟨a, n, c, R, q, rfl, hR, hfs, hn, hwr, hmx, hq, hp1, hfd, HF0⟩ := do_start h hX hA 5 nm to p l c2
 have HF := Lib.hid HF0
 have HN := Lib.hid (show ∀ w, Calls Tryz.prog 117 #[.string ⟨nm.toArray⟩] w fun e w' => e = .returned (.bool true) ∧ w' = w from fun w => by rw [← hnm]; exact rnamed_any nm w hnml)
 have HE := Lib.hid (show ∀ (w' : World), Below w.heap.size w w' → DoEnd X w (failM M, 6) (.returned (.tuple #[refV (M.room : Int) a n c q false, .int .i64 6])) w' from fun w' hb => by
  refine ⟨a, n, c, R, ?_, (hR.below hX hb).mono (fun _ _ => rfl) (fun b hx => ⟨.inl hx, Nat.lt_of_lt_of_le (hX b hx) hb.size⟩), ?_, hb⟩
  ·rw [hA.eq, hq, ← hA.down]
  ·rw [hA.eq]; exact hfs)
 have Hb := Lib.hid (doW_below w (M.room : Int) a n c q 5 nm to p l c2)
 have HC := Lib.hid (doW_cells w (M.room : Int) a n c q 5 nm to p l c2)
 clear hR hfs hX HF0 hq hA h
 unfold refV at HE HF
 unfold refV opV
 generalize (M.plan : Int) = pl at *
 generalize (M.room : Int) = ro at *
 go_enter Tryz.func74, Tryz.ntmps74
 go_wp2_with fail
 change Calls _ _ _ (doW w ro a n c q 5 nm to p l c2) _
 refine HF.out.mono ?_
 rintro e w2 ⟨hb2, h2⟩
 have hcs := (HC.out.below hb2).all
 have Hb2 := Lib.hid (Hb.out.trans (hb2.mono Hb.out.size))
 obtain rfl : e = .returned (.int .i64 (-1)) := by
  rcases h2 with ⟨i, _, _, h⟩ | ⟨e, _⟩
  ·rw [h] at hfd; rw [hno] at hfd; cases hfd
  ·exact e
 obtain ⟨⟨d0, d1, d2, d3⟩, ⟨o0, o1, o2, o3⟩, fd, fz, ⟨z0, z1, z2, z3⟩⟩ := hcs
 clear hb2 h2 hfd
 go_wp2_with fail
 refine (HN.out _).mono ?_
 rintro e w3 ⟨rfl, rfl⟩
 go_wp2_with fail
 (try simp only [Exit.inBlock, Exit.then])
 refine bodyPost_ret ?_ rfl (HE.out _ ?_)
 ·rw [results_cell_tmp rfl]
  go_simp
 ·repeat (first | exact Hb2.out | refine Below.setCell ?_ (by simp; try omega) _)

set_option maxRecDepth 100000 in
set_option maxHeartbeats 6400000 in
theorem rdo_there {X : Nat → Prop} {w : World} {v : Value} {M : DM} (h : RefAt X w v M) (hX : ∀ b, X b → b < w.heap.size) (hA : Alive M) (nm to : List UInt8) (p : Option Addr) (l c2 : Nat) (hnml : nm.length ≤ 9223372036854775807) (hnm : named nm = true) (f : F) (hno : findN F.n nm M.fs = some f) :
  Calls Tryz.prog 74 #[v, opV 1 nm to p l c2] w (DoEnd X w (failM M, 7)) := by
 obtain ⟨a, n, c, R, q, rfl, hR, hfs, hn, hwr, hmx, hq, hp1, hfd, HF0⟩ := do_start h hX hA 1 nm to p l c2
 have HF := Lib.hid HF0
 have HN := Lib.hid (show ∀ w, Calls Tryz.prog 117 #[.string ⟨nm.toArray⟩] w fun e w' => e = .returned (.bool true) ∧ w' = w from fun w => by rw [← hnm]; exact rnamed_any nm w hnml)
 have HE := Lib.hid (show ∀ (w' : World), Below w.heap.size w w' → DoEnd X w (failM M, 7) (.returned (.tuple #[refV (M.room : Int) a n c q false, .int .i64 7])) w' from fun w' hb => by
  refine ⟨a, n, c, R, ?_, (hR.below hX hb).mono (fun _ _ => rfl) (fun b hx => ⟨.inl hx, Nat.lt_of_lt_of_le (hX b hx) hb.size⟩), ?_, hb⟩
  ·rw [hA.eq, hq, ← hA.down]
  ·rw [hA.eq]; exact hfs)
 have Hb := Lib.hid (doW_below w (M.room : Int) a n c q 1 nm to p l c2)
 have HC := Lib.hid (doW_cells w (M.room : Int) a n c q 1 nm to p l c2)
 clear hR hfs hX HF0 hq hA h
 unfold refV at HE HF
 unfold refV opV
 generalize (M.plan : Int) = pl at *
 generalize (M.room : Int) = ro at *
 go_enter Tryz.func74, Tryz.ntmps74
 go_wp2_with fail
 change Calls _ _ _ (doW w ro a n c q 1 nm to p l c2) _
 refine HF.out.mono ?_
 rintro e w2 ⟨hb2, h2⟩
 have hcs := (HC.out.below hb2).all
 have Hb2 := Lib.hid (Hb.out.trans (hb2.mono Hb.out.size))
 obtain ⟨z, rfl, hz⟩ : ∃ z : Nat, e = .returned (.int .i64 (z : Int)) ∧ 0 ≤ z := by
  rcases h2 with ⟨i, _, e, _⟩ | ⟨_, h⟩
  ·exact ⟨i, e, Nat.zero_le _⟩
  ·rw [h] at hfd; rw [hno] at hfd; cases hfd
 have hz0 : (0 : Int) ≤ (z : Int) := by omega
 have hz1 : ¬ (z : Int) < 0 := by omega
 obtain ⟨⟨d0, d1, d2, d3⟩, ⟨o0, o1, o2, o3⟩, fd, fz, ⟨z0, z1, z2, z3⟩⟩ := hcs
 clear hb2 h2 hfd
 go_wp2_with fail
 refine (HN.out _).mono ?_
 rintro e w3 ⟨rfl, rfl⟩
 go_wp2_with fail
 (try simp only [Exit.inBlock, Exit.then])
 refine bodyPost_ret ?_ rfl (HE.out _ ?_)
 ·rw [results_cell_tmp rfl]
  go_simp
 ·repeat (first | exact Hb2.out | refine Below.setCell ?_ (by simp; try omega) _)
end Go.Proofs.YtnbddiiedagllaaGreat

/- The walk of the reference's Do: a new file. -/
namespace Go.Proofs.YtnbddiiedagllaaGreat
open Go.RowKit Go.Maps Go.Shelf

theorem put_files {X : Nat → Prop} {w : World} {x : FR} {R : List FR} (hx : FileB X w x) (h : ∀ y ∈ R, FileB X w y) : ∀ y ∈ putN FR.n x R, FileB X w y := by
 intro y hy
 rcases (mem_insN FR.n x _ y).1 hy with rfl | hy
 ·exact hx
 ·exact h y (List.mem_filter.1 hy).1

theorem do_close {X Y : Nat → Prop} {w w4 w5 : World} {a : Option Addr} {n c : Nat} {L : List FR} {M : DM} {ro q k : Int} (hR : RowF Y w4 a n c L) (hY : ∀ b, Y b → (X b ∨ w.heap.size ≤ b) ∧ b < w4.heap.size) (hc : ∀ b, Y b → w5.heap[b]? = w4.heap[b]?) (hsz : w4.heap.size ≤ w5.heap.size) (hb : Below w.heap.size w w5)
  (hfs : L.map FR.f = M.fs) (hro : ro = (M.room : Int)) (hq : q = (M.plan : Int)) (hd : M.down = false) : DoEnd X w (M, k) (.returned (.tuple #[refV ro a n c q false, .int .i64 k])) w5 := by
 refine ⟨a, n, c, L, ?_, hR.mono hc (fun b h => ⟨(hY b h).1, Nat.lt_of_lt_of_le (hY b h).2 hsz⟩), hfs, hb⟩
 rw [hro, hq, hd]

set_option maxRecDepth 100000 in
set_option maxHeartbeats 6400000 in
theorem rdo_create {X : Nat → Prop} {w : World} {v : Value} {M : DM} (h : RefAt X w v M) (hX : ∀ b, X b → b < w.heap.size) (hA : Alive M) (nm to : List UInt8) (p : Option Addr) (l c2 : Nat) (hnml : nm.length ≤ 9223372036854775807) (hnm : named nm = true) (hno : findN F.n nm M.fs = none) :
  Calls Tryz.prog 74 #[v, opV 1 nm to p l c2] w (DoEnd X w ({ failM M with fs := putN F.n ⟨nm, [], 0⟩ M.fs }, 0)) := by
 obtain ⟨a, n, c, R, q, rfl, hR, hfs, hn, hwr, hmx, hq, hp1, hfd, HF0⟩ := do_start h hX hA 1 nm to p l c2
 have HF := Lib.hid HF0
 have HN := Lib.hid (show ∀ w, Calls Tryz.prog 117 #[.string ⟨nm.toArray⟩] w fun e w' => e = .returned (.bool true) ∧ w' = w from fun w => by rw [← hnm]; exact rnamed_any nm w hnml)
 have hx : ∀ W, FileB X W ⟨⟨nm, [], 0⟩, none, 0⟩ := fun W => ⟨bytes_nil W, formed_none 0 rfl, fun h => absurd h (Nat.lt_irrefl _), Nat.le_refl _, hnml⟩
 have HP := Lib.hid (show ∀ W, Below w.heap.size w W → Calls Tryz.prog 118 #[.slice a n c, .agg #[.string ⟨nm.toArray⟩, .slice none 0 0, .int .i64 0]] W fun e w' => ∃ v, e = .returned v ∧ w'.ownsRow W.heap.size 97 3 v (putN FR.n ⟨⟨nm, [], 0⟩, none, 0⟩ R).length (flatF (putN FR.n ⟨⟨nm, [], 0⟩, none, 0⟩ R)) ∧ Below W.heap.size W w' from fun W hW =>
  rput_any (hR.below hX hW) (fun b hb => Nat.lt_of_lt_of_le (hX b hb) hW.size) hn ⟨⟨nm, [], 0⟩, none, 0⟩ (hx W))
 have HFi := Lib.hid (show ∀ W, Below w.heap.size w W → ∀ y ∈ putN FR.n ⟨⟨nm, [], 0⟩, none, 0⟩ R, FileB X W y from fun W hW => put_files (hx W) (hR.below hX hW).files)
 have HE := Lib.hid (show ∀ (Y : Nat → Prop) (w4 w5 : World) a4 n4 c4, RowF Y w4 a4 n4 c4 (putN FR.n ⟨⟨nm, [], 0⟩, none, 0⟩ R) → (∀ b, Y b → (X b ∨ w.heap.size ≤ b) ∧ b < w4.heap.size) → (∀ b, Y b → w5.heap[b]? = w4.heap[b]?) → w4.heap.size ≤ w5.heap.size → Below w.heap.size w w5 →
   DoEnd X w ({ failM M with fs := putN F.n ⟨nm, [], 0⟩ M.fs }, 0) (.returned (.tuple #[refV (M.room : Int) a4 n4 c4 q false, .int .i64 0])) w5 from fun Y w4 w5 a4 n4 c4 h1 h2 h3 h4 h5 => do_close h1 h2 h3 h4 h5 (by rw [putN_map FR.n F.n FR.f (fun _ => rfl), hfs]) (by rw [hA.eq]) (by rw [hA.eq, hq]) (by rw [hA.eq]; exact hA.down))
 have HX := Lib.hid hX
 have Hb := Lib.hid (doW_below w (M.room : Int) a n c q 1 nm to p l c2)
 have HC := Lib.hid (doW_cells w (M.room : Int) a n c q 1 nm to p l c2)
 clear hR hfs hX HF0 hq hA h hx
 unfold refV at HE HF
 unfold refV opV
 generalize (M.plan : Int) = pl at *
 generalize (M.room : Int) = ro at *
 go_enter Tryz.func74, Tryz.ntmps74
 go_wp2_with fail
 change Calls _ _ _ (doW w ro a n c q 1 nm to p l c2) _
 refine HF.out.mono ?_
 rintro e w2 ⟨hb2, h2⟩
 have HC2 := Lib.hid (HC.out.below hb2)
 have hcs := HC2.out.all
 have Hb2 := Lib.hid (Hb.out.trans (hb2.mono Hb.out.size))
 obtain rfl : e = .returned (.int .i64 (-1)) := by
  rcases h2 with ⟨i, _, _, h⟩ | ⟨e, _⟩
  ·rw [h] at hfd; rw [hno] at hfd; cases hfd
  ·exact e
 obtain ⟨⟨d0, d1, d2, d3⟩, ⟨o0, o1, o2, o3⟩, fd, fz, ⟨z0, z1, z2, z3⟩⟩ := hcs
 clear hb2 h2 hfd
 go_wp2_with fail
 refine (HN.out _).mono ?_
 rintro e w3 ⟨rfl, rfl⟩
 go_wp2_with fail
 refine (HP.out _ Hb2.out).mono ?_
 rintro e w4 ⟨v4, rfl, hown, hb4⟩
 have Hb4 := Lib.hid (Hb2.out.trans (hb4.mono Hb2.out.size))
 have Hz := Lib.hid (show w.heap.size + 1 + 1 < w3.heap.size from (Array.getElem?_eq_some_iff.1 HC2.out.z).1)
 obtain ⟨a4, c4, rfl, hR4⟩ := rowF_own (X := X) (Y := fun b => (X b ∨ w.heap.size + 1 + 1 < b) ∧ b < w4.heap.size) hown (HFi.out _ Hb4.out) (fun b h => ⟨.inl h, by have := HX.out b h; have := Hb4.out.size; omega⟩) (fun b h1 h2 => ⟨.inr (by have := Hz.out; omega), h2⟩)
 have HR4 := Lib.hid hR4
 clear hown hR4 d0 d1 d2 d3 o0 o1 o2 o3 fd fz z0 z1 z2 z3
 have hcs := (HC2.out.below hb4).all
 obtain ⟨⟨d0, d1, d2, d3⟩, ⟨o0, o1, o2, o3⟩, fd, fz, ⟨z0, z1, z2, z3⟩⟩ := hcs
 clear hb4
 generalize (putN FR.n ⟨⟨nm, [], 0⟩, none, 0⟩ R) = L at *
 generalize L.length = n4 at *
 go_wp2_with fail
 (try simp only [Exit.inBlock, Exit.then])
 refine bodyPost_ret ?_ rfl (HE.out _ _ _ _ _ _ HR4.out (fun b h => ⟨h.1.imp id (fun h => by omega), h.2⟩) ?_ ?_ ?_)
 ·rw [results_cell_tmp rfl]
  go_simp
 ·rintro b ⟨hb, _⟩
  have hb := hb.imp (HX.out b) id
  repeat rw [Below.heap_setCell _ _ _ _ (by simp; omega)]
 ·simp only [World.size_setCell]; exact Nat.le_refl _
 ·repeat (first | exact Hb4.out | refine Below.setCell ?_ (by simp; try omega) _)
end Go.Proofs.YtnbddiiedagllaaGreat

/- The walk of the reference's Do: a file taken out. -/
namespace Go.Proofs.YtnbddiiedagllaaGreat
open Go.RowKit Go.Maps Go.Shelf

set_option maxRecDepth 100000 in
set_option maxHeartbeats 6400000 in
theorem rdo_remove {X : Nat → Prop} {w : World} {v : Value} {M : DM} (h : RefAt X w v M) (hX : ∀ b, X b → b < w.heap.size) (hA : Alive M) (nm to : List UInt8) (p : Option Addr) (l c2 : Nat) (hnml : nm.length ≤ 9223372036854775807) (hnm : named nm = true) (f : F) (hno : findN F.n nm M.fs = some f) :
  Calls Tryz.prog 74 #[v, opV 5 nm to p l c2] w (DoEnd X w ({ failM M with fs := delN F.n nm M.fs }, 0)) := by
 obtain ⟨a, n, c, R, q, rfl, hR, hfs, hn, hwr, hmx, hq, hp1, hfd, HF0⟩ := do_start h hX hA 5 nm to p l c2
 obtain ⟨x, hxR, hxf⟩ : ∃ x, findN FR.n nm R = some x ∧ x.f = f := by
  rw [hno] at hfd
  cases hx : findN FR.n nm R with
  | none => rw [hx] at hfd; cases hfd
  | some x => rw [hx] at hfd; exact ⟨x, rfl, (Option.some.inj hfd).symm⟩
 obtain ⟨hxm, hxn⟩ := findN_some hxR
 have HF := Lib.hid HF0
 have HN := Lib.hid (show ∀ w, Calls Tryz.prog 117 #[.string ⟨nm.toArray⟩] w fun e w' => e = .returned (.bool true) ∧ w' = w from fun w => by rw [← hnm]; exact rnamed_any nm w hnml)
 have HP := Lib.hid (show ∀ W, Below w.heap.size w W → Calls Tryz.prog 119 #[.slice a n c, .string ⟨nm.toArray⟩] W fun e w' => ∃ v, e = .returned v ∧ w'.ownsRow W.heap.size 97 3 v (delN FR.n nm R).length (flatF (delN FR.n nm R)) ∧ Below W.heap.size W w' from fun W hW =>
  rwithout_any (hR.below hX hW) (fun b hb => Nat.lt_of_lt_of_le (hX b hb) hW.size) hn nm)
 have HFi := Lib.hid (show ∀ W, Below w.heap.size w W → ∀ y ∈ delN FR.n nm R, FileB X W y from fun W hW y hy => (hR.below hX hW).files y (List.mem_filter.1 hy).1)
 have HE := Lib.hid (show ∀ (Y : Nat → Prop) (w4 w5 : World) a4 n4 c4, RowF Y w4 a4 n4 c4 (delN FR.n nm R) → (∀ b, Y b → (X b ∨ w.heap.size ≤ b) ∧ b < w4.heap.size) → (∀ b, Y b → w5.heap[b]? = w4.heap[b]?) → w4.heap.size ≤ w5.heap.size → Below w.heap.size w w5 →
   DoEnd X w ({ failM M with fs := delN F.n nm M.fs }, 0) (.returned (.tuple #[refV (M.room : Int) a4 n4 c4 q false, .int .i64 0])) w5 from fun Y w4 w5 a4 n4 c4 h1 h2 h3 h4 h5 => do_close h1 h2 h3 h4 h5 (by rw [delN_map FR.n F.n FR.f (fun _ => rfl), hfs]) (by rw [hA.eq]) (by rw [hA.eq, hq]) (by rw [hA.eq]; exact hA.down))
 have HX := Lib.hid hX
 have HR := Lib.hid (show ∀ W, Below w.heap.size w W → RowF X W a n c R from fun W hW => hR.below hX hW)
 have Hlen := Lib.hid hR.len
 have Hxm := Lib.hid hxm
 have Hxn := Lib.hid (show x.f.n = nm from hxn)
 have HxR := Lib.hid hxR
 have Hb := Lib.hid (doW_below w (M.room : Int) a n c q 5 nm to p l c2)
 have HC := Lib.hid (doW_cells w (M.room : Int) a n c q 5 nm to p l c2)
 clear hR hfs hX HF0 hq hA h hxm hxn hxR hfd hno hxf
 unfold refV at HE HF
 unfold refV opV
 generalize (M.plan : Int) = pl at *
 generalize (M.room : Int) = ro at *
 go_enter Tryz.func74, Tryz.ntmps74
 go_wp2_with fail
 change Calls _ _ _ (doW w ro a n c q 5 nm to p l c2) _
 refine HF.out.mono ?_
 rintro e w2 ⟨hb2, h2⟩
 have HC2 := Lib.hid (HC.out.below hb2)
 have hcs := HC2.out.all
 have Hb2 := Lib.hid (Hb.out.trans (hb2.mono Hb.out.size))
 obtain ⟨i, hi, rfl, hxi⟩ : ∃ (i : Nat) (hi : i < R.length), e = .returned (.int .i64 (i : Int)) ∧ R[i] = x := by
  rcases h2 with ⟨i, hi, e, h⟩ | ⟨_, h⟩
  ·exact ⟨i, hi, e, Option.some.inj (h.symm.trans HxR.out)⟩
  ·rw [HxR.out] at h; cases h
 have hin : (i : Int) < (n : Int) := by have := Hlen.out; omega
 have hz1 : ¬ (i : Int) < 0 := by omega
 obtain ⟨bb, oo, rfl, _, _⟩ := (HR.out _ Hb2.out).cell (by have := Hlen.out; omega)
 obtain ⟨k0, k1, k2⟩ := (HR.out _ Hb2.out).at i hi
 rw [hxi] at k0 k1 k2
 change w2.cell? ⟨bb, oo + i * 3, none⟩ = some (.string ⟨x.f.n.toArray⟩) at k0
 obtain ⟨⟨d0, d1, d2, d3⟩, ⟨o0, o1, o2, o3⟩, fd, fz, ⟨z0, z1, z2, z3⟩⟩ := hcs
 clear hb2 h2 hxi hi
 go_wp2_with fail
 refine (HN.out _).mono ?_
 rintro e w3 ⟨rfl, rfl⟩
 have Hb3 := Lib.hid (show ∀ o, Below w.heap.size w (w3.alloc o) from fun o => Hb2.out.alloc Hb2.out.size o)
 have HC3 := Lib.hid (show ∀ o, DoCells (w3.alloc o) w.heap.size ro (some ⟨bb, oo, none⟩) n c q 5 nm to p l c2 from fun o => HC2.out.below ((Below.refl _ _).alloc (Nat.le_refl _) o))
 have e0 := fun o => (HC3.out o).all.1.1
 have e1 := fun o => (HC3.out o).all.1.2.1
 have e2 := fun o => (HC3.out o).all.1.2.2.1
 have e3 := fun o => (HC3.out o).all.1.2.2.2
 have p0 := fun o => (HC3.out o).all.2.1.1
 have p1 := fun o => (HC3.out o).all.2.1.2.1
 have p2 := fun o => (HC3.out o).all.2.1.2.2.1
 have p3 := fun o => (HC3.out o).all.2.1.2.2.2
 have ge := fun o => (HC3.out o).all.2.2.1
 go_wp2_with fail
 refine (HP.out _ (Hb3.out _)).mono ?_
 rintro e w4 ⟨v4, rfl, hown, hb4⟩
 have Hb4 := Lib.hid ((Hb3.out _).trans (hb4.mono (Hb3.out _).size))
 have Hz := Lib.hid (Array.getElem?_eq_some_iff.1 (HC3.out (.cells #[.string ⟨x.f.n.toArray⟩, .slice x.pa x.f.b.length x.k, .int .i64 (x.f.d : Int)] 97)).z).1
 obtain ⟨a4, c4, rfl, hR4⟩ := rowF_own (X := X) (Y := fun b => (X b ∨ w.heap.size + 1 + 1 < b) ∧ b < w4.heap.size) hown (HFi.out _ Hb4.out) (fun b h => ⟨.inl h, by have := HX.out b h; have := Hb4.out.size; omega⟩) (fun b h1 h2 => ⟨.inr (by have := Hz.out; omega), h2⟩)
 have HR4 := Lib.hid hR4
 clear hown hR4 e0 e1 e2 e3 p0 p1 p2 p3 ge d0 d1 d2 d3 o0 o1 o2 o3 fd fz z0 z1 z2 z3 k0 k1 k2
 have hcs := ((HC3.out _).below hb4).all
 obtain ⟨⟨d0, d1, d2, d3⟩, ⟨o0, o1, o2, o3⟩, fd, fz, ⟨z0, z1, z2, z3⟩⟩ := hcs
 clear hb4
 generalize delN FR.n nm R = L at *
 generalize L.length = n4 at *
 go_wp2_with fail
 (try simp only [Exit.inBlock, Exit.then])
 refine bodyPost_ret ?_ rfl (HE.out _ _ _ _ _ _ HR4.out (fun b h => ⟨h.1.imp id (fun h => by omega), h.2⟩) ?_ ?_ ?_)
 ·rw [results_cell_tmp rfl]
  go_simp
 ·rintro b ⟨hb, _⟩
  have hb := hb.imp (HX.out b) id
  repeat rw [Below.heap_setCell _ _ _ _ (by simp; omega)]
 ·simp only [World.size_setCell]; exact Nat.le_refl _
 ·repeat (first | exact Hb4.out | refine Below.setCell ?_ (by simp; try omega) _)
end Go.Proofs.YtnbddiiedagllaaGreat

/- The walk of the reference's Do: a file made durable. -/
namespace Go.Proofs.YtnbddiiedagllaaGreat
open Go.RowKit Go.Maps Go.Shelf

set_option maxRecDepth 100000 in
set_option maxHeartbeats 6400000 in
theorem rdo_sync {X : Nat → Prop} {w : World} {v : Value} {M : DM} (h : RefAt X w v M) (hX : ∀ b, X b → b < w.heap.size) (hA : Alive M) (nm to : List UInt8) (p : Option Addr) (l c2 : Nat) (hnml : nm.length ≤ 9223372036854775807) (hnm : named nm = true) (f : F) (hno : findN F.n nm M.fs = some f) :
  Calls Tryz.prog 74 #[v, opV 3 nm to p l c2] w (DoEnd X w ({ failM M with fs := putN F.n ⟨nm, f.b, f.b.length⟩ M.fs }, 0)) := by
 obtain ⟨a, n, c, R, q, rfl, hR, hfs, hn, hwr, hmx, hq, hp1, hfd, HF0⟩ := do_start h hX hA 3 nm to p l c2
 obtain ⟨x, hxR, hxf⟩ : ∃ x, findN FR.n nm R = some x ∧ x.f = f := by
  rw [hno] at hfd
  cases hx : findN FR.n nm R with
  | none => rw [hx] at hfd; cases hfd
  | some x => rw [hx] at hfd; exact ⟨x, rfl, (Option.some.inj hfd).symm⟩
 obtain ⟨hxm, hxn⟩ := findN_some hxR
 have HF := Lib.hid HF0
 have HN := Lib.hid (show ∀ w, Calls Tryz.prog 117 #[.string ⟨nm.toArray⟩] w fun e w' => e = .returned (.bool true) ∧ w' = w from fun w => by rw [← hnm]; exact rnamed_any nm w hnml)
 have hx : ∀ W, Below w.heap.size w W → FileB X W ⟨⟨x.f.n, x.f.b, x.f.b.length⟩, x.pa, x.k⟩ := fun W hW => by
  have h1 := (hR.below hX hW).files x hxm
  exact ⟨h1.bytes, h1.form, h1.blk, Nat.le_refl _, h1.name⟩
 have HP := Lib.hid (show ∀ W, Below w.heap.size w W → Calls Tryz.prog 118 #[.slice a n c, .agg #[.string ⟨x.f.n.toArray⟩, .slice x.pa x.f.b.length x.k, .int .i64 (x.f.b.length : Int)]] W fun e w' => ∃ v, e = .returned v ∧ w'.ownsRow W.heap.size 97 3 v (putN FR.n ⟨⟨x.f.n, x.f.b, x.f.b.length⟩, x.pa, x.k⟩ R).length (flatF (putN FR.n ⟨⟨x.f.n, x.f.b, x.f.b.length⟩, x.pa, x.k⟩ R)) ∧ Below W.heap.size W w' from fun W hW =>
  rput_any (hR.below hX hW) (fun b hb => Nat.lt_of_lt_of_le (hX b hb) hW.size) hn ⟨⟨x.f.n, x.f.b, x.f.b.length⟩, x.pa, x.k⟩ (hx W hW))
 have HFi := Lib.hid (show ∀ W, Below w.heap.size w W → ∀ y ∈ putN FR.n ⟨⟨x.f.n, x.f.b, x.f.b.length⟩, x.pa, x.k⟩ R, FileB X W y from fun W hW => put_files (hx W hW) (hR.below hX hW).files)
 clear hx
 have HE := Lib.hid (show ∀ (Y : Nat → Prop) (w4 w5 : World) a4 n4 c4, RowF Y w4 a4 n4 c4 (putN FR.n ⟨⟨x.f.n, x.f.b, x.f.b.length⟩, x.pa, x.k⟩ R) → (∀ b, Y b → (X b ∨ w.heap.size ≤ b) ∧ b < w4.heap.size) → (∀ b, Y b → w5.heap[b]? = w4.heap[b]?) → w4.heap.size ≤ w5.heap.size → Below w.heap.size w w5 →
   DoEnd X w ({ failM M with fs := putN F.n ⟨nm, f.b, f.b.length⟩ M.fs }, 0) (.returned (.tuple #[refV (M.room : Int) a4 n4 c4 q false, .int .i64 0])) w5 from fun Y w4 w5 a4 n4 c4 h1 h2 h3 h4 h5 => do_close h1 h2 h3 h4 h5 (by rw [putN_map FR.n F.n FR.f (fun _ => rfl), hfs, ← hxf, ← hxn]; rfl) (by rw [hA.eq]) (by rw [hA.eq, hq]) (by rw [hA.eq]; exact hA.down))
 have HX := Lib.hid hX
 have HR := Lib.hid (show ∀ W, Below w.heap.size w W → RowF X W a n c R from fun W hW => hR.below hX hW)
 have Hlen := Lib.hid hR.len
 have Hxm := Lib.hid hxm
 have Hxn := Lib.hid (show x.f.n = nm from hxn)
 have HxR := Lib.hid hxR
 have Hb := Lib.hid (doW_below w (M.room : Int) a n c q 3 nm to p l c2)
 have HC := Lib.hid (doW_cells w (M.room : Int) a n c q 3 nm to p l c2)
 clear hR hfs hX HF0 hq hA h hxm hxn hxR hfd hno hxf
 unfold refV at HE HF
 unfold refV opV
 generalize (M.plan : Int) = pl at *
 generalize (M.room : Int) = ro at *
 go_enter Tryz.func74, Tryz.ntmps74
 go_wp2_with fail
 change Calls _ _ _ (doW w ro a n c q 3 nm to p l c2) _
 refine HF.out.mono ?_
 rintro e w2 ⟨hb2, h2⟩
 have HC2 := Lib.hid (HC.out.below hb2)
 have hcs := HC2.out.all
 have Hb2 := Lib.hid (Hb.out.trans (hb2.mono Hb.out.size))
 obtain ⟨i, hi, rfl, hxi⟩ : ∃ (i : Nat) (hi : i < R.length), e = .returned (.int .i64 (i : Int)) ∧ R[i] = x := by
  rcases h2 with ⟨i, hi, e, h⟩ | ⟨_, h⟩
  ·exact ⟨i, hi, e, Option.some.inj (h.symm.trans HxR.out)⟩
  ·rw [HxR.out] at h; cases h
 have hin : (i : Int) < (n : Int) := by have := Hlen.out; omega
 have hz1 : ¬ (i : Int) < 0 := by omega
 obtain ⟨bb, oo, rfl, _, _⟩ := (HR.out _ Hb2.out).cell (by have := Hlen.out; omega)
 obtain ⟨k0, k1, k2⟩ := (HR.out _ Hb2.out).at i hi
 rw [hxi] at k0 k1 k2
 change w2.cell? ⟨bb, oo + i * 3, none⟩ = some (.string ⟨x.f.n.toArray⟩) at k0
 obtain ⟨⟨d0, d1, d2, d3⟩, ⟨o0, o1, o2, o3⟩, fd, fz, ⟨z0, z1, z2, z3⟩⟩ := hcs
 clear hb2 h2 hxi hi
 go_wp2_with fail
 refine (HN.out _).mono ?_
 rintro e w3 ⟨rfl, rfl⟩
 have Hb3 := Lib.hid (show ∀ o, Below w.heap.size w (w3.alloc o) from fun o => Hb2.out.alloc Hb2.out.size o)
 have HC3 := Lib.hid (show ∀ o, DoCells (w3.alloc o) w.heap.size ro (some ⟨bb, oo, none⟩) n c q 3 nm to p l c2 from fun o => HC2.out.below ((Below.refl _ _).alloc (Nat.le_refl _) o))
 have e0 := fun o => (HC3.out o).all.1.1
 have e1 := fun o => (HC3.out o).all.1.2.1
 have e2 := fun o => (HC3.out o).all.1.2.2.1
 have e3 := fun o => (HC3.out o).all.1.2.2.2
 have p0 := fun o => (HC3.out o).all.2.1.1
 have p1 := fun o => (HC3.out o).all.2.1.2.1
 have p2 := fun o => (HC3.out o).all.2.1.2.2.1
 have p3 := fun o => (HC3.out o).all.2.1.2.2.2
 have ge := fun o => (HC3.out o).all.2.2.1
 go_wp2_with fail
 refine (HP.out _ (Hb3.out _)).mono ?_
 rintro e w4 ⟨v4, rfl, hown, hb4⟩
 have Hb4 := Lib.hid ((Hb3.out _).trans (hb4.mono (Hb3.out _).size))
 have Hz := Lib.hid (Array.getElem?_eq_some_iff.1 (HC3.out (.cells #[.string ⟨x.f.n.toArray⟩, .slice x.pa x.f.b.length x.k, .int .i64 (x.f.b.length : Int)] 97)).z).1
 obtain ⟨a4, c4, rfl, hR4⟩ := rowF_own (X := X) (Y := fun b => (X b ∨ w.heap.size + 1 + 1 < b) ∧ b < w4.heap.size) hown (HFi.out _ Hb4.out) (fun b h => ⟨.inl h, by have := HX.out b h; have := Hb4.out.size; omega⟩) (fun b h1 h2 => ⟨.inr (by have := Hz.out; omega), h2⟩)
 have HR4 := Lib.hid hR4
 clear hown hR4 e0 e1 e2 e3 p0 p1 p2 p3 ge d0 d1 d2 d3 o0 o1 o2 o3 fd fz z0 z1 z2 z3 k0 k1 k2
 have hcs := ((HC3.out _).below hb4).all
 obtain ⟨⟨d0, d1, d2, d3⟩, ⟨o0, o1, o2, o3⟩, fd, fz, ⟨z0, z1, z2, z3⟩⟩ := hcs
 clear hb4
 generalize putN FR.n ⟨⟨x.f.n, x.f.b, x.f.b.length⟩, x.pa, x.k⟩ R = L at *
 generalize L.length = n4 at *
 go_wp2_with fail
 (try simp only [Exit.inBlock, Exit.then])
 refine bodyPost_ret ?_ rfl (HE.out _ _ _ _ _ _ HR4.out (fun b h => ⟨h.1.imp id (fun h => by omega), h.2⟩) ?_ ?_ ?_)
 ·rw [results_cell_tmp rfl]
  go_simp
 ·rintro b ⟨hb, _⟩
  have hb := hb.imp (HX.out b) id
  repeat rw [Below.heap_setCell _ _ _ _ (by simp; omega)]
 ·simp only [World.size_setCell]; exact Nat.le_refl _
 ·repeat (first | exact Hb4.out | refine Below.setCell ?_ (by simp; try omega) _)
end Go.Proofs.YtnbddiiedagllaaGreat

