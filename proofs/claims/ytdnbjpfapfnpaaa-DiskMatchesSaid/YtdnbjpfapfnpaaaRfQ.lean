/- The walk of the reference's Do: names that are no names. -/
import Derived.Test.YtdnbjpfapfnpaaaRfO
import Derived.IntWalk
namespace Go.Proofs.Ytdnbjpfapfnpaaa
open Go.RowKit Go.Maps Go.Shelf

/-- A disk that is alive before a change. -/
structure Alive (M : DM) : Prop where
  down : M.down = false
  plan : M.plan ≠ 1
  le : M.plan ≤ 9223372036854775807

theorem Alive.eq {M : DM} (h : Alive M) : failM M = { M with plan := M.plan - 1 } := by
  unfold failM
  rw [if_neg (by rw [h.down]; decide), if_neg h.plan]

/-- The cells of Do's variables. -/
structure DoCells (w : World) (B : Nat) (ro : Int) (a : Option Addr) (n c : Nat) (q : Int) (k : Int) (nm to : List UInt8) (p : Option Addr) (l c2 : Nat) : Prop where
  d : w.heap[B]? = some (.cells #[.int .i64 ro, .slice a n c, .int .i64 q, .bool false] 29 (0, 0))
  o : w.heap[B + 1]? = some (.cells #[.int .i64 k, .string ⟨nm.toArray⟩, .string ⟨to.toArray⟩, .slice p l c2] 32 (0, 0))
  z : w.heap[B + 1 + 1]? = some (.cells #[.int .i64 0, .slice none 0 0, .int .i64 0, .bool false] 29 (0, 0))

def doW (w : World) (ro : Int) (a : Option Addr) (n c : Nat) (q : Int) (k : Int) (nm to : List UInt8) (p : Option Addr) (l c2 : Nat) : World :=
  ((w.alloc (.cells #[.int .i64 ro, .slice a n c, .int .i64 q, .bool false] 29)).alloc (.cells #[.int .i64 k, .string ⟨nm.toArray⟩, .string ⟨to.toArray⟩, .slice p l c2] 32)).alloc (.cells #[.int .i64 0, .slice none 0 0, .int .i64 0, .bool false] 29)

theorem doW_below (w : World) (ro : Int) (a : Option Addr) (n c : Nat) (q : Int) (k : Int) (nm to : List UInt8) (p : Option Addr) (l c2 : Nat) : Below w.heap.size w (doW w ro a n c q k nm to p l c2) := by
  unfold doW
  have h1 := (Below.refl w.heap.size w).alloc (Nat.le_refl _) (.cells #[.int .i64 ro, .slice a n c, .int .i64 q, .bool false] 29)
  have h2 := h1.alloc h1.size (.cells #[.int .i64 k, .string ⟨nm.toArray⟩, .string ⟨to.toArray⟩, .slice p l c2] 32)
  exact h2.alloc h2.size _

theorem doW_cells (w : World) (ro : Int) (a : Option Addr) (n c : Nat) (q : Int) (k : Int) (nm to : List UInt8) (p : Option Addr) (l c2 : Nat) : DoCells (doW w ro a n c q k nm to p l c2) w.heap.size ro a n c q k nm to p l c2 := by
  unfold doW
  have e1 : (w.alloc (.cells #[.int .i64 ro, .slice a n c, .int .i64 q, .bool false] 29)).heap.size = w.heap.size + 1 := Array.size_push _
  have e2 : ((w.alloc (.cells #[.int .i64 ro, .slice a n c, .int .i64 q, .bool false] 29)).alloc (.cells #[.int .i64 k, .string ⟨nm.toArray⟩, .string ⟨to.toArray⟩, .slice p l c2] 32)).heap.size = w.heap.size + 1 + 1 := by rw [show ∀ (w : World) (o : Obj), (w.alloc o).heap.size = w.heap.size + 1 from fun _ _ => Array.size_push _, e1]
  refine ⟨?_, ?_, ?_⟩
  · rw [heap_alloc_old _ _ (by rw [e2]; omega), heap_alloc_old _ _ (by rw [e1]; omega)]
    exact heap_alloc_new w _
  · rw [heap_alloc_old _ _ (by rw [e2]; omega)]
    have h := heap_alloc_new (w.alloc (.cells #[.int .i64 ro, .slice a n c, .int .i64 q, .bool false] 29)) (.cells #[.int .i64 k, .string ⟨nm.toArray⟩, .string ⟨to.toArray⟩, .slice p l c2] 32)
    rw [e1] at h
    exact h
  · have h := heap_alloc_new ((w.alloc (.cells #[.int .i64 ro, .slice a n c, .int .i64 q, .bool false] 29)).alloc (.cells #[.int .i64 k, .string ⟨nm.toArray⟩, .string ⟨to.toArray⟩, .slice p l c2] 32)) (.cells #[.int .i64 0, .slice none 0 0, .int .i64 0, .bool false] 29)
    rw [e2] at h
    exact h

theorem DoCells.below {w w' : World} {B : Nat} {ro : Int} {a : Option Addr} {n c : Nat} {q k : Int} {nm to : List UInt8} {p : Option Addr} {l c2 : Nat} (h : DoCells w B ro a n c q k nm to p l c2) (hb : Below w.heap.size w w') : DoCells w' B ro a n c q k nm to p l c2 := by
  have lt : ∀ {g : Nat} {x : Obj}, w.heap[g]? = some x → g < w.heap.size := fun hg => (Array.getElem?_eq_some_iff.1 hg).1
  exact ⟨(hb.block _ (lt h.d)).trans h.d, (hb.block _ (lt h.o)).trans h.o, (hb.block _ (lt h.z)).trans h.z⟩

/-- .. one by one. -/
theorem DoCells.all {w : World} {B : Nat} {ro : Int} {a : Option Addr} {n c : Nat} {q k : Int} {nm to : List UInt8} {p : Option Addr} {l c2 : Nat} (h : DoCells w B ro a n c q k nm to p l c2) :
    (w.cell? ⟨B, 0, none⟩ = some (.int .i64 ro) ∧ w.cell? ⟨B, 1, none⟩ = some (.slice a n c) ∧ w.cell? ⟨B, 2, none⟩ = some (.int .i64 q) ∧ w.cell? ⟨B, 3, none⟩ = some (.bool false)) ∧
    (w.cell? ⟨B + 1, 0, none⟩ = some (.int .i64 k) ∧ w.cell? ⟨B + 1, 1, none⟩ = some (.string ⟨nm.toArray⟩) ∧ w.cell? ⟨B + 1, 2, none⟩ = some (.string ⟨to.toArray⟩) ∧ w.cell? ⟨B + 1, 3, none⟩ = some (.slice p l c2)) ∧
    (∀ j, w.frozen? ⟨B, j, none⟩ = false) ∧ (∀ j, w.frozen? ⟨B + 1 + 1, j, none⟩ = false) ∧
    (w.cell? ⟨B + 1 + 1, 0, none⟩ = some (.int .i64 0) ∧ w.cell? ⟨B + 1 + 1, 1, none⟩ = some (.slice none 0 0) ∧ w.cell? ⟨B + 1 + 1, 2, none⟩ = some (.int .i64 0) ∧ w.cell? ⟨B + 1 + 1, 3, none⟩ = some (.bool false)) := by
  refine ⟨⟨?_, ?_, ?_, ?_⟩, ⟨?_, ?_, ?_, ?_⟩, fun j => by simp [World.frozen?, h.d], fun j => by simp [World.frozen?, h.z], ⟨?_, ?_, ?_, ?_⟩⟩
  · rw [cell_of_row _ _ _ _ _ _ h.d]; rfl
  · rw [cell_of_row _ _ _ _ _ _ h.d]; rfl
  · rw [cell_of_row _ _ _ _ _ _ h.d]; rfl
  · rw [cell_of_row _ _ _ _ _ _ h.d]; rfl
  · rw [cell_of_row _ _ _ _ _ _ h.o]; rfl
  · rw [cell_of_row _ _ _ _ _ _ h.o]; rfl
  · rw [cell_of_row _ _ _ _ _ _ h.o]; rfl
  · rw [cell_of_row _ _ _ _ _ _ h.o]; rfl
  · rw [cell_of_row _ _ _ _ _ _ h.z]; rfl
  · rw [cell_of_row _ _ _ _ _ _ h.z]; rfl
  · rw [cell_of_row _ _ _ _ _ _ h.z]; rfl
  · rw [cell_of_row _ _ _ _ _ _ h.z]; rfl

/-- How a change begins: what the walk needs. -/
theorem do_start {X : Nat → Prop} {w : World} {v : Value} {M : DM} (h : RefAt X w v M) (hX : ∀ b, X b → b < w.heap.size) (hA : Alive M) (k : Int) (nm to : List UInt8) (p : Option Addr) (l c2 : Nat) :
    ∃ a n c R q, v = refV (M.room : Int) a n c (M.plan : Int) false ∧ RowF X w a n c R ∧ R.map FR.f = M.fs ∧ n ≤ 1000000 ∧ IntKind.i64.wrap ((M.plan : Int) - 1) = (M.plan : Int) - 1 ∧ max ((M.plan : Int) - 1) 0 = q ∧ q = ((M.plan - 1 : Nat) : Int) ∧ ((M.plan : Int) == 1) = false ∧
      findN F.n nm M.fs = (findN FR.n nm R).map FR.f ∧
      Calls Try.prog 39 #[refV (M.room : Int) a n c q false, .string ⟨nm.toArray⟩] (doW w (M.room : Int) a n c q k nm to p l c2) (FindEnd (doW w (M.room : Int) a n c q k nm to p l c2) R nm) := by
  obtain ⟨a, n, c, R, rfl, hR, hfs, hn⟩ := h
  have hle := hA.le
  have hp1 := hA.plan
  refine ⟨a, n, c, R, ((M.plan - 1 : Nat) : Int), by rw [hA.down], hR, hfs, hn, ?_, ?_, rfl, beq_eq_false_iff_ne.2 (fun e => hp1 (by omega)), by rw [← hfs]; exact findN_map FR.n F.n FR.f (fun _ => rfl) nm R, ?_⟩
  · exact IntWalk.i64_in _ (by omega)
  · omega
  · have hb := doW_below w (M.room : Int) a n c ((M.plan - 1 : Nat) : Int) k nm to p l c2
    exact rfind_any (hR.below hX hb) (fun b hx => Nat.lt_of_lt_of_le (hX b hx) hb.size) nm (M.room : Int) ((M.plan - 1 : Nat) : Int) false
set_option maxRecDepth 100000 in
set_option maxHeartbeats 6400000 in
theorem rdo_name {X : Nat → Prop} {w : World} {v : Value} {M : DM} (h : RefAt X w v M) (hX : ∀ b, X b → b < w.heap.size) (hA : Alive M) (k : Int) (nm to : List UInt8) (p : Option Addr) (l c2 : Nat) (hl : nm.length ≤ 9223372036854775807) (hnm : named nm = false) :
    Calls Try.prog 22 #[v, opV k nm to p l c2] w (DoEnd X w (failM M, 6)) := by
  obtain ⟨a, n, c, R, q, rfl, hR, hfs, hn, hwr, hmx, hq, hp1, hfd, HF0⟩ := do_start h hX hA k nm to p l c2
  have HF := Lib.hid HF0
  have HN := Lib.hid (show ∀ w, Calls Try.prog 40 #[.string ⟨nm.toArray⟩] w fun e w' => e = .returned (.bool false) ∧ w' = w from fun w => by rw [← hnm]; exact rnamed_any nm w hl)
  have HE := Lib.hid (show ∀ (w' : World), Below w.heap.size w w' → DoEnd X w (failM M, 6) (.returned (.tuple #[refV (M.room : Int) a n c q false, .int .i64 6])) w' from fun w' hb => by
    refine ⟨a, n, c, R, ?_, (hR.below hX hb).mono (fun _ _ => rfl) (fun b hx => ⟨.inl hx, Nat.lt_of_lt_of_le (hX b hx) hb.size⟩), ?_, hb⟩
    · rw [hA.eq, hq, ← hA.down]
    · rw [hA.eq]; exact hfs)
  have Hb := Lib.hid (doW_below w (M.room : Int) a n c q k nm to p l c2)
  have HC := Lib.hid (doW_cells w (M.room : Int) a n c q k nm to p l c2)
  clear hR hfs hX HF0 hq hfd hA h
  unfold refV at HE HF
  unfold refV opV
  generalize (M.plan : Int) = pl at *
  generalize (M.room : Int) = ro at *
  go_enter Try.func22, Try.ntmps22
  go_wp2_with fail
  change Calls _ _ _ (doW w ro a n c q k nm to p l c2) _
  refine HF.out.mono ?_
  rintro e w2 ⟨hb2, h2⟩
  have hcs := (HC.out.below hb2).all
  have Hb2 := Lib.hid (Hb.out.trans (hb2.mono Hb.out.size))
  obtain ⟨z, rfl⟩ : ∃ z, e = .returned (.int .i64 z) := by
    rcases h2 with ⟨i, _, e, _⟩ | ⟨e, _⟩
    · exact ⟨_, e⟩
    · exact ⟨_, e⟩
  obtain ⟨⟨d0, d1, d2, d3⟩, ⟨o0, o1, o2, o3⟩, fd, fz, ⟨z0, z1, z2, z3⟩⟩ := hcs
  clear hb2 h2
  go_wp2_with fail
  refine (HN.out _).mono ?_
  rintro e w3 ⟨rfl, rfl⟩
  go_wp2_with fail
  (try simp only [Exit.inBlock, Exit.then])
  refine bodyPost_ret ?_ rfl (HE.out _ ?_)
  · rw [results_cell_tmp rfl]
    go_simp
  · repeat (first | exact Hb2.out | refine Below.setCell ?_ (by simp; try omega) _)
end Go.Proofs.Ytdnbjpfapfnpaaa
