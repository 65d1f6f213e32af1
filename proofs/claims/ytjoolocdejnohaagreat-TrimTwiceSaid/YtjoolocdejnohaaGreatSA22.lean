import Derived.Test.YtjoolocdejnohaaGreatSA18
import Derived.Test.YtjoolocdejnohaaGreatSA21
import Derived.Test.YtjoolocdejnohaaGreatSA15
import Derived.Test.YtjoolocdejnohaaGreatSA5
import Derived.RangeFuncBox
import Derived.RangeFuncLeaves
import Derived.Shelf.Abstract
import Derived.Test.YtjoolocdejnohaaGreatSA12
import Derived.OwnWalkIn
import Derived.TacticsInMore
import Derived.LoopNIn
import Derived.LoopIn
import Derived.Maps.OwnIn
import Derived.BigQuiet
import Derived.Deep.RegionHeld
/- Facts that the statements' loops ask for: logs beside blocks that turn, a box that holds a log of the reference, how small the files of a log are. -/
namespace Go.Proofs.YtjoolocdejnohaaGreat
open Go.RowKit Go.Maps Go.Shelf

theorem filesL_names {B : List (List (List Nat))} {c : List (List Nat)} {k : Nat} : (filesL B c k).map F.n = (List.range (B.length + 1)).map fun i => nmB (i + 1) := by
  unfold filesL
  apply List.ext_getElem (by simp)
  intro i h1 h2
  rw [List.getElem_map, List.getElem_map, List.getElem_range]
  by_cases h : i < B.length
  · rw [List.getElem_append_left (by rw [List.length_mapIdx]; exact h), List.getElem_mapIdx]
    rfl
  · have e : i = B.length := by simp at h2; omega
    subst e
    rw [List.getElem_append_right (by rw [List.length_mapIdx]; exact Nat.le_refl _)]
    simp [lastF]

section
variable {W : WM} {B : List (List (List Nat))} {c : List (List Nat)}

theorem LInv.sorted (h : LInv W B c) : Sorted W.D.fs := by
  have hn := h.n
  have hm := h.nmax
  have e : (W.D.fs.map F.n) = (List.range (B.length + 1)).map fun i => nmB (i + 1) := by rw [h.fs]; exact filesL_names
  have h2 : ((List.range (B.length + 1)).map fun i => nmB (i + 1)).Pairwise fun x y => x < y := by
    rw [List.pairwise_map, List.pairwise_iff_getElem]
    intro i j hi hj hij
    rw [List.length_range] at hi hj
    rw [List.getElem_range, List.getElem_range]
    refine (before_lt _ _).1 ?_
    rw [nmB_before (by omega) (by omega)]
    exact decide_eq_true (by omega)
  rw [← e, List.pairwise_map] at h2
  exact h2

theorem LInv.small (h : LInv W B c) : W.D.fs.length = W.n ∧ usedF W.D.fs = sizeL (B.flatten ++ c) ∧ ∀ f ∈ W.D.fs, f.n.length ≤ 9223372036854775807 := by
  have e : (W.D.fs.map F.n) = (List.range (B.length + 1)).map fun i => nmB (i + 1) := by rw [h.fs]; exact filesL_names
  refine ⟨?_, by rw [h.fs]; exact filesL_used B c W.wait, fun f hf => ?_⟩
  · have := congrArg List.length e
    rw [List.length_map, List.length_map, List.length_range] at this
    rw [this, h.n]
  · have h1 : f.n ∈ W.D.fs.map F.n := List.mem_map.2 ⟨f, hf, rfl⟩
    rw [e] at h1
    obtain ⟨i, _, e2⟩ := List.mem_map.1 h1
    rw [← e2]
    unfold nmB
    rw [List.length_map, nameL_len]
    decide

theorem LInv.bound (h : LInv W B c) : W.size ≤ sizeL (B.flatten ++ c) ∧ W.wait ≤ (B.flatten ++ c).length := by
  have h1 := h.size
  have h2 := h.wait
  rw [sizeL_append, List.length_append]
  omega
end

theorem sizeL_takes (ls : List (List Nat)) (j : Nat) : sizeL (ls.take j) ≤ sizeL ls := by
  conv => rhs; rw [← List.take_append_drop j ls, sizeL_append]
  omega

/-- Blocks of X or new ones have turned: the disk stands. -/
theorem Own.turned {w0 : World} {X Y T : Nat → Prop} {w w' : World} {d : Nat} {M : DM} (h : Own w0 X w d M) (hc : Chg T w w') (hT : ∀ b, T b → X b) (h0 : ∀ b, T b → w0.heap.size ≤ b) (hY : ∀ b, Y b → X b ∨ (w.heap.size ≤ b ∧ b < w'.heap.size)) : Own w0 Y w' d M := by
  obtain ⟨S, hD, hS, hX, hb⟩ := h
  have hlt : ∀ b, S b → b < w.heap.size := by
    obtain ⟨mb, p, L, hA⟩ := hD
    exact hA.bound
  refine ⟨S, hD.aside hc (fun b hs ht => (hS b hs).2 (hT b ht)), fun b hs => ⟨(hS b hs).1, fun hy => ?_⟩, fun b hy => ?_, hb.trans (hc.below h0 hb.size)⟩
  · rcases hY b hy with h1 | h1
    · exact (hS b hs).2 h1
    · have := hlt b hs; omega
  · rcases hY b hy with h1 | h1
    · exact Nat.lt_of_lt_of_le (hX b h1) hc.size
    · exact h1.2

section
variable {w0 : World} {Y : Nat → Prop} {w : World} {g d : Nat} {W : WM}

theorem LogAt.turned (h : LogAt w0 Y w g d W) {T : Nat → Prop} {w' : World} (hc : Chg T w w') (hT : ∀ b, T b → Y b ∧ b ≠ g ∧ w0.heap.size ≤ b) : LogAt w0 (fun b => Y b ∨ (w.heap.size ≤ b ∧ b < w'.heap.size)) w' g d W :=
  ⟨h.own.turned hc (fun b hb => (hT b hb).1) (fun b hb => (hT b hb).2.2) (fun _ hb => hb), .inl h.inY, h.new, (hc.block g h.lt (fun e => (hT g e).2.1 rfl)).trans h.cells⟩
end

/-- The box B holds the reference's log W, its files in blocks of X. -/
def RBox (X : Nat → Prop) (w : World) (B : Nat) (W : WM) : Prop :=
  ∃ a n c R, w.heap[B]? = some (logO (W.D.room : Int) a n c (W.D.plan : Int) W.D.down W.most (W.n : Int) (W.size : Int) (W.wait : Int)) ∧ RowF X w a n c R ∧ R.map FR.f = W.D.fs ∧ n ≤ 1000000 ∧ ∀ b, X b → b < w.heap.size ∧ b ≠ B

/-- .. behind new memory. -/
theorem RBox.below {X : Nat → Prop} {w w' : World} {B : Nat} {W : WM} (h : RBox X w B W) (hb : Below w.heap.size w w') : RBox X w' B W := by
  obtain ⟨a, n, c, R, h1, h2, h3, h4, h5⟩ := h
  exact ⟨a, n, c, R, (hb.block B (Array.getElem?_eq_some_iff.1 h1).1).trans h1, h2.below (fun b hx => (h5 b hx).1) hb, h3, h4, fun b hx => ⟨Nat.lt_of_lt_of_le (h5 b hx).1 hb.size, (h5 b hx).2⟩⟩

theorem RBox.ref {X : Nat → Prop} {w : World} {B : Nat} {W : WM} (h : RBox X w B W) : ∃ a n c R, w.heap[B]? = some (logO (W.D.room : Int) a n c (W.D.plan : Int) W.D.down W.most (W.n : Int) (W.size : Int) (W.wait : Int)) ∧
    RLogAt X w (logV (W.D.room : Int) a n c (W.D.plan : Int) W.D.down W.most (W.n : Int) (W.size : Int) (W.wait : Int)) W ∧ RefAt X w (refV (W.D.room : Int) a n c (W.D.plan : Int) W.D.down) W.D ∧ RowF X w a n c R := by
  obtain ⟨a, n, c, R, h1, h2, h3, h4, h5⟩ := h
  exact ⟨a, n, c, R, h1, ⟨a, n, c, R, rfl, h2, h3, h4⟩, ⟨a, n, c, R, rfl, h2, h3, h4⟩, h2⟩

/-- The eight stores of an assignment to it. -/
def set8 (w : World) (B : Nat) (v0 v1 v2 v3 v4 v5 v6 v7 : Value) : World :=
  ((((((((w.setCell ⟨B, 0, none⟩ v0).setCell ⟨B, 1, none⟩ v1).setCell ⟨B, 2, none⟩ v2).setCell ⟨B, 3, none⟩ v3).setCell ⟨B, 4, none⟩ v4).setCell ⟨B, 5, none⟩ v5).setCell ⟨B, 6, none⟩ v6).setCell ⟨B, 7, none⟩ v7)

theorem set8_size (w : World) (B : Nat) (v0 v1 v2 v3 v4 v5 v6 v7 : Value) : (set8 w B v0 v1 v2 v3 v4 v5 v6 v7).heap.size = w.heap.size := by
  unfold set8; simp

theorem set8_chg (w : World) (B : Nat) (v0 v1 v2 v3 v4 v5 v6 v7 : Value) : Chg (fun b => b = B) w (set8 w B v0 v1 v2 v3 v4 v5 v6 v7) :=
  ((((((((Chg.set (fun b => b = B) w rfl v0).same (Chg.set (fun b => b = B) _ rfl v1)).same (Chg.set (fun b => b = B) _ rfl v2)).same (Chg.set (fun b => b = B) _ rfl v3)).same (Chg.set (fun b => b = B) _ rfl v4)).same (Chg.set (fun b => b = B) _ rfl v5)).same (Chg.set (fun b => b = B) _ rfl v6)).same (Chg.set (fun b => b = B) _ rfl v7))

theorem rbox_set {Z : Nat → Prop} {w : World} {B : Nat} {z0 z1 z2 z3 z4 z5 z6 z7 : Value} (hB : w.heap[B]? = some (.cells #[z0, z1, z2, z3, z4, z5, z6, z7] 47 (0, 0))) {a : Option Addr} {n c : Nat} {R : List FR} (hR : RowF Z w a n c R) (hZ : ∀ b, Z b → b < w.heap.size ∧ b ≠ B) {W : WM} (hf : R.map FR.f = W.D.fs) (hn : n ≤ 1000000) :
    RBox Z (set8 w B (.int .i64 (W.D.room : Int)) (.slice a n c) (.int .i64 (W.D.plan : Int)) (.bool W.D.down) (.int .i64 W.most) (.int .i64 (W.n : Int)) (.int .i64 (W.size : Int)) (.int .i64 (W.wait : Int))) B W := by
  refine ⟨a, n, c, R, ?_, hR.mono (fun b h => ?_) (fun _ h => h), hf, hn, fun b hb => ⟨by rw [set8_size]; exact (hZ b hb).1, (hZ b hb).2⟩⟩
  · unfold set8
    have h1 := set_head (i := 0) hB (.int .i64 (W.D.room : Int))
    have h2 := set_head (i := 1) h1 (.slice a n c)
    have h3 := set_head (i := 2) h2 (.int .i64 (W.D.plan : Int))
    have h4 := set_head (i := 3) h3 (.bool W.D.down)
    have h5 := set_head (i := 4) h4 (.int .i64 W.most)
    have h6 := set_head (i := 5) h5 (.int .i64 (W.n : Int))
    have h7 := set_head (i := 6) h6 (.int .i64 (W.size : Int))
    have h8 := set_head (i := 7) h7 (.int .i64 (W.wait : Int))
    simpa [logO] using h8
  · exact (set8_chg w B _ _ _ _ _ _ _ _).block b (hZ b h).1 (hZ b h).2

/-- What an assignment of a call's answer to the box leaves. -/
theorem rbox_put {X : Nat → Prop} {w w5 : World} {B : Nat} {W r : WM} (h : RBox X w B W) {a : Option Addr} {n c : Nat} {R : List FR} (hR : RowF (fun b => (X b ∨ w.heap.size ≤ b) ∧ b < w5.heap.size) w5 a n c R) (hf : R.map FR.f = r.D.fs) (hb : Below w.heap.size w w5) (hn : r.D.fs.length ≤ 1000000) :
    RBox (fun b => (X b ∨ w.heap.size ≤ b) ∧ b < w5.heap.size) (set8 w5 B (.int .i64 (r.D.room : Int)) (.slice a n c) (.int .i64 (r.D.plan : Int)) (.bool r.D.down) (.int .i64 r.most) (.int .i64 (r.n : Int)) (.int .i64 (r.size : Int)) (.int .i64 (r.wait : Int))) B r := by
  obtain ⟨a0, n0, c0, R0, h1, h2, h3, h4, h5⟩ := h
  have hlt := (Array.getElem?_eq_some_iff.1 h1).1
  refine rbox_set ((hb.block B hlt).trans h1) hR (fun b hb => ⟨hb.2, fun e => ?_⟩) hf ?_
  · rcases hb.1 with h6 | h6
    · exact (h5 b h6).2 e
    · omega
  · rw [← hR.len, ← List.length_map (f := FR.f), hf]
    exact hn

end Go.Proofs.YtjoolocdejnohaaGreat

/- The walks of Open once more (its bytes lie in memory of its own), and of Next, of the code and of the reference. -/
namespace Go.Proofs.YtjoolocdejnohaaGreat
open Go.RowKit Crc

/-- What Open answers: the bytes lie at the start of a row of the call's own. -/
def OpenOwn (w : World) (l : List Nat) (e : Ending) (w' : World) : Prop :=
  Below w.heap.size w w' ∧ ((∃ b, sealL b = l ∧ ∃ g, e = .returned (.tuple #[.slice (some ⟨g, 0, none⟩) b.length b.length, .bool true]) ∧ w.heap.size ≤ g ∧ U8Row w' g b.length ∧ Bytes w' (some ⟨g, 0, none⟩) b.length b.length b) ∨ ((∀ b, sealL b ≠ l) ∧ e = .returned (.tuple #[.slice none 0 0, .bool false])))

set_option maxRecDepth 100000 in
theorem open_own (a : Addr) (n cap : Nat) (l : List Nat) (w : World) (hl : Bytes w (some a) n cap l) (hn : 4 ≤ n) (hm : n ≤ 100000000000000) :
    Calls Tryz.prog 214 #[.slice (some a) n cap] w (OpenOwn w l) := by
  have hB := Lib.hid hl
  have hle := hl.le
  clear hl
  obtain ⟨m, rfl⟩ : ∃ m, n = m + 4 := ⟨n - 4, by omega⟩
  have hT : Bytes w (some a) m m (l.take m) := hB.out.takeTo (by omega) (Nat.le_refl _) (by omega)
  have hT := Lib.hid hT
  have hsl : (sealL (l.take m)).length = m + 4 := by rw [sealL_len, hT.out.len]
  have hsl := Lib.hid hsl
  rename_i hT0 hsl0; clear hT0 hsl0
  go_enter Tryz.func214, Tryz.ntmps214
  go_wp2_with fail
  refine (seal_any (some a) m m (l.take m) w hT.out (by omega)).mono ?_
  rintro e w1 ⟨v, rfl, hown, hb1⟩
  have hown : w1.ownsRow w.heap.size 5 1 v (sealL (l.take m)).length (u8s (sealL (l.take m))) := hown
  rw [hsl.out] at hown
  obtain ⟨g, cp, rfl, hbg, hcp, hrow⟩ := own_row hown (by omega)
  have HC := Lib.hid (bytes_of_own hown (sealL_byte hT.out.byte))
  have Hrow := Lib.hid hrow
  clear hown hrow
  by_cases heq : sealL (l.take m) = l
  · have Heq := Lib.hid heq
    clear heq
    go_wp2_with fail
    refine (bytesEqual_yes _ _ _ _ _ _ l w1 (Heq.out ▸ HC.out) (hB.out.grow hb1)).mono ?_
    rintro e w1 ⟨rfl, rfl⟩
    go_wp2
    go_ret2
    obtain ⟨cur, hg, hc⟩ := Hrow.out
    have hT2 := take_seal HC.out hT.out.len (by omega)
    refine ⟨hb1, .inl ⟨l.take m, Heq.out, g, ?_, hbg, ⟨cur, hg, fun i hi => hc i ?_⟩, ?_⟩⟩
    · rw [hT.out.len]; rfl
    · rw [hT.out.len] at hi; omega
    · rw [hT.out.len]; exact hT2
  · go_wp2_with fail
    refine (bytesEqual_no _ _ _ _ _ _ _ l w1 HC.out (hB.out.grow hb1) heq).mono ?_
    rintro e w1 ⟨rfl, rfl⟩
    have Hne := Lib.hid heq
    clear heq
    go_wp2
    go_ret2
    refine ⟨hb1, .inr ⟨fun b hb => Hne.out ?_, rfl⟩⟩
    have e : l.take m = b := by
      have hlb : b.length = m := by have := sealL_len b; rw [hb, hB.out.len] at this; omega
      rw [← hb, ← hlb]
      exact List.take_left
    rw [e, hb]

/-- What Next answers. The record lies in memory of the call's own. -/
def NextEnd (w : World) (l : List Nat) (e : Ending) (w' : World) : Prop :=
  Below w.heap.size w w' ∧ ((∃ r t p cp, l = frameL r ++ t ∧ r.length ≤ 1048576 ∧ e = .returned (.tuple #[.slice p r.length cp, .int .i64 ((r.length + 8 : Nat) : Int)]) ∧ Bytes w' p r.length cp r ∧
      (∀ x, p = some x → w.heap.size ≤ x.block) ∧ (0 < r.length → ∃ g, p = some ⟨g, 4, none⟩ ∧ w.heap.size ≤ g ∧ U8Row w' g (r.length + 4))) ∨
    (NoFrame l ∧ e = .returned (.tuple #[.slice none 0 0, .int .i64 0])))

set_option maxRecDepth 100000 in
theorem next_short (a : Option Addr) (n cap : Nat) (l : List Nat) (w : World) (hl : Bytes w a n cap l) (hn : n < 8) :
    Calls Tryz.prog 209 #[.slice a n cap] w (NextEnd w l) := by
  have HB := Lib.hid hl
  clear hl
  go_enter Tryz.func209, Tryz.ntmps209
  go_wp2
  go_ret2
  exact ⟨Below.refl _ _, .inr ⟨noFrame_short (by rw [HB.out.len]; exact hn), rfl⟩⟩

/-- A byte by its place: a name of its own, so that the walk leaves it as it is. -/
def byteAt (l : List Nat) (i : Nat) : Nat := l.getD i 0
def fourV (l : List Nat) : List Value := [.int .u8 (byteAt l 0 : Nat), .int .u8 (byteAt l 1 : Nat), .int .u8 (byteAt l 2 : Nat), .int .u8 (byteAt l 3 : Nat)]

theorem u8_info1 : (Tryz.prog.info? 5).map (·.size) = some 1 := by kernel_rfl

theorem byteAt_lt {l : List Nat} (h : ∀ x ∈ l, x < 256) (i : Nat) : byteAt l i < 256 := by
  unfold byteAt
  rw [List.getD_eq_getElem?_getD]
  by_cases hi : i < l.length
  · rw [List.getElem?_eq_getElem hi]
    exact h _ (List.getElem_mem _)
  · rw [List.getElem?_eq_none (by omega)]
    decide

/-- 'copy(h[:], b)'. -/
theorem copy_head {w : World} {b o n cap g : Nat} {l : List Nat} (ty : TypeId) (hB : Bytes w (some ⟨b, o, none⟩) n cap l) (hn : 8 ≤ n) (hg : g = w.heap.size) :
    (Builtin.copy_ #[58, 58] ty #[.slice (some ⟨g, 0, none⟩) 4 4, .slice (some ⟨b, o, none⟩) n cap]).run Tryz.prog (w.alloc (.cells #[.int .u8 0, .int .u8 0, .int .u8 0, .int .u8 0] 182)) =
      .ok (.int .i64 4) (w.alloc (.cells #[.int .u8 (byteAt l 0 : Nat), .int .u8 (byteAt l 1 : Nat), .int .u8 (byteAt l 2 : Nat), .int .u8 (byteAt l 3 : Nat)] 182)) := by
  subst hg
  have hG := hB.grow ((Below.refl w.heap.size w).alloc (Nat.le_refl _) (.cells #[.int .u8 0, .int .u8 0, .int .u8 0, .int .u8 0] 182))
  have hmin : (fourV l).length = Nat.min n 4 := by
    show 4 = Nat.min n 4
    exact (Nat.min_eq_right (by omega)).symm
  have hr := run_copy_row (P := Tryz.prog) (w.alloc (.cells #[.int .u8 0, .int .u8 0, .int .u8 0, .int .u8 0] 182)) 58 58 ty 5 w.heap.size 0 4 4 ⟨b, o, none⟩ n cap #[.int .u8 0, .int .u8 0, .int .u8 0, .int .u8 0] 182 (fourV l)
    Tryz.underlying58 u8_info1 (heap_alloc_new _ _) hmin ?_ (by show 0 + 4 ≤ 4; decide) ?_
  · rw [hr, World.setRow_alloc_new]
    rfl
  · intro j v hv
    have hj : j < 4 := (List.getElem?_eq_some_iff.1 hv).1
    obtain ⟨b', o', e, hc⟩ := hG.cell (by omega)
    cases e
    have := hc j (by omega)
    have hadd : (⟨b, o, none⟩ : Addr).add j = ⟨b, o + j, none⟩ := by unfold Addr.add; split <;> simp_all
    rw [hadd, this, ← hv]
    rcases j with _ | _ | _ | _ | j
    all_goals first | rfl | omega
  · intro v hv
    simp only [fourV, List.mem_cons, List.not_mem_nil, or_false] at hv
    rcases hv with rfl | rfl | rfl | rfl <;> rfl

/-- 'sealed[4:]'. -/
theorem slice_rec (g N : Nat) : ∃ p, (∀ w : World, (Instr.slice 58 (.slice (some ⟨g, 0, none⟩) (N + 4) (N + 4)) (some (.int .i64 4)) none none).run Tryz.prog w = .ok (.slice p N N) w) ∧
    (∀ x, p = some x → x.block = g) ∧ (0 < N → p = some ⟨g, 4, none⟩) := by
  obtain ⟨i, hi, _, hsz, _⟩ := info_parts info_u8
  have hT' : Tryz.prog.underlying 58 = some (.slice (Tryz.prog.elem 58)) := by kernel_rfl
  have hE : Tryz.prog.elem 58 = 5 := by kernel_rfl
  have hsize : ∀ w : World, (sizeOf (Tryz.prog.elem 58)).run Tryz.prog w = .ok 1 w := fun w => by rw [hE]; simp [sizeOf, typeInfo, hi, hsz]
  have hadd : ∀ (x y j : Nat), (⟨x, y, none⟩ : Addr).add j = ⟨x, y + j, none⟩ := fun x y j => by unfold Addr.add; split <;> simp_all
  refine ⟨if N + 4 = 4 then some ⟨g, 0, none⟩ else (some ⟨g, 0, none⟩ : Option Addr).map (·.add (4 * 1)), fun w => ?_, fun x hx => ?_, fun h => ?_⟩
  · rw [show (Value.int .i64 4) = .int .i64 ((4 : Nat) : Int) from rfl, run_slice_l w 58 (some ⟨g, 0, none⟩) (N + 4) (N + 4) hT' .i64 ((4 : Nat) : Int) (by omega) (by omega), hsize]
    rfl
  · split at hx
    · cases hx; rfl
    · simp only [Option.map_some, hadd] at hx
      cases hx; rfl
  · rw [if_neg (by omega)]
    simp only [Option.map_some, hadd]

set_option maxRecDepth 100000 in
theorem next_long (b o n cap : Nat) (l : List Nat) (w : World) (hl : Bytes w (some ⟨b, o, none⟩) n cap l) (hn : 8 ≤ n) (hm : n ≤ 100000000000000) :
    Calls Tryz.prog 209 #[.slice (some ⟨b, o, none⟩) n cap] w (NextEnd w l) := by
  have HB := Lib.hid hl
  have hle := hl.le
  have hcm := hl.capmax
  have hsl := slice_headF
  have hcp := copy_head 3 hl hn rfl
  have HN := Lib.hid (fun w => number_any (byteAt l) w (byteAt_lt hl.byte))
  have HF := Lib.hid (show part4 (byteAt l) 4 = num4 l from rfl)
  clear hl
  go_enter Tryz.func209, Tryz.ntmps209
  go_wp2_with fail
  refine (HN.out _).mono ?_
  rintro e w1 ⟨rfl, hb1⟩
  have Hb1 := Lib.hid (below_call hb1)
  generalize part4 (byteAt l) 4 = N at *
  clear hb1 hcp HN
  by_cases hN : N ≤ 1048576
  · have hN1 : (N : Int) ≤ 1048576 := by omega
    by_cases hN2 : N + 8 ≤ n
    · have hN3 : (N : Int) ≤ (n : Int) - 8 := by omega
      have hT : Bytes w1 (some ⟨b, o, none⟩) (N + 8) cap (l.take (N + 8)) := (HB.out.grow Hb1.out).takeTo hN2 (by omega) (Nat.le_refl _)
      have HO := Lib.hid (open_own ⟨b, o, none⟩ (N + 8) cap (l.take (N + 8)) w1 hT (by omega) (by omega))
      clear hT
      go_wp2_with fail
      refine HO.out.mono ?_
      rintro e w2 ⟨hb2, ⟨x, hx, g, rfl, hbg, hrow, hC⟩ | ⟨hno, rfl⟩⟩
      · have hxl : x.length = N + 4 := by
          have := congrArg List.length hx
          rw [sealL_len, List.length_take, HB.out.len] at this
          omega
        obtain ⟨p, hp, hpb, hp4⟩ := slice_rec g N
        have HX := Lib.hid (frame_of_seal HF.out (by rw [HB.out.len]; exact hN2) hx HB.out.byte)
        rw [hxl] at hrow hC ⊢
        have Hrow := Lib.hid hrow
        have HC := Lib.hid hC
        have Hx := Lib.hid hxl
        have Hb2 := Lib.hid (Hb1.out.trans (hb2.mono Hb1.out.size))
        have Hp := Lib.hid hpb
        have Hp4 := Lib.hid hp4
        have Hg := Lib.hid (Nat.le_trans Hb1.out.size hbg)
        clear hrow hC hxl hx hb2 hpb hp4 HO hbg
        go_wp2
        go_ret2
        obtain ⟨e1, e2⟩ := HX.out
        refine ⟨Hb2.out, .inl ⟨x.drop 4, l.drop (N + 8), p, N, e1, by omega, by rw [e2]; rfl, ?_, ?_, ?_⟩⟩
        · rw [e2]
          rcases Nat.eq_zero_or_pos N with h0 | h0
          · have e3 : x.drop 4 = [] := List.length_eq_zero_iff.1 (by omega)
            rw [e3, h0]
            exact bytes_none (by omega) (fun _ => rfl)
          · rw [Hp4.out h0]
            have hd := HC.out.dropTo (m := 4) (by omega)
            rw [show N + 4 - 4 = N by omega, Nat.zero_add] at hd
            exact hd
        · intro y hy
          rw [Hp.out y hy]
          exact Hg.out
        · intro h0
          rw [e2] at h0
          exact ⟨g, Hp4.out h0, Hg.out, by rw [e2]; exact Hrow.out⟩
      · have Hno := Lib.hid hno
        have Hb2 := Lib.hid (Hb1.out.trans (hb2.mono Hb1.out.size))
        clear hno hb2 HO
        go_wp2
        go_ret2
        exact ⟨Hb2.out, .inr ⟨noFrame_seal HF.out Hno.out, rfl⟩⟩
    · have hN3 : (n : Int) - 8 < (N : Int) := by omega
      go_wp2
      go_ret2
      exact ⟨Hb1.out, .inr ⟨noFrame_len (by rw [HB.out.len, ← HF.out]; omega), rfl⟩⟩
  · have hN1 : 1048576 < (N : Int) := by omega
    go_wp2
    go_ret2
    exact ⟨Hb1.out, .inr ⟨noFrame_most (by rw [← HF.out]; omega), rfl⟩⟩

theorem next_any (a : Option Addr) (n cap : Nat) (l : List Nat) (w : World) (hl : Bytes w a n cap l) (hm : n ≤ 100000000000000) :
    Calls Tryz.prog 209 #[.slice a n cap] w (NextEnd w l) := by
  by_cases hn : n < 8
  · exact next_short a n cap l w hl hn
  · obtain ⟨b, o, rfl, _⟩ := hl.cell (by omega)
    exact next_long b o n cap l w hl (by omega) hm
end Go.Proofs.YtjoolocdejnohaaGreat

/- A range over a function whose rounds are told what lies in memory where they begin: each round is handed an element x together with a fact 'At N x W' on the world W in which it begins. No round leaves the loop. -/
namespace Go.Proofs.YtjoolocdejnohaaGreat
open Go.RowKit

/-- What is said of the rounds' world, with a bound on its own blocks: it stands while only new memory is made, with the heap's size for a bound, and where a block that holds no cells is turned. -/
structure Stands {α : Type} (B : Nat) (I : List α → Nat → World → Prop) (At : Nat → α → World → Prop) : Prop where
  grow : ∀ s N W W', I s N W → Below W.heap.size W W' → I s N W'
  more : ∀ s N W, I s N W → I s W.heap.size W
  put : ∀ s N W l o o', I s N W → B ≤ l → W.heap[l]? = some o → o.isCells = false → I s N (W.putObj l o')
  putAt : ∀ N x W l o o', At N x W → W.heap[l]? = some o → o.isCells = false → At N x (W.putObj l o')

/-- The contract of an iterator that yields elements of which 'At' is true. -/
def Told {α : Type} (n : Nat) (P : Program) (gf : Nat) (lb : Array Value) (encs : α → Array Value) (I : List α → Nat → World → Prop) (At : Nat → α → World → Prop) (Fin : List α → Prop) (M : Nat) : Prop :=
  ∀ (l : Nat) (J : List α → Nat → World → Prop) (W : World) (N : Nat), (∀ s N W W', J s N W → Below W.heap.size W W' → J s N W') → (∀ s N W, J s N W → J s W.heap.size W) → (∀ s N W, J s N W → I s N W) →
    (∀ pre x N W1, J pre N W1 → At N x W1 → pre.length < M → YieldAt Fence.wide (n - 1) P l (encs x) W1 fun e W' => e = .returned (.bool true) ∧ ∃ N', J (pre ++ [x]) N' W') →
    J [] N W → CallsIn Fence.wide n P gf (#[.func (.yield l) #[] #[]] ++ lb) W fun e W' => (∃ v, e = .returned v) ∧ ∃ xs N', J xs N' W' ∧ Fin xs

theorem range_told {P : Program} {n : Nat} {α : Type} {g : Operand} {ps : Array Tmp} {assign body : Code} {Q : Exit → Act → World → Prop} {a : Act} {w : World} {gf : Nat} {lb : Array Value}
    (h1 : 1 ≤ n) (hg : a.eval g = .func (.func gf) #[] lb) (eg : ∀ args w, (callFunc gf args).run P w = .ok (.enter gf args) w)
    {encs : α → Array Value} (hps : ∀ x, (encs x).size = ps.size) {I : List α → Nat → World → Prop} {At : Nat → α → World → Prop} {Fin : List α → Prop} {M : Nat}
    (hS : Stands w.heap.size I At) (hseq : Told (n - 1) P gf lb encs I At Fin M) (N0 : Nat) (h0 : I [] N0 w) (a1 : α → Act)
    (hassign : ∀ (l : Nat) (x : α) (W : World) (K : Act → World → Prop), K (a1 x) W →
      assign.wpIn (Fence.wide.inRound l) (n - 1 - 1) P (Exit.then K (fun _ _ _ => False)) { tmps := (ps.zip (encs x)).foldl (fun t (p, v) => t.setIfInBounds p v) a.tmps, defers := [] } W)
    (hbody : ∀ (l : Nat) (pre : List α) (x : α) (N : Nat) (W : World), I pre N W → At N x W → pre.length < M →
      body.wpIn (Fence.wide.inRound l) (n - 1 - 1) P (Exit.then (fun _ W' => KeepsFrom w.heap.size W W' ∧ ∃ N', I (pre ++ [x]) N' W') (fun _ _ _ => False)) (a1 x) W)
    (hdone : ∀ (D : Nat) (xs : List α) (N : Nat) (W : World), w.heap.size ≤ D → Fin xs → I xs N W → W.heap[D]? = some (.deferred (some [])) → Q .normal { a with defers := { target := .collected D, args := #[] } :: a.defers } W) :
    (Code.rangeFunc g ps assign body).wpIn Fence.wide n P Q a w := by
  refine wpIn_rangeFunc fun fn hfn => ?_
  -- the loop's record, in each of its states
  let rec_ : LoopState → Loop := fun st => { state := st, pending := none, fn, tmps := a.tmps, params := ps, assign, body, defers := w.heap.size }
  have hz : (w.alloc (.deferred (some []))).heap.size = w.heap.size + 1 := by simp
  have hL0 : ((w.alloc (.deferred (some []))).alloc (.loop (rec_ .ready))).heap[w.heap.size + 1]? = some (.loop (rec_ .ready)) := by
    rw [← hz]; exact heap_alloc_new _ _
  have hD0 : ((w.alloc (.deferred (some []))).alloc (.loop (rec_ .ready))).heap[w.heap.size]? = some (.deferred (some [])) :=
    (Below.heap_alloc _ _ _ (by omega)).trans (heap_alloc_new _ _)
  have hI0 : I [] N0 ((w.alloc (.deferred (some []))).alloc (.loop (rec_ .ready))) :=
    hS.grow _ _ _ _ (hS.grow _ _ _ _ h0 ((Below.refl _ _).alloc (Nat.le_refl _) _)) ((Below.refl _ _).alloc (Nat.le_refl _) _)
  have hE := run_enterLoop_outer (P := P) (w := w) fn a.tmps ps assign body
  generalize hW : (w.alloc (.deferred (some []))).alloc (.loop (rec_ .ready)) = W1 at hL0 hD0 hI0
  have hE2 : (Instr.enterLoop fn a.tmps ps assign body none).run P w = .ok (w.heap.size + 1, [{ target := .collected w.heap.size, args := #[] }]) W1 := by rw [← hW]; exact hE
  refine ⟨w.heap.size + 1, [{ target := .collected w.heap.size, args := #[] }], W1, { target := .fn (.func gf) lb, args := #[.func (.yield (w.heap.size + 1)) #[] #[]] }, W1, gf, #[.func (.yield (w.heap.size + 1)) #[] #[]] ++ lb, W1,
    hE2, ?_, fun _ _ => trivial, ?_, fun _ => h1, ?_⟩
  · simp only [resolve, hg]
    simp [go_sem]
  · simp [invoke, go_sem, eg]
  refine (hseq (w.heap.size + 1) (fun s N W => I s N W ∧ W.heap[w.heap.size + 1]? = some (.loop (rec_ .ready)) ∧ W.heap[w.heap.size]? = some (.deferred (some []))) W1 N0 ?_ ?_ (fun _ _ _ h => h.1) ?_ ⟨hI0, hL0, hD0⟩).mono ?_
  · rintro s N W W' ⟨hi, hl, hd⟩ hb
    exact ⟨hS.grow _ _ _ _ hi hb, (hb.block _ (Array.getElem?_eq_some_iff.1 hl).1).trans hl, (hb.block _ (Array.getElem?_eq_some_iff.1 hd).1).trans hd⟩
  · rintro s N W ⟨hi, hl, hd⟩
    exact ⟨hS.more _ _ _ hi, hl, hd⟩
  · rintro pre x N W ⟨hi, hl, hd⟩ hat hM
    have hlt : w.heap.size + 1 < W.heap.size := (Array.getElem?_eq_some_iff.1 hl).1
    refine ⟨fn, _, assign, body, run_yield (P := P) (args := encs x) hl (hps x), roundIn_of_wpIn hfn (hassign _ x W _ ⟨_, run_beginRound hl rfl, ?_⟩)⟩
    have hl2 : (W.putObj (w.heap.size + 1) (.loop (rec_ .busy))).heap[w.heap.size + 1]? = some (.loop (rec_ .busy)) := World.putObj_heap_same hlt
    have hd2 : (W.putObj (w.heap.size + 1) (.loop (rec_ .busy))).heap[w.heap.size]? = some (.deferred (some [])) := (World.putObj_heap_other (by omega)).trans hd
    refine wpIn_mono (hbody _ pre x N _ (hS.put _ _ _ _ _ _ hi (by omega) hl rfl) (hS.putAt _ _ _ _ _ _ hat hl rfl) hM) ?_
    rintro e a3 W3 hp
    cases e with
    | normal =>
      obtain ⟨hk, N', hi3⟩ := hp
      have hl3 := hk.same _ _ (by omega) hl2 rfl
      have hd3 := hk.same _ _ (Nat.le_refl _) hd2 rfl
      exact ⟨_, _, run_endRound (P := P) none hl3, rfl, N', hS.put _ _ _ _ _ _ hi3 (by omega) hl3 rfl, World.putObj_heap_same (Array.getElem?_eq_some_iff.1 hl3).1, (World.putObj_heap_other (by omega)).trans hd3⟩
    | ret => exact hp.elim
    | exit id => exact hp.elim
    | goto t => exact hp.elim
    | panic c => exact hp.elim
    | outgrown => exact hp.elim
  · rintro e W2 ⟨⟨v, rfl⟩, xs, N', ⟨hi, hl, hd⟩, hF⟩
    exact ⟨none, _, run_endLoop (P := P) hl (by simp [rec_]), hdone _ xs N' _ (Nat.le_refl _) hF (hS.put _ _ _ _ _ _ hi (by omega) hl rfl) ((World.putObj_heap_other (by omega)).trans hd)⟩
end Go.Proofs.YtjoolocdejnohaaGreat

/- The walks of Size and of each: a sum over records; the iterator over the frames of bytes. -/
namespace Go.Proofs.YtjoolocdejnohaaGreat
open Go.RowKit Crc

attribute [local go_sem] Oper.semAt_some

theorem sizeL_take {ls : List (List Nat)} {k : Nat} (h : k < ls.length) : sizeL (ls.take (k + 1)) = sizeL (ls.take k) + ((ls.getD k []).length + 8) := by
  rw [List.take_succ_eq_append_getElem h, sizeL_append, sizeL_cons, sizeL_nil, List.getD_eq_getElem?_getD, List.getElem?_eq_getElem h]
  rfl

theorem sizeL_le {ls : List (List Nat)} {k : Nat} : sizeL (ls.take k) ≤ sizeL ls := by
  conv => rhs; rw [← List.take_append_drop k ls, sizeL_append]
  omega

set_option maxRecDepth 100000 in
theorem size_any (a : Option Addr) (n cap : Nat) (ls : List (List Nat)) (w : World) (hl : Parts w a n cap ls) (hm : sizeL ls ≤ 100000000000000) :
    Calls Tryz.prog 51 #[.slice a n cap] w fun e w' => e = .returned (.int .i64 (sizeL ls : Nat)) ∧ w = w' := by
  have hls := Lib.hid hl.len
  have hnb := hl.max
  have hP := Lib.hid hl
  clear hl
  go_enter Tryz.func51, Tryz.ntmps51
  go_wp2
  go_loop [3, 8] (fun t i => ∃ k : Nat, k ≤ n ∧ i = .int .i64 k ∧ t = .int .i64 (sizeL (ls.take k) : Nat)) (fun _ i => n - (intOf i).toNat)
  case atStart => exact ⟨0, Nat.zero_le _, rfl, rfl⟩
  case round =>
    obtain ⟨k, hk, rfl, rfl⟩ := hrel
    by_cases hlt : k < n
    · obtain ⟨b, o, a', n', c', rfl, hc, hB⟩ := bytes_get_all hP.out hlt
      have hle := sizeL_le (ls := ls) (k := k + 1)
      have hs := sizeL_take (ls := ls) (show k < ls.length by rw [hls.out]; exact hlt)
      rw [hB.len] at hs
      have hle2 : sizeL (ls.take k) + (n' + 8) ≤ 100000000000000 := by omega
      have Hs := Lib.hid hs
      clear hs hle hB
      generalize sizeL (ls.take k) = s at *
      go_wp2
      go_round
      case rel => exact ⟨k + 1, by omega, by go_num, by rw [Hs.out]; go_num⟩
      case measure => simp [intOf]; omega
    · obtain rfl : k = n := by omega
      have ht : ls.take k = ls := by rw [← hls.out, List.take_length]
      rw [ht]
      go_wp2
      go_ret
      exact ⟨rfl, rfl⟩

set_option maxRecDepth 100000 in
theorem each_any (a : Option Addr) (n cap : Nat) (w : World) :
    Calls Tryz.prog 199 #[.slice a n cap] w fun e w' => e = .returned (.func (.func 208) #[] #[.pointer (some ⟨w.heap.size, 0, none⟩)]) ∧ w' = w.alloc (.cells #[.slice a n cap] 58) := by
  go_enter Tryz.func199, Tryz.ntmps199
  go_wp2
  go_ret
  exact ⟨rfl, rfl⟩

/-- A record that is yielded: where it lies, its room, its bytes. -/
structure Rec where
  p : Option Addr
  cp : Nat
  l : List Nat

def recEnc (x : Rec) : Array Value := #[.slice x.p x.l.length x.cp]
def RecAt (N : Nat) (x : Rec) (W : World) : Prop := Bytes W x.p x.l.length x.cp x.l ∧ ∀ y, x.p = some y → N ≤ y.block

def lenOf : Value → Nat
  | .slice _ n _ => n
  | _ => 0

/-- The rest of the bytes behind j of them: a slice of its own, which holds whatever the bytes hold. -/
def Rest (a : Option Addr) (n cap j : Nat) (v : Value) : Prop := ∃ a', v = .slice a' (n - j) (cap - j) ∧ j ≤ n ∧ (j < n → Formed a' (cap - j)) ∧ ∀ (w : World) (l : List Nat), Bytes w a n cap l → Bytes w a' (n - j) (cap - j) (l.drop j)

theorem Rest.start {w : World} {a : Option Addr} {n cap : Nat} {l : List Nat} (h : Bytes w a n cap l) : Rest a n cap 0 (.slice a n cap) :=
  ⟨a, rfl, Nat.zero_le _, fun hn => by obtain ⟨b, o, rfl, _⟩ := h.cell hn; exact formed_at b o _, fun _ _ h => h⟩

theorem Rest.next {a : Option Addr} {n cap j k : Nat} {a' : Option Addr} (hj : j + k ≤ n) (hk : 0 < k) (hn : n ≤ cap) (hf : j < n → Formed a' (cap - j)) (hB : ∀ (w : World) (l : List Nat), Bytes w a n cap l → Bytes w a' (n - j) (cap - j) (l.drop j)) :
    ∃ v, (∀ (w : World) (kl : IntKind), (Instr.slice 58 (.slice a' (n - j) (cap - j)) (some (.int kl (k : Int))) none none).run Tryz.prog w = .ok v w) ∧ Rest a n cap (j + k) v ∧ lenOf v = n - (j + k) := by
  obtain ⟨q, h1, h2, h3⟩ := slice_from (P := Tryz.prog) (T := 58) (E := 5) Tryz.underlying58 info_u8 (a := a') (n := n - j) (c := cap - j) (k := k) (by omega) (by omega) (hf (by omega))
  refine ⟨.slice q (n - j - k) (cap - j - k), h1, ⟨q, by rw [Nat.sub_sub, Nat.sub_sub], hj, fun _ => by rw [← Nat.sub_sub]; exact h2, fun w l h => ?_⟩, by show n - j - k = _; omega⟩
  have := h3 w _ (hB w l h)
  rw [List.drop_drop] at this
  rw [Nat.sub_sub, Nat.sub_sub] at this
  exact this

theorem splits_end {L : List Nat} {pre : List Rec} {j : Nat} (hL : L = joinL (pre.map Rec.l) ++ L.drop j) (hr : ∀ r ∈ pre, r.l.length ≤ 1048576) (hno : NoFrame (L.drop j)) : ∃ t, Splits L (pre.map Rec.l) t :=
  ⟨_, hL, fun r h => by obtain ⟨x, hx, rfl⟩ := List.mem_map.1 h; exact hr x hx, hno⟩

theorem splits_more {L : List Nat} {pre : List Rec} {j : Nat} {x : Rec} {t : List Nat} (hj : j ≤ L.length) (hL : L = joinL (pre.map Rec.l) ++ L.drop j) (hd : L.drop j = frameL x.l ++ t) :
    j + (x.l.length + 8) ≤ L.length ∧ L = joinL ((pre ++ [x]).map Rec.l) ++ L.drop (j + (x.l.length + 8)) := by
  have h1 := congrArg List.length hd
  rw [List.length_drop, List.length_append, frameL_len] at h1
  refine ⟨by omega, ?_⟩
  rw [← List.drop_drop, hd, ← frameL_len, List.drop_left, List.map_append, List.map_cons, List.map_nil, joinL_snoc, List.append_assoc, ← hd]
  exact hL

theorem joinL_many : ∀ ls : List (List Nat), ls.length ≤ (joinL ls).length
  | [] => Nat.le_refl _
  | r :: ls => by
    have := joinL_many ls
    rw [joinL_cons, List.length_append, frameL_len, List.length_cons]
    omega

theorem pre_len {L : List Nat} {pre : List Rec} {t : List Nat} (hL : L = joinL (pre.map Rec.l) ++ t) : pre.length ≤ L.length := by
  have h1 := joinL_many (pre.map Rec.l)
  have h2 := congrArg List.length hL
  rw [List.length_append] at h2
  rw [List.length_map] at h1
  omega

set_option maxRecDepth 100000 in
set_option maxHeartbeats 2000000 in
theorem each1_told (n : Nat) (hn : 2 ≤ n) (Bn : Nat) (a : Option Addr) (k cap : Nat) (L : List Nat) (hk : k ≤ 100000000000000) (I : List Rec → Nat → World → Prop)
    (hI : ∀ s N W, I s N W → Bytes W a k cap L ∧ W.cell? ⟨Bn, 0, none⟩ = some (.slice a k cap)) :
    Told n Tryz.prog 208 #[.pointer (some ⟨Bn, 0, none⟩)] recEnc I RecAt (fun xs => ∃ t, Splits L (xs.map Rec.l) t) (k + 1) := by
  intro l J W N hg hm hJI hY h0
  obtain ⟨hB0, hc0⟩ := hI _ _ _ (hJI _ _ _ h0)
  refine callsIn_of_wp Tryz.func208 rfl trivial ?_ rfl
  simp only [Tryz.ntmps208, List.size_toArray, List.length_cons, List.length_nil, Nat.reduceAdd, Nat.reduceSub, Array.replicate_succ, Array.replicate_zero, List.push_toArray, List.append_toArray, List.nil_append, List.cons_append]
  gi_wp2
  gi_loopw [3] (fun u wr => ∃ (pre : List Rec) (N' j : Nat), Rest a k cap j u ∧ (∀ r ∈ pre, r.l.length ≤ 1048576) ∧ L = joinL (pre.map Rec.l) ++ L.drop j ∧ J pre N' wr) (fun u _ => lenOf u)
  case atStart => exact ⟨[], N, 0, Rest.start hB0, fun r h => (by cases h), rfl, h0⟩
  case round =>
    obtain ⟨pre, N', j, ⟨a', rfl, hj, hf, hR⟩, hr, hL, hJ⟩ := hrel
    obtain ⟨hB, _⟩ := hI _ _ _ (hJI _ _ _ hJ)
    have hB' := hR wr L hB
    have Hj := Lib.hid (hm _ _ _ hJ)
    have HX := Lib.hid (next_any a' (k - j) (cap - j) (L.drop j) wr hB' (by omega))
    gi_wp2_with fail
    refine ⟨trivial, fun _ => by omega, (callsIn_wide.2 HX.out).mono ?_⟩
    rintro e w1 ⟨hb1, ⟨r, t, p, cp, hd, hrm, rfl, hBr, hfr, _⟩ | ⟨hno, rfl⟩⟩
    · have hz : (((r.length : Int) + 8) == 0) = false := by rw [beq_eq_false_iff_ne]; omega
      have hm := splits_more (x := ⟨p, cp, r⟩) (by rw [hB.len]; exact hj) hL hd
      rw [hB.len] at hm
      obtain ⟨v, hv0, hRv, hlv⟩ := Rest.next hm.1 (by show 0 < r.length + 8; omega) hB.le hf hR
      have hv := fun w => hv0 w .i64
      rw [show ((({ p := p, cp := cp, l := r } : Rec).l.length + 8 : Nat) : Int) = (r.length : Int) + 8 from rfl] at hv
      obtain ⟨fn, tmps, assign, body, hy, hRd⟩ := hY pre ⟨p, cp, r⟩ wr.heap.size w1 (hg _ _ _ _ Hj.out hb1) ⟨hBr, hfr⟩ (by have := pre_len hL; rw [hB.len] at this; omega)
      dsimp only [recEnc] at hy
      have Hlv := Lib.hid hlv
      have HRv := Lib.hid hRv
      have Hm := Lib.hid hm.2
      have Hm1 := Lib.hid hm.1
      clear HX hB' hB hd hBr hfr hv0 hlv hRv hm hL hR hf
      gi_wp2
      refine ⟨fun _ => by omega, hRd.mono ?_⟩
      rintro e W3 ⟨rfl, N3, hJ3⟩
      gi_wp2
      go_roundw
      case rel =>
        refine ⟨pre ++ [⟨p, cp, r⟩], N3, j + (r.length + 8), HRv.out, fun x hx => ?_, Hm.out, hJ3⟩
        rcases List.mem_append.1 hx with hx | hx
        · exact hr x hx
        · rw [List.mem_singleton.1 hx]; exact hrm
      case measure =>
        have e1 : lenOf v = k - (j + (r.length + 8)) := Hlv.out
        have e2 : j + (r.length + 8) ≤ k := Hm1.out
        rw [e1]
        show k - (j + (r.length + 8)) < k - j
        omega
    · have Hno := Lib.hid hno
      clear HX hno
      gi_wp2
      refine ⟨fun _ h => (by cases h), ?_⟩
      gi_wp2
      refine bodyPost_ret (results_none rfl _ _ _) rfl ?_
      exact ⟨⟨_, rfl⟩, pre, _, hg _ _ _ _ Hj.out hb1, splits_end hL hr Hno.out⟩
end Go.Proofs.YtjoolocdejnohaaGreat

/- The walk of Split, of the code: a loop over the iterator that collects the records. -/
namespace Go.Proofs.YtjoolocdejnohaaGreat
open Go.RowKit Go.Shelf Crc

attribute [local go_sem] Oper.semAt_some

theorem cell_not_cells {W : World} {l : Nat} {o : Obj} (h : W.heap[l]? = some o) (ho : o.isCells = false) (i : Nat) : W.cell? ⟨l, i, none⟩ = none := by
  unfold World.cell?
  rw [h]
  cases o <;> first | rfl | cases ho

theorem Bytes.not_obj {W : World} {a : Option Addr} {n c l : Nat} {bs : List Nat} {o : Obj} (h : Bytes W a n c bs) (hn : 0 < n) (hl : W.heap[l]? = some o) (ho : o.isCells = false) : ∀ x, a = some x → x.block ≠ l := by
  rintro x rfl e
  obtain ⟨b, off, e2, hc⟩ := h.cell hn
  cases e2
  have e3 : b = l := e
  subst e3
  have h0 := hc 0 hn
  rw [cell_not_cells hl ho] at h0
  cases h0

theorem Bytes.putObj {W : World} {a : Option Addr} {n c l : Nat} {bs : List Nat} {o o' : Obj} (h : Bytes W a n c bs) (hl : W.heap[l]? = some o) (ho : o.isCells = false) : Bytes (W.putObj l o') a n c bs :=
  h.off fun hn x hx _ => World.putObj_heap_other (fun e => h.not_obj hn hl ho x hx e)

theorem OwnParts.putObj {W : World} {base l : Nat} {v : Value} {ls : List (List Nat)} {o o' : Obj} (h : OwnParts W base v ls) (hl : W.heap[l]? = some o) (ho : o.isCells = false) : OwnParts (W.putObj l o') base v ls := by
  obtain ⟨vs, h1, h2, h3⟩ := h
  refine ⟨vs, h1, ownsRow_putObj h2 o' hl ho, fun i hi => ?_⟩
  obtain ⟨a, n, c, h4, h5, h6⟩ := h3 i hi
  exact ⟨a, n, c, h4, h5.putObj hl ho, h6⟩

theorem OwnParts.lt {W : World} {base : Nat} {v : Value} {ls : List (List Nat)} (h : OwnParts W base v ls) : ∀ k, v.ownBlock = some k → base ≤ k ∧ k < W.heap.size := by
  obtain ⟨vs, h1, h2, h3⟩ := h
  exact fun k hk => h2.lt k hk

theorem OwnParts.base {W : World} {b b' : Nat} {v : Value} {ls : List (List Nat)} (h : OwnParts W b v ls) (hb : b' ≤ b) : OwnParts W b' v ls := by
  obtain ⟨vs, h1, h2, h3⟩ := h
  exact ⟨vs, h1, own_base h2 hb, h3⟩

end Go.Proofs.YtjoolocdejnohaaGreat

/- The walk of the reference's Next. -/
namespace Go.Proofs.YtjoolocdejnohaaGreat
open Go.RowKit Crc

/-- What the reference's Open answers: the bytes lie where they lay. -/
def OpenAt (b o m cap : Nat) (w : World) (l : List Nat) (e : Ending) (w' : World) : Prop :=
  Below w.heap.size w w' ∧ ((∃ x, sealL x = l ∧ e = .returned (.tuple #[.slice (some ⟨b, o, none⟩) m cap, .bool true]) ∧ Bytes w' (some ⟨b, o, none⟩) m cap x) ∨ ((∀ b, sealL b ≠ l) ∧ e = .returned (.tuple #[.slice none 0 0, .bool false])))

set_option maxRecDepth 100000 in
set_option maxHeartbeats 1600000 in
theorem ropen_at (b o m cap : Nat) (l : List Nat) (w : World) (hl : Bytes w (some ⟨b, o, none⟩) (m + 4) cap l) (hm : m ≤ 100000000000000) :
    Calls Tryz.prog 149 #[.slice (some ⟨b, o, none⟩) (m + 4) cap] w (OpenAt b o m cap w l) := by
  have HB := Lib.hid hl
  have hle := hl.le
  have HT := Lib.hid (hl.takeTo (m := m) (c := cap) (by omega) (by omega) (Nat.le_refl _))
  have HD := hl.dropTo (m := m) (by omega)
  rw [show m + 4 - m = 4 by omega] at HD
  have HD := Lib.hid HD
  rename_i HD0; clear hl HD0
  have hd : decide ((m : Int) < 0) = false := decide_eq_false (by omega)
  have hbd : Below w.heap.size w w.drew := (Below.refl _ _).drew
  have HTd := Lib.hid (HT.out.grow hbd)
  have HDd := Lib.hid (HD.out.grow hbd)
  have hs : inv (feedL 4294967295 (l.take m)) < 4294967296 := by unfold inv; omega
  have HR := Lib.hid (rsum_any (some ⟨b, o, none⟩) m cap (l.take m) w.drew HTd.out)
  have HL := Lib.hid (little_any (inv (feedL 4294967295 (l.take m))) w.drew hs)
  have hsl : sealL (l.take m) = l.take m ++ little (inv (feedL 4294967295 (l.take m))) := rfl
  generalize inv (feedL 4294967295 (l.take m)) = s at *
  have Hsl := Lib.hid hsl
  clear hsl
  have hS0 := convert_bytes (P := Tryz.prog) HDd.out 58 5 9 Tryz.underlying58 Tryz.underlying5 Tryz.underlying9
  have hcm : ¬ (cap = m) := by omega
  have hi1 : (m : Int) ≤ (cap : Int) := by omega
  have hi2 : (0 : Int) ≤ (m : Int) := by omega
  have hi3 : (m : Int) ≤ (m : Int) + 4 := by omega
  have hi4 : (m : Int) + 4 ≤ (cap : Int) := by omega
  by_cases hq : little s = l.drop m
  · have hqb : ((str (little s)).toList == (str (l.drop m)).toList) = true := by rw [hq]; exact str_eq _
    have Hq := Lib.hid hq
    clear hq
    go_enter Tryz.func149, Tryz.ntmps149
    go_wp2
    go_region_held (fun w' => (convert 58 9 (.slice (some ⟨b, o + m, none⟩) 4 (cap - m))).run Tryz.prog w' = .ok (.string (str (l.drop m))) w')
      (first | exact hS0 | exact hS1)
      (first
        | (go_at_call 158; (with_reducible refine HR.out.mono ?_); rintro e w0 ⟨rfl, rfl⟩)
        | (go_at_call 116; (with_reducible refine HL.out.mono ?_); rintro e w1 ⟨v, rfl, hown, hb1⟩; obtain ⟨p, cp, rfl, hC⟩ := own_slice hown (little_lt hs); have hS1 := convert_bytes (P := Tryz.prog) (HDd.out.grow hb1) 58 5 9 Tryz.underlying58 Tryz.underlying5 Tryz.underlying9; have hS2 := convert_bytes (P := Tryz.prog) hC 58 5 9 Tryz.underlying58 Tryz.underlying5 Tryz.underlying9; clear hown hC))
    all_goals go_wp2
    all_goals go_ret2
    all_goals exact ⟨hbd.trans hb1, .inl ⟨l.take m, by rw [Hsl.out, Hq.out, List.take_append_drop], rfl, HTd.out.grow hb1⟩⟩
  · have hqb : ((str (little s)).toList == (str (l.drop m)).toList) = false := str_ne (little_lt hs) HD.out.byte hq
    have Hq := Lib.hid hq
    clear hq
    go_enter Tryz.func149, Tryz.ntmps149
    go_wp2
    go_region_held (fun w' => (convert 58 9 (.slice (some ⟨b, o + m, none⟩) 4 (cap - m))).run Tryz.prog w' = .ok (.string (str (l.drop m))) w')
      (first | exact hS0 | exact hS1)
      (first
        | (go_at_call 158; (with_reducible refine HR.out.mono ?_); rintro e w0 ⟨rfl, rfl⟩)
        | (go_at_call 116; (with_reducible refine HL.out.mono ?_); rintro e w1 ⟨v, rfl, hown, hb1⟩; obtain ⟨p, cp, rfl, hC⟩ := own_slice hown (little_lt hs); have hS1 := convert_bytes (P := Tryz.prog) (HDd.out.grow hb1) 58 5 9 Tryz.underlying58 Tryz.underlying5 Tryz.underlying9; have hS2 := convert_bytes (P := Tryz.prog) hC 58 5 9 Tryz.underlying58 Tryz.underlying5 Tryz.underlying9; clear hown hC))
    all_goals go_wp2
    all_goals go_ret2
    all_goals refine ⟨hbd.trans hb1, .inr ⟨fun x hx => Hq.out ?_, rfl⟩⟩
    all_goals
      have hlx : x.length = m := by have := sealL_len x; rw [hx, HB.out.len] at this; omega
      have e1 : l.take m = x := by rw [← hx, ← hlx]; exact List.take_left
      have e2 : l = l.take m ++ little s := by rw [← Hsl.out, e1, hx]
      have e3 : l.drop m = little s := by
        conv => lhs; rw [e2]
        rw [List.drop_append_of_le_length (by rw [List.length_take, HB.out.len]; omega), List.drop_eq_nil_of_le (by rw [List.length_take]; omega)]; rfl
      exact e3.symm

/-- What the reference's Next answers: the record lies where the bytes lay that came in. -/
def RNextEnd (a : Option Addr) (w : World) (l : List Nat) (e : Ending) (w' : World) : Prop :=
  Below w.heap.size w w' ∧ ((∃ r t p cp, l = frameL r ++ t ∧ r.length ≤ 1048576 ∧ e = .returned (.tuple #[.slice p r.length cp, .int .i64 ((r.length + 8 : Nat) : Int)]) ∧ Bytes w' p r.length cp r ∧
      (∀ x, p = some x → ∃ y, a = some y ∧ x.block = y.block)) ∨
    (NoFrame l ∧ e = .returned (.tuple #[.slice none 0 0, .int .i64 0])))

/-- 'x[4:]'. -/
theorem slice_rec4 (g o N cap : Nat) (hc : N + 4 ≤ cap) : ∃ p, (∀ w : World, (Instr.slice 58 (.slice (some ⟨g, o, none⟩) (N + 4) cap) (some (.int .i64 4)) none none).run Tryz.prog w = .ok (.slice p N (cap - 4)) w) ∧
    (∀ x, p = some x → x.block = g) ∧ (0 < N → p = some ⟨g, o + 4, none⟩) ∧ p ≠ none := by
  obtain ⟨i, hi, _, hsz, _⟩ := info_parts info_u8
  have hT' : Tryz.prog.underlying 58 = some (.slice (Tryz.prog.elem 58)) := by kernel_rfl
  have hE : Tryz.prog.elem 58 = 5 := by kernel_rfl
  have hsize : ∀ w : World, (sizeOf (Tryz.prog.elem 58)).run Tryz.prog w = .ok 1 w := fun w => by rw [hE]; simp [sizeOf, typeInfo, hi, hsz]
  refine ⟨if cap = 4 then some ⟨g, o, none⟩ else (some ⟨g, o, none⟩ : Option Addr).map (·.add (4 * 1)), fun w => ?_, fun x hx => ?_, fun h => ?_, ?_⟩
  · rw [show (Value.int .i64 4) = .int .i64 ((4 : Nat) : Int) from rfl, run_slice_l w 58 (some ⟨g, o, none⟩) (N + 4) cap hT' .i64 ((4 : Nat) : Int) (by omega) (by omega), hsize]
    rfl
  · split at hx
    · cases hx; rfl
    · simp only [Option.map_some, addr_add] at hx
      cases hx; rfl
  · rw [if_neg (by omega)]
    simp only [Option.map_some, addr_add]
  · split <;> simp

set_option maxRecDepth 100000 in
theorem rnext_short (a : Option Addr) (n cap : Nat) (l : List Nat) (w : World) (hl : Bytes w a n cap l) (hn : n < 8) :
    Calls Tryz.prog 107 #[.slice a n cap] w (RNextEnd a w l) := by
  have HB := Lib.hid hl
  clear hl
  go_enter Tryz.func107, Tryz.ntmps107
  go_wp2
  go_ret2
  exact ⟨Below.refl _ _, .inr ⟨noFrame_short (by rw [HB.out.len]; exact hn), rfl⟩⟩

set_option maxRecDepth 100000 in
theorem rnext_long (b o n cap : Nat) (l : List Nat) (w : World) (hl : Bytes w (some ⟨b, o, none⟩) n cap l) (hn : 8 ≤ n) (hm : n ≤ 100000000000000) :
    Calls Tryz.prog 107 #[.slice (some ⟨b, o, none⟩) n cap] w (RNextEnd (some ⟨b, o, none⟩) w l) := by
  have HB := Lib.hid hl
  have hle := hl.le
  have hcm := hl.capmax
  obtain ⟨b', o', e, hc⟩ := hl.cell (by omega)
  cases e
  have c0 : w.cell? ⟨b, o, none⟩ = some (.int .u8 (byteAt l 0 : Nat)) := hc 0 (by omega)
  have c1 : w.cell? ⟨b, o + 1, none⟩ = some (.int .u8 (byteAt l 1 : Nat)) := hc 1 (by omega)
  have c2 : w.cell? ⟨b, o + 2, none⟩ = some (.int .u8 (byteAt l 2 : Nat)) := hc 2 (by omega)
  have c3 : w.cell? ⟨b, o + 3, none⟩ = some (.int .u8 (byteAt l 3 : Nat)) := hc 3 (by omega)
  have b0 := byteAt_lt hl.byte 0
  have b1 := byteAt_lt hl.byte 1
  have b2 := byteAt_lt hl.byte 2
  have b3 := byteAt_lt hl.byte 3
  obtain ⟨N, hN⟩ : ∃ N, N = num4 l := ⟨_, rfl⟩
  have hsum : ((byteAt l 0 : Nat) : Int) + ((byteAt l 1 : Nat) : Int) * 256 + ((byteAt l 2 : Nat) : Int) * 65536 + ((byteAt l 3 : Nat) : Int) * 16777216 = (N : Int) := by
    have e : N = byteAt l 0 + 256 * byteAt l 1 + 65536 * byteAt l 2 + 16777216 * byteAt l 3 := hN
    omega
  have Hsum := Lib.hid hsum
  have HF := Lib.hid hN
  clear hc hl hsum hN
  go_enter Tryz.func107, Tryz.ntmps107
  go_wp2
  go_quiet (fail)
  rw [Hsum.out]
  have hb1 := below_drewN (Below.refl w.heap.size w) nq
  generalize w.drewN nq = w1 at *
  generalize byteAt l 0 = x0 at *
  generalize byteAt l 1 = x1 at *
  generalize byteAt l 2 = x2 at *
  generalize byteAt l 3 = x3 at *
  have Hb1 := Lib.hid hb1
  clear c0 c1 c2 c3 b0 b1 b2 b3 Hsum hb1
  by_cases hN : N ≤ 1048576
  · have hN1 : (N : Int) ≤ 1048576 := by omega
    by_cases hN2 : N + 8 ≤ n
    · have hN3 : (N : Int) ≤ (n : Int) - 8 := by omega
      have hT : Bytes w1 (some ⟨b, o, none⟩) (N + 8) cap (l.take (N + 8)) := (HB.out.grow Hb1.out).takeTo hN2 (by omega) (Nat.le_refl _)
      have HO := Lib.hid (ropen_at b o (N + 4) cap (l.take (N + 8)) w1 hT (by omega))
      clear hT
      go_wp2_with fail
      refine HO.out.mono ?_
      rintro e w2 ⟨hb2, ⟨x, hx, rfl, hC⟩ | ⟨hno, rfl⟩⟩
      · have hxl : x.length = N + 4 := hC.len
        obtain ⟨p, hp, hpb, hp4, hpn⟩ := slice_rec4 b o N cap (by omega)
        have HX := Lib.hid (frame_of_seal HF.out (by rw [HB.out.len]; exact hN2) hx HB.out.byte)
        have HC := Lib.hid hC
        have Hx := Lib.hid hxl
        have Hb2 := Lib.hid (Hb1.out.trans (hb2.mono Hb1.out.size))
        have Hp := Lib.hid hpb
        have Hp4 := Lib.hid hp4
        have Hpn := Lib.hid hpn
        clear hC hxl hx hb2 hpb hp4 HO hpn
        go_wp2
        go_ret2
        obtain ⟨e1, e2⟩ := HX.out
        refine ⟨Hb2.out, .inl ⟨x.drop 4, l.drop (N + 8), p, cap - 4, e1, by omega, by rw [e2]; rfl, ?_, fun y hy => ⟨_, rfl, Hp.out y hy⟩⟩⟩
        rw [e2]
        rcases Nat.eq_zero_or_pos N with h0 | h0
        · have e3 : x.drop 4 = [] := List.length_eq_zero_iff.1 (by omega)
          rw [e3, h0]
          exact bytes_none (by omega) (fun h => absurd h Hpn.out)
        · rw [Hp4.out h0]
          have hd := HC.out.dropTo (m := 4) (by omega)
          rw [show N + 4 - 4 = N by omega] at hd
          exact hd
      · have Hno := Lib.hid hno
        have Hb2 := Lib.hid (Hb1.out.trans (hb2.mono Hb1.out.size))
        clear hno hb2 HO
        go_wp2
        go_ret2
        exact ⟨Hb2.out, .inr ⟨noFrame_seal HF.out Hno.out, rfl⟩⟩
    · have hN3 : (n : Int) - 8 < (N : Int) := by omega
      go_wp2
      go_ret2
      exact ⟨Hb1.out, .inr ⟨noFrame_len (by rw [HB.out.len, ← HF.out]; omega), rfl⟩⟩
  · have hN1 : 1048576 < (N : Int) := by omega
    go_wp2
    go_ret2
    exact ⟨Hb1.out, .inr ⟨noFrame_most (by rw [← HF.out]; omega), rfl⟩⟩

theorem rnext_any (a : Option Addr) (n cap : Nat) (l : List Nat) (w : World) (hl : Bytes w a n cap l) (hm : n ≤ 100000000000000) :
    Calls Tryz.prog 107 #[.slice a n cap] w (RNextEnd a w l) := by
  by_cases hn : n < 8
  · exact rnext_short a n cap l w hl hn
  · obtain ⟨b, o, rfl, _⟩ := hl.cell (by omega)
    exact rnext_long b o n cap l w hl (by omega) hm
end Go.Proofs.YtjoolocdejnohaaGreat

