import Derived.Test.YtjoolocdejnohaaGreatSC21
import Derived.Test.YtjoolocdejnohaaGreatSC35
import Derived.Test.YtjoolocdejnohaaGreatSC27
import Derived.Test.YtjoolocdejnohaaGreatSC32
import Derived.Test.YtjoolocdejnohaaGreatSC34
import Derived.Test.YtjoolocdejnohaaGreatSC28
import Derived.Test.YtjoolocdejnohaaGreatSC31
import Derived.Deep.RegionHeld3
/- Many records that are put into a log, as plain data. -/
namespace Go.Proofs.YtjoolocdejnohaaGreat
open Go.RowKit Go.Maps

/-- A log after some records have been put into it. -/
def runP (W : WM) (ls : List (List Nat)) : WM := ls.foldl (fun W l => (putW W l).1) W

theorem runP_snoc (W : WM) (ls : List (List Nat)) (l : List Nat) : runP W (ls ++ [l]) = (putW (runP W ls) l).1 := by
  unfold runP
  rw [List.foldl_append]
  rfl

theorem runP_next {W : WM} {ls : List (List Nat)} {j : Nat} (hj : j < ls.length) : runP W (ls.take (j + 1)) = (putW (runP W (ls.take j)) ls[j]).1 := by
  rw [List.take_succ_eq_append_getElem hj, runP_snoc]

/-- Of some records those that Put takes. -/
def takeP (most : Int) (ls : List (List Nat)) : List (List Nat) := ls.filter (okR most)

theorem sizeL_filter (p : List Nat → Bool) : ∀ ls : List (List Nat), sizeL (ls.filter p) ≤ sizeL ls
  | [] => Nat.le_refl _
  | l :: r => by
    have ih := sizeL_filter p r
    rw [List.filter_cons]
    split
    · rw [sizeL_cons, sizeL_cons]; omega
    · rw [sizeL_cons]; omega

theorem sizeL_snoc (ls : List (List Nat)) (l : List Nat) : sizeL (ls ++ [l]) = sizeL ls + (l.length + 8) := by
  rw [sizeL_append, sizeL_cons, sizeL_nil]

/-- While there is room, a log has exactly the records that Put took. -/
theorem run_inv {W : WM} {B : List (List (List Nat))} {c : List (List Nat)} (h : LInv W B c) : ∀ (ls : List (List Nat)), sizeL (B.flatten ++ c) + sizeL ls ≤ W.D.room → W.n + ls.length ≤ 99999999 →
    ∃ B' c', LInv (runP W ls) B' c' ∧ B'.flatten ++ c' = (B.flatten ++ c) ++ takeP W.most ls ∧ (runP W ls).wait ≤ W.wait + (takeP W.most ls).length ∧ (runP W ls).most = W.most ∧ (runP W ls).D.room = W.D.room ∧ (runP W ls).n ≤ W.n + ls.length := by
  suffices H : ∀ (n : Nat) (ls : List (List Nat)), ls.length = n → sizeL (B.flatten ++ c) + sizeL ls ≤ W.D.room → W.n + ls.length ≤ 99999999 →
      ∃ B' c', LInv (runP W ls) B' c' ∧ B'.flatten ++ c' = (B.flatten ++ c) ++ takeP W.most ls ∧ (runP W ls).wait ≤ W.wait + (takeP W.most ls).length ∧ (runP W ls).most = W.most ∧ (runP W ls).D.room = W.D.room ∧ (runP W ls).n ≤ W.n + ls.length from
    fun ls h1 h2 => H ls.length ls rfl h1 h2
  intro n
  induction n with
  | zero =>
    intro ls hl _ _
    obtain rfl : ls = [] := List.length_eq_zero_iff.1 hl
    exact ⟨B, c, h, by simp [takeP], by simp [takeP, runP], rfl, rfl, Nat.le_refl _⟩
  | succ n ih =>
    intro ls hl hr hn
    have hne : ls ≠ [] := by intro e; rw [e] at hl; simp at hl
    obtain ⟨r, l, rfl⟩ : ∃ r l, ls = r ++ [l] := ⟨ls.dropLast, ls.getLast hne, (List.dropLast_concat_getLast hne).symm⟩
    rw [sizeL_snoc] at hr
    rw [List.length_append, List.length_singleton] at hl hn
    obtain ⟨B1, c1, k1, k2, k3, k4, k5, k6⟩ := ih r (by omega) (by omega) (by omega)
    have hs : sizeL (B1.flatten ++ c1) ≤ sizeL (B.flatten ++ c) + sizeL r := by
      rw [k2, sizeL_append]
      have := sizeL_filter (okR W.most) r
      unfold takeP
      omega
    have ht : takeP W.most (r ++ [l]) = takeP W.most r ++ (if okR W.most l = true then [l] else []) := by
      unfold takeP
      rw [List.filter_append]
      congr 1
      by_cases q : okR W.most l = true
      · simp [q]
      · simp [q]
    rw [runP_snoc, ht]
    rcases k1.put l (by rw [k5]; omega) (by omega) with ⟨p1, _, p3⟩ | ⟨p1, _, B2, c2, q1, q2, q3, q4, q5, q6⟩
    · rw [k4] at p1
      rw [p3, p1]
      simp only [Bool.false_eq_true, if_false, List.append_nil]
      exact ⟨B1, c1, k1, k2, k3, k4, k5, by rw [List.length_append]; omega⟩
    · rw [k4] at p1
      rw [p1]
      simp only [if_true]
      refine ⟨B2, c2, q1, by rw [q2, k2, List.append_assoc], ?_, by rw [q4, k4], by rw [q5, k5], by rw [List.length_append, List.length_singleton]; omega⟩
      rw [List.length_append, List.length_singleton]
      rcases q6 with ⟨_, _, e⟩ | ⟨_, _, e⟩ <;> omega
end Go.Proofs.YtjoolocdejnohaaGreat

/- Facts that the statements' loops ask for: logs beside blocks that turn, a box that holds a log of the reference, how small the files of a log are. -/
namespace Go.Proofs.YtjoolocdejnohaaGreat
open Go.RowKit Go.Maps Go.Shelf

theorem filesL_names {B : List (List (List Nat))} {c : List (List Nat)} {k : Nat} : (filesL B c k).map F.n = (List.range (B.length + 1)).map fun i => nmB (i + 1) := by
  unfold filesL
  apply List.ext_getElem (by simp)
  intro i h1 h2
  rw [List.getElem_map, List.getElem_map, List.getElem_range]
  by_cases h : i < B.length
  · rw [List.getElem_append_left (by rw [List.length_mapIdx]; exact h), List.getElem_mapIdx]
    rfl
  · have e : i = B.length := by simp at h2; omega
    subst e
    rw [List.getElem_append_right (by rw [List.length_mapIdx]; exact Nat.le_refl _)]
    simp [lastF]

section
variable {W : WM} {B : List (List (List Nat))} {c : List (List Nat)}

theorem LInv.sorted (h : LInv W B c) : Sorted W.D.fs := by
  have hn := h.n
  have hm := h.nmax
  have e : (W.D.fs.map F.n) = (List.range (B.length + 1)).map fun i => nmB (i + 1) := by rw [h.fs]; exact filesL_names
  have h2 : ((List.range (B.length + 1)).map fun i => nmB (i + 1)).Pairwise fun x y => x < y := by
    rw [List.pairwise_map, List.pairwise_iff_getElem]
    intro i j hi hj hij
    rw [List.length_range] at hi hj
    rw [List.getElem_range, List.getElem_range]
    refine (before_lt _ _).1 ?_
    rw [nmB_before (by omega) (by omega)]
    exact decide_eq_true (by omega)
  rw [← e, List.pairwise_map] at h2
  exact h2

theorem LInv.small (h : LInv W B c) : W.D.fs.length = W.n ∧ usedF W.D.fs = sizeL (B.flatten ++ c) ∧ ∀ f ∈ W.D.fs, f.n.length ≤ 9223372036854775807 := by
  have e : (W.D.fs.map F.n) = (List.range (B.length + 1)).map fun i => nmB (i + 1) := by rw [h.fs]; exact filesL_names
  refine ⟨?_, by rw [h.fs]; exact filesL_used B c W.wait, fun f hf => ?_⟩
  · have := congrArg List.length e
    rw [List.length_map, List.length_map, List.length_range] at this
    rw [this, h.n]
  · have h1 : f.n ∈ W.D.fs.map F.n := List.mem_map.2 ⟨f, hf, rfl⟩
    rw [e] at h1
    obtain ⟨i, _, e2⟩ := List.mem_map.1 h1
    rw [← e2]
    unfold nmB
    rw [List.length_map, nameL_len]
    decide

theorem LInv.bound (h : LInv W B c) : W.size ≤ sizeL (B.flatten ++ c) ∧ W.wait ≤ (B.flatten ++ c).length := by
  have h1 := h.size
  have h2 := h.wait
  rw [sizeL_append, List.length_append]
  omega
end

/-- While there is room, what a log is behind some of the records that are put into it. -/
structure RunOk (room most : Int) (ls : List (List Nat)) (j : Nat) : Prop where
  inv : ∃ B c, LInv (runP (startW room most) (ls.take j)) B c ∧ B.flatten ++ c = takeP most (ls.take j)
  n1 : 1 ≤ (runP (startW room most) (ls.take j)).n
  n2 : (runP (startW room most) (ls.take j)).n ≤ ls.length + 1
  size : (runP (startW room most) (ls.take j)).size ≤ sizeL ls
  wait : (runP (startW room most) (ls.take j)).wait ≤ ls.length
  same : (runP (startW room most) (ls.take j)).most = most
  len : (runP (startW room most) (ls.take j)).D.fs.length ≤ ls.length + 1
  rm : (runP (startW room most) (ls.take j)).D.room = room.toNat
  used : usedF (runP (startW room most) (ls.take j)).D.fs ≤ sizeL ls
  sorted : Sorted (runP (startW room most) (ls.take j)).D.fs
  plan : (runP (startW room most) (ls.take j)).D.plan = 0
  down : (runP (startW room most) (ls.take j)).D.down = false
  names : ∀ f ∈ (runP (startW room most) (ls.take j)).D.fs, f.n.length ≤ 9223372036854775807

theorem sizeL_takes (ls : List (List Nat)) (j : Nat) : sizeL (ls.take j) ≤ sizeL ls := by
  conv => rhs; rw [← List.take_append_drop j ls, sizeL_append]
  omega

theorem run_ok (room most : Int) (ls : List (List Nat)) (h1 : sizeL ls ≤ room.toNat) (h2 : ls.length ≤ 60) (j : Nat) : RunOk room most ls j := by
  obtain ⟨h0, hr⟩ := start_inv room most
  have ht := sizeL_takes ls j
  have htl : (ls.take j).length ≤ ls.length := by rw [List.length_take]; omega
  obtain ⟨B, c, k1, k2, k3, k4, k5, k6⟩ := run_inv h0 (ls.take j) (by rw [hr]; simp only [List.flatten_nil, List.append_nil, sizeL_nil]; omega) (by show 1 + _ ≤ _; omega)
  have hm : (startW room most).most = most := rfl
  have hn : (startW room most).n = 1 := rfl
  have hw : (startW room most).wait = 0 := rfl
  rw [hm] at k2 k3 k4
  rw [hn] at k6
  rw [hw] at k3
  simp only [List.flatten_nil, List.append_nil, List.nil_append] at k2
  obtain ⟨s1, s2, s3⟩ := k1.small
  obtain ⟨b1, b2⟩ := k1.bound
  have hsz : sizeL (takeP most (ls.take j)) ≤ sizeL ls := by
    have := sizeL_filter (okR most) (ls.take j)
    unfold takeP
    omega
  have hln : (takeP most (ls.take j)).length ≤ ls.length := by
    unfold takeP
    have := List.length_filter_le (okR most) (ls.take j)
    omega
  rw [k2] at s2 b1 b2
  exact ⟨⟨B, c, k1, k2⟩, by rw [k1.n]; omega, by omega, by omega, by omega, k4, by omega, by rw [k5, hr], by omega, k1.sorted, k1.plan, k1.down, s3⟩

/-- Blocks of X or new ones have turned: the disk stands. -/
theorem Own.turned {w0 : World} {X Y T : Nat → Prop} {w w' : World} {d : Nat} {M : DM} (h : Own w0 X w d M) (hc : Chg T w w') (hT : ∀ b, T b → X b) (h0 : ∀ b, T b → w0.heap.size ≤ b) (hY : ∀ b, Y b → X b ∨ (w.heap.size ≤ b ∧ b < w'.heap.size)) : Own w0 Y w' d M := by
  obtain ⟨S, hD, hS, hX, hb⟩ := h
  have hlt : ∀ b, S b → b < w.heap.size := by
    obtain ⟨mb, p, L, hA⟩ := hD
    exact hA.bound
  refine ⟨S, hD.aside hc (fun b hs ht => (hS b hs).2 (hT b ht)), fun b hs => ⟨(hS b hs).1, fun hy => ?_⟩, fun b hy => ?_, hb.trans (hc.below h0 hb.size)⟩
  · rcases hY b hy with h1 | h1
    · exact (hS b hs).2 h1
    · have := hlt b hs; omega
  · rcases hY b hy with h1 | h1
    · exact Nat.lt_of_lt_of_le (hX b h1) hc.size
    · exact h1.2

section
variable {w0 : World} {Y : Nat → Prop} {w : World} {g d : Nat} {W : WM}

theorem LogAt.turned (h : LogAt w0 Y w g d W) {T : Nat → Prop} {w' : World} (hc : Chg T w w') (hT : ∀ b, T b → Y b ∧ b ≠ g ∧ w0.heap.size ≤ b) : LogAt w0 (fun b => Y b ∨ (w.heap.size ≤ b ∧ b < w'.heap.size)) w' g d W :=
  ⟨h.own.turned hc (fun b hb => (hT b hb).1) (fun b hb => (hT b hb).2.2) (fun _ hb => hb), .inl h.inY, h.new, (hc.block g h.lt (fun e => (hT g e).2.1 rfl)).trans h.cells⟩
end

/-- The box B holds the reference's log W, its files in blocks of X. -/
def RBox (X : Nat → Prop) (w : World) (B : Nat) (W : WM) : Prop :=
  ∃ a n c R, w.heap[B]? = some (logO (W.D.room : Int) a n c (W.D.plan : Int) W.D.down W.most (W.n : Int) (W.size : Int) (W.wait : Int)) ∧ RowF X w a n c R ∧ R.map FR.f = W.D.fs ∧ n ≤ 1000000 ∧ ∀ b, X b → b < w.heap.size ∧ b ≠ B

/-- .. behind new memory. -/
theorem RBox.below {X : Nat → Prop} {w w' : World} {B : Nat} {W : WM} (h : RBox X w B W) (hb : Below w.heap.size w w') : RBox X w' B W := by
  obtain ⟨a, n, c, R, h1, h2, h3, h4, h5⟩ := h
  exact ⟨a, n, c, R, (hb.block B (Array.getElem?_eq_some_iff.1 h1).1).trans h1, h2.below (fun b hx => (h5 b hx).1) hb, h3, h4, fun b hx => ⟨Nat.lt_of_lt_of_le (h5 b hx).1 hb.size, (h5 b hx).2⟩⟩

theorem RBox.ref {X : Nat → Prop} {w : World} {B : Nat} {W : WM} (h : RBox X w B W) : ∃ a n c R, w.heap[B]? = some (logO (W.D.room : Int) a n c (W.D.plan : Int) W.D.down W.most (W.n : Int) (W.size : Int) (W.wait : Int)) ∧
    RLogAt X w (logV (W.D.room : Int) a n c (W.D.plan : Int) W.D.down W.most (W.n : Int) (W.size : Int) (W.wait : Int)) W ∧ RefAt X w (refV (W.D.room : Int) a n c (W.D.plan : Int) W.D.down) W.D ∧ RowF X w a n c R := by
  obtain ⟨a, n, c, R, h1, h2, h3, h4, h5⟩ := h
  exact ⟨a, n, c, R, h1, ⟨a, n, c, R, rfl, h2, h3, h4⟩, ⟨a, n, c, R, rfl, h2, h3, h4⟩, h2⟩

/-- The eight stores of an assignment to it. -/
def set8 (w : World) (B : Nat) (v0 v1 v2 v3 v4 v5 v6 v7 : Value) : World :=
  ((((((((w.setCell ⟨B, 0, none⟩ v0).setCell ⟨B, 1, none⟩ v1).setCell ⟨B, 2, none⟩ v2).setCell ⟨B, 3, none⟩ v3).setCell ⟨B, 4, none⟩ v4).setCell ⟨B, 5, none⟩ v5).setCell ⟨B, 6, none⟩ v6).setCell ⟨B, 7, none⟩ v7)

theorem set8_size (w : World) (B : Nat) (v0 v1 v2 v3 v4 v5 v6 v7 : Value) : (set8 w B v0 v1 v2 v3 v4 v5 v6 v7).heap.size = w.heap.size := by
  unfold set8; simp

theorem set8_chg (w : World) (B : Nat) (v0 v1 v2 v3 v4 v5 v6 v7 : Value) : Chg (fun b => b = B) w (set8 w B v0 v1 v2 v3 v4 v5 v6 v7) :=
  ((((((((Chg.set (fun b => b = B) w rfl v0).same (Chg.set (fun b => b = B) _ rfl v1)).same (Chg.set (fun b => b = B) _ rfl v2)).same (Chg.set (fun b => b = B) _ rfl v3)).same (Chg.set (fun b => b = B) _ rfl v4)).same (Chg.set (fun b => b = B) _ rfl v5)).same (Chg.set (fun b => b = B) _ rfl v6)).same (Chg.set (fun b => b = B) _ rfl v7))

theorem rbox_set {Z : Nat → Prop} {w : World} {B : Nat} {z0 z1 z2 z3 z4 z5 z6 z7 : Value} (hB : w.heap[B]? = some (.cells #[z0, z1, z2, z3, z4, z5, z6, z7] 47 (0, 0))) {a : Option Addr} {n c : Nat} {R : List FR} (hR : RowF Z w a n c R) (hZ : ∀ b, Z b → b < w.heap.size ∧ b ≠ B) {W : WM} (hf : R.map FR.f = W.D.fs) (hn : n ≤ 1000000) :
    RBox Z (set8 w B (.int .i64 (W.D.room : Int)) (.slice a n c) (.int .i64 (W.D.plan : Int)) (.bool W.D.down) (.int .i64 W.most) (.int .i64 (W.n : Int)) (.int .i64 (W.size : Int)) (.int .i64 (W.wait : Int))) B W := by
  refine ⟨a, n, c, R, ?_, hR.mono (fun b h => ?_) (fun _ h => h), hf, hn, fun b hb => ⟨by rw [set8_size]; exact (hZ b hb).1, (hZ b hb).2⟩⟩
  · unfold set8
    have h1 := set_head (i := 0) hB (.int .i64 (W.D.room : Int))
    have h2 := set_head (i := 1) h1 (.slice a n c)
    have h3 := set_head (i := 2) h2 (.int .i64 (W.D.plan : Int))
    have h4 := set_head (i := 3) h3 (.bool W.D.down)
    have h5 := set_head (i := 4) h4 (.int .i64 W.most)
    have h6 := set_head (i := 5) h5 (.int .i64 (W.n : Int))
    have h7 := set_head (i := 6) h6 (.int .i64 (W.size : Int))
    have h8 := set_head (i := 7) h7 (.int .i64 (W.wait : Int))
    simpa [logO] using h8
  · exact (set8_chg w B _ _ _ _ _ _ _ _).block b (hZ b h).1 (hZ b h).2

/-- What an assignment of a call's answer to the box leaves. -/
theorem rbox_put {X : Nat → Prop} {w w5 : World} {B : Nat} {W r : WM} (h : RBox X w B W) {a : Option Addr} {n c : Nat} {R : List FR} (hR : RowF (fun b => (X b ∨ w.heap.size ≤ b) ∧ b < w5.heap.size) w5 a n c R) (hf : R.map FR.f = r.D.fs) (hb : Below w.heap.size w w5) (hn : r.D.fs.length ≤ 1000000) :
    RBox (fun b => (X b ∨ w.heap.size ≤ b) ∧ b < w5.heap.size) (set8 w5 B (.int .i64 (r.D.room : Int)) (.slice a n c) (.int .i64 (r.D.plan : Int)) (.bool r.D.down) (.int .i64 r.most) (.int .i64 (r.n : Int)) (.int .i64 (r.size : Int)) (.int .i64 (r.wait : Int))) B r := by
  obtain ⟨a0, n0, c0, R0, h1, h2, h3, h4, h5⟩ := h
  have hlt := (Array.getElem?_eq_some_iff.1 h1).1
  refine rbox_set ((hb.block B hlt).trans h1) hR (fun b hb => ⟨hb.2, fun e => ?_⟩) hf ?_
  · rcases hb.1 with h6 | h6
    · exact (h5 b h6).2 e
    · omega
  · rw [← hR.len, ← List.length_map (f := FR.f), hf]
    exact hn

end Go.Proofs.YtjoolocdejnohaaGreat

/- What Open leaves of a disk, in size and names. -/
namespace Go.Proofs.YtjoolocdejnohaaGreat
open Go.RowKit Go.Maps

theorem stepsM_neat' : ∀ (ops : List SO) {M : DM} {N U : Nat}, Neat M N U → Neat (stepsM ops M).1 (N + ops.length) (U + (ops.map fun x => x.bs.length).sum)
  | [], _, _, _, h => h
  | x :: ops, M, N, U, h => by
    have h1 := stepM_neat h x.k x.nm x.tt x.bs
    have e : stepsM (x :: ops) M = if (soM x M).2 = 0 then stepsM ops (soM x M).1 else soM x M := rfl
    rw [e, List.map_cons, List.sum_cons, List.length_cons]
    split
    · exact (stepsM_neat' ops h1).mono (by omega) (by omega)
    · exact h1.mono (by omega) (by omega)

/-- The names of files are short. -/
def Named (M : DM) : Prop := ∀ f ∈ M.fs, f.n.length ≤ 9223372036854775807

theorem mem_setN' {x y : F} {fs : List F} (h : y ∈ setN F.n x fs) : y = x ∨ y ∈ fs := by
  unfold setN at h
  obtain ⟨z, hz, rfl⟩ := List.mem_map.1 h
  by_cases e : (F.n z == F.n x) = true
  · rw [if_pos e]; exact .inl rfl
  · rw [if_neg e]; exact .inr hz

theorem named_step {M : DM} (h : Named M) (k : Int) {nm tt : List UInt8} (bs : List Nat) (h1 : nm.length ≤ 9223372036854775807) (h2 : tt.length ≤ 9223372036854775807) : Named (stepM k nm tt bs M).1 := by
  have chg : ∀ {act : DM → DM × Int}, (∀ M', M'.fs = M.fs → Named (act M').1) → Named (chgM M nm act).1 := by
    intro act ha
    have hf : Named (failM M) := by unfold Named; rw [failM_fs' M]; exact h
    unfold chgM
    split
    · exact hf
    · split
      · exact ha _ (failM_fs' M)
      · exact hf
  have on : ∀ {M' : DM} {act : F → DM → DM × Int}, M'.fs = M.fs → (∀ f, Named (act f M').1) → Named (onM nm act M').1 := by
    intro M' act he ha
    unfold onM
    split
    · unfold Named; rw [he]; exact h
    · exact ha _
  have put : ∀ {x : F} {fs : List F}, x.n.length ≤ 9223372036854775807 → (∀ f ∈ fs, f.n.length ≤ 9223372036854775807) → ∀ f ∈ putN F.n x fs, f.n.length ≤ 9223372036854775807 := by
    intro x fs hx hfs f hf
    unfold putN at hf
    rcases (mem_insN F.n _ _ _).1 hf with rfl | hf
    · exact hx
    · unfold delN at hf
      exact hfs f (List.mem_filter.1 hf).1
  have set : ∀ {x : F} {fs : List F}, x.n.length ≤ 9223372036854775807 → (∀ f ∈ fs, f.n.length ≤ 9223372036854775807) → ∀ f ∈ setN F.n x fs, f.n.length ≤ 9223372036854775807 := by
    intro x fs hx hfs f hf
    rcases mem_setN' hf with rfl | hf
    · exact hx
    · exact hfs f hf
  have del : ∀ {fs : List F}, (∀ f ∈ fs, f.n.length ≤ 9223372036854775807) → ∀ f ∈ delN F.n nm fs, f.n.length ≤ 9223372036854775807 := by
    intro fs hfs f hf
    unfold delN at hf
    exact hfs f (List.mem_filter.1 hf).1
  unfold stepM
  split
  · exact chg fun M' e => by
      have hM : Named M' := by unfold Named; rw [e]; exact h
      split
      · exact hM
      · exact put h1 hM
  · split
    · exact chg fun M' e => on e fun f => by
        have hM : Named M' := by unfold Named; rw [e]; exact h
        split
        · exact set h1 hM
        · exact hM
    · split
      · exact chg fun M' e => on e fun f => by
          have hM : Named M' := by unfold Named; rw [e]; exact h
          exact set h1 hM
      · split
        · exact chg fun M' e => on e fun f => by
            have hM : Named M' := by unfold Named; rw [e]; exact h
            split
            · exact put h2 (del hM)
            · exact hM
        · exact chg fun M' e => on e fun f => by
            have hM : Named M' := by unfold Named; rw [e]; exact h
            exact del hM

theorem named_steps : ∀ (ops : List SO) {M : DM}, Named M → (∀ x ∈ ops, x.nm.length ≤ 9223372036854775807 ∧ x.tt.length ≤ 9223372036854775807) → Named (stepsM ops M).1
  | [], _, h, _ => h
  | x :: ops, M, h, ho => by
    have h1 := named_step h x.k x.bs (ho x (List.mem_cons_self ..)).1 (ho x (List.mem_cons_self ..)).2
    have e : stepsM (x :: ops) M = if (soM x M).2 = 0 then stepsM ops (soM x M).1 else soM x M := rfl
    rw [e]
    split
    · exact named_steps ops h1 (fun y hy => ho y (List.mem_cons_of_mem _ hy))
    · exact h1

end Go.Proofs.YtjoolocdejnohaaGreat

/- The walks of the steps of a compaction on a disk of the call's own. -/
namespace Go.Proofs.YtjoolocdejnohaaGreat
open Go.RowKit Go.Maps Go.Shelf

attribute [local go_sem ↓] Go.wp_at_zero Go.wp_at_succ

/-- A compaction, as a value. -/
def compV (d : Nat) (n : Int) (p : Option Addr) (m c : Nat) : Value := .agg #[.pointer (some ⟨d, 0, none⟩), .int .i64 n, .slice p m c]
def compO (d : Nat) (n : Int) (p : Option Addr) (m c : Nat) : Obj := .cells #[.pointer (some ⟨d, 0, none⟩), .int .i64 n, .slice p m c] 150

theorem tfile_any (N : Nat) (w : World) (h1 : 1 ≤ N) (hN : N ≤ 99999999) :
    Calls Tryz.prog 98 #[.int .i64 (N : Int)] w fun e w' => e = .returned (encStr (nmB N)) ∧ Below w.heap.size w w' := by
  have HI := Lib.hid (fun w1 => segname_yes N w1 h1 hN)
  clear h1 hN
  go_enter Tryz.func98, Tryz.ntmps98
  go_wp2_with fail
  refine (HI.out _).mono ?_
  rintro e w' ⟨rfl, hb⟩
  have Hb := Lib.hid hb
  clear hb
  go_wp2
  go_ret
  exact ⟨rfl, Hb.out⟩

theorem box3c {w : World} {B : Nat} {v0 v1 v2 : Value} {t : TypeId} (h : w.heap[B]? = some (.cells #[v0, v1, v2] t (0, 0))) :
    w.cell? ⟨B, 0, none⟩ = some v0 ∧ w.cell? ⟨B, 1, none⟩ = some v1 ∧ w.cell? ⟨B, 2, none⟩ = some v2 ∧ ∀ i, w.frozen? ⟨B, i, none⟩ = false := by
  refine ⟨?_, ?_, ?_, fun i => by simp [World.frozen?, h]⟩ <;> (rw [cell_of_row _ _ _ _ _ (0, 0) h]; rfl)

theorem OwnEnd.past {w0 : World} {X Y : Nat → Prop} {w w1 : World} {d : Nat} {M : DM} (hX : ∀ b, X b → b < w.heap.size) (h0 : w0.heap.size ≤ w.heap.size) (hb : Below w.heap.size w w1) (hY : ∀ b, X b → Y b) {w' : World} (h : OwnEnd w0 Y w1 d M w') : OwnEnd w0 X w d M w' := by
  obtain ⟨h1, h2, h3, h4⟩ := h
  exact ⟨h1.sub hY, fun b hx => (h2 b (hY b hx)).trans (hb.block b (hX b hx)), (hb.mono h0).trans h3, Nat.le_trans hb.size h4⟩

section
variable {w0 : World} {X : Nat → Prop} {w : World} {d : Nat} {M : DM}

/-- The compaction's box, kept aside. -/
theorem comp_box (h : Own w0 X w d M) (n : Int) (p : Option Addr) (m c : Nat) : ∃ w1, w1 = w.alloc (compO d n p m c) ∧ Below w.heap.size w w1 ∧ w.heap.size < w1.heap.size ∧ Own w0 (fun b => X b ∨ b = w.heap.size) w1 d M ∧ w1.heap[w.heap.size]? = some (compO d n p m c) := by
  have hb : Below w.heap.size w (w.alloc (compO d n p m c)) := (Below.refl _ _).alloc (Nat.le_refl _) _
  exact ⟨_, rfl, hb, by simp, h.more hb (fun b hb => hb.elim .inl (fun e => .inr ⟨by omega, by rw [World.size_alloc]; omega⟩)), heap_alloc_new _ _⟩

set_option maxRecDepth 100000 in
theorem t_create (h : Own w0 X w d M) (hL : M.fs.length < 1000000) (n : Int) (p : Option Addr) (m c : Nat) :
    Calls Tryz.prog 131 #[compV d n p m c] w (OwnAct w0 X w d (createM newB M)) := by
  obtain ⟨w1, hw1, hb1, hz1, hO1, hB1⟩ := comp_box h n p m c
  have HA := Lib.hid (own_create hO1 newB (by decide) hL)
  have hk := Lib.hid (fun w' => OwnEnd.past (w' := w') (M := (createM newB M).1) (d := d) h.blocks h.base.size hb1 (Y := fun b => X b ∨ b = w.heap.size) (fun b => .inl))
  unfold compO at hw1 hB1
  obtain ⟨k0, k1, k2, kf⟩ := box3c hB1
  have Hw1 := Lib.hid hw1
  clear h hw1 hb1 hz1 hO1 hB1 hL
  unfold compV
  go_enter Tryz.func131, Tryz.ntmps131
  go_wp2_with fail
  rw [← Hw1.out]
  refine HA.out.mono ?_
  rintro e w5 ⟨rfl, hq⟩
  have Hq := Lib.hid hq
  clear hq k0 k1 k2 kf
  go_wp2
  go_ret
  exact ⟨rfl, hk.out _ Hq.out⟩

set_option maxRecDepth 100000 in
theorem t_sync (h : Own w0 X w d M) (n : Int) (p : Option Addr) (m c : Nat) :
    Calls Tryz.prog 133 #[compV d n p m c] w (OwnAct w0 X w d (syncM newB M)) := by
  obtain ⟨w1, hw1, hb1, hz1, hO1, hB1⟩ := comp_box h n p m c
  have HA := Lib.hid (own_sync hO1 newB (by decide))
  have hk := Lib.hid (fun w' => OwnEnd.past (w' := w') (M := (syncM newB M).1) (d := d) h.blocks h.base.size hb1 (Y := fun b => X b ∨ b = w.heap.size) (fun b => .inl))
  unfold compO at hw1 hB1
  obtain ⟨k0, k1, k2, kf⟩ := box3c hB1
  have Hw1 := Lib.hid hw1
  clear h hw1 hb1 hz1 hO1 hB1
  unfold compV
  go_enter Tryz.func133, Tryz.ntmps133
  go_wp2_with fail
  rw [← Hw1.out]
  refine HA.out.mono ?_
  rintro e w5 ⟨rfl, hq⟩
  have Hq := Lib.hid hq
  clear hq k0 k1 k2 kf
  go_wp2
  go_ret
  exact ⟨rfl, hk.out _ Hq.out⟩

set_option maxRecDepth 100000 in
theorem t_fill (h : Own w0 X w d M) (n : Int) (p : Option Addr) (m c : Nat) (l : List Nat) (hB : Bytes w p m c l) (hp : 0 < m → ∀ a, p = some a → X a.block) (hlim : usedF M.fs + l.length ≤ 140737488355328) :
    Calls Tryz.prog 132 #[compV d n p m c] w (OwnAct w0 X w d (appendM newB l M)) := by
  obtain ⟨w1, hw1, hb1, hz1, hO1, hB1⟩ := comp_box h n p m c
  have HA := Lib.hid (own_append hO1 newB (by decide) p m c l (hB.grow hb1) (fun h0 a ha => .inl (.inl (hp h0 a ha))) hlim)
  have hk := Lib.hid (fun w' => OwnEnd.past (w' := w') (M := (appendM newB l M).1) (d := d) h.blocks h.base.size hb1 (Y := fun b => X b ∨ b = w.heap.size) (fun b => .inl))
  unfold compO at hw1 hB1
  obtain ⟨k0, k1, k2, kf⟩ := box3c hB1
  have Hw1 := Lib.hid hw1
  clear h hw1 hb1 hz1 hO1 hB1 hB hp hlim
  unfold compV
  go_enter Tryz.func132, Tryz.ntmps132
  go_wp2_with fail
  rw [← Hw1.out]
  refine HA.out.mono ?_
  rintro e w5 ⟨rfl, hq⟩
  have Hq := Lib.hid hq
  clear hq k0 k1 k2 kf
  go_wp2
  go_ret
  exact ⟨rfl, hk.out _ Hq.out⟩

set_option maxRecDepth 100000 in
theorem t_clear (h : Own w0 X w d M) (hL : M.fs.length ≤ 1000000) (hL2 : M.fs.length < 1000000) (n : Int) (p : Option Addr) (m c : Nat) :
    Calls Tryz.prog 130 #[compV d n p m c] w (OwnAct w0 X w d (stepsM (cleanM [newB] M) M)) := by
  obtain ⟨w1, hw1, hb1, hz1, hO1, hB1⟩ := comp_box h n p m c
  have HL := Lib.hid (own_list hO1 hL2)
  have HO := Lib.hid hO1
  have hk := Lib.hid (fun M' w' => OwnEnd.past (w' := w') (M := M') (d := d) h.blocks h.base.size hb1 (Y := fun b => X b ∨ b = w.heap.size) (fun b => .inl))
  unfold compO at hw1 hB1
  obtain ⟨k0, k1, k2, kf⟩ := box3c hB1
  have Hw1 := Lib.hid hw1
  have HB1 := Lib.hid hB1
  have Hfl := Lib.hid hL
  clear h hw1 hb1 hz1 hO1 hB1 hL hL2
  unfold compV
  go_enter Tryz.func130, Tryz.ntmps130
  go_wp2_with fail
  rw [← Hw1.out]
  clear Hw1
  refine HL.out.mono ?_
  rintro e w2 ⟨v2, rfl, hown2, hb2⟩
  obtain ⟨p2, k2', rfl, hCn⟩ := contains_any hown2 Hfl.out
  have HCn := Lib.hid (hCn newB w2 (Below.refl _ _))
  have hO2 := HO.out.below hb2
  obtain ⟨q0, q1, q2, qf⟩ := box3c ((hb2.block _ (Array.getElem?_eq_some_iff.1 HB1.out).1).trans HB1.out)
  have Hend := Lib.hid (fun M' w' (hE : OwnEnd w0 (fun b => X b ∨ b = w.heap.size) w2 d M' w') => hk.out M' w' (OwnEnd.past HO.out.blocks HO.out.base.size hb2 (fun _ h => h) hE))
  have HRm := Lib.hid (own_remove hO2 newB (by decide))
  have HO2 := Lib.hid hO2
  clear k0 k1 k2 kf hown2 hCn hb2 hk HB1 HO hO2 HL
  go_wp2_with fail
  refine HCn.out.mono ?_
  rintro e w3 ⟨rfl, rfl⟩
  by_cases hc : newB ∈ M.fs.map F.n
  · have hct : decide (newB ∈ M.fs.map F.n) = true := decide_eq_true hc
    have e1 : cleanM [newB] M = [⟨5, newB, [], []⟩] := by
      have := cleanM_snoc [] newB M
      rw [if_pos hc] at this
      exact this
    have HE := Lib.hid (show stepsM (cleanM [newB] M) M = removeM newB M from by
      rw [e1]
      show (if (removeM newB M).2 = 0 then ((removeM newB M).1, (0 : Int)) else removeM newB M) = removeM newB M
      split
      · next hz => rw [← hz]
      · rfl)
    rw [hct]
    clear hct e1 hc
    go_wp2_with fail
    refine HRm.out.mono ?_
    rintro e w4 ⟨rfl, hq⟩
    have Hq := Lib.hid hq
    clear hq q0 q1 q2 qf
    go_wp2
    go_ret
    rw [HE.out]
    exact ⟨rfl, Hend.out _ _ Hq.out⟩
  · have hct : decide (newB ∈ M.fs.map F.n) = false := decide_eq_false hc
    have HE := Lib.hid (show stepsM (cleanM [newB] M) M = (M, 0) from by
      have := cleanM_snoc [] newB M
      rw [if_neg hc] at this
      have e1 : cleanM [newB] M = [] := this
      rw [e1]
      rfl)
    rw [hct]
    clear hct hc q0 q1 q2 qf
    go_wp2
    go_ret
    rw [HE.out]
    exact ⟨rfl, Hend.out _ _ ⟨HO2.out, fun _ _ => rfl, Below.refl _ _, Nat.le_refl _⟩⟩

set_option maxRecDepth 100000 in
theorem t_number (h : Own w0 X w d M) (hL : M.fs.length < 1000000) (N : Nat) (h1 : 1 ≤ N) (hN : N ≤ 99999999) (p : Option Addr) (m c : Nat) :
    Calls Tryz.prog 134 #[compV d (N : Int) p m c] w (OwnAct w0 X w d (renameM newB (nmB N) M)) := by
  obtain ⟨w1, hw1, hb1, hz1, hO1, hB1⟩ := comp_box h (N : Int) p m c
  have HR := Lib.hid (fun W (hW : Below w1.heap.size w1 W) => (show Calls Tryz.prog 157 #[.pointer (some ⟨d, 0, none⟩), .string ⟨#[110, 101, 119]⟩, encStr (nmB N)] W (OwnAct w0 (fun b => X b ∨ b = w.heap.size) W d (renameM newB (nmB N) M)) from own_rename (hO1.below hW) newB (nmB N) (by decide) (by rw [nmB_length]; decide) hL))
  have HFl := Lib.hid (fun W => tfile_any N W h1 hN)
  have hk := Lib.hid (fun W (hW : Below w1.heap.size w1 W) w' (hE : OwnEnd w0 (fun b => X b ∨ b = w.heap.size) W d (renameM newB (nmB N) M).1 w') => OwnEnd.past (w' := w') (M := (renameM newB (nmB N) M).1) (d := d) h.blocks h.base.size (hb1.trans (hW.mono hb1.size)) (Y := fun b => X b ∨ b = w.heap.size) (fun b => .inl) hE)
  unfold compO at hw1 hB1
  have HB := Lib.hid (fun W (hW : Below w1.heap.size w1 W) => (show W.cell? ⟨w.heap.size, 0, none⟩ = some (.pointer (some ⟨d, 0, none⟩)) ∧ W.cell? ⟨w.heap.size, 1, none⟩ = some (.int .i64 (N : Int)) from by
    obtain ⟨k0, k1, _⟩ := box3c ((hW.block _ (Array.getElem?_eq_some_iff.1 hB1).1).trans hB1)
    exact ⟨k0, k1⟩))
  have Hw1 := Lib.hid hw1
  clear h hw1 hb1 hz1 hO1 hB1 hL h1 hN
  unfold compV
  go_enter Tryz.func134, Tryz.ntmps134
  go_wp2_with fail
  rw [← Hw1.out]
  clear Hw1
  go_region_held3 (fun w' => w'.cell? ⟨w.heap.size, 0, none⟩ = some (.pointer (some ⟨d, 0, none⟩)) ∧ w'.cell? ⟨w.heap.size, 1, none⟩ = some (.int .i64 (N : Int)))
    (first | exact hs7 | exact HB.out _ hb6 | exact HB.out _ (Below.drew (Below.refl _ _)))
    (first
      | (go_at_call 98; (with_reducible refine (HFl.out _).mono ?_); rintro e w6 ⟨rfl, hb0⟩; have hb6 : Below w1.heap.size w1 w6 := (Below.drew (Below.refl _ _)).trans hb0; clear hb0)
      | (go_at_call 157; (with_reducible refine (HR.out _ hb6).mono ?_); rintro e w7 ⟨rfl, hq⟩; have Hq := Lib.hid (hk.out _ hb6 _ hq); have hx7 := hq.2.1 _ (.inr rfl); have hs7 : w7.cell? ⟨w.heap.size, 0, none⟩ = some (.pointer (some ⟨d, 0, none⟩)) ∧ w7.cell? ⟨w.heap.size, 1, none⟩ = some (.int .i64 (N : Int)) := ⟨(World.cell?_of_block (a := ⟨w.heap.size, 0, none⟩) hx7).trans (HB.out _ hb6).1, (World.cell?_of_block (a := ⟨w.heap.size, 1, none⟩) hx7).trans (HB.out _ hb6).2⟩; clear hq hx7))
  go_wp2
  go_ret
  exact ⟨rfl, Hq.out⟩

/-- Numbers that ascend, up to a bound. -/
theorem filter_upto {l : List Int} (ha : Asc l) {n : Int} {j : Nat} (hj : j ≤ l.length) (h1 : ∀ i (h : i < l.length), i < j → l[i] < n) (h2 : j = l.length ∨ ∃ h : j < l.length, n ≤ l[j]) : l.filter (fun x => decide (x < n)) = l.take j := by
  have e : l.filter (fun x => decide (x < n)) = (l.take j ++ l.drop j).filter fun x => decide (x < n) := by rw [List.take_append_drop]
  rw [e, List.filter_append]
  have e1 : (l.take j).filter (fun x => decide (x < n)) = l.take j := by
    rw [List.filter_eq_self]
    intro x hx
    obtain ⟨i, hi, rfl⟩ := List.getElem_of_mem hx
    rw [List.length_take] at hi
    rw [List.getElem_take]
    exact decide_eq_true (h1 i (by omega) (by omega))
  have e2 : (l.drop j).filter (fun x => decide (x < n)) = [] := by
    rw [List.filter_eq_nil_iff]
    intro x hx
    obtain ⟨i, hi, rfl⟩ := List.getElem_of_mem hx
    rw [List.length_drop] at hi
    rw [List.getElem_drop]
    rcases h2 with h2 | ⟨h, h2⟩
    · omega
    · have : l[j] ≤ l[j + i] := by
        rcases Nat.eq_zero_or_pos i with h0 | h0
        · subst h0; exact Int.le_refl _
        · have := (List.pairwise_iff_getElem.1 ha) j (j + i) h (by omega) (by omega)
          omega
      simp only [decide_eq_true_eq]
      omega
  rw [e1, e2, List.append_nil]

def rmOps (l : List Int) : List SO := l.map fun x => ⟨5, nmB x.toNat, [], []⟩

theorem rmOps_take {l : List Int} {j : Nat} (h : j < l.length) : rmOps (l.take (j + 1)) = rmOps (l.take j) ++ [⟨5, nmB l[j].toNat, [], []⟩] := by
  unfold rmOps
  rw [List.take_succ_eq_append_getElem h, List.map_append]
  rfl

theorem stepsM_one (x : SO) (M : DM) : stepsM [x] M = soM x M := by
  show (if (soM x M).2 = 0 then ((soM x M).1, (0 : Int)) else soM x M) = soM x M
  split
  · next hz => rw [← hz]
  · rfl

theorem old_fail {out : List Int} {n : Nat} {j : Nat} (h : ∀ i (h : i < out.length), i < j → out[i] < (n : Int)) : oldOps out n = rmOps (out.take j) ++ rmOps ((out.drop j).filter fun x => decide (x < (n : Int))) := by
  have e1 : (out.take j).filter (fun x => decide (x < (n : Int))) = out.take j := by
    rw [List.filter_eq_self]
    intro x hx
    obtain ⟨i, hi, rfl⟩ := List.getElem_of_mem hx
    rw [List.length_take] at hi
    rw [List.getElem_take]
    exact decide_eq_true (h i (by omega) (by omega))
  have e : out.filter (fun x => decide (x < (n : Int))) = out.take j ++ (out.drop j).filter fun x => decide (x < (n : Int)) := by
    conv => lhs; rw [← List.take_append_drop j out]
    rw [List.filter_append, e1]
  unfold oldOps rmOps
  rw [e, List.map_append]

theorem OwnEnd.then {Y : Nat → Prop} {w1 w2 : World} {M1 M2 : DM} (h1 : OwnEnd w0 Y w d M1 w1) (h2 : OwnEnd w0 Y w1 d M2 w2) : OwnEnd w0 Y w d M2 w2 :=
  ⟨h2.1, fun b hb => (h2.2.1 b hb).trans (h1.2.1 b hb), h1.2.2.1.trans h2.2.2.1, Nat.le_trans h1.2.2.2 h2.2.2.2⟩

theorem stepsM_prefix {a b : List SO} {M : DM} (h : (stepsM a M).2 ≠ 0) : stepsM (a ++ b) M = stepsM a M := by rw [stepsM_append, if_neg h]
theorem stepsM_next {a b : List SO} {M M' : DM} (h : stepsM a M = (M', 0)) : stepsM (a ++ b) M = stepsM b M' := by rw [stepsM_append, h, if_pos rfl]

/-- Behind j removals. -/
def OldRel (w0 : World) (Y : Nat → Prop) (d : Nat) (w : World) (M : DM) (out : List Int) (n : Int) (i : Value) (wr : World) : Prop :=
  ∃ (j : Nat) (M' : DM), j ≤ out.length ∧ i = .int .i64 (j : Int) ∧ (∀ i (h : i < out.length), i < j → out[i] < n) ∧ stepsM (rmOps (out.take j)) M = (M', 0) ∧ OwnEnd w0 Y w d M' wr

set_option maxRecDepth 100000 in
set_option maxHeartbeats 3200000 in
theorem t_old (h : Own w0 X w d M) (hL : M.fs.length ≤ 1000) (hnm : Named M) {out : List Int} (ho : SegsOf M out) (N : Nat) (p : Option Addr) (m c : Nat) :
    Calls Tryz.prog 135 #[compV d (N : Int) p m c] w (OwnAct w0 X w d (stepsM (oldOps out N) M)) := by
  have hpos : ∀ x ∈ out, 1 ≤ x ∧ x ≤ 99999999 := by
    intro x hx
    obtain ⟨l, _, h1, rfl⟩ := (ho.2 x).1 hx
    have := segNum_le l
    omega
  obtain ⟨w1, hw1, hb1, hz1, hO1, hB1⟩ := comp_box h (N : Int) p m c
  have HLi := Lib.hid (own_list hO1 (by omega))
  have HFl := Lib.hid (fun K W h1 h2 => tfile_any K W h1 h2)
  have hk := Lib.hid (fun M' w' => OwnEnd.past (w' := w') (M := M') (d := d) h.blocks h.base.size hb1 (Y := fun b => X b ∨ b = w.heap.size) (fun b => .inl))
  unfold compO at hw1 hB1
  have HO := Lib.hid hO1
  have Hw1 := Lib.hid hw1
  have HB1 := Lib.hid hB1
  have Hnm := Lib.hid hnm
  have Hpos := Lib.hid hpos
  have Ho := Lib.hid ho
  clear h hw1 hb1 hz1 hO1 hB1 hnm hpos ho
  obtain ⟨k0, k1, k2, kf⟩ := box3c HB1.out
  unfold compV
  go_enter Tryz.func135, Tryz.ntmps135
  go_wp2_with fail
  rw [← Hw1.out]
  clear Hw1
  refine HLi.out.mono ?_
  rintro e w3 ⟨v3, rfl, hown, hb3⟩
  obtain ⟨p3, k3, rfl, hS3⟩ := strs_row hown (fun n hn => by obtain ⟨f, hf, rfl⟩ := List.mem_map.1 hn; exact Hnm.out f hf)
  have HSl := Lib.hid (seglist_any p3 M.fs.length k3 _ w3 hS3 hL)
  have Hb3 := Lib.hid hb3
  clear hown hS3 hb3 k0 k1 k2 kf HLi
  go_wp2_with fail
  refine HSl.out.mono ?_
  rintro e w4 ⟨v4, out', rfl, hasc, hmem, hol, hown4, hb4⟩
  have hmap : (M.fs.map F.n).map nmL = M.fs.map fun f => nmL f.n := by rw [List.map_map]; rfl
  rw [hmap] at hmem
  obtain rfl : out' = out := segsOf_uniq ⟨hasc, hmem⟩ Ho.out
  obtain ⟨p4, k4, rfl, hI4⟩ := own_ints hown4
  have hb41 := Hb3.out.trans (hb4.mono Hb3.out.size)
  have hol2 : out'.length ≤ 1000 := by
    rw [List.length_map, List.length_map] at hol
    omega
  have hO4 : Own w0 (fun b => (X b ∨ b = w.heap.size) ∨ (w1.heap.size ≤ b ∧ b < w4.heap.size)) w4 d M := HO.out.more hb41 (fun b hb => hb)
  have HEnd := Lib.hid (fun M' w' (hE : OwnEnd w0 (fun b => (X b ∨ b = w.heap.size) ∨ (w1.heap.size ≤ b ∧ b < w4.heap.size)) w4 d M' w') => hk.out M' w' (OwnEnd.past HO.out.blocks HO.out.base.size hb41 (fun _ h => .inl h) hE))
  have HI := Lib.hid hI4
  have HO4 := Lib.hid hO4
  have HB4 := Lib.hid ((hb41.block _ (Array.getElem?_eq_some_iff.1 HB1.out).1).trans HB1.out)
  have Hasc := Lib.hid hasc
  have hrow4 : ∀ b o, p4 = some ⟨b, o, none⟩ → w1.heap.size ≤ b ∧ b < w4.heap.size := by
    rintro b o rfl
    obtain ⟨g1, g2⟩ := hown4.lt b rfl
    exact ⟨Nat.le_trans Hb3.out.size g1, g2⟩
  have Hrow4 := Lib.hid hrow4
  clear hmap hmem hasc hol hown4 hb4 hb41 hI4 hO4 HB1 HO hk hrow4
  go_wp2_with fail
  go_loopw [11] (fun i wr => OldRel w0 (fun b => (X b ∨ b = w.heap.size) ∨ (w1.heap.size ≤ b ∧ b < w4.heap.size)) d w4 M out' (N : Int) i wr) (fun i _ => out'.length - (intOf i).toNat)
  case atStart => exact ⟨0, M, Nat.zero_le _, rfl, fun i h h0 => absurd h0 (Nat.not_lt_zero _), rfl, HO4.out, fun _ _ => rfl, Below.refl _ _, Nat.le_refl _⟩
  case round =>
    obtain ⟨j, M', hj, rfl, hall, hst, hE⟩ := hrel
    have hbx := (hE.2.1 _ (.inl (.inr rfl))).trans HB4.out
    obtain ⟨k0, k1, k2, kf⟩ := box3c hbx
    by_cases hlt : j < out'.length
    · obtain ⟨b, o, rfl, hc⟩ := HI.out.cell (by omega)
      have hcj := (World.cell?_of_block (a := ⟨b, o + j, none⟩) (hE.2.1 b (.inr (Hrow4.out b o rfl)))).trans (hc j hlt)
      have hgj : out'.getD j 0 = out'[j] := by rw [List.getD_eq_getElem?_getD, List.getElem?_eq_getElem hlt]; rfl
      rw [hgj] at hcj
      obtain ⟨p1, p2⟩ := Hpos.out out'[j] (List.getElem_mem hlt)
      have hji : (j : Int) < (out'.length : Int) := by omega
      have hbrk := fun (h : (N : Int) ≤ out'[j]) => filter_upto Hasc.out hj hall (.inr ⟨hlt, h⟩)
      have hmore : out'[j] < (N : Int) → ∀ i (h : i < out'.length), i < j + 1 → out'[i] < (N : Int) := fun hy i h hi => by
        by_cases e : i = j
        · subst e; exact hy
        · exact hall i h (by omega)
      have htk := rmOps_take hlt
      clear hgj hc
      have Hj : Hid (out'[j] = out'[j]) := Lib.hid rfl
      generalize hy0 : out'[j] = y at *
      have Hy0 := Lib.hid hy0
      clear hy0 Hj
      obtain ⟨K, rfl⟩ : ∃ K : Nat, y = (K : Int) := ⟨y.toNat, by omega⟩
      rw [Int.toNat_natCast] at htk
      have Hlt := Lib.hid hlt
      have HE := Lib.hid hE
      by_cases hy : (K : Int) < (N : Int)
      · obtain ⟨r, hr⟩ : ∃ r, r = removeM (nmB K) M' := ⟨_, rfl⟩
        have hone : stepsM (rmOps (out'.take (j + 1))) M = r := by
          rw [htk, stepsM_next hst, stepsM_one, hr]
          rfl
        have HF := Lib.hid (fun (hz : r.2 ≠ 0) => (show stepsM (oldOps out' N) M = r from by
          rw [old_fail (hmore hy), stepsM_prefix (by rw [hone]; exact hz), hone]))
        have HN := Lib.hid (fun (hz : r.2 = 0) => (show stepsM (rmOps (out'.take (j + 1))) M = (r.1, 0) from by rw [hone, ← hz]))
        have Hmore := Lib.hid (hmore hy)
        have HR := Lib.hid (fun W (hW : Below wr.heap.size wr W) => (show Calls Tryz.prog 152 #[.pointer (some ⟨d, 0, none⟩), encStr (nmB K)] W (OwnAct w0 (fun b => (X b ∨ b = w.heap.size) ∨ (w1.heap.size ≤ b ∧ b < w4.heap.size)) W d r) from by
          rw [hr]
          exact own_remove (hE.1.below hW) (nmB K) (by rw [nmB_length]; decide)))
        have Hx := Lib.hid (fun W (hW : Below wr.heap.size wr W) w' (q : OwnEnd w0 (fun b => (X b ∨ b = w.heap.size) ∨ (w1.heap.size ≤ b ∧ b < w4.heap.size)) W d r.1 w') => hE.then (OwnEnd.past hE.1.blocks hE.1.base.size hW (fun _ h => h) q))
        have HB := Lib.hid (fun W (hW : Below wr.heap.size wr W) => cell_keep hW k0)
        have HFk := Lib.hid (fun W => HFl.out K W (by omega) (by omega))
        have hy1 : ¬ (N : Int) ≤ (K : Int) := by omega
        clear hbx hst hE hall hbrk hmore htk hone hr hlt Hy0
        go_wp2_with fail
        go_region_held3 (fun w' => w'.cell? ⟨w.heap.size, 0, none⟩ = some (.pointer (some ⟨d, 0, none⟩)))
          (first | exact hs7 | exact HB.out _ hb6 | exact HB.out _ (Below.drew (Below.refl _ _)))
          (first
            | (go_at_call 98; (with_reducible refine (HFk.out _).mono ?_); rintro e w6 ⟨rfl, hb0⟩; have hb6 : Below wr.heap.size wr w6 := (Below.drew (Below.refl _ _)).trans hb0; clear hb0)
            | (go_at_call 152; (with_reducible refine (HR.out _ hb6).mono ?_); rintro e w7 ⟨rfl, hq⟩; have Hq := Lib.hid (Hx.out _ hb6 _ hq); have hx7 := hq.2.1 _ (.inl (.inr rfl)); have hs7 : w7.cell? ⟨w.heap.size, 0, none⟩ = some (.pointer (some ⟨d, 0, none⟩)) := (World.cell?_of_block (a := ⟨w.heap.size, 0, none⟩) hx7).trans (HB.out _ hb6); clear hq hx7))
        by_cases hz : r.2 = 0
        · have hz1 : (r.2 != 0) = false := by simp [hz]
          have HN2 := Lib.hid (HN.out hz)
          clear hz
          go_wp2
          go_roundw
          case rel => exact ⟨j + 1, r.1, Hlt.out, by go_num, Hmore.out, HN2.out, Hq.out⟩
          case measure => simp [intOf]; have := Hlt.out; omega
        · have hz1 : (r.2 != 0) = true := by simp [hz]
          have HF2 := Lib.hid (HF.out hz)
          clear hz
          go_wp2
          go_ret
          rw [HF2.out]
          exact ⟨rfl, HEnd.out _ _ Hq.out⟩
      · have HF := Lib.hid (show stepsM (oldOps out' N) M = (M', 0) from by
          unfold oldOps
          rw [hbrk (by omega)]
          exact hst)
        have hy1 : (N : Int) ≤ (K : Int) := by omega
        clear hbx hst hE hall hbrk hmore htk hlt Hy0
        go_wp2
        go_ret
        rw [HF.out]
        exact ⟨rfl, HEnd.out _ _ HE.out⟩
    · obtain rfl : j = out'.length := by omega
      have hji : ¬ (out'.length : Int) < (out'.length : Int) := by omega
      have HF := Lib.hid (show stepsM (oldOps out' N) M = (M', 0) from by
        unfold oldOps
        rw [filter_upto Hasc.out hj hall (.inl rfl)]
        exact hst)
      have HE := Lib.hid hE
      clear hbx hst hE hall hlt
      go_wp2
      go_ret
      rw [HF.out]
      exact ⟨rfl, HEnd.out _ _ HE.out⟩
end
end Go.Proofs.YtjoolocdejnohaaGreat

