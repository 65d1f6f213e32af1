import Derived.Test.YtngnbmaocdadaaaMN24
import Derived.Test.YtngnbmaocdadaaaMN17
/- The walk of the reference's New. -/
namespace Go.Proofs.Ytngnbmaocdadaaa
open Go.RowKit Go.Maps Go.Shelf

theorem nmB_one' : nmB 1 = [108, 111, 103, 45, 48, 48, 48, 48, 48, 48, 48, 49] := by decide +kernel

theorem row_alloc' {w : World} {b : Nat} {cs : Array Value} {t : TypeId} {m : Nat × Nat} (h : w.heap[b]? = some (.cells cs t m)) (o : Obj) (i : Nat) : (w.alloc o).cell? ⟨b, i, none⟩ = cs[i]? := by
  rw [World.cell?_of_block (Below.heap_alloc _ _ _ (Array.getElem?_eq_some_iff.1 h).1)]
  exact cell_of_row _ _ _ _ _ _ h

theorem frozen_alloc' {w : World} {b : Nat} {cs : Array Value} {t : TypeId} (h : w.heap[b]? = some (.cells cs t (0, 0))) (o : Obj) (i : Nat) : (w.alloc o).frozen? ⟨b, i, none⟩ = false := by
  have h1 : (w.alloc o).heap[b]? = some (.cells cs t (0, 0)) := (Below.heap_alloc _ _ _ (Array.getElem?_eq_some_iff.1 h).1).trans h
  simp [World.frozen?, h1]

theorem resultsN_one {fn : Func} {p : Tmp} {ty : TypeId} (h : fn.results = #[.cell p ty]) (tmps : Array Value) (P : Program) (w : World) :
    (results fn tmps).run P w = ((asAddr (tmps.getD p undef)).run P w).andThen fun a w₁ => (loadVar ty a).run P w₁ := by
  simp only [results, h]
  simp [Result.andThen]

def RNewEnd (w : World) (W : WM) (e : Ending) (w' : World) : Prop :=
  ∃ v, e = .returned v ∧ RLogAt (fun b => w.heap.size ≤ b ∧ b < w'.heap.size) w' v W ∧ Below w.heap.size w w'

theorem start_fs (room most : Int) : (startW room most).D.fs = [⟨nmB 1, [], 0⟩] ∧ (startW room most).D.room = room.toNat ∧ (startW room most).D.plan = 0 ∧ (startW room most).D.down = false := by
  have e : createM (nmB 1) (newM room) = ({ newM room with fs := [⟨nmB 1, [], 0⟩] }, 0) := by
    unfold createM chgM
    rw [show failM (newM room) = newM room from rfl, nmB_named]
    rfl
  unfold startW
  rw [e]
  exact ⟨rfl, rfl, rfl, rfl⟩

set_option maxRecDepth 100000 in
set_option maxHeartbeats 6400000 in
theorem rnew_any (room most : Int) (w : World) (hr1 : 0 ≤ room) (hr : room < 9223372036854775808) :
    Calls Try.prog 12 #[.int .i64 room, .int .i64 most] w (RNewEnd w (startW room most)) := by
  obtain ⟨w1, hw1⟩ : ∃ w1, w1 = w.alloc (.cells #[.int .i64 0, .slice none 0 0, .int .i64 0, .bool false, .int .i64 0, .int .i64 0, .int .i64 0, .int .i64 0] 36) := ⟨_, rfl⟩
  have hb1 : Below w.heap.size w w1 := by rw [hw1]; exact (Below.refl _ _).alloc (Nat.le_refl _) _
  have hz1 : w1.heap.size = w.heap.size + 1 := by rw [hw1]; simp
  have hB1 : w1.heap[w.heap.size]? = some (.cells #[.int .i64 0, .slice none 0 0, .int .i64 0, .bool false, .int .i64 0, .int .i64 0, .int .i64 0, .int .i64 0] 36 (0, 0)) := by rw [hw1]; exact heap_alloc_new _ _
  have hroom : ((newM room).room : Int) = room := by show ((room.toNat : Nat) : Int) = room; omega
  have hA : RefAt (fun _ => False) w1 (refV room none 0 0 0 false) (newM room) := ⟨none, 0, 0, [], by rw [hroom]; rfl, rowF_nil _ _, rfl, by omega⟩
  have HDo := Lib.hid (rdo_all hA (fun _ h => h.elim) (by show 0 ≤ _; omega) List.Pairwise.nil 1 (by omega) (nmB 1) [] (by rw [nmB_one']; decide) (by decide) none 0 0 [] (fun W2 _ => bytes_nil W2) (by show 0 ≤ _; omega) (by omega))
  have e1 : stepM 1 (nmB 1) [] [] (newM room) = createM (nmB 1) (newM room) := rfl
  rw [e1] at HDo
  unfold opV refV at HDo
  have hst : (startW room most).D = (createM (nmB 1) (newM room)).1 := rfl
  have Hst := Lib.hid hst
  have Hfs := Lib.hid (start_fs room most)
  rw [hst] at Hfs
  generalize hr0 : createM (nmB 1) (newM room) = r at *
  have hmx : max room 0 = room := by omega
  rw [nmB_one'] at HDo
  have HB1 := Lib.hid hB1
  have Hb1 := Lib.hid hb1
  have Hz1 := Lib.hid hz1
  clear hA hB1 hb1 hz1 hroom e1 hst hr0 hr
  go_enter Try.func12, Try.ntmps12
  go_wp2_with fail
  rw [← hw1]
  refine HDo.out.mono ?_
  rintro e w2 ⟨a4, n4, c4, R4, rfl, hR4, hf4, hb4⟩
  unfold refV
  have hB2 := (hb4.block w.heap.size (by have := Hz1.out; omega)).trans HB1.out
  have z0 := fun o => row_alloc' hB2 o 0
  have z1 := fun o => row_alloc' hB2 o 1
  have z2 := fun o => row_alloc' hB2 o 2
  have z3 := fun o => row_alloc' hB2 o 3
  have z4 := fun o => row_alloc' hB2 o 4
  have z5 := fun o => row_alloc' hB2 o 5
  have z6 := fun o => row_alloc' hB2 o 6
  have z7 := fun o => row_alloc' hB2 o 7
  have zf := fun o i => frozen_alloc' hB2 o i
  simp only [List.getElem?_toArray, List.getElem?_cons_zero, List.getElem?_cons_succ] at z0 z1 z2 z3 z4 z5 z6 z7
  have HR4 := Lib.hid hR4
  have HF4 := Lib.hid hf4
  have Hb2 := Lib.hid (Hb1.out.trans (hb4.mono Hb1.out.size))
  have hltc := hb4.size
  have hsz2 := Hz1.out
  clear hR4 hf4 hb4 hB2 hw1
  go_wp2
  refine bodyPost_ret (v := logV (r.1.room : Int) a4 n4 c4 (r.1.plan : Int) r.1.down most 1 0 0) ?_ rfl ⟨_, rfl, ⟨a4, n4, c4, R4, ?_, ?_, ?_, ?_⟩, ?_⟩
  · rw [resultsN_one rfl]
    go_simp
    rfl
  · rw [Hst.out]
    rfl
  · refine HR4.out.mono (fun b h => ?_) (fun b h => ?_)
    · have h1 : b ≠ w.heap.size := by rcases h.1 with h1 | h1; exact h1.elim; omega
      rw [set_other h1, set_other h1, set_other h1, set_other h1, set_other h1, set_other h1, set_other h1, set_other h1]
      exact Below.heap_alloc _ _ _ h.2
    · refine ⟨by rcases h.1 with h1 | h1; exact h1.elim; omega, ?_⟩
      simp only [World.size_setCell, World.size_alloc]
      omega
  · rw [Hst.out]
    exact HF4.out
  · have h1 := HR4.out.len
    have h2 := congrArg List.length HF4.out
    rw [Hfs.out.1, List.length_map] at h2
    have h3 : [F.mk (nmB 1) [] 0].length = 1 := rfl
    omega
  · exact (((((((((Hb2.out.alloc (by omega) _).setCell (by simp) _).setCell (by simp) _).setCell (by simp) _).setCell (by simp) _).setCell (by simp) _).setCell (by simp) _).setCell (by simp) _).setCell (by simp) _)
end Go.Proofs.Ytngnbmaocdadaaa

/- Many records that are put into a log, as plain data. -/
namespace Go.Proofs.Ytngnbmaocdadaaa
open Go.RowKit Go.Maps

/-- A log after some records have been put into it. -/
def runP (W : WM) (ls : List (List Nat)) : WM := ls.foldl (fun W l => (putW W l).1) W

theorem runP_snoc (W : WM) (ls : List (List Nat)) (l : List Nat) : runP W (ls ++ [l]) = (putW (runP W ls) l).1 := by
  unfold runP
  rw [List.foldl_append]
  rfl

theorem runP_next {W : WM} {ls : List (List Nat)} {j : Nat} (hj : j < ls.length) : runP W (ls.take (j + 1)) = (putW (runP W (ls.take j)) ls[j]).1 := by
  rw [List.take_succ_eq_append_getElem hj, runP_snoc]

/-- Of some records those that Put takes. -/
def takeP (most : Int) (ls : List (List Nat)) : List (List Nat) := ls.filter (okR most)

theorem takeP_next {most : Int} {ls : List (List Nat)} {j : Nat} (hj : j < ls.length) : takeP most (ls.take (j + 1)) = takeP most (ls.take j) ++ (if okR most ls[j] = true then [ls[j]] else []) := by
  unfold takeP
  rw [List.take_succ_eq_append_getElem hj, List.filter_append]
  congr 1
  by_cases h : okR most ls[j] = true
  · simp [h]
  · simp [h]

theorem sizeL_filter (p : List Nat → Bool) : ∀ ls : List (List Nat), sizeL (ls.filter p) ≤ sizeL ls
  | [] => Nat.le_refl _
  | l :: r => by
    have ih := sizeL_filter p r
    rw [List.filter_cons]
    split
    · rw [sizeL_cons, sizeL_cons]; omega
    · rw [sizeL_cons]; omega

theorem sizeL_snoc (ls : List (List Nat)) (l : List Nat) : sizeL (ls ++ [l]) = sizeL ls + (l.length + 8) := by
  rw [sizeL_append, sizeL_cons, sizeL_nil]

/-- While there is room, a log has exactly the records that Put took. -/
theorem run_inv {W : WM} {B : List (List (List Nat))} {c : List (List Nat)} (h : LInv W B c) : ∀ (ls : List (List Nat)), sizeL (B.flatten ++ c) + sizeL ls ≤ W.D.room → W.n + ls.length ≤ 99999999 →
    ∃ B' c', LInv (runP W ls) B' c' ∧ B'.flatten ++ c' = (B.flatten ++ c) ++ takeP W.most ls ∧ (runP W ls).wait ≤ W.wait + (takeP W.most ls).length ∧ (runP W ls).most = W.most ∧ (runP W ls).D.room = W.D.room ∧ (runP W ls).n ≤ W.n + ls.length := by
  suffices H : ∀ (n : Nat) (ls : List (List Nat)), ls.length = n → sizeL (B.flatten ++ c) + sizeL ls ≤ W.D.room → W.n + ls.length ≤ 99999999 →
      ∃ B' c', LInv (runP W ls) B' c' ∧ B'.flatten ++ c' = (B.flatten ++ c) ++ takeP W.most ls ∧ (runP W ls).wait ≤ W.wait + (takeP W.most ls).length ∧ (runP W ls).most = W.most ∧ (runP W ls).D.room = W.D.room ∧ (runP W ls).n ≤ W.n + ls.length from
    fun ls h1 h2 => H ls.length ls rfl h1 h2
  intro n
  induction n with
  | zero =>
    intro ls hl _ _
    obtain rfl : ls = [] := List.length_eq_zero_iff.1 hl
    exact ⟨B, c, h, by simp [takeP], by simp [takeP, runP], rfl, rfl, Nat.le_refl _⟩
  | succ n ih =>
    intro ls hl hr hn
    have hne : ls ≠ [] := by intro e; rw [e] at hl; simp at hl
    obtain ⟨r, l, rfl⟩ : ∃ r l, ls = r ++ [l] := ⟨ls.dropLast, ls.getLast hne, (List.dropLast_concat_getLast hne).symm⟩
    rw [sizeL_snoc] at hr
    rw [List.length_append, List.length_singleton] at hl hn
    obtain ⟨B1, c1, k1, k2, k3, k4, k5, k6⟩ := ih r (by omega) (by omega) (by omega)
    have hs : sizeL (B1.flatten ++ c1) ≤ sizeL (B.flatten ++ c) + sizeL r := by
      rw [k2, sizeL_append]
      have := sizeL_filter (okR W.most) r
      unfold takeP
      omega
    have ht : takeP W.most (r ++ [l]) = takeP W.most r ++ (if okR W.most l = true then [l] else []) := by
      unfold takeP
      rw [List.filter_append]
      congr 1
      by_cases q : okR W.most l = true
      · simp [q]
      · simp [q]
    rw [runP_snoc, ht]
    rcases k1.put l (by rw [k5]; omega) (by omega) with ⟨p1, _, p3⟩ | ⟨p1, _, B2, c2, q1, q2, q3, q4, q5, q6⟩
    · rw [k4] at p1
      rw [p3, p1]
      simp only [Bool.false_eq_true, if_false, List.append_nil]
      exact ⟨B1, c1, k1, k2, k3, k4, k5, by rw [List.length_append]; omega⟩
    · rw [k4] at p1
      rw [p1]
      simp only [if_true]
      refine ⟨B2, c2, q1, by rw [q2, k2, List.append_assoc], ?_, by rw [q4, k4], by rw [q5, k5], by rw [List.length_append, List.length_singleton]; omega⟩
      rw [List.length_append, List.length_singleton]
      rcases q6 with ⟨_, _, e⟩ | ⟨_, _, e⟩ <;> omega
end Go.Proofs.Ytngnbmaocdadaaa

