/- The same for a log that goes on from some state. -/
import Derived.Test.YtehjgkkcpiblcaaGreatHWalDurableWlLawN
namespace Go.Proofs.YtehjgkkcpiblcaaGreat
open Go.RowKit Go.Maps Go.Shelf

/-- While there is room, what a log is behind some of the records that are put into it, from a state that has the records 'acc'. -/
structure RunFrom (W0 : WM) (acc ls : List (List Nat)) (j : Nat) : Prop where
  inv : ∃ B c, LInv (runP W0 (ls.take j)) B c ∧ B.flatten ++ c = acc ++ takeP W0.most (ls.take j)
  n1 : 1 ≤ (runP W0 (ls.take j)).n
  n2 : (runP W0 (ls.take j)).n ≤ W0.n + ls.length
  size : (runP W0 (ls.take j)).size ≤ sizeL acc + sizeL ls
  wait : (runP W0 (ls.take j)).wait ≤ W0.wait + (takeP W0.most (ls.take j)).length
  same : (runP W0 (ls.take j)).most = W0.most
  len : (runP W0 (ls.take j)).D.fs.length ≤ W0.n + ls.length
  rm : (runP W0 (ls.take j)).D.room = W0.D.room
  used : usedF (runP W0 (ls.take j)).D.fs ≤ sizeL acc + sizeL ls
  sorted : Sorted (runP W0 (ls.take j)).D.fs
  plan : (runP W0 (ls.take j)).D.plan = 0
  down : (runP W0 (ls.take j)).D.down = false
  names : ∀ f ∈ (runP W0 (ls.take j)).D.fs, f.n.length ≤ 9223372036854775807

theorem run_from {W0 : WM} {B0 : List (List (List Nat))} {c0 acc : List (List Nat)} (h0 : LInv W0 B0 c0) (ha : B0.flatten ++ c0 = acc) (ls : List (List Nat)) (h1 : sizeL acc + sizeL ls ≤ W0.D.room) (h2 : W0.n + ls.length ≤ 99999999) (j : Nat) : RunFrom W0 acc ls j := by
  have ht := sizeL_takes ls j
  have htl : (ls.take j).length ≤ ls.length := by rw [List.length_take]; omega
  subst ha
  obtain ⟨B, c, k1, k2, k3, k4, k5, k6⟩ := run_inv h0 (ls.take j) (by omega) (by omega)
  obtain ⟨s1, s2, s3⟩ := k1.small
  obtain ⟨b1, b2⟩ := k1.bound
  have hsz : sizeL (B.flatten ++ c) ≤ sizeL (B0.flatten ++ c0) + sizeL ls := by
    rw [k2, sizeL_append]
    have := sizeL_filter (okR W0.most) (ls.take j)
    unfold takeP
    omega
  exact ⟨⟨B, c, k1, k2⟩, by rw [k1.n]; omega, by omega, by omega, k3, k4, by omega, k5, by omega, k1.sorted, k1.plan, k1.down, s3⟩

theorem put_from {W0 : WM} {acc ls : List (List Nat)} {k : Nat} (hr : RunFrom W0 acc ls k) (h1 : sizeL acc + sizeL ls ≤ W0.D.room) (h2 : W0.n + ls.length < 99999999) (hk : k < ls.length) :
    ((putW (runP W0 (ls.take k)) ls[k]).2 ≠ 0 ∧ takeP W0.most (ls.take (k + 1)) = takeP W0.most (ls.take k)) ∨ ((putW (runP W0 (ls.take k)) ls[k]).2 = 0 ∧ takeP W0.most (ls.take (k + 1)) = takeP W0.most (ls.take k) ++ [ls[k]]) := by
  obtain ⟨B, c, hinv, hBc⟩ := hr.inv
  have hnx := takeP_next (most := W0.most) hk
  have hsz : sizeL (B.flatten ++ c) + (ls[k].length + 8) ≤ W0.D.room := by
    rw [hBc, sizeL_append]
    have h3 := sizeL_filter (okR W0.most) (ls.take k)
    have h4 := sizeL_takes ls (k + 1)
    rw [List.take_succ_eq_append_getElem hk, sizeL_snoc] at h4
    unfold takeP
    omega
  rcases hinv.put ls[k] (by rw [hr.rm]; exact hsz) (by have := hr.n2; omega) with ⟨p1, p2, _⟩ | ⟨p1, p2, _⟩
  · rw [hr.same] at p1
    rw [p1] at hnx
    exact .inl ⟨p2, by rw [hnx]; simp⟩
  · rw [hr.same] at p1
    rw [p1] at hnx
    exact .inr ⟨p2, by rw [hnx]; simp⟩

theorem takeP_append (most : Int) (a b : List (List Nat)) : takeP most (a ++ b) = takeP most a ++ takeP most b := List.filter_append ..

/-- One Put of the reference, its log in a box, from some state. -/
theorem rput_from {W0 : WM} {acc ls : List (List Nat)} {k : Nat} (hr : RunFrom W0 acc ls k) (hr1 : RunFrom W0 acc ls (k + 1)) (h2 : W0.n + ls.length ≤ 100000) (h3 : sizeL acc + sizeL ls ≤ 100000) (h4 : W0.wait + ls.length ≤ 100000) {X : Nat → Prop} {w : World} {B : Nat} (hbx : RBox X w B (runP W0 (ls.take k))) (hk : k < ls.length) {p : Option Addr} {m cp : Nat} (hB : Bytes w p m cp ls[k]) :
    ∃ W r : WM, (∃ a n c, w.heap[B]? = some (logO (W.D.room : Int) a n c (W.D.plan : Int) W.D.down W.most (W.n : Int) (W.size : Int) (W.wait : Int)) ∧
      Calls Tryz.prog 24 #[logV (W.D.room : Int) a n c (W.D.plan : Int) W.D.down W.most (W.n : Int) (W.size : Int) (W.wait : Int), .slice p m cp] w fun e w5 =>
        ∃ a5 n5 c5 z, e = .returned (.tuple #[logV (r.D.room : Int) a5 n5 c5 (r.D.plan : Int) r.D.down r.most (r.n : Int) (r.size : Int) (r.wait : Int), .int .i64 z]) ∧ Below w.heap.size w w5 ∧ w5.heap[B]? = some (logO (W.D.room : Int) a n c (W.D.plan : Int) W.D.down W.most (W.n : Int) (W.size : Int) (W.wait : Int)) ∧
          ∃ X', RBox X' (set8 w5 B (.int .i64 (r.D.room : Int)) (.slice a5 n5 c5) (.int .i64 (r.D.plan : Int)) (.bool r.D.down) (.int .i64 r.most) (.int .i64 (r.n : Int)) (.int .i64 (r.size : Int)) (.int .i64 (r.wait : Int))) B (runP W0 (ls.take (k + 1))) ∧ ∀ b, X' b → X b ∨ w.heap.size ≤ b) := by
  have hlen := hr1.len
  have hnx : runP W0 (ls.take (k + 1)) = (putW (runP W0 (ls.take k)) ls[k]).1 := runP_next hk
  rw [hnx] at hlen ⊢
  refine ⟨runP W0 (ls.take k), (putW (runP W0 (ls.take k)) ls[k]).1, ?_⟩
  obtain ⟨a4, n4, c4, R4, hcells, hrl, _, _⟩ := hbx.ref
  have hXb : ∀ b, X b → b < w.heap.size := by
    obtain ⟨_, _, _, _, _, _, _, _, hXb⟩ := hbx
    exact fun b hb => (hXb b hb).1
  have hP := rwput_any hrl hXb (by rw [hr.plan]; decide) hr.sorted (by have := hr.used; omega) hr.n1 (by have := hr.n2; omega) (by have := hr.size; omega) (by
    have h5 := hr.wait
    have h6 := takeP_len W0.most ls k
    omega) (by have := hr.len; omega) p m cp ls[k] hB
  refine ⟨a4, n4, c4, hcells, hP.mono ?_⟩
  rintro e w5 ⟨a5, n5, c5, R5, rfl, hR5, hf5, hb5⟩
  exact ⟨a5, n5, c5, _, rfl, hb5, (hb5.block B (Array.getElem?_eq_some_iff.1 hcells).1).trans hcells, _, rbox_put hbx hR5 hf5 hb5 (by omega), fun b hb => hb.1⟩

/-- Behind j records: the log, and the slice of those that were taken, which lie where they lay. -/
def WantFrom (w : World) (g d : Nat) (W0 : WM) (pre ls : List (List Nat)) (n : Nat) (v i : Value) (wr : World) : Prop :=
  ∃ (j : Nat) (Y : Nat → Prop), j ≤ n ∧ i = .int .i64 (j : Int) ∧ LogAt w Y wr g d (runP W0 (ls.take j)) ∧ PartsZ (fun b => b < w.heap.size) wr w.heap.size v (pre ++ takeP W0.most (ls.take j)) ∧ ∀ k, v.ownBlock = some k → Y k ∧ k ≠ g

/-- What the loop of the reference's Puts leaves behind j records. -/
def RPutFrom (w3 : World) (B lo : Nat) (W0 : WM) (ls : List (List Nat)) (n : Nat) (i : Value) (wr : World) : Prop :=
  ∃ (j : Nat) (X : Nat → Prop), j ≤ n ∧ i = .int .i64 (j : Int) ∧ RBox X wr B (runP W0 (ls.take j)) ∧ (∀ b, X b → lo ≤ b) ∧ Chg (fun b => b = B) w3 wr
end Go.Proofs.YtehjgkkcpiblcaaGreat
