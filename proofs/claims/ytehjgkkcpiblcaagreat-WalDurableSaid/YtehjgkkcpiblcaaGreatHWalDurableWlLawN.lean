/- The loop of the statements that puts records into a log, and collects those that are taken. -/
import Derived.Test.YtehjgkkcpiblcaaGreatMB34
import Derived.Test.YtehjgkkcpiblcaaGreatMB38
import Derived.Test.YtehjgkkcpiblcaaGreatMB40
namespace Go.Proofs.YtehjgkkcpiblcaaGreat
open Go.RowKit Go.Maps Go.Shelf

theorem put_code {room most : Int} {ls : List (List Nat)} {k : Nat} (h1 : sizeL ls ≤ room.toNat) (h2 : ls.length ≤ 60) (hk : k < ls.length) :
    ((putW (runP (startW room most) (ls.take k)) ls[k]).2 ≠ 0 ∧ takeP most (ls.take (k + 1)) = takeP most (ls.take k)) ∨ ((putW (runP (startW room most) (ls.take k)) ls[k]).2 = 0 ∧ takeP most (ls.take (k + 1)) = takeP most (ls.take k) ++ [ls[k]]) := by
  have hr := run_ok room most ls h1 h2 k
  obtain ⟨B, c, hinv, hBc⟩ := hr.inv
  have hnx := takeP_next (most := most) hk
  have hsz : sizeL (B.flatten ++ c) + (ls[k].length + 8) ≤ room.toNat := by
    rw [hBc]
    have h3 := sizeL_filter (okR most) (ls.take k)
    have h4 := sizeL_takes ls (k + 1)
    rw [List.take_succ_eq_append_getElem hk, sizeL_snoc] at h4
    unfold takeP
    omega
  rcases hinv.put ls[k] (by rw [hr.rm]; exact hsz) (by have := hr.n2; omega) with ⟨p1, p2, _⟩ | ⟨p1, p2, _⟩
  · rw [hr.same] at p1
    rw [p1] at hnx
    exact .inl ⟨p2, by rw [hnx]; simp⟩
  · rw [hr.same] at p1
    rw [p1] at hnx
    exact .inr ⟨p2, by rw [hnx]; simp⟩

/-- Behind j records: the log, and the slice of those that were taken, which lie where they lay. -/
def WantRel (w : World) (g d : Nat) (room most : Int) (ls : List (List Nat)) (n : Nat) (v i : Value) (wr : World) : Prop :=
  ∃ (j : Nat) (Y : Nat → Prop), j ≤ n ∧ i = .int .i64 (j : Int) ∧ LogAt w Y wr g d (runP (startW room most) (ls.take j)) ∧ PartsZ (fun b => b < w.heap.size) wr w.heap.size v (takeP most (ls.take j)) ∧ ∀ k, v.ownBlock = some k → Y k ∧ k ≠ g

theorem takeP_len (most : Int) (ls : List (List Nat)) (j : Nat) : (takeP most (ls.take j)).length ≤ ls.length := by
  unfold takeP
  have h1 := List.length_filter_le (okR most) (ls.take j)
  rw [List.length_take] at h1
  omega

/-- A slice of the records that were taken behind a Put. -/
theorem want_kept {w0 : World} {Y : Nat → Prop} {w w' : World} {g d : Nat} {W : WM} {v : Value} {ms : List (List Nat)} (h : LogEnd w0 Y w g d W w') (hP : PartsZ (fun b => b < w0.heap.size) w w0.heap.size v ms) (hY : ∀ k, v.ownBlock = some k → Y k ∧ k ≠ g) : PartsZ (fun b => b < w0.heap.size) w' w0.heap.size v ms :=
  hP.moved (fun b hb _ => h.2.2.1.block b hb) (fun k hk => h.2.1 k (hY k hk).1 (hY k hk).2)

/-- .. and behind an append to it. -/
theorem want_more {w0 : World} {Y : Nat → Prop} {w w' : World} {g d : Nat} {W : WM} {v v' : Value} {ms : List (List Nat)} {vs : List Value} {p : Option Addr} {n c : Nat} {l : List Nat} (hL : LogAt w0 Y w g d W) (o : Obj)
    (hlen : vs.length = ms.length) (hel : ∀ i, i < ms.length → ∃ a n c, vs[i]? = some (.slice a n c) ∧ Bytes (w.alloc o) a n c (ms.getD i []) ∧ (0 < n → ∀ x, a = some x → some x.block ≠ v.ownBlock ∧ x.block < w0.heap.size))
    (hown : w'.ownsRow w0.heap.size 47 1 v' (ms.length + 1) (vs ++ [.slice p n c])) (hB : Bytes (w.alloc o) p n c l) (hpb : 0 < n → ∀ x, p = some x → x.block < w0.heap.size)
    (hg : (w.alloc o).grownBy w' v.ownBlock) (hv : ∀ k, v.ownBlock = some k → Y k ∧ k ≠ g) (hlo : ∀ k, v.ownBlock = some k → w0.heap.size ≤ k) (hb : v'.ownBlock = v.ownBlock ∨ v'.ownBlock = some (w.alloc o).heap.size) :
    ∃ Y', LogAt w0 Y' w' g d W ∧ PartsZ (fun b => b < w0.heap.size) w' w0.heap.size v' (ms ++ [l]) ∧ ∀ k, v'.ownBlock = some k → Y' k ∧ k ≠ g := by
  have h1 := hL.all ((Below.refl w.heap.size w).alloc (Nat.le_refl _) o)
  have h2 := h1.turned (Chg.grown (S := fun b => some b = v.ownBlock) hg (fun k hk => .inl hk.symm)) (fun b hb => ⟨.inl (hv b hb.symm).1, (hv b hb.symm).2, hlo b hb.symm⟩)
  refine ⟨_, h2, PartsZ.snoc hlen hel hB (fun hn x hx => ⟨fun e => ?_, hpb hn x hx⟩) hown hg hb, fun k hk => ?_⟩
  · have := hlo x.block e.symm
    have := hpb hn x hx
    omega
  · have hk2 := hown.lt k hk
    have hgl := hL.lt
    rcases hb with e | e
    · obtain ⟨h3, h4⟩ := hv k (e.symm.trans hk)
      exact ⟨.inl (.inl h3), h4⟩
    · have e2 : k = (w.alloc o).heap.size := Option.some.inj (hk.symm.trans e)
      refine ⟨.inr ⟨by omega, hk2.2⟩, fun e3 => ?_⟩
      rw [World.size_alloc] at e2
      omega
end Go.Proofs.YtehjgkkcpiblcaaGreat
