/- What the code's queue of ints is asked to give: its state beside blocks X, and its methods' answers. To be filled by the code's contracts. -/
import Derived.Test.YtmmiommfbkcebaaQuRef2
import Derived.Test.YtmmiommfbkcebaaQuEq
namespace Go.Proofs.Ytmmiommfbkcebaa
open Go.RowKit

/-- A queue v of the law's own with the elements l, after m operations, beside blocks X, in memory made after w0. -/
structure QKit where
  S : World → (Nat → Prop) → World → Nat → Value → List Int → Prop
  base : ∀ {w0 X w m v l}, S w0 X w m v l → Below w0.heap.size w0 w
  xb : ∀ {w0 X w m v l}, S w0 X w m v l → ∀ b, X b → b < w.heap.size
  nodup : ∀ {w0 X w m v l}, S w0 X w m v l → l.Nodup
  ptr : ∀ {w0 X w m v l}, S w0 X w m v l → ∃ b, v = .pointer (some ⟨b, 0, none⟩)
  grown : ∀ {w0 X Y w w' m v l} {r : Option Nat}, S w0 X w m v l → w.grownBy w' r → (∀ b, r = some b → X b ∧ w0.heap.size ≤ b) → (∀ b, Y b → (X b ∨ w.heap.size ≤ b) ∧ b < w'.heap.size) → S w0 Y w' m v l
  new : ∀ p n c l w, Qs w p n c l → n ≤ 1048576 → (∀ x ∈ l, InI x) → Calls Try.prog 8 #[.slice p n c] w fun r w' => ∃ v, r = .returned v ∧ S w (fun _ => False) w' n v (newQ l)
  pop : ∀ {w0 X w m v l}, S w0 X w m v l → m ≤ 2000000 → Calls Try.prog 13 #[v] w fun r w' => r = .returned (.tuple #[.int .i64 (l.headD 0), .bool (!l.isEmpty)]) ∧ S w0 X w' (m + 1) v l.tail ∧ (∀ b, X b → w'.heap[b]? = w.heap[b]?) ∧ Below w0.heap.size w w'
  length : ∀ {w0 X w m v l}, S w0 X w m v l → m ≤ 2000000 → Calls Try.prog 20 #[v] w fun r w' => r = .returned (.int .i64 (l.length : Int)) ∧ S w0 X w' m v l ∧ (∀ b, X b → w'.heap[b]? = w.heap[b]?) ∧ Below w0.heap.size w w'
  push : ∀ {w0 X w m v l} (x : Int), S w0 X w m v l → m ≤ 2000000 → InI x → Calls Try.prog 11 #[v, .int .i64 x] w fun r w' => r = .returned (.bool (decide (x ∉ l))) ∧ S w0 X w' (m + 1) v (pushQ l x) ∧ (∀ b, X b → w'.heap[b]? = w.heap[b]?) ∧ Below w0.heap.size w w'
  remove : ∀ {w0 X w m v l} (x : Int), S w0 X w m v l → m ≤ 2000000 → InI x → Calls Try.prog 15 #[v, .int .i64 x] w fun r w' => r = .returned (.bool (decide (x ∈ l))) ∧ S w0 X w' (m + 1) v (remQ l x) ∧ (∀ b, X b → w'.heap[b]? = w.heap[b]?) ∧ Below w0.heap.size w w'
  peek : ∀ {w0 X w m v l}, S w0 X w m v l → m ≤ 2000000 → Calls Try.prog 17 #[v] w fun r w' => r = .returned (.tuple #[.int .i64 (l.headD 0), .bool (!l.isEmpty)]) ∧ S w0 X w' m v l ∧ (∀ b, X b → w'.heap[b]? = w.heap[b]?) ∧ Below w0.heap.size w w'
  has : ∀ {w0 X w m v l} (x : Int), S w0 X w m v l → m ≤ 2000000 → InI x → Calls Try.prog 23 #[v, .int .i64 x] w fun r w' => r = .returned (.bool (decide (x ∈ l))) ∧ S w0 X w' m v l ∧ (∀ b, X b → w'.heap[b]? = w.heap[b]?) ∧ Below w0.heap.size w w'
  place : ∀ {w0 X w m v l} (x : Int), S w0 X w m v l → m ≤ 2000000 → InI x → Calls Try.prog 21 #[v, .int .i64 x] w fun r w' => r = .returned (.int .i64 (posQ l x)) ∧ S w0 X w' m v l ∧ (∀ b, X b → w'.heap[b]? = w.heap[b]?) ∧ Below w0.heap.size w w'
  list : ∀ {w0 X w m v l}, S w0 X w m v l → m ≤ 2000000 → Calls Try.prog 19 #[v] w fun r w' => ∃ u, r = .returned u ∧ OwnQ w' w.heap.size u l ∧ S w0 (fun b => X b ∨ u.ownBlock = some b) w' m v l ∧ (∀ b, X b → w'.heap[b]? = w.heap[b]?) ∧ Below w0.heap.size w w'

theorem OwnQ.kept {w w' : World} {base : Nat} {v : Value} {l : List Int} (h : OwnQ w base v l) (hk : ∀ b, v.ownBlock = some b → w'.heap[b]? = w.heap[b]?) : OwnQ w' base v l := by
  refine ⟨h.1, ?_⟩
  rcases h.2 with hn | ⟨g, cap, cur, rfl, hb, hg, rest⟩
  · exact .inl hn
  · exact .inr ⟨g, cap, cur, rfl, hb, (hk g rfl).trans hg, rest⟩

theorem ownQ_nil (w : World) (base : Nat) : OwnQ w base (.slice none 0 0) [] := World.ownsRow_nil _ _ _ _

theorem qs_three (w : World) (x y z : Int) : Qs (w.alloc (.cells #[.int .i64 x, .int .i64 y, .int .i64 z] 3)) (some ⟨w.heap.size, 0, none⟩) 3 3 [x, y, z] :=
  ⟨rfl, Nat.le_refl _, by omega, fun _ => ⟨w.heap.size, 0, rfl, fun i u hi => by
    rw [cell_of_row _ _ _ _ _ (0, 0) (heap_alloc_new _ _), Nat.zero_add]
    match i, hi with
    | 0, hi => cases hi; rfl
    | 1, hi => cases hi; rfl
    | 2, hi => cases hi; rfl⟩⟩

set_option maxRecDepth 100000 in
theorem alive17_any (K : QKit) (w : World) : Calls Try.prog 9 #[] w fun r w' => r = .returned (.bool true) ∧ Below w.heap.size w w' := by
  have HN := Lib.hid (K.new (some ⟨w.heap.size, 0, none⟩) 3 3 [5, 6, 5] _ (qs_three w 5 6 5) (by decide) (by unfold InI; intro x hx; simp at hx; omega))
  have Hb := Lib.hid (show Below w.heap.size w (w.alloc (.cells #[.int .i64 5, .int .i64 6, .int .i64 5] 3)) from (Below.refl _ _).alloc (Nat.le_refl _) _)
  go_enter Try.func9, Try.ntmps9
  go_wp2_with fail
  refine HN.out.mono ?_
  rintro r w1 ⟨v, rfl, hS⟩
  obtain ⟨b, rfl⟩ := K.ptr hS
  have HS := Lib.hid (show K.S _ _ w1 3 (.pointer (some ⟨b, 0, none⟩)) [5, 6] from hS)
  clear hS
  have HP1 := Lib.hid (show Calls Try.prog 13 #[.pointer (some ⟨b, 0, none⟩)] w1 fun r w' => r = .returned (.tuple #[.int .i64 5, .bool true]) ∧ K.S _ _ w' 4 (.pointer (some ⟨b, 0, none⟩)) [6] ∧ _ from K.pop HS.out (by decide))
  go_wp2_with fail
  refine HP1.out.mono ?_
  rintro r w2 ⟨rfl, hS2, _⟩
  have HP2 := Lib.hid (show Calls Try.prog 13 #[.pointer (some ⟨b, 0, none⟩)] w2 fun r w' => r = .returned (.tuple #[.int .i64 6, .bool true]) ∧ K.S _ _ w' 5 (.pointer (some ⟨b, 0, none⟩)) [] ∧ _ from K.pop hS2 (by decide))
  clear hS2
  go_wp2_with fail
  refine HP2.out.mono ?_
  rintro r w3 ⟨rfl, hS3, _⟩
  have HP3 := Lib.hid (show Calls Try.prog 20 #[.pointer (some ⟨b, 0, none⟩)] w3 fun r w' => r = .returned (.int .i64 0) ∧ K.S _ _ w' 5 (.pointer (some ⟨b, 0, none⟩)) [] ∧ _ from K.length hS3 (by decide))
  clear hS3
  go_wp2_with fail
  refine HP3.out.mono ?_
  rintro r w4 ⟨rfl, hS4, _⟩
  have HE := Lib.hid (Hb.out.trans ((K.base hS4).mono Hb.out.size))
  clear hS4
  go_wp2
  go_ret
  exact ⟨rfl, HE.out⟩
end Go.Proofs.Ytmmiommfbkcebaa
