/- A range over a function whose rounds are told what lies in memory where they begin: each round is handed an element x together with a fact 'At N x W' on the world W in which it begins. No round leaves the loop. -/
import Derived.Test.YtmebffmdfnnbmaaFrNext
import Derived.RangeFuncBox
import Derived.RangeFuncLeaves
import Derived.Shelf.Abstract
namespace Go.Proofs.Ytmebffmdfnnbmaa
open Go.RowKit

/-- What is said of the rounds' world, with a bound on its own blocks: it stands while only new memory is made, with the heap's size for a bound, and where a block that holds no cells is turned. -/
structure Stands {α : Type} (B : Nat) (I : List α → Nat → World → Prop) (At : Nat → α → World → Prop) : Prop where
  grow : ∀ s N W W', I s N W → Below W.heap.size W W' → I s N W'
  more : ∀ s N W, I s N W → I s W.heap.size W
  put : ∀ s N W l o o', I s N W → B ≤ l → W.heap[l]? = some o → o.isCells = false → I s N (W.putObj l o')
  putAt : ∀ N x W l o o', At N x W → W.heap[l]? = some o → o.isCells = false → At N x (W.putObj l o')

/-- The contract of an iterator that yields elements of which 'At' is true. -/
def Told {α : Type} (n : Nat) (P : Program) (gf : Nat) (lb : Array Value) (encs : α → Array Value) (I : List α → Nat → World → Prop) (At : Nat → α → World → Prop) (Fin : List α → Prop) (M : Nat) : Prop :=
  ∀ (l : Nat) (J : List α → Nat → World → Prop) (W : World) (N : Nat), (∀ s N W W', J s N W → Below W.heap.size W W' → J s N W') → (∀ s N W, J s N W → J s W.heap.size W) → (∀ s N W, J s N W → I s N W) →
    (∀ pre x N W1, J pre N W1 → At N x W1 → pre.length < M → YieldAt Fence.wide (n - 1) P l (encs x) W1 fun e W' => e = .returned (.bool true) ∧ ∃ N', J (pre ++ [x]) N' W') →
    J [] N W → CallsIn Fence.wide n P gf (#[.func (.yield l) #[] #[]] ++ lb) W fun e W' => (∃ v, e = .returned v) ∧ ∃ xs N', J xs N' W' ∧ Fin xs

theorem range_told {P : Program} {n : Nat} {α : Type} {g : Operand} {ps : Array Tmp} {assign body : Code} {Q : Exit → Act → World → Prop} {a : Act} {w : World} {gf : Nat} {lb : Array Value}
    (h1 : 1 ≤ n) (hg : a.eval g = .func (.func gf) #[] lb) (eg : ∀ args w, (callFunc gf args).run P w = .ok (.enter gf args) w)
    {encs : α → Array Value} (hps : ∀ x, (encs x).size = ps.size) {I : List α → Nat → World → Prop} {At : Nat → α → World → Prop} {Fin : List α → Prop} {M : Nat}
    (hS : Stands w.heap.size I At) (hseq : Told (n - 1) P gf lb encs I At Fin M) (N0 : Nat) (h0 : I [] N0 w) (a1 : α → Act)
    (hassign : ∀ (l : Nat) (x : α) (W : World) (K : Act → World → Prop), K (a1 x) W →
      assign.wpIn (Fence.wide.inRound l) (n - 1 - 1) P (Exit.then K (fun _ _ _ => False)) { tmps := (ps.zip (encs x)).foldl (fun t (p, v) => t.setIfInBounds p v) a.tmps, defers := [] } W)
    (hbody : ∀ (l : Nat) (pre : List α) (x : α) (N : Nat) (W : World), I pre N W → At N x W → pre.length < M →
      body.wpIn (Fence.wide.inRound l) (n - 1 - 1) P (Exit.then (fun _ W' => KeepsFrom w.heap.size W W' ∧ ∃ N', I (pre ++ [x]) N' W') (fun _ _ _ => False)) (a1 x) W)
    (hdone : ∀ (D : Nat) (xs : List α) (N : Nat) (W : World), w.heap.size ≤ D → Fin xs → I xs N W → W.heap[D]? = some (.deferred (some [])) → Q .normal { a with defers := { target := .collected D, args := #[] } :: a.defers } W) :
    (Code.rangeFunc g ps assign body).wpIn Fence.wide n P Q a w := by
  refine wpIn_rangeFunc fun fn hfn => ?_
  -- the loop's record, in each of its states
  let rec_ : LoopState → Loop := fun st => { state := st, pending := none, fn, tmps := a.tmps, params := ps, assign, body, defers := w.heap.size }
  have hz : (w.alloc (.deferred (some []))).heap.size = w.heap.size + 1 := by simp
  have hL0 : ((w.alloc (.deferred (some []))).alloc (.loop (rec_ .ready))).heap[w.heap.size + 1]? = some (.loop (rec_ .ready)) := by
    rw [← hz]; exact heap_alloc_new _ _
  have hD0 : ((w.alloc (.deferred (some []))).alloc (.loop (rec_ .ready))).heap[w.heap.size]? = some (.deferred (some [])) :=
    (Below.heap_alloc _ _ _ (by omega)).trans (heap_alloc_new _ _)
  have hI0 : I [] N0 ((w.alloc (.deferred (some []))).alloc (.loop (rec_ .ready))) :=
    hS.grow _ _ _ _ (hS.grow _ _ _ _ h0 ((Below.refl _ _).alloc (Nat.le_refl _) _)) ((Below.refl _ _).alloc (Nat.le_refl _) _)
  have hE := run_enterLoop_outer (P := P) (w := w) fn a.tmps ps assign body
  generalize hW : (w.alloc (.deferred (some []))).alloc (.loop (rec_ .ready)) = W1 at hL0 hD0 hI0
  have hE2 : (Instr.enterLoop fn a.tmps ps assign body none).run P w = .ok (w.heap.size + 1, [{ target := .collected w.heap.size, args := #[] }]) W1 := by rw [← hW]; exact hE
  refine ⟨w.heap.size + 1, [{ target := .collected w.heap.size, args := #[] }], W1, { target := .fn (.func gf) lb, args := #[.func (.yield (w.heap.size + 1)) #[] #[]] }, W1, gf, #[.func (.yield (w.heap.size + 1)) #[] #[]] ++ lb, W1,
    hE2, ?_, fun _ _ => trivial, ?_, fun _ => h1, ?_⟩
  · simp only [resolve, hg]
    simp [go_sem]
  · simp [invoke, go_sem, eg]
  refine (hseq (w.heap.size + 1) (fun s N W => I s N W ∧ W.heap[w.heap.size + 1]? = some (.loop (rec_ .ready)) ∧ W.heap[w.heap.size]? = some (.deferred (some []))) W1 N0 ?_ ?_ (fun _ _ _ h => h.1) ?_ ⟨hI0, hL0, hD0⟩).mono ?_
  · rintro s N W W' ⟨hi, hl, hd⟩ hb
    exact ⟨hS.grow _ _ _ _ hi hb, (hb.block _ (Array.getElem?_eq_some_iff.1 hl).1).trans hl, (hb.block _ (Array.getElem?_eq_some_iff.1 hd).1).trans hd⟩
  · rintro s N W ⟨hi, hl, hd⟩
    exact ⟨hS.more _ _ _ hi, hl, hd⟩
  · rintro pre x N W ⟨hi, hl, hd⟩ hat hM
    have hlt : w.heap.size + 1 < W.heap.size := (Array.getElem?_eq_some_iff.1 hl).1
    refine ⟨fn, _, assign, body, run_yield (P := P) (args := encs x) hl (hps x), roundIn_of_wpIn hfn (hassign _ x W _ ⟨_, run_beginRound hl rfl, ?_⟩)⟩
    have hl2 : (W.putObj (w.heap.size + 1) (.loop (rec_ .busy))).heap[w.heap.size + 1]? = some (.loop (rec_ .busy)) := World.putObj_heap_same hlt
    have hd2 : (W.putObj (w.heap.size + 1) (.loop (rec_ .busy))).heap[w.heap.size]? = some (.deferred (some [])) := (World.putObj_heap_other (by omega)).trans hd
    refine wpIn_mono (hbody _ pre x N _ (hS.put _ _ _ _ _ _ hi (by omega) hl rfl) (hS.putAt _ _ _ _ _ _ hat hl rfl) hM) ?_
    rintro e a3 W3 hp
    cases e with
    | normal =>
      obtain ⟨hk, N', hi3⟩ := hp
      have hl3 := hk.same _ _ (by omega) hl2 rfl
      have hd3 := hk.same _ _ (Nat.le_refl _) hd2 rfl
      exact ⟨_, _, run_endRound (P := P) none hl3, rfl, N', hS.put _ _ _ _ _ _ hi3 (by omega) hl3 rfl, World.putObj_heap_same (Array.getElem?_eq_some_iff.1 hl3).1, (World.putObj_heap_other (by omega)).trans hd3⟩
    | ret => exact hp.elim
    | exit id => exact hp.elim
    | goto t => exact hp.elim
    | panic c => exact hp.elim
    | outgrown => exact hp.elim
  · rintro e W2 ⟨⟨v, rfl⟩, xs, N', ⟨hi, hl, hd⟩, hF⟩
    exact ⟨none, _, run_endLoop (P := P) hl (by simp [rec_]), hdone _ xs N' _ (Nat.le_refl _) hF (hS.put _ _ _ _ _ _ hi (by omega) hl rfl) ((World.putObj_heap_other (by omega)).trans hd)⟩
end Go.Proofs.Ytmebffmdfnnbmaa
