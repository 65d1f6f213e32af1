/- A range over a queue's Drain: the iterator pops, yields, and looks again; its rounds may turn the queue, and may leave. -/
import Derived.Test.YtmmiommfbkcebaaQuKit
import Derived.RangeFuncBox
import Derived.RangeFuncLeaves
import Derived.RangeFuncCalls
import Derived.Shelf.Abstract
import Derived.Sort.LoopGhostIn
namespace Go.Proofs.Ytmmiommfbkcebaa
open Go.RowKit Go.Shelf

attribute [local go_sem] Oper.semAt_some

set_option maxRecDepth 100000 in
/-- The walk of Drain, whatever the rounds do: between two rounds I0 holds with a number that each round lowers, behind a Pop Bf, behind the last one Dn, behind a round that leaves Bx. -/
theorem drain_in (n l : Nat) (hn : 1 ≤ n) (v : Value) (I0 : Nat → World → Prop) (Bf : Nat → Int → World → Prop) (Dn Bx : World → Prop)
    (hPop : ∀ k W, I0 k W → Calls Try.prog 13 #[v] W fun r W' => (∃ x, r = .returned (.tuple #[.int .i64 x, .bool true]) ∧ Bf k x W') ∨ (r = .returned (.tuple #[.int .i64 0, .bool false]) ∧ Dn W'))
    (hY : ∀ k x W, Bf k x W → YieldAt Fence.wide (n - 1) Try.prog l #[.int .i64 x] W fun e W' => (e = .returned (.bool true) ∧ ∃ k', k' < k ∧ I0 k' W') ∨ (e = .returned (.bool false) ∧ Bx W'))
    (k0 : Nat) (W : World) (h0 : I0 k0 W) :
    CallsIn Fence.wide n Try.prog 24 #[v, .func (.yield l) #[] #[]] W fun e W' => (∃ u, e = .returned u) ∧ (Dn W' ∨ Bx W') := by
  have HP := Lib.hid hPop
  have HY := Lib.hid hY
  clear hPop hY
  refine callsIn_of_wp Try.func24 rfl trivial ?_ rfl
  simp only [Try.ntmps24, List.size_toArray, List.length_cons, List.length_nil, Nat.reduceAdd, Nat.reduceSub, Array.replicate_succ, Array.replicate_zero, List.push_toArray, List.append_toArray, List.nil_append, List.cons_append]
  have hcmp : ∀ w : World, (binOp BinOp.eql 30 (.func (.yield l) #[] #[]) .nilFunc).run Try.prog w = .ok (.bool false) w := fun _ => by kernel_rfl
  gi_wp2
  gi_loopg [] k0 (fun k wr => RowKit.Hid (I0 k wr))
  case atStart => exact Lib.hid h0
  case round =>
    gi_wp2_with fail
    refine ⟨trivial, (callsIn_wide.2 (HP.out gk _ hrel.out)).mono ?_⟩
    rintro e w' (⟨x, rfl, hB⟩ | ⟨rfl, hD⟩)
    · obtain ⟨fn, tmps, assign, body, hy, hR⟩ := HY.out gk x _ hB
      have HR := Lib.hid hR
      clear hR hB
      gi_wp2
      refine HR.out.mono ?_
      rintro e W3 (⟨rfl, k', hk, hI⟩ | ⟨rfl, hX⟩)
      · have HI := Lib.hid hI
        have hk' := hk
        clear hI
        gi_wp2
        gi_roundg k'
        case measure => exact hk'
        case rel => exact HI
      · have HX := Lib.hid hX
        clear hX
        gi_wp2
        refine bodyPost_ret (results_none rfl _ _ _) rfl ?_
        exact ⟨⟨_, rfl⟩, .inr HX.out⟩
    · have HD := Lib.hid hD
      clear hD
      gi_wp2
      refine ⟨fun _ h => (by cases h), ?_⟩
      gi_wp2
      refine bodyPost_ret (results_none rfl _ _ _) rfl ?_
      exact ⟨⟨_, rfl⟩, .inl HD.out⟩

/-- A cut behind a piece of code that goes on. -/
theorem cutIn {F : Fence} {n : Nat} {P : Program} {c : Code} {Q : Exit → Act → World → Prop} {A : Act} {w : World} (R : Act → Act → World → Prop) (h : c.wpIn F n P (Exit.then (R A) (fun _ _ _ => False)) A w) (h2 : ∀ a' w', R A a' w' → Q .normal a' w') : c.wpIn F n P Q A w :=
  wpIn_mono h (by
    rintro e a' w' hr
    cases e with
    | normal => exact h2 a' w' hr
    | exit id => exact hr.elim
    | goto l => exact hr.elim
    | ret => exact hr.elim
    | panic ch => exact hr.elim
    | outgrown => exact hr.elim)

/-- What a round must leave. -/
def roundPostD (I0 : Nat → World → Prop) (Ix : Code → World → Prop) (D l k : Nat) (W : World) : Exit → Act → World → Prop
  | .normal, _, W' => W'.heap[l]? = W.heap[l]? ∧ W'.heap[D]? = W.heap[D]? ∧ ∃ k', k' < k ∧ I0 k' W'
  | .exit id, _, W' => W'.heap[l]? = W.heap[l]? ∧ W'.heap[D]? = W.heap[D]? ∧ Ix (.exit id) W'
  | _, _, _ => False

theorem range_drain {n : Nat} {g : Operand} {ps : Array Tmp} {assign body : Code} {Q : Exit → Act → World → Prop} {a : Act} {w : World} (v : Value)
    (h1 : 2 ≤ n) (hg : a.eval g = .func (.func 24) #[v] #[]) (hps : ps.size = 1)
    (I0 : Nat → World → Prop) (Bf : Nat → Int → World → Prop) (Dn : World → Prop) (Ix : Code → World → Prop) (k0 : Nat)
    (h0 : ∀ o o', I0 k0 ((w.alloc o).alloc o'))
    (put0 : ∀ k W o o', I0 k W → W.heap[w.heap.size + 1]? = some o → o.isCells = false → I0 k (W.putObj (w.heap.size + 1) o'))
    (putB : ∀ k x W o o', Bf k x W → W.heap[w.heap.size + 1]? = some o → o.isCells = false → Bf k x (W.putObj (w.heap.size + 1) o'))
    (putD : ∀ W o o', Dn W → W.heap[w.heap.size + 1]? = some o → o.isCells = false → Dn (W.putObj (w.heap.size + 1) o'))
    (putX : ∀ c W o o', Ix c W → W.heap[w.heap.size + 1]? = some o → o.isCells = false → Ix c (W.putObj (w.heap.size + 1) o'))
    (hPop : ∀ k W, I0 k W → Calls Try.prog 13 #[v] W fun r W' => ((∃ x, r = .returned (.tuple #[.int .i64 x, .bool true]) ∧ Bf k x W') ∨ (r = .returned (.tuple #[.int .i64 0, .bool false]) ∧ Dn W')) ∧ W'.heap[w.heap.size + 1]? = W.heap[w.heap.size + 1]? ∧ W'.heap[w.heap.size]? = W.heap[w.heap.size]?)
    (a1 : Int → Act)
    (hassign : ∀ (l k : Nat) (x : Int) (W : World) (K : Act → World → Prop), Bf k x W → K (a1 x) W →
      assign.wpIn (Fence.wide.inRound l) (n - 1 - 1) Try.prog (Exit.then K (fun _ _ _ => False)) { tmps := (ps.zip #[.int .i64 x]).foldl (fun t (p, v) => t.setIfInBounds p v) a.tmps, defers := [] } W)
    (hbody : ∀ (k : Nat) (x : Int) (W : World), Bf k x W → body.wpIn (Fence.wide.inRound (w.heap.size + 1)) (n - 1 - 1) Try.prog (roundPostD I0 Ix w.heap.size (w.heap.size + 1) k W) (a1 x) W)
    (hdone : ∀ (W : World), Dn W → W.heap[w.heap.size]? = some (.deferred (some [])) → Q .normal { a with defers := { target := .collected w.heap.size, args := #[] } :: a.defers } W)
    (hstop : ∀ (c : Code) (W : World), Ix c W → W.heap[w.heap.size]? = some (.deferred (some [])) → c.wpIn Fence.wide n Try.prog Q { a with defers := { target := .collected w.heap.size, args := #[] } :: a.defers } W) :
    (Code.rangeFunc g ps assign body).wpIn Fence.wide n Try.prog Q a w := by
  refine wpIn_rangeFunc fun fn hfn => ?_
  -- the loop's record, in each of its states
  let rec_ : LoopState → Option Code → Loop := fun st pe => { state := st, pending := pe, fn, tmps := a.tmps, params := ps, assign, body, defers := w.heap.size }
  have hz : (w.alloc (.deferred (some []))).heap.size = w.heap.size + 1 := by simp
  have hL0 : ((w.alloc (.deferred (some []))).alloc (.loop (rec_ .ready none))).heap[w.heap.size + 1]? = some (.loop (rec_ .ready none)) := by
    rw [← hz]; exact heap_alloc_new _ _
  have hD0 : ((w.alloc (.deferred (some []))).alloc (.loop (rec_ .ready none))).heap[w.heap.size]? = some (.deferred (some [])) :=
    (Below.heap_alloc _ _ _ (by omega)).trans (heap_alloc_new _ _)
  have hI0 := h0 (.deferred (some [])) (.loop (rec_ .ready none))
  have hE := run_enterLoop_outer (P := Try.prog) (w := w) fn a.tmps ps assign body
  generalize hW : (w.alloc (.deferred (some []))).alloc (.loop (rec_ .ready none)) = W1 at hL0 hD0 hI0
  have hE2 : (Instr.enterLoop fn a.tmps ps assign body none).run Try.prog w = .ok (w.heap.size + 1, [{ target := .collected w.heap.size, args := #[] }]) W1 := by rw [← hW]; exact hE
  refine ⟨w.heap.size + 1, [{ target := .collected w.heap.size, args := #[] }], W1, { target := .fn (.func 24) #[], args := #[v, .func (.yield (w.heap.size + 1)) #[] #[]] }, W1, 24, #[v, .func (.yield (w.heap.size + 1)) #[] #[]], W1,
    hE2, ?_, fun _ _ => trivial, ?_, fun _ => by omega, ?_⟩
  · simp only [resolve, hg]
    simp [go_sem]
  · simp [invoke, go_sem]
  refine (drain_in (n - 1) (w.heap.size + 1) (by omega) v (fun k W => I0 k W ∧ W.heap[w.heap.size + 1]? = some (.loop (rec_ .ready none)) ∧ W.heap[w.heap.size]? = some (.deferred (some [])))
    (fun k x W => Bf k x W ∧ W.heap[w.heap.size + 1]? = some (.loop (rec_ .ready none)) ∧ W.heap[w.heap.size]? = some (.deferred (some [])))
    (fun W => Dn W ∧ W.heap[w.heap.size + 1]? = some (.loop (rec_ .ready none)) ∧ W.heap[w.heap.size]? = some (.deferred (some [])))
    (fun W => ∃ c, Ix c W ∧ W.heap[w.heap.size + 1]? = some (.loop (rec_ .done (some c))) ∧ W.heap[w.heap.size]? = some (.deferred (some []))) ?_ ?_ k0 W1 ⟨hI0, hL0, hD0⟩).mono ?_
  · rintro k W ⟨hi, hl, hd⟩
    refine (hPop k W hi).mono ?_
    rintro r W' ⟨⟨x, rfl, hb⟩ | ⟨rfl, hb⟩, kl, kd⟩
    · exact .inl ⟨x, rfl, hb, kl.trans hl, kd.trans hd⟩
    · exact .inr ⟨rfl, hb, kl.trans hl, kd.trans hd⟩
  · rintro k x W ⟨hi, hl, hd⟩
    have hlt : w.heap.size + 1 < W.heap.size := (Array.getElem?_eq_some_iff.1 hl).1
    refine ⟨fn, _, assign, body, run_yield (P := Try.prog) (args := #[.int .i64 x]) hl hps.symm, roundIn_of_wpIn hfn (hassign _ k x W _ hi ⟨_, run_beginRound hl rfl, ?_⟩)⟩
    have hl2 : (W.putObj (w.heap.size + 1) (.loop (rec_ .busy none))).heap[w.heap.size + 1]? = some (.loop (rec_ .busy none)) := World.putObj_heap_same hlt
    have hd2 : (W.putObj (w.heap.size + 1) (.loop (rec_ .busy none))).heap[w.heap.size]? = some (.deferred (some [])) := (World.putObj_heap_other (by omega)).trans hd
    refine wpIn_mono (hbody k x _ (putB _ _ _ _ _ hi hl rfl)) ?_
    rintro e a3 W3 hp
    cases e with
    | normal =>
      obtain ⟨kl, kd, k', hk, hi3⟩ := hp
      have hl3 := kl.trans hl2
      have hd3 := kd.trans hd2
      exact ⟨_, _, run_endRound (P := Try.prog) none hl3, .inl ⟨rfl, k', hk, put0 _ _ _ _ hi3 hl3 rfl, World.putObj_heap_same (Array.getElem?_eq_some_iff.1 hl3).1, (World.putObj_heap_other (by omega)).trans hd3⟩⟩
    | exit id =>
      obtain ⟨kl, kd, hi3⟩ := hp
      have hl3 := kl.trans hl2
      have hd3 := kd.trans hd2
      exact ⟨_, _, run_endRound (P := Try.prog) (some (.exit id)) hl3, .inr ⟨rfl, .exit id, putX _ _ _ _ hi3 hl3 rfl, World.putObj_heap_same (Array.getElem?_eq_some_iff.1 hl3).1, (World.putObj_heap_other (by omega)).trans hd3⟩⟩
    | ret => exact hp.elim
    | goto t => exact hp.elim
    | panic c => exact hp.elim
    | outgrown => exact hp.elim
  · rintro e W2 ⟨⟨u, rfl⟩, ⟨hi, hl, hd⟩ | ⟨c, hi, hl, hd⟩⟩
    · exact ⟨none, _, run_endLoop (P := Try.prog) hl (by simp [rec_]), hdone _ (putD _ _ _ hi hl rfl) ((World.putObj_heap_other (by omega)).trans hd)⟩
    · exact ⟨some c, _, run_endLoop (P := Try.prog) hl (by simp [rec_]), hstop c _ (putX _ _ _ _ hi hl rfl) ((World.putObj_heap_other (by omega)).trans hd)⟩

/-- The same, where the loop's variable lies in slot xs. -/
theorem range_drainS {n : Nat} {g : Operand} {p : Tmp} {assign body : Code} {Q : Exit → Act → World → Prop} {a : Act} {w : World} (v : Value) (xs : Nat)
    (h1 : 2 ≤ n) (hg : a.eval g = .func (.func 24) #[v] #[])
    (I0 : Nat → World → Prop) (Bf : Nat → Int → World → Prop) (Dn : World → Prop) (Ix : Code → World → Prop) (k0 : Nat)
    (h0 : ∀ o o', I0 k0 ((w.alloc o).alloc o'))
    (put0 : ∀ k W o o', I0 k W → W.heap[w.heap.size + 1]? = some o → o.isCells = false → I0 k (W.putObj (w.heap.size + 1) o'))
    (putB : ∀ k x W o o', Bf k x W → W.heap[w.heap.size + 1]? = some o → o.isCells = false → Bf k x (W.putObj (w.heap.size + 1) o'))
    (putD : ∀ W o o', Dn W → W.heap[w.heap.size + 1]? = some o → o.isCells = false → Dn (W.putObj (w.heap.size + 1) o'))
    (putX : ∀ c W o o', Ix c W → W.heap[w.heap.size + 1]? = some o → o.isCells = false → Ix c (W.putObj (w.heap.size + 1) o'))
    (hPop : ∀ k W, I0 k W → Calls Try.prog 13 #[v] W fun r W' => ((∃ x, r = .returned (.tuple #[.int .i64 x, .bool true]) ∧ Bf k x W') ∨ (r = .returned (.tuple #[.int .i64 0, .bool false]) ∧ Dn W')) ∧ W'.heap[w.heap.size + 1]? = W.heap[w.heap.size + 1]? ∧ W'.heap[w.heap.size]? = W.heap[w.heap.size]?)
    (hassign : ∀ (l k : Nat) (x : Int) (W : World) (K : Act → World → Prop), Bf k x W → K { tmps := (a.tmps.setIfInBounds p (.int .i64 x)).setIfInBounds xs (.int .i64 x), defers := [] } W →
      assign.wpIn (Fence.wide.inRound l) (n - 1 - 1) Try.prog (Exit.then K (fun _ _ _ => False)) { tmps := a.tmps.setIfInBounds p (.int .i64 x), defers := [] } W)
    (hbody : ∀ (k : Nat) (x : Int) (W : World), Bf k x W → body.wpIn (Fence.wide.inRound (w.heap.size + 1)) (n - 1 - 1) Try.prog (roundPostD I0 Ix w.heap.size (w.heap.size + 1) k W) { tmps := (a.tmps.setIfInBounds p (.int .i64 x)).setIfInBounds xs (.int .i64 x), defers := [] } W)
    (hdone : ∀ (W : World), Dn W → W.heap[w.heap.size]? = some (.deferred (some [])) → Q .normal { a with defers := { target := .collected w.heap.size, args := #[] } :: a.defers } W)
    (hstop : ∀ (c : Code) (W : World), Ix c W → W.heap[w.heap.size]? = some (.deferred (some [])) → c.wpIn Fence.wide n Try.prog Q { a with defers := { target := .collected w.heap.size, args := #[] } :: a.defers } W) :
    (Code.rangeFunc g #[p] assign body).wpIn Fence.wide n Try.prog Q a w :=
  range_drain v h1 hg rfl I0 Bf Dn Ix k0 h0 put0 putB putD putX hPop (fun x => { tmps := (a.tmps.setIfInBounds p (.int .i64 x)).setIfInBounds xs (.int .i64 x), defers := [] }) (fun l k x W K hB hK => by simpa using hassign l k x W K hB hK) hbody hdone hstop
end Go.Proofs.Ytmmiommfbkcebaa
