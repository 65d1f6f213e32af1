import Derived.Test.YtnbddiiedagllaaGreatSSB25
import Derived.Test.YtnbddiiedagllaaGreatSSB27
import Derived.OwnWalkIn
import Derived.TacticsInMore
import Derived.LoopNIn
import Derived.LoopIn
import Derived.Maps.AppendAt
import Derived.Maps.OwnIn
import Derived.Test.YtnbddiiedagllaaGreatSSB34
import Derived.Test.YtnbddiiedagllaaGreatSSB33
import Derived.RangeFuncCalls
/- A range over a function whose rounds may leave the loop (by 'break'), and whose rounds are told which element comes: each round is handed an element x together with a fact 'At pre x' on it. -/
namespace Go.Proofs.YtnbddiiedagllaaGreat
open Go.RowKit

structure StandsL {α : Type} (B : Nat) (I : List α → Nat → World → Prop) (Ix : Code → World → Prop) : Prop where
 grow : ∀ s N W W', I s N W → Below W.heap.size W W' → I s N W'
 more : ∀ s N W, I s N W → I s W.heap.size W
 put : ∀ s N W l o o', I s N W → B ≤ l → W.heap[l]? = some o → o.isCells = false → I s N (W.putObj l o')
 growX : ∀ c W W', Ix c W → Below W.heap.size W W' → Ix c W'
 putX : ∀ c W l o o', Ix c W → B ≤ l → W.heap[l]? = some o → o.isCells = false → Ix c (W.putObj l o')

def ToldL {α : Type} (n : Nat) (P : Program) (gf : Nat) (lb : Array Value) (encs : α → Array Value) (I : List α → Nat → World → Prop) (At : List α → α → Prop) (Fin : List α → Prop) (M : Nat) : Prop :=
 ∀ (l : Nat) (J : List α → Nat → World → Prop) (Jx : World → Prop) (W : World) (N : Nat), (∀ s N W W', J s N W → Below W.heap.size W W' → J s N W') → (∀ s N W, J s N W → J s W.heap.size W) → (∀ s N W, J s N W → I s N W) →
  (∀ W W', Jx W → Below W.heap.size W W' → Jx W') →
  (∀ pre x N W1, J pre N W1 → At pre x → pre.length < M → YieldAt Fence.wide (n - 1) P l (encs x) W1 fun e W' => (e = .returned (.bool true) ∧ ∃ N', J (pre ++ [x]) N' W') ∨ (e = .returned (.bool false) ∧ Jx W')) →
  J [] N W → CallsIn Fence.wide n P gf (#[.func (.yield l) #[] #[]] ++ lb) W fun e W' => (∃ v, e = .returned v) ∧ ((∃ xs N', J xs N' W' ∧ Fin xs) ∨ Jx W')

def roundPostL {α : Type} (B : Nat) (I : List α → Nat → World → Prop) (Ix : Code → World → Prop) (s : List α) (W : World) : Exit → Act → World → Prop
 | .normal, _, W' => KeepsFrom B W W' ∧ ∃ N', I s N' W'
 | .exit id, _, W' => KeepsFrom B W W' ∧ Ix (.exit id) W'
 | _, _, _ => False

theorem range_toldL {P : Program} {n : Nat} {α : Type} {g : Operand} {ps : Array Tmp} {assign body : Code} {Q : Exit → Act → World → Prop} {a : Act} {w : World} {gf : Nat} {lb : Array Value}
  (h1 : 1 ≤ n) (hg : a.eval g = .func (.func gf) #[] lb) (eg : ∀ args w, (callFunc gf args).run P w = .ok (.enter gf args) w)
  {encs : α → Array Value} (hps : ∀ x, (encs x).size = ps.size) {I : List α → Nat → World → Prop} {Ix : Code → World → Prop} {At : List α → α → Prop} {Fin : List α → Prop} {M : Nat}
  (hS : StandsL w.heap.size I Ix) (hseq : ToldL (n - 1) P gf lb encs I At Fin M) (N0 : Nat) (h0 : I [] N0 w) (a1 : α → Act)
  (hassign : ∀ (l : Nat) (x : α) (W : World) (K : Act → World → Prop), K (a1 x) W →
   assign.wpIn (Fence.wide.inRound l) (n - 1 - 1) P (Exit.then K (fun _ _ _ => False)) { tmps := (ps.zip (encs x)).foldl (fun t (p, v) => t.setIfInBounds p v) a.tmps, defers := [] } W)
  (hbody : ∀ (l : Nat) (pre : List α) (x : α) (N : Nat) (W : World), I pre N W → At pre x → pre.length < M →
   body.wpIn (Fence.wide.inRound l) (n - 1 - 1) P (roundPostL w.heap.size I Ix (pre ++ [x]) W) (a1 x) W)
  (hdone : ∀ (D : Nat) (xs : List α) (N : Nat) (W : World), w.heap.size ≤ D → Fin xs → I xs N W → W.heap[D]? = some (.deferred (some [])) → Q .normal { a with defers := { target := .collected D, args := #[] } :: a.defers } W)
  (hstop : ∀ (D : Nat) (c : Code) (W : World), w.heap.size ≤ D → Ix c W → W.heap[D]? = some (.deferred (some [])) → c.wpIn Fence.wide n P Q { a with defers := { target := .collected D, args := #[] } :: a.defers } W) :
  (Code.rangeFunc g ps assign body).wpIn Fence.wide n P Q a w := by
 refine wpIn_rangeFunc fun fn hfn => ?_
 -- the loop's record, in each of its states
 let rec_ : LoopState → Option Code → Loop := fun st pe => { state := st, pending := pe, fn, tmps := a.tmps, params := ps, assign, body, defers := w.heap.size }
 have hz : (w.alloc (.deferred (some []))).heap.size = w.heap.size + 1 := by simp
 have hL0 : ((w.alloc (.deferred (some []))).alloc (.loop (rec_ .ready none))).heap[w.heap.size + 1]? = some (.loop (rec_ .ready none)) := by
  rw [← hz]; exact heap_alloc_new _ _
 have hD0 : ((w.alloc (.deferred (some []))).alloc (.loop (rec_ .ready none))).heap[w.heap.size]? = some (.deferred (some [])) :=
  (Below.heap_alloc _ _ _ (by omega)).trans (heap_alloc_new _ _)
 have hI0 : I [] N0 ((w.alloc (.deferred (some []))).alloc (.loop (rec_ .ready none))) :=
  hS.grow _ _ _ _ (hS.grow _ _ _ _ h0 ((Below.refl _ _).alloc (Nat.le_refl _) _)) ((Below.refl _ _).alloc (Nat.le_refl _) _)
 have hE := run_enterLoop_outer (P := P) (w := w) fn a.tmps ps assign body
 generalize hW : (w.alloc (.deferred (some []))).alloc (.loop (rec_ .ready none)) = W1 at hL0 hD0 hI0
 have hE2 : (Instr.enterLoop fn a.tmps ps assign body none).run P w = .ok (w.heap.size + 1, [{ target := .collected w.heap.size, args := #[] }]) W1 := by rw [← hW]; exact hE
 refine ⟨w.heap.size + 1, [{ target := .collected w.heap.size, args := #[] }], W1, { target := .fn (.func gf) lb, args := #[.func (.yield (w.heap.size + 1)) #[] #[]] }, W1, gf, #[.func (.yield (w.heap.size + 1)) #[] #[]] ++ lb, W1,
  hE2, ?_, fun _ _ => trivial, ?_, fun _ => h1, ?_⟩
 ·simp only [resolve, hg]
  simp [go_sem]
 ·simp [invoke, go_sem, eg]
 refine (hseq (w.heap.size + 1) (fun s N W => I s N W ∧ W.heap[w.heap.size + 1]? = some (.loop (rec_ .ready none)) ∧ W.heap[w.heap.size]? = some (.deferred (some [])))
  (fun W => ∃ c, Ix c W ∧ W.heap[w.heap.size + 1]? = some (.loop (rec_ .done (some c))) ∧ W.heap[w.heap.size]? = some (.deferred (some []))) W1 N0 ?_ ?_ (fun _ _ _ h => h.1) ?_ ?_ ⟨hI0, hL0, hD0⟩).mono ?_
 ·rintro s N W W' ⟨hi, hl, hd⟩ hb
  exact ⟨hS.grow _ _ _ _ hi hb, (hb.block _ (Array.getElem?_eq_some_iff.1 hl).1).trans hl, (hb.block _ (Array.getElem?_eq_some_iff.1 hd).1).trans hd⟩
 ·rintro s N W ⟨hi, hl, hd⟩
  exact ⟨hS.more _ _ _ hi, hl, hd⟩
 ·rintro W W' ⟨c, hi, hl, hd⟩ hb
  exact ⟨c, hS.growX _ _ _ hi hb, (hb.block _ (Array.getElem?_eq_some_iff.1 hl).1).trans hl, (hb.block _ (Array.getElem?_eq_some_iff.1 hd).1).trans hd⟩
 ·rintro pre x N W ⟨hi, hl, hd⟩ hat hM
  have hlt : w.heap.size + 1 < W.heap.size := (Array.getElem?_eq_some_iff.1 hl).1
  refine ⟨fn, _, assign, body, run_yield (P := P) (args := encs x) hl (hps x), roundIn_of_wpIn hfn (hassign _ x W _ ⟨_, run_beginRound hl rfl, ?_⟩)⟩
  have hl2 : (W.putObj (w.heap.size + 1) (.loop (rec_ .busy none))).heap[w.heap.size + 1]? = some (.loop (rec_ .busy none)) := World.putObj_heap_same hlt
  have hd2 : (W.putObj (w.heap.size + 1) (.loop (rec_ .busy none))).heap[w.heap.size]? = some (.deferred (some [])) := (World.putObj_heap_other (by omega)).trans hd
  refine wpIn_mono (hbody _ pre x N _ (hS.put _ _ _ _ _ _ hi (by omega) hl rfl) hat hM) ?_
  rintro e a3 W3 hp
  cases e with
  | normal =>
   obtain ⟨hk, N', hi3⟩ := hp
   have hl3 := hk.same _ _ (by omega) hl2 rfl
   have hd3 := hk.same _ _ (Nat.le_refl _) hd2 rfl
   exact ⟨_, _, run_endRound (P := P) none hl3, .inl ⟨rfl, N', hS.put _ _ _ _ _ _ hi3 (by omega) hl3 rfl, World.putObj_heap_same (Array.getElem?_eq_some_iff.1 hl3).1, (World.putObj_heap_other (by omega)).trans hd3⟩⟩
  | exit id =>
   obtain ⟨hk, hi3⟩ := hp
   have hl3 := hk.same _ _ (by omega) hl2 rfl
   have hd3 := hk.same _ _ (Nat.le_refl _) hd2 rfl
   exact ⟨_, _, run_endRound (P := P) (some (.exit id)) hl3, .inr ⟨rfl, .exit id, hS.putX _ _ _ _ _ hi3 (by omega) hl3 rfl, World.putObj_heap_same (Array.getElem?_eq_some_iff.1 hl3).1, (World.putObj_heap_other (by omega)).trans hd3⟩⟩
  | ret => exact hp.elim
  | goto t => exact hp.elim
  | panic c => exact hp.elim
  | outgrown => exact hp.elim
 ·rintro e W2 ⟨⟨v, rfl⟩, ⟨xs, N', ⟨hi, hl, hd⟩, hF⟩ | ⟨c, hi, hl, hd⟩⟩
  ·exact ⟨none, _, run_endLoop (P := P) hl (by simp [rec_]), hdone _ xs N' _ (Nat.le_refl _) hF (hS.put _ _ _ _ _ _ hi (by omega) hl rfl) ((World.putObj_heap_other (by omega)).trans hd)⟩
  ·exact ⟨some c, _, run_endLoop (P := P) hl (by simp [rec_]), hstop _ c _ (Nat.le_refl _) (hS.putX _ _ _ _ _ hi (by omega) hl rfl) ((World.putObj_heap_other (by omega)).trans hd)⟩
end Go.Proofs.YtnbddiiedagllaaGreat

/- The walk of slices.Backward at ints. -/
namespace Go.Proofs.YtnbddiiedagllaaGreat
open Go.RowKit Go.Shelf

attribute [local go_sem] Oper.semAt_some

theorem backward_any (p : Option Addr) (n c : Nat) (w : World) :
  Calls Tryz.prog 143 #[.slice p n c] w fun e w' => e = .returned (.func (.func 175) #[] #[.pointer (some ⟨w.heap.size, 0, none⟩)]) ∧ w' = w.alloc (.cells #[.slice p n c] 33) := by
 go_enter Tryz.func143, Tryz.ntmps143
 go_wp2
 go_ret
 exact ⟨rfl, rfl⟩

def backEnc (L : List Int) (x : Nat) : Array Value := #[.int .i64 (x : Int), .int .i64 (L.getD x 0)]

set_option maxRecDepth 100000 in
set_option maxHeartbeats 2000000 in
theorem back1_told (m : Nat) (hm1 : 1 ≤ m) (Bn : Nat) (p : Option Addr) (n c : Nat) (L : List Int) (hn : n ≤ 1000000) (I : List Nat → Nat → World → Prop)
  (hI : ∀ s N W, I s N W → Ints W p n c L ∧ W.cell? ⟨Bn, 0, none⟩ = some (.slice p n c)) :
  ToldL m Tryz.prog 175 #[.pointer (some ⟨Bn, 0, none⟩)] (backEnc L) I (fun pre x => x + pre.length + 1 = n) (fun xs => xs.length = n) (n + 1) := by
 intro l J Jx W N hg hm hJI hgx hY h0
 obtain ⟨hB0, hc0⟩ := hI _ _ _ (hJI _ _ _ h0)
 have hlen := hB0.len
 refine callsIn_of_wp Tryz.func175 rfl trivial ?_ rfl
 simp only [Tryz.ntmps175, List.size_toArray, List.length_cons, List.length_nil, Nat.reduceAdd, Nat.reduceSub, Array.replicate_succ, Array.replicate_zero, List.push_toArray, List.append_toArray, List.nil_append, List.cons_append]
 gi_wp2
 gi_loopw [3] (fun u wr => ∃ (pre : List Nat) (N' : Nat), pre.length ≤ n ∧ u = .int .i64 ((n : Int) - 1 - (pre.length : Int)) ∧ J pre N' wr) (fun u _ => ((intOf u) + 1).toNat)
 case atStart => exact ⟨[], N, Nat.zero_le _, by simp, h0⟩
 case round =>
  obtain ⟨pre, N', hj, rfl, hJ⟩ := hrel
  obtain ⟨hI1, hcB⟩ := hI _ _ _ (hJI _ _ _ hJ)
  by_cases hlt : pre.length < n
  ·obtain ⟨b, o, rfl, hc1⟩ := hI1.cell (by omega)
   obtain ⟨x, hx⟩ : ∃ x, x = n - 1 - pre.length := ⟨_, rfl⟩
   have hxi : (n : Int) - 1 - (pre.length : Int) = (x : Int) := by omega
   have hc := hc1 x (by omega)
   obtain ⟨fn, tmps, assign, body, hy, hRd⟩ := hY pre x N' wr hJ (by omega) (by omega)
   unfold backEnc at hy
   have HRd := Lib.hid hRd
   have hji : (x : Int) < (n : Int) := by omega
   have h0x : (0 : Int) ≤ (x : Int) := by omega
   have Hx := Lib.hid (show x + pre.length + 1 = n by omega)
   rw [hxi]
   clear hc1 hI1 hRd hx hxi hlt hj
   generalize L.getD x 0 = y at *
   gi_wp2
   refine HRd.out.mono ?_
   rintro e W3 (⟨rfl, N3, hJ3⟩ | ⟨rfl, hJ3⟩)
   ·gi_wp2
    go_roundw
    case rel => exact ⟨pre ++ [x], N3, by rw [List.length_append]; have := Hx.out; simp; omega, by rw [List.length_append]; have := Hx.out; congr 1; simp; omega, hJ3⟩
    case measure => simp [intOf]
   ·gi_wp2
    refine bodyPost_ret (results_none rfl _ _ _) rfl ?_
    exact ⟨⟨_, rfl⟩, .inr hJ3⟩
  ·have hxi : (n : Int) - 1 - (pre.length : Int) = -1 := by omega
   have hneg : ¬ (0 : Int) ≤ -1 := by decide
   rw [hxi]
   clear hxi
   gi_wp2
   go_end0
   exact ⟨⟨_, rfl⟩, .inl ⟨pre, ⟨N', hJ⟩, (by omega)⟩⟩
end Go.Proofs.YtnbddiiedagllaaGreat

/- The walk of readParts: the segments of a log, from the last one back to its first. -/
namespace Go.Proofs.YtnbddiiedagllaaGreat
open Go.RowKit Go.Maps Go.Shelf

attribute [local go_sem] Oper.semAt_some

def RpY (w : World) (ps : List PS) (d B : Nat) (pre : List Nat) (_ : Nat) (W : World) : Prop :=
 (∃ v xs, Boxed W B 163 v ∧ OwnParts5 (w.heap.size + 3) W v xs (backL ps pre.length)) ∧ (∀ i (h : i < ps.length), ps.length ≤ i + pre.length → ps[i].mark = false) ∧ W.cell? ⟨w.heap.size, 0, none⟩ = some (.pointer (some ⟨d, 0, none⟩)) ∧ Below w.heap.size w W ∧ w.heap.size + 3 ≤ W.heap.size

def RpX (w : World) (ps : List PS) (B : Nat) (c : Code) (W : World) : Prop :=
 c = .exit 0 ∧ ∃ k v xs, FirstAt ps k ∧ Boxed W B 163 v ∧ OwnParts5 (w.heap.size + 3) W v xs (ps.drop k).reverse ∧ Below w.heap.size w W

theorem boxed_putObj {W : World} {B l : Nat} {t : TypeId} {v : Value} {o o' : Obj} (h : Boxed W B t v) (hl : W.heap[l]? = some o) (ho : o.isCells = false) : Boxed (W.putObj l o') B t v := by
 refine (World.putObj_heap_other (fun e => ?_)).trans h
 rw [← e, show W.heap[B]? = _ from h] at hl
 cases hl
 cases ho

theorem rpY_stands (w : World) (ps : List PS) (d B B2 : Nat) (hB : w.heap.size ≤ B2) : StandsL B2 (RpY w ps d B) (RpX w ps B) := by
 refine ⟨?_, ?_, ?_, ?_, ?_⟩
 ·rintro s N W W' ⟨⟨v, xs, h1, h2⟩, h3, h5, h6, h7⟩ hb
  exact ⟨⟨v, xs, (hb.block _ h1.lt).trans h1, h2.grow hb⟩, h3, cell_keep hb h5, h6.trans (hb.mono h6.size), Nat.le_trans h7 hb.size⟩
 ·rintro s N W h
  exact h
 ·rintro s N W l o o' ⟨⟨v, xs, h1, h2⟩, h3, h5, h6, h7⟩ hl hlo ho
  refine ⟨⟨v, xs, boxed_putObj h1 hlo ho, h2.putObj hlo ho⟩, h3, ?_, ?_, by simpa using h7⟩
  ·refine (World.cell?_of_block (a := ⟨w.heap.size, 0, none⟩) (World.putObj_heap_other fun e => ?_)).trans h5
   subst e
   unfold World.cell? at h5
   simp only at h5
   rw [hlo] at h5
   cases o <;> simp_all [Obj.isCells]
  ·exact h6.grown (grownBy_putObj' W l o') h6.size (fun k e => by cases e; omega)
 ·rintro c W W' ⟨h0, k, v, xs, h1, h2, h3, h4⟩ hb
  exact ⟨h0, k, v, xs, h1, (hb.block _ h2.lt).trans h2, h3.grow hb, h4.trans (hb.mono h4.size)⟩
 ·rintro c W l o o' ⟨h0, k, v, xs, h1, h2, h3, h4⟩ hl hlo ho
  exact ⟨h0, k, v, xs, h1, boxed_putObj h2 hlo ho, h3.putObj hlo ho, h4.grown (grownBy_putObj' W l o') h4.size (fun k e => by cases e; omega)⟩

def RPartsEnd (w : World) (ps : List PS) (e : Ending) (w' : World) : Prop :=
 ∃ k a c xs, FirstAt ps k ∧ e = .returned (.slice a (ps.length - k) c) ∧ Row5 (fun b => w.heap.size ≤ b) w' a (ps.length - k) c xs (ps.drop k) ∧ Below w.heap.size w w'

theorem partEnd_at {w w' : World} {N : Nat} {L : List Nat} {p : PS} {e : Ending} (hs : Splits L p.ls p.t) (hn : p.n = (N : Int)) (h : PartEnd w N L e w') : ∃ x, e = .returned (partV x) ∧ PartAt (fun b => w.heap.size ≤ b) w' x p ∧ Below w.heap.size w w' := by
 obtain ⟨x, ls, t, h1, he, h2, h3, h4, h5, h6, h7, h8⟩ := h
 obtain ⟨rfl, rfl⟩ := splits_uniq h1 hs
 have hj : L.take (sizeL p.ls) = joinL p.ls := by
  conv => lhs; rw [hs.eq]
  rw [← joinL_len, List.take_left]
 rw [hj] at h5
 refine ⟨x, he, ⟨h2.trans hn.symm, h3, h4, h5, fun y hy h0 => h7 y hy h0, ?_⟩, h8⟩
 have hl := congrArg List.length hs.eq
 rw [List.length_append, joinL_len] at hl
 rw [h6]
 omega

theorem keepsFrom_below {n : Nat} {W W' : World} (h : Below W.heap.size W W') : KeepsFrom n W W' :=
 ⟨h.size, fun k _ _ hk _ => (h.block k (Array.getElem?_eq_some_iff.1 hk).1).trans hk⟩

theorem keepsFrom_trans {n : Nat} {A B C : World} (h : KeepsFrom n A B) (k : KeepsFrom n B C) : KeepsFrom n A C := h.trans k

theorem own_lt5 {w : World} {base n size : Nat} {e : TypeId} {v : Value} {xs : List Value} (h : w.ownsRow base e size v n xs) : ∀ k, v.ownBlock = some k → k < w.heap.size := by
 intro k hk
 rcases h.2 with ⟨rfl, _⟩ | ⟨g, cap, cur, rfl, _, hg, _⟩
 ·cases hk
 ·cases hk
  exact (Array.getElem?_eq_some_iff.1 hg).1

theorem own_ge5 {w : World} {base n size : Nat} {e : TypeId} {v : Value} {xs : List Value} (h : w.ownsRow base e size v n xs) : ∀ k, v.ownBlock = some k → base ≤ k := by
 intro k hk
 rcases h.2 with ⟨rfl, _⟩ | ⟨g, cap, cur, rfl, hb, _⟩
 ·cases hk
 ·cases hk
  exact hb

theorem own_base5 {w : World} {base b n size : Nat} {e : TypeId} {v : Value} {xs : List Value} (h : w.ownsRow base e size v n xs) (hb : b ≤ base) : w.ownsRow b e size v n xs :=
 ⟨h.1, h.2.imp id (fun ⟨g, cap, cur, e1, e2, r⟩ => ⟨g, cap, cur, e1, Nat.le_trans hb e2, r⟩)⟩

theorem five_new {w : World} {g : Nat} {a b c d e : Value} {t : TypeId} {m : Nat × Nat} (h : w.heap[g]? = some (.cells #[a, b, c, d, e] t m)) :
  w.cell? ⟨g, 0, none⟩ = some a ∧ w.cell? ⟨g, 1, none⟩ = some b ∧ w.cell? ⟨g, 2, none⟩ = some c ∧ w.cell? ⟨g, 3, none⟩ = some d ∧ w.cell? ⟨g, 4, none⟩ = some e := by
 refine ⟨?_, ?_, ?_, ?_, ?_⟩ <;> rw [cell_of_row _ _ _ _ _ m h] <;> rfl

set_option maxRecDepth 100000 in
set_option maxHeartbeats 6400000 in
theorem readParts_any {w0 : World} {X : Nat → Prop} {w : World} {d : Nat} {M : DM} (hO : Own w0 X w d M) (hu : usedF M.fs ≤ 10000000) (ps : List PS) (hA : AllOf M ps) (h0 : 0 < ps.length) (hm : ps.length ≤ 1000) (p : Option Addr) (c : Nat) (hI : Ints w p ps.length c (ps.map PS.n)) :
  Calls Tryz.prog 103 #[.pointer (some ⟨d, 0, none⟩), .slice p ps.length c] w (RPartsEnd w ps) := by
 refine (callsIn_wide (n := 6)).1 ?_
 have HO := Lib.hid hO
 have HA := Lib.hid hA
 have HI := Lib.hid hI
 obtain ⟨i0, hi, hz0, hz1, hz2⟩ := info_parts info_part
 clear hO hA hI
 refine callsIn_of_wp_marks Tryz.func103 rfl trivial ?_ rfl
 simp only [Tryz.ntmps103, List.size_toArray, List.length_cons, List.length_nil, Nat.reduceAdd, Nat.reduceSub, Array.replicate_succ, Array.replicate_zero, List.push_toArray, List.append_toArray, List.nil_append, List.cons_append]
 gi_wp2_with (refine ⟨trivial, ?_⟩; gi_at_call 143; refine (callsIn_wide.2 (backward_any p _ c _)).mono ?_; rintro e w' ⟨rfl, rfl⟩)
 obtain ⟨w1, hw1⟩ : ∃ w1, w1 = ((w.alloc (.cells #[.pointer (some ⟨d, 0, none⟩)] 23)).alloc (.cells #[.slice none 0 0] 163)).alloc (.cells #[.slice p ps.length c] 33) := ⟨_, rfl⟩
 have hb1 : Below w.heap.size w w1 := by rw [hw1]; exact (((Below.refl _ _).alloc (Nat.le_refl _) _).alloc (by simp) _).alloc (by simp; omega) _
 have hz1w : w1.heap.size = w.heap.size + 3 := by rw [hw1]; simp
 have hbd : w1.cell? ⟨w.heap.size, 0, none⟩ = some (.pointer (some ⟨d, 0, none⟩)) := by
  rw [hw1]
  exact (((Boxed.new w 23 (.pointer (some ⟨d, 0, none⟩))).alloc _).alloc _).cell
 have hbp : Boxed w1 (w.heap.size + 1) 163 (.slice none 0 0) := by
  have h := (Boxed.new (w.alloc (.cells #[.pointer (some ⟨d, 0, none⟩)] 23)) 163 (.slice none 0 0)).alloc (.cells #[.slice p ps.length c] 33)
  rw [World.size_alloc] at h
  rw [hw1]
  exact h
 have hbs : w1.cell? ⟨w.heap.size + 1 + 1, 0, none⟩ = some (.slice p ps.length c) := by
  have h := (Boxed.new ((w.alloc (.cells #[.pointer (some ⟨d, 0, none⟩)] 23)).alloc (.cells #[.slice none 0 0] 163)) 33 (.slice p ps.length c)).cell
  rw [World.size_alloc, World.size_alloc] at h
  rw [hw1]
  exact h
 rw [← hw1]
 clear hw1
 have h00 : RpY w ps d (w.heap.size + 1) [] 0 w1 := ⟨⟨_, [], hbp, by unfold backL; simpa using OwnParts5.nil _ _⟩, fun i h hh => by simp at hh; omega, hbd, hb1, by omega⟩
 have Hb1 := Lib.hid hb1
 have hT := back1_told 5 (by omega) (w.heap.size + 1 + 1) p ps.length c (ps.map PS.n) (by omega) (fun s N W => RpY w ps d (w.heap.size + 1) s N W ∧ W.cell? ⟨w.heap.size + 1 + 1, 0, none⟩ = some (.slice p ps.length c)) (fun s N W h => ⟨HI.out.grow h.1.2.2.2.1, h.2⟩)
 refine range_toldL (n := 6) (by omega) (gf := 175) (lb := #[.pointer (some ⟨w.heap.size + 1 + 1, 0, none⟩)]) rfl (enters_of Tryz.func175 (by kernel_rfl) rfl) (encs := backEnc (ps.map PS.n)) (fun _ => rfl)
  (Ix := RpX w ps (w.heap.size + 1)) ?stands hT 0 ⟨h00, hbs⟩
  (fun x => { tmps := #[.pointer (some ⟨d, 0, none⟩), .slice p ps.length c, .pointer (some ⟨w.heap.size, 0, none⟩), undef, .slice none 0 0, .pointer (some ⟨w.heap.size + 1, 0, none⟩), undef, .int .i64 ((ps.map PS.n).getD x 0), undef, .slice p ps.length c, .func (.func 175) #[] #[.pointer (some ⟨w.heap.size + 1 + 1, 0, none⟩)], .int .i64 (x : Int), .int .i64 ((ps.map PS.n).getD x 0), undef, undef, undef, undef, undef, undef, undef, undef, undef, undef, undef, undef], defers := [] }) ?assign ?body ?done ?stop
 case stands =>
  have h := rpY_stands w ps d (w.heap.size + 1) w1.heap.size (by omega)
  refine ⟨fun s N W W' hh hb => ⟨h.grow s N W W' hh.1 hb, cell_keep hb hh.2⟩, fun s N W hh => ⟨h.more s N W hh.1, hh.2⟩, fun s N W l o o' hh hl hlo ho => ⟨h.put s N W l o o' hh.1 hl hlo ho, ?_⟩, h.growX, h.putX⟩
  refine (World.cell?_of_block (a := ⟨w.heap.size + 1 + 1, 0, none⟩) (World.putObj_heap_other fun e => ?_)).trans hh.2
  have e' : w.heap.size + 1 + 1 = l := e
  omega
 case assign =>
  intro l x W K hK
  unfold backEnc
  generalize (ps.map PS.n).getD x 0 = y at hK ⊢
  gi_wp2
  exact hK
 case body =>
  rintro l pre x N W ⟨⟨⟨v, xs, hv, hrow⟩, hmk, hbd, hB, hW⟩, hbs⟩ hx hM
  have hxl : x < ps.length := by omega
  have hgx : (ps.map PS.n).getD x 0 = ps[x].n := by rw [List.getD_eq_getElem?_getD, List.getElem?_map, List.getElem?_eq_getElem hxl]; rfl
  obtain ⟨hN0, hN1⟩ := allOf_pos HA.out ps[x].n (List.mem_map.2 ⟨_, List.getElem_mem hxl, rfl⟩)
  obtain ⟨NN, hNN⟩ : ∃ NN : Nat, ps[x].n = (NN : Int) := ⟨ps[x].n.toNat, by omega⟩
  have hsp := HA.out.2 ps[x] (List.getElem_mem hxl)
  rw [hNN, Int.toNat_natCast] at hsp
  rw [hgx, hNN]
  have HX := Lib.hid ((readPart_any (HO.out.below hB) hu NN (by omega) (by omega)).mono fun e w' h => partEnd_at hsp hNN h)
  have hbn := backL_next (ps := ps) hx
  have Hv := Lib.hid hv
  have Hrow := Lib.hid hrow
  have Hmk := Lib.hid hmk
  have HB := Lib.hid hB
  have Hbs := Lib.hid hbs
  have Hbn := Lib.hid hbn
  have Hx := Lib.hid hx
  clear hsp hbn hgx hN0 hN1 hNN hv hrow hmk hB hbs
  gi_wp2_with fail
  refine ⟨trivial, (CallsIn.inRound l (callsIn_wide.2 HX.out)).mono ?_⟩
  rintro e w3 ⟨xp, rfl, hpt, hb3⟩
  have hbp3 : Boxed w3 (w.heap.size + 1) 163 v := (hb3.block _ Hv.out.lt).trans Hv.out
  have hown3 := Hrow.out.grow hb3
  have hpt3 : PartAt (fun b => w.heap.size + 3 ≤ b ∧ v.ownBlock ≠ some b) w3 xp ps[x] := hpt.moved (fun _ _ _ => rfl) (Nat.le_refl _) (fun b hb _ => ⟨Nat.le_trans hW hb, fun e => by have := own_lt5 Hrow.out.own b e; omega⟩)
  obtain ⟨w5, hw5⟩ : ∃ w5, w5 = w3.alloc (.cells #[.int .i64 xp.n, .bool xp.mark, .slice xp.pa xp.pn xp.pc, .slice xp.wa xp.wn xp.wc, .int .i64 xp.tn] 105) := ⟨_, rfl⟩
  have hb35 : Below w3.heap.size w3 w5 := by rw [hw5]; exact (Below.refl _ _).alloc (Nat.le_refl _) _
  have hx5 : w5.heap[w3.heap.size]? = some (.cells #[.int .i64 xp.n, .bool xp.mark, .slice xp.pa xp.pn xp.pc, .slice xp.wa xp.wn xp.wc, .int .i64 xp.tn] 105 (0, 0)) := by rw [hw5]; exact heap_alloc_new _ _
  obtain ⟨c0, c1, c2, c3, c4⟩ := five_new hx5
  have hbp5 : Boxed w5 (w.heap.size + 1) 163 v := (hb35.block _ hbp3.lt).trans hbp3
  have hcp5 := hbp5.cell
  have Hx5 := Lib.hid hx5
  have Hown5 := Lib.hid (hown3.grow hb35)
  have Hpt5 := Lib.hid (hpt3.grow hb35)
  have HbW5 := Lib.hid (hb3.trans (hb35.mono hb3.size))
  have Hbp5 := Lib.hid hbp5
  have hz35 : w3.heap.size < w5.heap.size := by rw [hw5]; simp
  have hzW3 := hb3.size
  clear hpt hb3 hbp3 hown3 hpt3 hb35 hx5 hbp5
  have hxl : xs.length ≤ 1000 := by rw [Hown5.out.len]; unfold backL; rw [List.length_reverse, List.length_drop]; omega
  have hlb := own_lt5 Hrow.out.own
  have hlb2 : v.ownBlock ≠ some w3.heap.size := fun e => by have := hlb _ e; omega
  have hz5 : w5.heap.size = w3.heap.size + 1 := by rw [hw5]; simp
  have hNews := cells_new w5 #[.int .i64 xp.n, .bool xp.mark, .slice xp.pa xp.pn xp.pc, .slice xp.wa xp.wn xp.wc, .int .i64 xp.tn] 105
  rw [hz5] at hNews
  have HNews := Lib.hid hNews
  have Hmk2 := Lib.hid Hpt5.out.mark
  have hb56 := (Below.refl w5.heap.size w5).alloc (Nat.le_refl _) (.cells #[.int .i64 xp.n, .bool xp.mark, .slice xp.pa xp.pn xp.pc, .slice xp.wa xp.wn xp.wc, .int .i64 xp.tn] 105)
  have Hown6 := Lib.hid (Hown5.out.grow hb56)
  have Hpt6 := Lib.hid (Hpt5.out.grow hb56)
  have Hx6 := Lib.hid ((hb56.block _ hz35).trans Hx5.out)
  have hcat : RecsZ (fun _ => True) w3 none 0 0 [] := ⟨rfl, Nat.le_refl _, by omega, fun h => absurd h (Nat.lt_irrefl _)⟩
  have hbase5 : w.heap.size ≤ w5.heap.size := by omega
  have hbase6 : w.heap.size + 3 ≤ (w5.alloc (.cells #[.int .i64 xp.n, .bool xp.mark, .slice xp.pa xp.pn xp.pc, .slice xp.wa xp.wn xp.wc, .int .i64 xp.tn] 105)).heap.size := by rw [World.size_alloc]; omega
  have hbW6 := HbW5.out.trans (hb56.mono HbW5.out.size)
  have hge := own_ge5 Hrow.out.own
  have Hkp := Lib.hid (fun b (hb : b < w.heap.size + 3) => And.intro (hbW6.block b (Nat.lt_of_lt_of_le hb hW)) (And.intro (Nat.lt_of_lt_of_le (Nat.lt_of_lt_of_le hb hW) hbW6.size) (fun e : some b = v.ownBlock => Nat.lt_irrefl _ (Nat.lt_of_lt_of_le hb (hge b e.symm)))))
  have hne5 : w3.heap.size ≠ w.heap.size + 1 := by omega
  have hlt6 : w3.heap.size < (w5.alloc (.cells #[.int .i64 xp.n, .bool xp.mark, .slice xp.pa xp.pn xp.pc, .slice xp.wa xp.wn xp.wc, .int .i64 xp.tn] 105)).heap.size := by rw [World.size_alloc]; omega
  clear hlb hNews hb56 hcat hge hbW6
  unfold partV
  obtain ⟨xn, xm, xpa, xpn, xpc, xwa, xwn, xwc, xtn⟩ := xp
  simp only at *
  subst hw5
  cases xm
  all_goals
   gi_wp2_with (gi_at_builtin; refine wpListIn_append_own_at _ rfl _ _ 163 rfl (w.heap.size + 3) 105 i0 _ 5 72 Tryz.underlying163 hi hz0 hz1 hz2 rfl (by decide) _ _ _ rfl (Hown5.out.own.alloc _) ⟨w3.heap.size + 1, 0, none⟩ 1 1 _ rfl rfl HNews.out (flatP_one [⟨xn, _, xpa, xpn, xpc, xwa, xwn, xwc, xtn⟩]) (by rw [maxLen_nat]; omega) (by omega) hbase6 ?_; intro v' w7 hown' hgrow _ hblk; have hsn := OwnParts5.snoc Hown6.out Hpt6.out hown' hgrow hblk; obtain ⟨g', cap', rfl⟩ := ownsRow_succ hown'; obtain ⟨hv1, hv2, hr2, hk2, hb2⟩ := Hbp5.out.appended (by decide) (own_base5 Hown5.out.own (Nat.le_add_right _ 3)) hbase5 (Nat.le_succ _) (own_base5 hown' (Nat.le_add_right _ 3)) hgrow; have hc1 := hv1.cell; have hf1 := hv1.frozen; have hx7 := (hgrow.block _ hlt6 (fun e => hlb2 e.symm)).trans Hx6.out; have hx8 := (Below.heap_setCell w7 ⟨w.heap.size + 1, 0, none⟩ (.slice (some ⟨g', 0, none⟩) (xs.length + 1) cap') w3.heap.size hne5).trans hx7; obtain ⟨_, y1, _, _, _⟩ := five_new hx8; have Hend := Lib.hid (And.intro (hsn.setCell (B := w.heap.size + 1) (u := .slice (some ⟨g', 0, none⟩) (xs.length + 1) cap') (by omega)) (And.intro hv2 (And.intro (keepsFrom_trans (keepsFrom_below HbW5.out) (hk2.from w1.heap.size)) (And.intro hb2 (fun b (hb : b < w.heap.size + 3) (hne : b ≠ w.heap.size + 1) => (Below.heap_setCell w7 ⟨w.heap.size + 1, 0, none⟩ (.slice (some ⟨g', 0, none⟩) (xs.length + 1) cap') b hne).trans ((hgrow.block b (Hkp.out b hb).2.1 (Hkp.out b hb).2.2).trans (Hkp.out b hb).1)))))); clear hsn hx7 hx8 hown' hgrow hblk hv1 hv2 hr2 hk2 hb2)
  ·obtain ⟨e1, e2, e3, e4, e5⟩ := Hend.out
   refine ⟨e3, 0, ⟨⟨_, _, e2, by rw [List.length_append, List.length_singleton, Hbn.out]; exact e1⟩, fun i hi hle => ?_, ?_, HB.out.trans ((HbW5.out.mono HB.out.size).trans e4), ?_⟩, ?_⟩
   ·rw [List.length_append, List.length_singleton] at hle
    by_cases h : ps.length ≤ i + pre.length
    ·exact Hmk.out i hi h
    ·obtain rfl : i = x := by have := Hx.out; omega
     exact Hmk2.out.symm
   ·exact (World.cell?_of_block (a := ⟨w.heap.size, 0, none⟩) (e5 _ (by show w.heap.size < _; omega) (by show w.heap.size ≠ _; omega))).trans hbd
   ·exact Nat.le_trans hW e3.size
   ·exact (World.cell?_of_block (a := ⟨w.heap.size + 1 + 1, 0, none⟩) (e5 _ (by show w.heap.size + 1 + 1 < _; omega) (by show w.heap.size + 1 + 1 ≠ _; omega))).trans Hbs.out
  ·obtain ⟨e1, e2, e3, e4, e5⟩ := Hend.out
   have hd : (ps.drop x).reverse = backL ps (pre.length + 1) := by
    unfold backL
    congr 2
    have := Hx.out
    omega
   rw [← Hbn.out, ← hd] at e1
   exact ⟨e3, rfl, x, _, _, ⟨by have := Hx.out; omega, fun i hi hlt => Hmk.out i hi (by have := Hx.out; omega), .inr Hmk2.out.symm⟩, e2, e1, HB.out.trans ((HbW5.out.mono HB.out.size).trans e4)⟩
 case done =>
  rintro D pre N W hD hlen ⟨⟨⟨v, xs, hv, hrow⟩, hmk, hbd, hB, hW⟩, hbs⟩ hK
  obtain ⟨k, hk0⟩ : ∃ k : Nat, k = 0 := ⟨0, rfl⟩
  have hF : FirstAt ps k := by
   subst hk0
   exact ⟨h0, fun i hi _ => hmk i hi (by rw [show pre.length = ps.length from hlen]; omega), .inl rfl⟩
  have hbl : backL ps pre.length = (ps.drop k).reverse := by
   unfold backL
   rw [show pre.length = ps.length from hlen, Nat.sub_self, hk0]
  rw [hbl] at hrow
  clear hmk hbl hbs hbd hlen hk0
  have hdl : (ps.drop k).length = ps.length - k := List.length_drop
  have hkl : k < ps.length := hF.1
  obtain ⟨g, cap, rfl, hbg, hgl, ⟨cur, tg, hgc⟩, hRev⟩ := rev_row hrow (by omega) (by omega)
  have hc := hv.cell
  have HRev := Lib.hid hRev
  have hgB : w.heap.size + 1 ≠ g := by omega
  have hgD : D ≠ g := fun e => by subst e; rw [hK] at hgc; cases hgc
  have HvB := Lib.hid hv
  have HB := Lib.hid hB
  have HK := Lib.hid hK
  have HF := Lib.hid hF
  have hDl := (Array.getElem?_eq_some_iff.1 hK).1
  rw [hdl] at HRev
  have hdl2 : (ps.drop k).length = ps.length - k := hdl
  clear hrow hRev hv hB hK hgc hF
  rw [hdl2] at hc
  rw [hdl2] at HvB
  clear hdl hdl2
  generalize hmk : ps.length - k = m at HRev hc HvB
  have Hmk := Lib.hid hmk
  clear hmk hkl
  gi_wp2_with fail
  refine ⟨trivial, (callsIn_wide.2 HRev.out).mono ?_⟩
  rintro e w4 ⟨⟨u, rfl⟩, hrow4, ho4, hb4⟩
  have hv4 : Boxed w4 (w.heap.size + 1) 163 _ := (ho4 _ hgB HvB.out.lt).trans HvB.out
  have hK4 := (ho4 D hgD hDl).trans HK.out
  have hc4 := hv4.cell
  have Hrow4 := Lib.hid hrow4
  have Hb4 := Lib.hid (HB.out.trans (hb4.mono (by omega)))
  have HK4 := Lib.hid hK4
  clear hrow4 ho4 hv4 hK4 hb4
  gi_wp2
  refine ⟨by simp, .inl ⟨_, _, rfl, run_takeDeferred HK4.out, ?_⟩⟩
  have hmk := Hmk.out
  subst hmk
  refine ⟨_, results_tmp rfl _ _ _, k, some ⟨g, 0, none⟩, cap, xs.reverse, HF.out, rfl, ?_, Hb4.out.trans (belowK_b (w := w) (Nat.le_refl _) _ D _ _ (by omega) HK4.out rfl rfl)⟩
  have hr := Hrow4.out.putObj (o' := .deferred none) HK4.out rfl
  exact ⟨hr.len, hr.lenq, hr.cap, hr.cell, fun i g g' => (hr.part i g g').moved (fun _ _ _ => rfl) (Nat.le_refl _) (fun b hb _ => by omega)⟩
 case stop =>
  rintro D cc W hD ⟨rfl, k, v, xs, hF, hv, hrow, hB⟩ hK
  have hdl : (ps.drop k).length = ps.length - k := List.length_drop
  have hkl : k < ps.length := hF.1
  obtain ⟨g, cap, rfl, hbg, hgl, ⟨cur, tg, hgc⟩, hRev⟩ := rev_row hrow (by omega) (by omega)
  have hc := hv.cell
  have HRev := Lib.hid hRev
  have hgB : w.heap.size + 1 ≠ g := by omega
  have hgD : D ≠ g := fun e => by subst e; rw [hK] at hgc; cases hgc
  have HvB := Lib.hid hv
  have HB := Lib.hid hB
  have HK := Lib.hid hK
  have HF := Lib.hid hF
  have hDl := (Array.getElem?_eq_some_iff.1 hK).1
  rw [hdl] at HRev
  have hdl2 : (ps.drop k).length = ps.length - k := hdl
  clear hrow hRev hv hB hK hgc hF
  rw [hdl2] at hc
  rw [hdl2] at HvB
  clear hdl hdl2
  generalize hmk : ps.length - k = m at HRev hc HvB
  have Hmk := Lib.hid hmk
  clear hmk hkl
  gi_wp2_with fail
  refine ⟨trivial, (callsIn_wide.2 HRev.out).mono ?_⟩
  rintro e w4 ⟨⟨u, rfl⟩, hrow4, ho4, hb4⟩
  have hv4 : Boxed w4 (w.heap.size + 1) 163 _ := (ho4 _ hgB HvB.out.lt).trans HvB.out
  have hK4 := (ho4 D hgD hDl).trans HK.out
  have hc4 := hv4.cell
  have Hrow4 := Lib.hid hrow4
  have Hb4 := Lib.hid (HB.out.trans (hb4.mono (by omega)))
  have HK4 := Lib.hid hK4
  clear hrow4 ho4 hv4 hK4 hb4
  gi_wp2
  refine ⟨by simp, .inl ⟨_, _, rfl, run_takeDeferred HK4.out, ?_⟩⟩
  have hmk := Hmk.out
  subst hmk
  refine ⟨_, results_tmp rfl _ _ _, k, some ⟨g, 0, none⟩, cap, xs.reverse, HF.out, rfl, ?_, Hb4.out.trans (belowK_b (w := w) (Nat.le_refl _) _ D _ _ (by omega) HK4.out rfl rfl)⟩
  have hr := Hrow4.out.putObj (o' := .deferred none) HK4.out rfl
  exact ⟨hr.len, hr.lenq, hr.cap, hr.cell, fun i g g' => (hr.part i g g').moved (fun _ _ _ => rfl) (Nat.le_refl _) (fun b hb _ => by omega)⟩
end Go.Proofs.YtnbddiiedagllaaGreat

