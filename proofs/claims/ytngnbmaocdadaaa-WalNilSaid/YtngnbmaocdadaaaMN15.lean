import Derived.Test.YtngnbmaocdadaaaMN14
import Derived.Test.YtngnbmaocdadaaaMN8
import Derived.Test.YtngnbmaocdadaaaMN9
/- A nil disk. -/
namespace Go.Proofs.Ytngnbmaocdadaaa
open Go.RowKit Go.Maps Go.Shelf

/-- One code, and new memory alone. -/
def CodeEnd (w : World) (k : Int) (e : Ending) (w' : World) : Prop := e = .returned (.int .i64 k) ∧ Below w.heap.size w w'

theorem carry_nil (n : List UInt8) (k : Nat) (caps : Array Value) (w : World) : Calls Try.prog 26 #[.pointer none, .agg #[encStr n, .func (.func k) #[] caps]] w (CodeEnd w 1) := by
  have Hb := Lib.hid ((Below.refl w.heap.size w).alloc (Nat.le_refl _) (.cells #[encStr n, .func (.func k) #[] caps] 70))
  go_enter Try.func26, Try.ntmps26
  go_wp2
  go_ret
  exact ⟨rfl, Hb.out⟩

set_option maxRecDepth 100000 in
theorem create_nil (n : List UInt8) (w : World) : Calls Try.prog 15 #[.pointer none, .string ⟨n.toArray⟩] w (CodeEnd w 1) := by
  have Hb := Lib.hid (((Below.refl w.heap.size w).alloc (Nat.le_refl _) (.cells #[.pointer none] 25)).alloc (by simp) (.cells #[encStr n] 9))
  have HC := Lib.hid (fun w1 => carry_nil n 27 #[.pointer (some ⟨w.heap.size, 0, none⟩), .pointer (some ⟨w.heap.size + 1, 0, none⟩)] w1)
  change Calls _ _ #[.pointer none, encStr n] _ _
  go_enter Try.func15, Try.ntmps15
  go_wp2_with fail
  refine (HC.out _).mono ?_
  rintro e w' ⟨rfl, hb⟩
  have Hb2 := Lib.hid (Hb.out.trans (hb.mono Hb.out.size))
  clear hb
  go_wp2
  go_ret
  exact ⟨rfl, Hb2.out⟩

set_option maxRecDepth 100000 in
theorem sync_nil (n : List UInt8) (w : World) : Calls Try.prog 36 #[.pointer none, .string ⟨n.toArray⟩] w (CodeEnd w 1) := by
  have HO := Lib.hid (onfile_any n 54 #[] w)
  have HC := Lib.hid (fun w1 => carry_nil n 58 #[.pointer (some ⟨w.heap.size, 0, none⟩)] w1)
  change Calls _ _ #[.pointer none, encStr n] _ _
  go_enter Try.func36, Try.ntmps36
  go_wp2_with fail
  refine HO.out.mono ?_
  rintro e w1 ⟨rfl, hb, _, _⟩
  have Hb := Lib.hid hb
  clear hb
  go_wp2_with fail
  refine (HC.out _).mono ?_
  rintro e w' ⟨rfl, hb⟩
  have Hb2 := Lib.hid (Hb.out.trans (hb.mono Hb.out.size))
  clear hb
  go_wp2
  go_ret
  exact ⟨rfl, Hb2.out⟩

theorem cell_under {w w' : World} {k : Nat} (hb : Below k w w') {a : Addr} {v : Value} (hc : w.cell? a = some v) (hk : a.block < k) : w'.cell? a = some v := by
  rw [World.cell?_of_block (hb.block a.block hk)]
  exact hc

set_option maxRecDepth 100000 in
set_option maxHeartbeats 3200000 in
theorem append_nil (n : List UInt8) (p : Option Addr) (m c : Nat) (w : World) : Calls Try.prog 34 #[.pointer none, .string ⟨n.toArray⟩, .slice p m c] w (CodeEnd w 1) := by
  have hb : Below w.heap.size w ((w.alloc (.cells #[.pointer none] 25)).alloc (.cells #[.slice p m c] 22)).drew := (((Below.refl w.heap.size w).alloc (Nat.le_refl _) (.cells #[.pointer none] 25)).alloc (by simp) (.cells #[.slice p m c] 22)).drew
  have hk0 : ((w.alloc (.cells #[.pointer none] 25)).alloc (.cells #[.slice p m c] 22)).drew.cell? ⟨w.heap.size, 0, none⟩ = some (.pointer none) :=
    (Chg.alloc (fun _ => False) _ _).cell (cell_of_row _ _ _ _ _ (0, 0) (heap_alloc_new _ _)) (fun h => h)
  have hsz : ((w.alloc (.cells #[.pointer none] 25)).alloc (.cells #[.slice p m c] 22)).drew.heap.size = w.heap.size + 2 := by show ((w.alloc _).alloc _).heap.size = _; simp
  have HO := Lib.hid (fun (w1 : World) (h1 : w1.heap.size = w.heap.size + 2) => onfile_at n 53 #[.pointer (some ⟨w.heap.size + 1, 0, none⟩), .pointer (some ⟨w.heap.size, 0, none⟩)] (w.heap.size + 2) w1 h1)
  have HC := Lib.hid (fun w1 => carry_nil n 58 #[.pointer (some ⟨w.heap.size + 2, 0, none⟩)] w1)
  have Hb := Lib.hid hb
  have HK := Lib.hid (fun (w1 : World) (hb1 : Below (w.heap.size + 2) ((w.alloc (.cells #[.pointer none] 25)).alloc (.cells #[.slice p m c] 22)).drew w1) => cell_under hb1 hk0 (by show w.heap.size < w.heap.size + 2; omega))
  have Hsz := Lib.hid hsz
  clear hb hk0 hsz
  change Calls _ _ #[.pointer none, encStr n, .slice p m c] _ _
  go_enter Try.func34, Try.ntmps34
  go_wp2
  go_region_held (fun w' => w'.cell? ⟨w.heap.size, 0, none⟩ = some (.pointer none))
    (first | exact HK.out _ (Below.refl _ _) | exact HK.out _ hb1 | exact HK.out _ hb2)
    (first
      | (go_at_call 52; (with_reducible refine (HO.out _ Hsz.out).mono ?_); rintro e w1 ⟨rfl, hb1, _⟩; have hs1 := Hsz.out ▸ hb1.size; have HC1 := Lib.hid (HC.out w1))
      | (go_at_call 26; (with_reducible refine HC1.out.mono ?_); rintro e w2 ⟨rfl, hb0⟩; have hb2 := hb1.trans (hb0.mono hs1); clear hb0))
  all_goals go_wp2
  all_goals go_ret
  all_goals exact ⟨rfl, Hb.out.trans (hb2.mono (Nat.le_add_right _ _))⟩

end Go.Proofs.Ytngnbmaocdadaaa

/- The walks of a disk's Remove and Rename, whole. -/
namespace Go.Proofs.Ytngnbmaocdadaaa
open Go.RowKit Go.Maps Go.Shelf

end Go.Proofs.Ytngnbmaocdadaaa

/- The walks of what a log's steps do: a change of its disk. -/
namespace Go.Proofs.Ytngnbmaocdadaaa
open Go.RowKit Go.Maps Go.Shelf

theorem OwnEnd.behind {w0 : World} {X : Nat → Prop} {w w1 : World} {d : Nat} {M : DM} {w' : World} (hb : Below w.heap.size w w1) (h0 : w0.heap.size ≤ w.heap.size) (hX : ∀ b, X b → b < w.heap.size) (h : OwnEnd w0 X w1 d M w') : OwnEnd w0 X w d M w' := by
  obtain ⟨h1, h2, h3, h4⟩ := h
  exact ⟨h1, fun b hb' => (h2 b hb').trans (hb.block b (hX b hb')), (hb.mono h0).trans h3, Nat.le_trans hb.size h4⟩

theorem Own.blocks {w0 : World} {X : Nat → Prop} {w : World} {d : Nat} {M : DM} (h : Own w0 X w d M) : ∀ b, X b → b < w.heap.size := by obtain ⟨_, _, _, h, _⟩ := h; exact h

theorem nmB_len (N : Nat) : (nmB N).length ≤ 9223372036854775807 := by
  unfold nmB
  rw [List.length_map, nameL_len]
  decide

set_option maxRecDepth 100000 in
set_option maxHeartbeats 3200000 in
theorem do_append {w0 : World} {X : Nat → Prop} {w : World} {d : Nat} {M : DM} (h : Own w0 X w d M) (g N b1 b2 b3 : Nat) (p : Option Addr) (m c : Nat) (l : List Nat) (k1 : w.cell? ⟨b1, 0, none⟩ = some (.pointer (some ⟨g, 0, none⟩))) (k2 : w.cell? ⟨b2, 0, none⟩ = some (encStr (nmB N)))
    (k3 : w.cell? ⟨b3, 0, none⟩ = some (.slice p m c)) (g3 : w.cell? ⟨g, 3, none⟩ = some (.pointer (some ⟨d, 0, none⟩))) (hB : Bytes w p m c l) (hap : 0 < m → ∀ a, p = some a → X a.block ∨ a.block < w0.heap.size) (hlim : usedF M.fs + l.length ≤ 140737488355328) :
    Calls Try.prog 33 #[.pointer (some ⟨b1, 0, none⟩), .pointer (some ⟨b2, 0, none⟩), .pointer (some ⟨b3, 0, none⟩)] w (OwnAct w0 X w d (appendM (nmB N) l M)) := by
  have hbd : Below w.heap.size w w.drew := (Below.refl _ _).drew
  have hO := h.below hbd
  have HA := Lib.hid (own_append hO (nmB N) (nmB_len N) p m c l (hB.grow hbd) hap hlim)
  have Hend := Lib.hid (fun w' (hq : OwnEnd w0 X w.drew d (appendM (nmB N) l M).1 w') => OwnEnd.behind hbd h.base.size h.blocks hq)
  have k1 : w.drew.cell? ⟨b1, 0, none⟩ = some (.pointer (some ⟨g, 0, none⟩)) := k1
  have k2 : w.drew.cell? ⟨b2, 0, none⟩ = some (encStr (nmB N)) := k2
  have k3 : w.drew.cell? ⟨b3, 0, none⟩ = some (.slice p m c) := k3
  have g3 : w.drew.cell? ⟨g, 3, none⟩ = some (.pointer (some ⟨d, 0, none⟩)) := g3
  clear hB hap hlim h hO hbd
  go_enter Try.func33, Try.ntmps33
  go_wp2
  refine wp_region_still_tail 6 (by kernel_rfl) (by kernel_rfl) ?_
  simp only [List.take_succ_cons, List.take_zero, List.drop_succ_cons, List.drop_zero]
  change wpStill _ _ w.drew (fun a' => wpList _ _ _ _ a' w.drew) _ _
  generalize w.drew = w4 at *
  repeat still_step
  refine wpStill_nil ?_
  go_wp2_with fail
  refine HA.out.mono ?_
  rintro e w5 ⟨rfl, hq⟩
  have Hq := Lib.hid (Hend.out _ hq)
  clear hq
  go_wp2
  go_ret
  exact ⟨rfl, Hq.out⟩

set_option maxRecDepth 100000 in
set_option maxHeartbeats 3200000 in
theorem do_sync {w0 : World} {X : Nat → Prop} {w : World} {d : Nat} {M : DM} (h : Own w0 X w d M) (g N b1 b2 : Nat) (k1 : w.cell? ⟨b1, 0, none⟩ = some (.pointer (some ⟨g, 0, none⟩))) (k2 : w.cell? ⟨b2, 0, none⟩ = some (encStr (nmB N)))
    (g3 : w.cell? ⟨g, 3, none⟩ = some (.pointer (some ⟨d, 0, none⟩))) :
    Calls Try.prog 35 #[.pointer (some ⟨b1, 0, none⟩), .pointer (some ⟨b2, 0, none⟩)] w (OwnAct w0 X w d (syncM (nmB N) M)) := by
  have hbd : Below w.heap.size w w.drew := (Below.refl _ _).drew
  have hO := h.below hbd
  have HA := Lib.hid (own_sync hO (nmB N) (nmB_len N))
  have Hend := Lib.hid (fun w' (hq : OwnEnd w0 X w.drew d (syncM (nmB N) M).1 w') => OwnEnd.behind hbd h.base.size h.blocks hq)
  have k1 : w.drew.cell? ⟨b1, 0, none⟩ = some (.pointer (some ⟨g, 0, none⟩)) := k1
  have k2 : w.drew.cell? ⟨b2, 0, none⟩ = some (encStr (nmB N)) := k2
  have g3 : w.drew.cell? ⟨g, 3, none⟩ = some (.pointer (some ⟨d, 0, none⟩)) := g3
  clear h hO hbd
  go_enter Try.func35, Try.ntmps35
  go_wp2
  refine wp_region_still_tail 5 (by kernel_rfl) (by kernel_rfl) ?_
  simp only [List.take_succ_cons, List.take_zero, List.drop_succ_cons, List.drop_zero]
  change wpStill _ _ w.drew (fun a' => wpList _ _ _ _ a' w.drew) _ _
  generalize w.drew = w4 at *
  repeat still_step
  refine wpStill_nil ?_
  go_wp2_with fail
  refine HA.out.mono ?_
  rintro e w5 ⟨rfl, hq⟩
  have Hq := Lib.hid (Hend.out _ hq)
  clear hq
  go_wp2
  go_ret
  exact ⟨rfl, Hq.out⟩

set_option maxRecDepth 100000 in
set_option maxHeartbeats 3200000 in
theorem do_create {w0 : World} {X : Nat → Prop} {w : World} {d : Nat} {M : DM} (h : Own w0 X w d M) (g N b1 b2 : Nat) (k1 : w.cell? ⟨b1, 0, none⟩ = some (.pointer (some ⟨g, 0, none⟩))) (k2 : w.cell? ⟨b2, 0, none⟩ = some (encStr (nmB N)))
    (g3 : w.cell? ⟨g, 3, none⟩ = some (.pointer (some ⟨d, 0, none⟩))) (hL : M.fs.length < 1000000) :
    Calls Try.prog 50 #[.pointer (some ⟨b1, 0, none⟩), .pointer (some ⟨b2, 0, none⟩)] w (OwnAct w0 X w d (createM (nmB N) M)) := by
  have hbd : Below w.heap.size w w.drew := (Below.refl _ _).drew
  have hO := h.below hbd
  have HA := Lib.hid (own_create hO (nmB N) (nmB_len N) hL)
  have Hend := Lib.hid (fun w' (hq : OwnEnd w0 X w.drew d (createM (nmB N) M).1 w') => OwnEnd.behind hbd h.base.size h.blocks hq)
  have k1 : w.drew.cell? ⟨b1, 0, none⟩ = some (.pointer (some ⟨g, 0, none⟩)) := k1
  have k2 : w.drew.cell? ⟨b2, 0, none⟩ = some (encStr (nmB N)) := k2
  have g3 : w.drew.cell? ⟨g, 3, none⟩ = some (.pointer (some ⟨d, 0, none⟩)) := g3
  clear h hO hbd
  go_enter Try.func50, Try.ntmps50
  go_wp2
  refine wp_region_still_tail 5 (by kernel_rfl) (by kernel_rfl) ?_
  simp only [List.take_succ_cons, List.take_zero, List.drop_succ_cons, List.drop_zero]
  change wpStill _ _ w.drew (fun a' => wpList _ _ _ _ a' w.drew) _ _
  generalize w.drew = w4 at *
  repeat still_step
  refine wpStill_nil ?_
  go_wp2_with fail
  refine HA.out.mono ?_
  rintro e w5 ⟨rfl, hq⟩
  have Hq := Lib.hid (Hend.out _ hq)
  clear hq
  go_wp2
  go_ret
  exact ⟨rfl, Hq.out⟩
end Go.Proofs.Ytngnbmaocdadaaa

/- A log in memory on a disk of the call's own; what a step leaves of it. -/
namespace Go.Proofs.Ytngnbmaocdadaaa
open Go.RowKit Go.Maps Go.Shelf

theorem Own.cellset {w0 : World} {X : Nat → Prop} {w : World} {d : Nat} {M : DM} (h : Own w0 X w d M) {B : Nat} (hB : X B) (h0 : w0.heap.size ≤ B) (i : Nat) (v : Value) : Own w0 X (w.setCell ⟨B, i, none⟩ v) d M := by
  obtain ⟨S, hD, hS, hX, hb⟩ := h
  exact ⟨S, hD.aside (Chg.set (fun b => b = B) w rfl v) (fun b hs e => (hS b hs).2 (by rw [e]; exact hB)), hS, fun b hx => by simp; exact hX b hx, hb.setCell h0 v⟩

theorem Own.sub {w0 : World} {X Y : Nat → Prop} {w : World} {d : Nat} {M : DM} (h : Own w0 X w d M) (hY : ∀ b, Y b → X b) : Own w0 Y w d M := h.more (Below.refl _ _) fun b hb => .inl (hY b hb)

/-- The log at block g on the disk d is W; no block of Y is the disk's. -/
structure LogAt (w0 : World) (Y : Nat → Prop) (w : World) (g d : Nat) (W : WM) : Prop where
  own : Own w0 Y w d W.D
  inY : Y g
  new : w0.heap.size ≤ g
  cells : w.heap[g]? = some (.cells (logC W d) 49 (0, 0))

/-- What a call leaves of a log. -/
def LogEnd (w0 : World) (Y : Nat → Prop) (w : World) (g d : Nat) (W' : WM) (w' : World) : Prop :=
  LogAt w0 Y w' g d W' ∧ (∀ b, Y b → b ≠ g → w'.heap[b]? = w.heap[b]?) ∧ Below w0.heap.size w w' ∧ w.heap.size ≤ w'.heap.size

section
variable {w0 : World} {Y : Nat → Prop} {w : World} {g d : Nat} {W : WM}

theorem LogAt.lt (h : LogAt w0 Y w g d W) : g < w.heap.size := (Array.getElem?_eq_some_iff.1 h.cells).1

/-- Behind new memory, which is kept aside. -/
theorem LogAt.all (h : LogAt w0 Y w g d W) {w1 : World} (hb : Below w.heap.size w w1) : LogAt w0 (fun b => Y b ∨ (w.heap.size ≤ b ∧ b < w1.heap.size)) w1 g d W :=
  ⟨h.own.more hb fun _ hb => hb, .inl h.inY, h.new, (hb.block _ h.lt).trans h.cells⟩

theorem LogAt.below (h : LogAt w0 Y w g d W) {w1 : World} (hb : Below w.heap.size w w1) : LogAt w0 Y w1 g d W :=
  ⟨h.own.below hb, h.inY, h.new, (hb.block _ h.lt).trans h.cells⟩

theorem LogAt.refl (h : LogAt w0 Y w g d W) : LogEnd w0 Y w g d W w := ⟨h, fun _ _ _ => rfl, Below.refl _ _, Nat.le_refl _⟩

theorem LogAt.ended (h : LogAt w0 Y w g d W) {w1 : World} (hb : Below w.heap.size w w1) : LogEnd w0 Y w g d W w1 :=
  ⟨h.below hb, fun b hy _ => hb.block b (h.own.blocks b hy), hb.mono h.own.base.size, hb.size⟩

theorem LogEnd.behind (h : LogAt w0 Y w g d W) {Y1 : Nat → Prop} {w1 w2 : World} {W2 : WM} (hb : Below w.heap.size w w1) (hY : ∀ b, Y b → Y1 b) (he : LogEnd w0 Y1 w1 g d W2 w2) : LogEnd w0 Y w g d W2 w2 := by
  obtain ⟨h1, h2, h3, h4⟩ := he
  exact ⟨⟨h1.own.sub hY, h.inY, h1.new, h1.cells⟩, fun b hy hne => (h2 b (hY b hy) hne).trans (hb.block b (h.own.blocks b hy)), (hb.mono h.own.base.size).trans h3, Nat.le_trans hb.size h4⟩

theorem LogEnd.trans {w1 w2 : World} {W1 W2 : WM} (h1 : LogEnd w0 Y w g d W1 w1) (h2 : LogEnd w0 Y w1 g d W2 w2) : LogEnd w0 Y w g d W2 w2 :=
  ⟨h2.1, fun b hy hne => (h2.2.1 b hy hne).trans (h1.2.1 b hy hne), h1.2.2.1.trans h2.2.2.1, Nat.le_trans h1.2.2.2 h2.2.2.2⟩

theorem step_log (h : LogAt w0 Y w g d W) (x : StepD) (r : DM × Int) (W1 : WM) (hD : W1.D = r.1) (hxn : x.n = (W1.n : Int)) (hxs : x.s = (W1.size : Int)) (hxz : x.z = (W1.wait : Int)) (hm : W1.most = W.most)
    (hdo : ∀ (Z : Nat → Prop) w', (∀ b, Y b → Z b) → Own w0 Z w' d W.D → (∀ b, Y b → w'.heap[b]? = w.heap[b]?) → Calls Try.prog x.k x.caps w' (OwnAct w0 Z w' d r)) (Q : Ending → World → Prop) (J : World → Prop)
    (hQ : ∀ w', LogEnd w0 Y w g d { W with D := r.1 } w' → r.2 ≠ 0 → Q (.returned (.int .i64 r.2)) w') (hJ : ∀ w', LogEnd w0 Y w g d W1 w' → r.2 = 0 → J w') :
    Calls Try.prog x.k x.caps (w.alloc (.cells x.cells 52)) (TakeStep g w.heap.size x Q J) := by
  have hb : Below w.heap.size w (w.alloc (.cells x.cells 52)) := (Below.refl _ _).alloc (Nat.le_refl _) _
  have hA := h.all hb
  have hYs : ∀ b, Y b → b < w.heap.size := h.own.blocks
  refine (hdo _ _ (fun b hy => .inl hy) hA.own (fun b hy => hb.block b (hYs b hy))).mono ?_
  rintro e w2 ⟨rfl, ho, hk, hbb, hsz⟩
  have hkY : ∀ b, Y b → w2.heap[b]? = w.heap[b]? := fun b hy => (hk b (.inl hy)).trans (hb.block b (hYs b hy))
  have hg2 : w2.heap[g]? = some (.cells (logC W d) 49 (0, 0)) := (hkY g h.inY).trans h.cells
  have hbw : Below w0.heap.size w w2 := (hb.mono h.own.base.size).trans hbb
  refine ⟨r.2, rfl, fun hc => ?_, fun hc => ⟨?_, ⟨_, hg2, rfl⟩, ?_⟩⟩
  · exact hQ _ ⟨⟨ho.sub fun b hy => .inl hy, h.inY, h.new, hg2⟩, fun b hy _ => hkY b hy, hbw, Nat.le_trans hb.size hsz⟩ hc
  · exact (hk _ (.inr ⟨Nat.le_refl _, by simp⟩)).trans (heap_alloc_new _ _)
  · have hoY : Own w0 Y w2 d r.1 := ho.sub fun b hy => .inl hy
    have h1 := set_head (i := 0) hg2 (.int .i64 x.n)
    have h2 := set_head (i := 1) h1 (.int .i64 x.s)
    have h3 := set_head (i := 2) h2 (.int .i64 x.z)
    refine hJ _ ⟨⟨?_, h.inY, h.new, ?_⟩, fun b hy hne => ?_, ?_, ?_⟩ hc
    · rw [hD]
      exact ((hoY.cellset h.inY h.new 0 _).cellset h.inY h.new 1 _).cellset h.inY h.new 2 _
    · rw [h3, hxn, hxs, hxz]
      unfold logC
      rw [hm]
      rfl
    · repeat rw [Below.heap_setCell _ _ _ _ hne]
      exact hkY b hy
    · exact ((hbw.setCell h.new _).setCell h.new _).setCell h.new _
    · simp only [World.size_setCell]
      exact Nat.le_trans hb.size hsz

theorem step_row {x : StepD} {sb : Nat} {L : List StepD} {w' : World} {t : TypeId} (hrow : w'.heap[sb]? = some (.cells (L.flatMap fun x => x.cells.toList).toArray t (0, 0))) (j : Nat) (hj : L[j]? = some x) :
    w'.cell? ⟨sb, j * 4, none⟩ = some (.func (.func x.k) #[] x.caps) ∧ w'.cell? ⟨sb, j * 4 + 1, none⟩ = some (.int .i64 x.n) ∧ w'.cell? ⟨sb, j * 4 + 2, none⟩ = some (.int .i64 x.s) ∧ w'.cell? ⟨sb, j * 4 + 3, none⟩ = some (.int .i64 x.z) := by
  have key : ∀ (L : List StepD) (j : Nat), L[j]? = some x → ∀ i, i < 4 → (L.flatMap fun x => x.cells.toList)[j * 4 + i]? = x.cells.toList[i]? := by
    intro L
    induction L with
    | nil => intro j h; simp at h
    | cons y L ih =>
      intro j h i hi
      rw [List.flatMap_cons]
      have hl : y.cells.toList.length = 4 := rfl
      cases j with
      | zero =>
        have e : y = x := by simpa using h
        subst e
        rw [Nat.zero_mul, Nat.zero_add, List.getElem?_append_left (by omega)]
      | succ j =>
        rw [List.getElem?_append_right (by omega), hl, show (j + 1) * 4 + i - 4 = j * 4 + i by omega]
        exact ih j (by simpa using h) i hi
  have hc : ∀ i, i < 4 → w'.cell? ⟨sb, j * 4 + i, none⟩ = x.cells.toList[i]? := fun i hi => by
    rw [cell_of_row _ _ _ _ _ (0, 0) hrow, List.getElem?_toArray]
    exact key L j hj i hi
  exact ⟨hc 0 (by omega), hc 1 (by omega), hc 2 (by omega), hc 3 (by omega)⟩

/-- One step. -/
theorem take1_any (h : LogAt w0 Y w g d W) (sb cap : Nat) (x : StepD) (hent : ∀ args w, (callFunc x.k args).run Try.prog w = .ok (.enter x.k args) w) (r : DM × Int) (W1 : WM) (hD : W1.D = r.1) (hxn : x.n = (W1.n : Int)) (hxs : x.s = (W1.size : Int)) (hxz : x.z = (W1.wait : Int)) (hm : W1.most = W.most)
    (hrow : w.heap[sb]? = some (.cells ([x].flatMap fun x => x.cells.toList).toArray 52 (0, 0)))
    (hdo : ∀ (Z : Nat → Prop) w', (∀ b, Y b → Z b) → Own w0 Z w' d W.D → (∀ b, Y b → w'.heap[b]? = w.heap[b]?) → Calls Try.prog x.k x.caps w' (OwnAct w0 Z w' d r)) :
    Calls Try.prog 19 #[.pointer (some ⟨g, 0, none⟩), .slice (some ⟨sb, 0, none⟩) 1 cap] w fun e w' => e = .returned (.int .i64 r.2) ∧ LogEnd w0 Y w g d (if r.2 = 0 then W1 else { W with D := r.1 }) w' := by
  refine take_any g sb 1 cap [x] rfl (by omega) (fun j w' => (j = 0 ∧ w' = w) ∨ (j = 1 ∧ LogEnd w0 Y w g d W1 w' ∧ r.2 = 0)) _ w (fun j hj args w => ?_) (.inl ⟨rfl, rfl⟩) (fun j hj w' hJ => ?_) (fun j hj w' hJ => ?_) (fun w' hJ => ?_)
  · obtain rfl : j = 0 := by simp at hj; exact hj
    exact hent args w
  · obtain rfl : j = 0 := by simp at hj; exact hj
    rcases hJ with ⟨_, rfl⟩ | ⟨h1, _⟩
    · exact step_row hrow 0 rfl
    · omega
  · obtain rfl : j = 0 := by simp at hj; exact hj
    rcases hJ with ⟨_, rfl⟩ | ⟨h1, _⟩
    · refine step_log h x r W1 hD hxn hxs hxz hm hdo _ _ (fun w' hq hr => ⟨rfl, by rw [if_neg hr]; exact hq⟩) (fun w' hq hr => .inr ⟨rfl, hq, hr⟩)
    · omega
  · rcases hJ with ⟨h1, _⟩ | ⟨_, hq, hr⟩
    · omega
    · exact ⟨by rw [hr], by rw [if_pos hr]; exact hq⟩

/-- Two steps. -/
theorem take2_any (h : LogAt w0 Y w g d W) (sb cap : Nat) (hsb : Y sb) (hne : sb ≠ g) (x y : StepD) (hent : ∀ args w, (callFunc x.k args).run Try.prog w = .ok (.enter x.k args) w) (hent2 : ∀ args w, (callFunc y.k args).run Try.prog w = .ok (.enter y.k args) w)
    (r s : DM × Int) (W1 W2 : WM) (hD : W1.D = r.1) (hxn : x.n = (W1.n : Int)) (hxs : x.s = (W1.size : Int)) (hxz : x.z = (W1.wait : Int)) (hm : W1.most = W.most)
    (hD2 : W2.D = s.1) (hyn : y.n = (W2.n : Int)) (hys : y.s = (W2.size : Int)) (hyz : y.z = (W2.wait : Int)) (hm2 : W2.most = W1.most)
    (hrow : w.heap[sb]? = some (.cells ([x, y].flatMap fun x => x.cells.toList).toArray 52 (0, 0)))
    (hdo : ∀ (Z : Nat → Prop) w', (∀ b, Y b → Z b) → Own w0 Z w' d W.D → (∀ b, Y b → w'.heap[b]? = w.heap[b]?) → Calls Try.prog x.k x.caps w' (OwnAct w0 Z w' d r))
    (hdo2 : ∀ (Z : Nat → Prop) w1 w', (∀ b, Y b → Z b) → LogEnd w0 Y w g d W1 w1 → Own w0 Z w' d W1.D → (∀ b, Y b → w'.heap[b]? = w1.heap[b]?) → Calls Try.prog y.k y.caps w' (OwnAct w0 Z w' d s)) :
    Calls Try.prog 19 #[.pointer (some ⟨g, 0, none⟩), .slice (some ⟨sb, 0, none⟩) 2 cap] w fun e w' => e = .returned (.int .i64 (if r.2 = 0 then s.2 else r.2)) ∧ LogEnd w0 Y w g d (if r.2 = 0 then (if s.2 = 0 then W2 else { W1 with D := s.1 }) else { W with D := r.1 }) w' := by
  refine take_any g sb 2 cap [x, y] rfl (by omega) (fun j w' => (j = 0 ∧ w' = w) ∨ (j = 1 ∧ LogEnd w0 Y w g d W1 w' ∧ r.2 = 0) ∨ (j = 2 ∧ LogEnd w0 Y w g d W2 w' ∧ r.2 = 0 ∧ s.2 = 0)) _ w (fun j hj args w => ?_) (.inl ⟨rfl, rfl⟩) (fun j hj w' hJ => ?_) (fun j hj w' hJ => ?_) (fun w' hJ => ?_)
  · rcases (show j = 0 ∨ j = 1 by simp at hj; omega) with rfl | rfl
    · exact hent args w
    · exact hent2 args w
  · rcases (show j = 0 ∨ j = 1 by simp at hj; omega) with rfl | rfl
    · rcases hJ with ⟨_, rfl⟩ | ⟨h1, _⟩ | ⟨h1, _⟩
      · exact step_row hrow 0 rfl
      · omega
      · omega
    · rcases hJ with ⟨h1, _⟩ | ⟨_, hq, _⟩ | ⟨h1, _⟩
      · omega
      · exact step_row (L := [x, y]) ((hq.2.1 sb hsb hne).trans hrow) 1 rfl
      · omega
  · rcases (show j = 0 ∨ j = 1 by simp at hj; omega) with rfl | rfl
    · rcases hJ with ⟨_, rfl⟩ | ⟨h1, _⟩ | ⟨h1, _⟩
      · exact step_log h x r W1 hD hxn hxs hxz hm hdo _ _ (fun w' hq hr => ⟨by rw [if_neg hr], by rw [if_neg hr]; exact hq⟩) (fun w' hq hr => .inr (.inl ⟨rfl, hq, hr⟩))
      · omega
      · omega
    · rcases hJ with ⟨h1, _⟩ | ⟨_, hq, hr⟩ | ⟨h1, _⟩
      · omega
      · exact step_log hq.1 y s W2 hD2 hyn hys hyz hm2 (fun Z w'' hZ ho hk => hdo2 Z w' w'' hZ hq ho hk) _ _ (fun w'' hq2 hs => ⟨by rw [if_pos hr], by rw [if_pos hr, if_neg hs]; exact hq.trans hq2⟩)
          (fun w'' hq2 hs => .inr (.inr ⟨rfl, hq.trans hq2, hr, hs⟩))
      · omega
  · rcases hJ with ⟨h1, _⟩ | ⟨h1, _⟩ | ⟨_, hq, hr, hs⟩
    · omega
    · omega
    · exact ⟨by rw [if_pos hr, hs], by rw [if_pos hr, if_pos hs]; exact hq⟩
end
end Go.Proofs.Ytngnbmaocdadaaa

