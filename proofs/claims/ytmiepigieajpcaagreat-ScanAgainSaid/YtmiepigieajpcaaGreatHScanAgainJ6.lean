import Derived.Test.YtmiepigieajpcaaGreatHScanAgainJ2
import Derived.Test.YtmiepigieajpcaaGreatHScanAgainJ1
import Derived.Test.YtmiepigieajpcaaGreatHScanAgainJ3
import Derived.Deep.AppendLies
import Derived.Deep.RegionHeld3
/- Steps that make changes of a disk: a row of them makes the changes up to the first that fails. -/
namespace Go.Proofs.YtmiepigieajpcaaGreat
open Go.RowKit Go.Maps Go.Shelf

def soM (x : SO) (M : DM) : DM × Int := stepM x.k x.nm x.tt x.bs M

/-- A step K makes the change x, whatever the disk, wherever what lies in Y is as it is in w1. -/
def Does (w0 : World) (Y : Nat → Prop) (d : Nat) (w1 : World) (K : SK) (x : SO) : Prop :=
  (∀ args w, (callFunc K.k args).run Tryz.prog w = .ok (.enter K.k args) w) ∧
  ∀ (M : DM) (w : World), Own w0 Y w d M → (∀ b, Y b → w.heap[b]? = w1.heap[b]?) → w1.heap.size ≤ w.heap.size → M.fs.length < 1000000 → usedF M.fs ≤ 100000000 → Calls Tryz.prog K.k K.caps w (OwnAct w0 Y w d (soM x M))

theorem stepsM_drop {ops : List SO} {j : Nat} (hj : j < ops.length) (M' : DM) : stepsM (ops.drop j) M' = if (soM ops[j] M').2 = 0 then stepsM (ops.drop (j + 1)) (soM ops[j] M').1 else soM ops[j] M' := by
  rw [List.drop_eq_getElem_cons hj]
  rfl

set_option maxRecDepth 100000 in
theorem take_does {w0 : World} {Y : Nat → Prop} {w1 : World} {d : Nat} {M : DM} (hO : Own w0 Y w1 d M) (a : Option Addr) (n cap : Nat) (L : List SK) (ops : List SO) (hL : L.length = n) (ho : ops.length = n) (hm : n ≤ 1000) {N U T : Nat} (hnt : Neat M N U) (hT : ∀ x ∈ ops, x.bs.length ≤ T) (hN : N ≤ 900000) (hU : U + 1000 * T ≤ 10000000)
    (hrow : 0 < n → ∃ b o, a = some ⟨b, o, none⟩ ∧ Y b ∧ ∀ j (hj : j < L.length), w1.cell? ⟨b, o + j, none⟩ = some (skV L[j])) (hd : ∀ j (h : j < L.length) (h' : j < ops.length), Does w0 Y d w1 L[j] ops[j]) :
    Calls Tryz.prog 65 #[.slice a n cap] w1 fun e w' => e = .returned (.int .i64 (stepsM ops M).2) ∧ OwnEnd w0 Y w1 d (stepsM ops M).1 w' := by
  refine (stake_any a n cap L hL hm (fun j w' => ∃ M', stepsM ops M = stepsM (ops.drop j) M' ∧ Neat M' (N + j) (U + j * T) ∧ OwnEnd w0 Y w1 d M' w') (fun z w' => (stepsM ops M).2 = z ∧ OwnEnd w0 Y w1 d (stepsM ops M).1 w') w1 ?_ ?_ ?_ ?_).mono ?_
  · exact fun j hj args w => (hd j hj (by rw [ho, ← hL]; exact hj)).1 args w
  · exact ⟨M, by rw [List.drop_zero], by simpa using hnt, hO, fun _ _ => rfl, Below.refl _ _, Nat.le_refl _⟩
  · intro hn
    obtain ⟨b, o, e, hY, hc⟩ := hrow hn
    refine ⟨b, o, e, fun j hj w' hJ => ?_⟩
    obtain ⟨M', _, _, _, hk, _, _⟩ := hJ
    exact (World.cell?_of_block (a := ⟨b, o + j, none⟩) (hk b hY)).trans (hc j hj)
  · intro j hj w' hJ
    have hjo : j < ops.length := by rw [ho, ← hL]; exact hj
    obtain ⟨M', hE, hN', hOw, hk, hb, hz⟩ := hJ
    have hjT : j * T ≤ 1000 * T := Nat.mul_le_mul_right T (by omega)
    have hsm := hN'.small
    refine ((hd j hj hjo).2 M' w' hOw hk hz (by have := hsm.files; omega) (by have := hsm.used; omega)).mono ?_
    rintro e w2 ⟨rfl, hO2, hk2, hb2, hz2⟩
    have hEnd : OwnEnd w0 Y w1 d (soM ops[j] M').1 w2 := ⟨hO2, fun b hb => (hk2 b hb).trans (hk b hb), hb.trans hb2, Nat.le_trans hz hz2⟩
    rw [stepsM_drop hjo] at hE
    refine ⟨(soM ops[j] M').2, rfl, fun h0 => ⟨(soM ops[j] M').1, by rw [hE, if_pos h0], ?_, hEnd⟩, fun h0 => ?_⟩
    · have h1 := stepM_neat hN' ops[j].k ops[j].nm ops[j].tt ops[j].bs
      have h2 := hT ops[j] (List.getElem_mem hjo)
      exact h1.mono (by omega) (by rw [Nat.succ_mul]; omega)
    · rw [hE, if_neg h0]
      exact ⟨rfl, hEnd⟩
  · rintro e w' ⟨z, rfl, h0, hn⟩
    by_cases hz : z = 0
    · subst hz
      obtain ⟨M', hE, _, hEnd⟩ := h0 rfl
      rw [List.drop_of_length_le (by omega)] at hE
      rw [hE]
      exact ⟨rfl, hEnd⟩
    · obtain ⟨h1, h2⟩ := hn hz
      rw [h1]
      exact ⟨rfl, h2⟩

section
variable {w0 : World} {Y : Nat → Prop} {d : Nat} {w1 : World}

theorem cell_y {w : World} {b : Nat} {v : Value} (hk : ∀ b, Y b → w.heap[b]? = w1.heap[b]?) (hY : Y b) (h : w1.cell? ⟨b, 0, none⟩ = some v) : w.cell? ⟨b, 0, none⟩ = some v :=
  (World.cell?_of_block (a := ⟨b, 0, none⟩) (hk b hY)).trans h

theorem does_removing {b1 b2 : Nat} {nm : List UInt8} (hn : nm.length ≤ 9223372036854775807) (y1 : Y b1) (y2 : Y b2) (k1 : w1.cell? ⟨b1, 0, none⟩ = some (.pointer (some ⟨d, 0, none⟩))) (k2 : w1.cell? ⟨b2, 0, none⟩ = some (encStr nm)) :
    Does w0 Y d w1 ⟨151, #[.pointer (some ⟨b1, 0, none⟩), .pointer (some ⟨b2, 0, none⟩)]⟩ ⟨5, nm, [], []⟩ :=
  ⟨fun args w => by kernel_rfl, fun M w hO hk hz hl hu => do_removing hO b1 b2 nm hn (cell_y hk y2 k2) (cell_y hk y1 k1)⟩

theorem does_creating {b1 b2 : Nat} {nm : List UInt8} (hn : nm.length ≤ 9223372036854775807) (y1 : Y b1) (y2 : Y b2) (k1 : w1.cell? ⟨b1, 0, none⟩ = some (.pointer (some ⟨d, 0, none⟩))) (k2 : w1.cell? ⟨b2, 0, none⟩ = some (encStr nm)) :
    Does w0 Y d w1 ⟨112, #[.pointer (some ⟨b1, 0, none⟩), .pointer (some ⟨b2, 0, none⟩)]⟩ ⟨1, nm, [], []⟩ :=
  ⟨fun args w => by kernel_rfl, fun M w hO hk hz hl hu => do_creating hO b1 b2 nm hn hl (cell_y hk y2 k2) (cell_y hk y1 k1)⟩

theorem does_syncing {b1 b2 : Nat} {nm : List UInt8} (hn : nm.length ≤ 9223372036854775807) (y1 : Y b1) (y2 : Y b2) (k1 : w1.cell? ⟨b1, 0, none⟩ = some (.pointer (some ⟨d, 0, none⟩))) (k2 : w1.cell? ⟨b2, 0, none⟩ = some (encStr nm)) :
    Does w0 Y d w1 ⟨114, #[.pointer (some ⟨b1, 0, none⟩), .pointer (some ⟨b2, 0, none⟩)]⟩ ⟨3, nm, [], []⟩ :=
  ⟨fun args w => by kernel_rfl, fun M w hO hk hz hl hu => do_syncing hO b1 b2 nm hn (cell_y hk y2 k2) (cell_y hk y1 k1)⟩

theorem does_cut1 {b1 : Nat} (y1 : Y b1) (k1 : w1.cell? ⟨b1, 0, none⟩ = some (.pointer (some ⟨d, 0, none⟩))) :
    Does w0 Y d w1 ⟨153, #[.pointer (some ⟨b1, 0, none⟩)]⟩ ⟨1, cutB, [], []⟩ :=
  ⟨fun args w => by kernel_rfl, fun M w hO hk hz hl hu => do_cut1 hO b1 hl (cell_y hk y1 k1)⟩

theorem does_cut2 {b1 b3 : Nat} {p : Option Addr} {m c : Nat} {l : List Nat} (hB : Bytes w1 p m c l) (hp : 0 < m → ∀ a, p = some a → Y a.block) (hl : l.length ≤ 1000000) (y1 : Y b1) (y3 : Y b3) (k1 : w1.cell? ⟨b1, 0, none⟩ = some (.pointer (some ⟨d, 0, none⟩))) (k3 : w1.cell? ⟨b3, 0, none⟩ = some (.slice p m c)) :
    Does w0 Y d w1 ⟨154, #[.pointer (some ⟨b1, 0, none⟩), .pointer (some ⟨b3, 0, none⟩)]⟩ ⟨2, cutB, [], l⟩ :=
  ⟨fun args w => by kernel_rfl, fun M w hO hk hz hlm hu => do_cut2 hO b1 b3 p m c l (hB.moved (fun h0 x hx => hk _ (hp h0 x hx))) (fun h0 x hx => .inl (hp h0 x hx)) (by omega) (cell_y hk y3 k3) (cell_y hk y1 k1)⟩

theorem does_cut3 {b1 : Nat} (y1 : Y b1) (k1 : w1.cell? ⟨b1, 0, none⟩ = some (.pointer (some ⟨d, 0, none⟩))) :
    Does w0 Y d w1 ⟨155, #[.pointer (some ⟨b1, 0, none⟩)]⟩ ⟨3, cutB, [], []⟩ :=
  ⟨fun args w => by kernel_rfl, fun M w hO hk hz hl hu => do_cut3 hO b1 (cell_y hk y1 k1)⟩

theorem does_cut4 {b1 b2 : Nat} {nm : List UInt8} (hn : nm.length ≤ 9223372036854775807) (y1 : Y b1) (y2 : Y b2) (k1 : w1.cell? ⟨b1, 0, none⟩ = some (.pointer (some ⟨d, 0, none⟩))) (k2 : w1.cell? ⟨b2, 0, none⟩ = some (encStr nm)) :
    Does w0 Y d w1 ⟨156, #[.pointer (some ⟨b1, 0, none⟩), .pointer (some ⟨b2, 0, none⟩)]⟩ ⟨4, cutB, nm, []⟩ :=
  ⟨fun args w => by kernel_rfl, fun M w hO hk hz hl hu => do_cut4 hO b1 b2 nm hn hl (cell_y hk y2 k2) (cell_y hk y1 k1)⟩
end
end Go.Proofs.YtmiepigieajpcaaGreat

/- Rows of steps that a call makes: each with the change that it stands for. -/
namespace Go.Proofs.YtmiepigieajpcaaGreat
open Go.RowKit Go.Maps Go.Shelf

/-- A step K makes the change x as long as the blocks of Z are as they are in w. -/
def StepAt (Z : Nat → Prop) (d : Nat) (w : World) (K : SK) (x : SO) : Prop :=
  ∀ (w0 : World) (Y : Nat → Prop) (w1 : World), (∀ b, Z b → b < w.heap.size → w1.heap[b]? = w.heap[b]?) → (∀ b, Z b → b < w.heap.size → Y b) → Does w0 Y d w1 K x

theorem StepAt.moved {Z Z' : Nat → Prop} {d : Nat} {w w' : World} {K : SK} {x : SO} (h : StepAt Z d w K x) (hk : ∀ b, Z b → b < w.heap.size → w'.heap[b]? = w.heap[b]?) (hs : w.heap.size ≤ w'.heap.size) (hz : ∀ b, Z b → b < w.heap.size → Z' b) : StepAt Z' d w' K x :=
  fun w0 Y w1 h1 h2 => h w0 Y w1 (fun b hb hl => (h1 b (hz b hb hl) (Nat.lt_of_lt_of_le hl hs)).trans (hk b hb hl)) (fun b hb hl => h2 b (hz b hb hl) (Nat.lt_of_lt_of_le hl hs))

/-- The row v of the call's own holds steps for the changes ops. -/
def SRow (B G d : Nat) (w : World) (v : Value) (ops : List SO) : Prop :=
  ∃ Ks : List SK, Ks.length = ops.length ∧ w.ownsRow G 172 1 v ops.length (Ks.map skV) ∧ ∀ i (h : i < Ks.length) (h' : i < ops.length), StepAt (fun b => B ≤ b ∧ v.ownBlock ≠ some b) d w Ks[i] ops[i]

theorem SRow.nil (B G d : Nat) (w : World) : SRow B G d w (.slice none 0 0) [] :=
  ⟨[], rfl, World.ownsRow_nil _ _ _ _, fun _ h => absurd h (Nat.not_lt_zero _)⟩

theorem SRow.grow {B G d : Nat} {w w' : World} {v : Value} {ops : List SO} (h : SRow B G d w v ops) (hb : Below w.heap.size w w') : SRow B G d w' v ops := by
  obtain ⟨Ks, h1, h2, h3⟩ := h
  exact ⟨Ks, h1, own_below h2 hb, fun i hi hi' => (h3 i hi hi').moved (fun b _ hl => hb.block b hl) hb.size (fun b hz _ => hz)⟩

theorem SRow.app {B G d : Nat} {w w' : World} {v v' : Value} {ops os : List SO} {Ks Js : List SK} (hl : Ks.length = ops.length) (hel : ∀ i (h : i < Ks.length) (h' : i < ops.length), StepAt (fun b => B ≤ b ∧ v.ownBlock ≠ some b) d w Ks[i] ops[i])
    (hl2 : Js.length = os.length) (hel2 : ∀ i (h : i < Js.length) (h' : i < os.length), StepAt (fun b => B ≤ b ∧ v.ownBlock ≠ some b) d w Js[i] os[i])
    (hown : w'.ownsRow G 172 1 v' (ops.length + os.length) (Ks.map skV ++ Js.map skV)) (hg : w.grownBy w' v.ownBlock) (hb : v'.ownBlock = v.ownBlock ∨ v'.ownBlock = some w.heap.size) (hs : w.heap.size ≤ w'.heap.size) : SRow B G d w' v' (ops ++ os) := by
  have turn : ∀ (K : SK) (x : SO), StepAt (fun b => B ≤ b ∧ v.ownBlock ≠ some b) d w K x → StepAt (fun b => B ≤ b ∧ v'.ownBlock ≠ some b) d w' K x := fun K x h =>
    h.moved (fun b hz hlt => hg.block b hlt (fun e => hz.2 e.symm)) hs (fun b hz hlt => ⟨hz.1, fun e => by
      rcases hb with e2 | e2
      · exact hz.2 (e2.symm.trans e)
      · rw [e2] at e
        have := Option.some.inj e
        omega⟩)
  refine ⟨Ks ++ Js, by rw [List.length_append, List.length_append, hl, hl2], by rw [List.length_append, List.map_append]; exact hown, fun i h h' => ?_⟩
  rcases Nat.lt_or_ge i Ks.length with hi | hi
  · rw [List.getElem_append_left hi, List.getElem_append_left (by omega)]
    exact turn _ _ (hel i hi (by omega))
  · rw [List.getElem_append_right hi, List.getElem_append_right (by omega)]
    rw [List.length_append] at h h'
    have e : i - ops.length = i - Ks.length := by omega
    have key := turn _ _ (hel2 (i - Ks.length) (by omega) (by omega))
    simp only [e]
    exact key

/-- A step, and those that a call of cutting makes. -/
theorem stepAt_removing {d : Nat} {w : World} {Z : Nat → Prop} {b1 b2 : Nat} {nm : List UInt8} (hn : nm.length ≤ 9223372036854775807) (y1 : Z b1) (y2 : Z b2) (k1 : w.cell? ⟨b1, 0, none⟩ = some (.pointer (some ⟨d, 0, none⟩))) (k2 : w.cell? ⟨b2, 0, none⟩ = some (encStr nm)) :
    StepAt Z d w ⟨151, #[.pointer (some ⟨b1, 0, none⟩), .pointer (some ⟨b2, 0, none⟩)]⟩ ⟨5, nm, [], []⟩ := by
  have l1 := World.block_lt_of_cell? _ _ k1
  have l2 := World.block_lt_of_cell? _ _ k2
  exact fun w0 Y w1 h1 h2 => does_removing hn (h2 _ y1 l1) (h2 _ y2 l2) ((World.cell?_of_block (a := ⟨b1, 0, none⟩) (h1 _ y1 l1)).trans k1) ((World.cell?_of_block (a := ⟨b2, 0, none⟩) (h1 _ y2 l2)).trans k2)

theorem stepAt_creating {d : Nat} {w : World} {Z : Nat → Prop} {b1 b2 : Nat} {nm : List UInt8} (hn : nm.length ≤ 9223372036854775807) (y1 : Z b1) (y2 : Z b2) (k1 : w.cell? ⟨b1, 0, none⟩ = some (.pointer (some ⟨d, 0, none⟩))) (k2 : w.cell? ⟨b2, 0, none⟩ = some (encStr nm)) :
    StepAt Z d w ⟨112, #[.pointer (some ⟨b1, 0, none⟩), .pointer (some ⟨b2, 0, none⟩)]⟩ ⟨1, nm, [], []⟩ := by
  have l1 := World.block_lt_of_cell? _ _ k1
  have l2 := World.block_lt_of_cell? _ _ k2
  exact fun w0 Y w1 h1 h2 => does_creating hn (h2 _ y1 l1) (h2 _ y2 l2) ((World.cell?_of_block (a := ⟨b1, 0, none⟩) (h1 _ y1 l1)).trans k1) ((World.cell?_of_block (a := ⟨b2, 0, none⟩) (h1 _ y2 l2)).trans k2)

theorem stepAt_syncing {d : Nat} {w : World} {Z : Nat → Prop} {b1 b2 : Nat} {nm : List UInt8} (hn : nm.length ≤ 9223372036854775807) (y1 : Z b1) (y2 : Z b2) (k1 : w.cell? ⟨b1, 0, none⟩ = some (.pointer (some ⟨d, 0, none⟩))) (k2 : w.cell? ⟨b2, 0, none⟩ = some (encStr nm)) :
    StepAt Z d w ⟨114, #[.pointer (some ⟨b1, 0, none⟩), .pointer (some ⟨b2, 0, none⟩)]⟩ ⟨3, nm, [], []⟩ := by
  have l1 := World.block_lt_of_cell? _ _ k1
  have l2 := World.block_lt_of_cell? _ _ k2
  exact fun w0 Y w1 h1 h2 => does_syncing hn (h2 _ y1 l1) (h2 _ y2 l2) ((World.cell?_of_block (a := ⟨b1, 0, none⟩) (h1 _ y1 l1)).trans k1) ((World.cell?_of_block (a := ⟨b2, 0, none⟩) (h1 _ y2 l2)).trans k2)

def cutOps (last : List UInt8) (l : List Nat) : List SO := [⟨1, cutB, [], []⟩, ⟨2, cutB, [], l⟩, ⟨3, cutB, [], []⟩, ⟨4, cutB, last, []⟩]
def cutKs (b1 b2 b3 : Nat) : List SK := [⟨153, #[.pointer (some ⟨b1, 0, none⟩)]⟩, ⟨154, #[.pointer (some ⟨b1, 0, none⟩), .pointer (some ⟨b3, 0, none⟩)]⟩, ⟨155, #[.pointer (some ⟨b1, 0, none⟩)]⟩, ⟨156, #[.pointer (some ⟨b1, 0, none⟩), .pointer (some ⟨b2, 0, none⟩)]⟩]

theorem bytes_blk {w : World} {p : Option Addr} {m c : Nat} {l : List Nat} (h : Bytes w p m c l) (hm : 0 < m) : ∀ a, p = some a → a.block < w.heap.size := by
  intro a ha
  obtain ⟨b, o, e, hc⟩ := h.cell hm
  have := World.block_lt_of_cell? _ _ (hc 0 hm)
  rw [ha] at e
  have e := Option.some.inj e
  rw [e]
  exact this

theorem stepAt_cutting {d : Nat} {w : World} {Z : Nat → Prop} {b1 b2 b3 : Nat} {nm : List UInt8} {p : Option Addr} {m c : Nat} {l : List Nat} (hn : nm.length ≤ 9223372036854775807) (hB : Bytes w p m c l) (hp : 0 < m → ∀ a, p = some a → Z a.block) (hl : l.length ≤ 1000000) (y1 : Z b1) (y2 : Z b2) (y3 : Z b3)
    (k1 : w.cell? ⟨b1, 0, none⟩ = some (.pointer (some ⟨d, 0, none⟩))) (k2 : w.cell? ⟨b2, 0, none⟩ = some (encStr nm)) (k3 : w.cell? ⟨b3, 0, none⟩ = some (.slice p m c)) :
    ∀ i (_h : i < (cutKs b1 b2 b3).length) (_h' : i < (cutOps nm l).length), StepAt Z d w (cutKs b1 b2 b3)[i] (cutOps nm l)[i] := by
  have l1 := World.block_lt_of_cell? _ _ k1
  have l2 := World.block_lt_of_cell? _ _ k2
  have l3 := World.block_lt_of_cell? _ _ k3
  intro i h h' w0 Y w1 h1 h2
  have q1 := (World.cell?_of_block (a := ⟨b1, 0, none⟩) (h1 _ y1 l1)).trans k1
  have q2 := (World.cell?_of_block (a := ⟨b2, 0, none⟩) (h1 _ y2 l2)).trans k2
  have q3 := (World.cell?_of_block (a := ⟨b3, 0, none⟩) (h1 _ y3 l3)).trans k3
  have z1 := h2 _ y1 l1
  have z2 := h2 _ y2 l2
  have z3 := h2 _ y3 l3
  match i, h, h' with
  | 0, _, _ => exact does_cut1 z1 q1
  | 1, _, _ => exact does_cut2 (hB.moved (fun h0 x hx => h1 _ (hp h0 x hx) (bytes_blk hB h0 x hx))) (fun h0 a ha => h2 _ (hp h0 a ha) (bytes_blk hB h0 a ha)) hl z1 z3 q1 q3
  | 2, _, _ => exact does_cut3 z1 q1
  | 3, _, _ => exact does_cut4 hn z1 z2 q1 q2

theorem SRow.one {B G d : Nat} {w w' : World} {v v' : Value} {ops : List SO} {x : SO} {Ks : List SK} {K : SK} (hl : Ks.length = ops.length) (hel : ∀ i (h : i < Ks.length) (h' : i < ops.length), StepAt (fun b => B ≤ b ∧ v.ownBlock ≠ some b) d w Ks[i] ops[i])
    (hx : StepAt (fun b => B ≤ b ∧ v.ownBlock ≠ some b) d w K x) (hown : w'.ownsRow G 172 1 v' (ops.length + 1) (Ks.map skV ++ [skV K])) (hg : w.grownBy w' v.ownBlock) (hb : v'.ownBlock = v.ownBlock ∨ v'.ownBlock = some w.heap.size) (hs : w.heap.size ≤ w'.heap.size) : SRow B G d w' v' (ops ++ [x]) :=
  SRow.app (Js := [K]) hl hel rfl (fun i h h' => by
    obtain rfl : i = 0 := by simpa using h
    exact hx) hown hg hb hs

/-- Whether a name is among those of a row. -/
theorem contains_any {w : World} {base n : Nat} {e : TypeId} {v : Value} {ns : List (List UInt8)} (h : w.ownsRow base e 1 v n (ns.map encStr)) (hn : n ≤ 1000000) :
    ∃ p c, v = .slice p n c ∧ ∀ (nm : List UInt8) (W : World), Below w.heap.size w W → Calls Tryz.prog 109 #[.slice p n c, .string ⟨nm.toArray⟩] W fun e w' => e = .returned (.bool (decide (nm ∈ ns))) ∧ w' = W := by
  have hlen : ns.length = n := by have := h.1; simpa using this
  rcases h.2 with ⟨rfl, rfl⟩ | ⟨g, cap, cur, rfl, hbg, hg, hle, hcm, hsz, htake⟩
  · obtain rfl : ns = [] := List.length_eq_zero_iff.1 hlen
    exact ⟨none, 0, rfl, fun nm W _ => by simpa using Tryz.slices_Contains_string_empty none 0 ⟨nm.toArray⟩ W⟩
  · refine ⟨some ⟨g, 0, none⟩, cap, rfl, fun nm W hW => ?_⟩
    have hdec : Lib.containsS ((ns.map fun x => (⟨x.toArray⟩ : ByteArray)).take n) ⟨nm.toArray⟩ = decide (nm ∈ ns) := by
      rw [List.take_of_length_le (by rw [List.length_map]; omega), Bool.eq_iff_iff, Lib.containsS_iff, decide_eq_true_iff, List.mem_map]
      constructor
      · rintro ⟨a, ha, e⟩
        have e2 : a.toArray = nm.toArray := congrArg ByteArray.data e
        rw [← show a = nm by simpa using e2]
        exact ha
      · exact fun h => ⟨nm, h, rfl⟩
    rw [← hdec]
    refine Tryz.slices_Contains_string g 0 n cap (ns.map fun x => (⟨x.toArray⟩ : ByteArray)) ⟨nm.toArray⟩ W (by rw [List.length_map]; omega) (by omega) fun j hj => ?_
    rw [List.length_map] at hj
    have hg' := (hW.block _ (Array.getElem?_eq_some_iff.1 hg).1).trans hg
    rw [cell_of_row W g (0 + j) cur _ (0, 0) hg', Nat.zero_add]
    have h1 : cur[j]? = (ns.map encStr)[j]? := by
      rw [← htake, List.getElem?_take, if_pos (by omega), Array.getElem?_toList]
    rw [h1, List.getElem?_map, List.getElem?_eq_getElem hj, List.getD_eq_getElem?_getD, List.getElem?_map, List.getElem?_eq_getElem hj]
    rfl

theorem nmB_length (N : Nat) : (nmB N).length = 12 := by unfold nmB; rw [List.length_map]; exact nameL_len N

/-- A disk's cleaning. -/
def cleanM (nms : List (List UInt8)) (M : DM) : List SO := (nms.filter fun n => decide (n ∈ M.fs.map F.n)).map fun n => ⟨5, n, [], []⟩

theorem cleanM_snoc (nms : List (List UInt8)) (n : List UInt8) (M : DM) : cleanM (nms ++ [n]) M = cleanM nms M ++ (if n ∈ M.fs.map F.n then [⟨5, n, [], []⟩] else []) := by
  unfold cleanM
  rw [List.filter_append, List.map_append]
  congr 1
  by_cases h : n ∈ M.fs.map F.n
  · rw [if_pos h, List.filter_cons_of_pos (by simpa using h)]; rfl
  · rw [if_neg h, List.filter_cons_of_neg (by simpa using h)]; rfl

theorem cleanM_len (nms : List (List UInt8)) (M : DM) : (cleanM nms M).length ≤ nms.length := by
  unfold cleanM
  rw [List.length_map]
  exact List.length_filter_le _ _

/-- What repairs a log: where there is none, and where there is one. -/
def repNone (M : DM) : List SO := cleanM [cutB, newB] M ++ [⟨1, nmB 1, [], []⟩]

def repOps (M : DM) (old : List Int) (N : Nat) (l : List Nat) (torn : Nat) : List SO :=
  cleanM [cutB, newB] M ++ (if torn = 0 then [] else cutOps (nmB N) l) ++ (old.map fun n => ⟨5, nmB n.toNat, [], []⟩) ++ [⟨3, nmB N, [], []⟩]

theorem repOps_len (M : DM) (old : List Int) (N : Nat) (l : List Nat) (torn : Nat) : (repOps M old N l torn).length ≤ old.length + 7 := by
  unfold repOps
  have h1 := cleanM_len [cutB, newB] M
  simp only [List.length_append, List.length_map, List.length_cons, List.length_nil] at *
  split
  · simp only [List.length_nil]; omega
  · simp only [cutOps, List.length_cons, List.length_nil]; omega
end Go.Proofs.YtmiepigieajpcaaGreat

/- The walk of repairs: the steps that it makes stand for the changes that repair a log. -/
namespace Go.Proofs.YtmiepigieajpcaaGreat
open Go.RowKit Go.Maps Go.Shelf

attribute [local go_sem ↓] Go.wp_at_zero Go.wp_at_succ

theorem SRow.lt {B G d : Nat} {w : World} {v : Value} {ops : List SO} (h : SRow B G d w v ops) : ∀ k, v.ownBlock = some k → G ≤ k ∧ k < w.heap.size := by
  obtain ⟨Ks, _, h2, _⟩ := h
  intro k hk
  rcases h2.2 with ⟨rfl, _⟩ | ⟨g, cap, cur, rfl, hb, hg, _⟩
  · cases hk
  · cases hk
    exact ⟨hb, (Array.getElem?_eq_some_iff.1 hg).1⟩

theorem SRow.form {B G d : Nat} {w : World} {v : Value} {ops : List SO} (h : SRow B G d w v ops) : ∃ a c, v = .slice a ops.length c ∧ (0 < ops.length → ∃ b, a = some ⟨b, 0, none⟩ ∧ G ≤ b ∧ b < w.heap.size) := by
  obtain ⟨Ks, _, h2, _⟩ := h
  rcases h2.2 with ⟨rfl, h0⟩ | ⟨g, cap, cur, rfl, hb, hg, _⟩
  · exact ⟨none, 0, by rw [h0], fun h => by omega⟩
  · exact ⟨_, cap, rfl, fun _ => ⟨g, rfl, hb, (Array.getElem?_eq_some_iff.1 hg).1⟩⟩

theorem SRow.base {B G G' d : Nat} {w : World} {v : Value} {ops : List SO} (h : SRow B G d w v ops) (hg : G' ≤ G) : SRow B G' d w v ops := by
  obtain ⟨Ks, h1, h2, h3⟩ := h
  exact ⟨Ks, h1, own_base h2 hg, h3⟩

theorem one_appends {B G d : Nat} {w : World} {v : Value} {ops : List SO} (h : SRow B G d w v ops) (hG : G ≤ w.heap.size) {K : SK} {x : SO} (hK : StepAt (fun b => B ≤ b ∧ v.ownBlock ≠ some b) d w K x) :
    ∃ xs : List Value, (w.alloc (.cells #[skV K] 172)).ownsRow G 172 1 v ops.length xs ∧ G ≤ (w.alloc (.cells #[skV K] 172)).heap.size ∧
      ∀ w' v', w'.ownsRow G 172 1 v' (ops.length + 1) (xs ++ [skV K]) → (w.alloc (.cells #[skV K] 172)).grownBy w' v.ownBlock → (v'.ownBlock = v.ownBlock ∨ v'.ownBlock = some (w.alloc (.cells #[skV K] 172)).heap.size) → SRow B G d w' v' (ops ++ [x]) ∧ Below G w w' ∧ ∀ b, b < w.heap.size → v.ownBlock ≠ some b → w'.heap[b]? = w.heap[b]? := by
  have hb := (Below.refl w.heap.size w).alloc (Nat.le_refl _) (.cells #[skV K] 172)
  have hlt := (h.grow hb).lt
  have hs := hb.size
  obtain ⟨Ks, h1, h2, h3⟩ := h.grow hb
  exact ⟨Ks.map skV, h2, by omega, fun w' v' ho hg hbk => ⟨SRow.one h1 h3 (hK.moved (fun b _ hl => hb.block b hl) hb.size (fun b hz _ => hz)) ho hg hbk hg.size, (hb.mono hG).grown hg (by omega) (fun k e => (hlt k e).1), fun b hl hne => (hg.block b (by omega) (fun e => hne e.symm)).trans (hb.block b hl)⟩⟩

theorem more_appends {B G d : Nat} {w : World} {v : Value} {ops os : List SO} (h : SRow B G d w v ops) (hG : G ≤ w.heap.size) {Js : List SK} (hJl : Js.length = os.length) (hJ : ∀ i (h : i < Js.length) (h' : i < os.length), StepAt (fun b => B ≤ b ∧ v.ownBlock ≠ some b) d w Js[i] os[i]) :
    ∃ xs : List Value, w.ownsRow G 172 1 v ops.length xs ∧
      ∀ w' v', w'.ownsRow G 172 1 v' (ops.length + os.length) (xs ++ Js.map skV) → w.grownBy w' v.ownBlock → (v'.ownBlock = v.ownBlock ∨ v'.ownBlock = some w.heap.size) → SRow B G d w' v' (ops ++ os) ∧ Below G w w' ∧ ∀ b, b < w.heap.size → v.ownBlock ≠ some b → w'.heap[b]? = w.heap[b]? := by
  have hlt := h.lt
  obtain ⟨Ks, h1, h2, h3⟩ := h
  exact ⟨Ks.map skV, h2, fun w' v' ho hg hbk => ⟨SRow.app h1 h3 hJl hJ ho hg hbk hg.size, (Below.refl _ _).grown hg hG (fun k e => (hlt k e).1), fun b hl hne => hg.block b hl (fun e => hne e.symm)⟩⟩

/-- The steps so far, with the box of the last segment's name at L. -/
def R2 (B G d : Nat) (w3 : World) (L : Nat) (nm : List UInt8) (v : Value) (W : World) (ops : List SO) : Prop :=
  SRow B G d W v ops ∧ Below G w3 W ∧ v.ownBlock ≠ some L ∧ W.cell? ⟨L, 0, none⟩ = some (encStr nm) ∧ L < W.heap.size

theorem cut_cells {w : World} {r b1 b2 b3 : Nat} (k0 : w.cell? ⟨r, 0, none⟩ = some (skV ⟨153, #[.pointer (some ⟨b1, 0, none⟩)]⟩)) (k1 : w.cell? ⟨r, 1, none⟩ = some (skV ⟨154, #[.pointer (some ⟨b1, 0, none⟩), .pointer (some ⟨b3, 0, none⟩)]⟩))
    (k2 : w.cell? ⟨r, 2, none⟩ = some (skV ⟨155, #[.pointer (some ⟨b1, 0, none⟩)]⟩)) (k3 : w.cell? ⟨r, 3, none⟩ = some (skV ⟨156, #[.pointer (some ⟨b1, 0, none⟩), .pointer (some ⟨b2, 0, none⟩)]⟩)) :
    ∀ j u, ((cutKs b1 b2 b3).map skV)[j]? = some u → w.cell? ((⟨r, 0, none⟩ : Addr).add j) = some u := by
  intro j u hu
  rw [addr_add, Nat.zero_add]
  match j, hu with
  | 0, hu => cases hu; exact k0
  | 1, hu => cases hu; exact k1
  | 2, hu => cases hu; exact k2
  | 3, hu => cases hu; exact k3

set_option maxRecDepth 100000 in
set_option maxHeartbeats 6400000 in
theorem repairs_any {w0 : World} {X : Nat → Prop} {w : World} {d : Nat} {M : DM} (hO : Own w0 X w d M) (hl : M.fs.length ≤ 1000) (x : FD) (N : Nat) (h1 : 1 ≤ N) (hN : N ≤ 99999999) (hxn : x.n = (N : Int)) (B : Nat) (hB : B ≤ w.heap.size)
    (old : List Int) (hold : Ints w x.oa x.on x.oc old) (hop : ∀ y ∈ old, 1 ≤ y ∧ y ≤ 99999999) (hom : old.length ≤ 1000) (l : List Nat) (hW : Bytes w x.wa x.wn x.wc l) (hWB : 0 < x.wn → ∀ a, x.wa = some a → B ≤ a.block) (hll : l.length ≤ 1000000) (T : Nat) (ht : x.tn = (T : Int)) :
    Calls Tryz.prog 66 #[foundV x, .pointer (some ⟨d, 0, none⟩)] w fun e w' => ∃ v, e = .returned v ∧ SRow B w.heap.size d w' v (if x.no = true then cleanM [cutB, newB] M ++ [⟨1, nmB N, [], []⟩] else repOps M old N l T) ∧ Below w.heap.size w w' := by
  have HO := Lib.hid (fun W (hW : Below w.heap.size w W) => own_list (hO.below hW) (by omega))
  obtain ⟨i0, hi, hz0, hz1, hz2⟩ := info_parts info_step
  have HRm := Lib.hid (fun nm W => removing_any d nm W)
  have HFl := Lib.hid (fun n W h1 h2 => sfile_any n W h1 h2)
  have HCt := Lib.hid (fun nm W => cutting_any d nm x.wa x.wn x.wc W)
  have HI := Lib.hid hold
  have HW := Lib.hid hW
  have HWB := Lib.hid hWB
  have Hop := Lib.hid hop
  have Hom := Lib.hid hom
  have Hll := Lib.hid hll
  have HB := Lib.hid hB
  have hfl : M.fs.length ≤ 1000000 := by omega
  clear hO hl hold hW hWB hop hom hll
  obtain ⟨ra, rn, rc, oa, on, oc, n, mk, pa, pn, pc, wa, wn, wc, tn, no⟩ := x
  simp only at *
  subst hxn
  subst ht
  unfold foundV
  go_enter Tryz.func66, Tryz.ntmps66
  go_wp2_with fail
  obtain ⟨w1, hw1⟩ : ∃ w1, w1 = (w.alloc (.cells #[.slice ra rn rc, .slice oa on oc, .int .i64 (N : Int), .bool mk, .slice pa pn pc, .slice wa wn wc, .int .i64 (T : Int), .bool no] 107)).alloc (.cells #[.pointer (some ⟨d, 0, none⟩)] 23) := ⟨_, rfl⟩
  rw [← hw1]
  have hb1 : Below w.heap.size w w1 := by rw [hw1]; exact ((Below.refl _ _).alloc (Nat.le_refl _) _).alloc (by simp) _
  have hz1' : w1.heap.size = w.heap.size + 2 := by rw [hw1]; simp
  have hB1 : w1.heap[w.heap.size]? = some (.cells #[.slice ra rn rc, .slice oa on oc, .int .i64 (N : Int), .bool mk, .slice pa pn pc, .slice wa wn wc, .int .i64 (T : Int), .bool no] 107 (0, 0)) := by rw [hw1]; exact (Below.heap_alloc _ _ _ (by simp)).trans (heap_alloc_new _ _)
  have hB2 : w1.heap[w.heap.size + 1]? = some (.cells #[.pointer (some ⟨d, 0, none⟩)] 23 (0, 0)) := by
    have := heap_alloc_new (w.alloc (.cells #[.slice ra rn rc, .slice oa on oc, .int .i64 (N : Int), .bool mk, .slice pa pn pc, .slice wa wn wc, .int .i64 (T : Int), .bool no] 107)) (.cells #[.pointer (some ⟨d, 0, none⟩)] 23)
    rw [World.size_alloc] at this
    rw [hw1]; exact this
  have Hb1 := Lib.hid hb1
  have HB1 := Lib.hid hB1
  have HB2 := Lib.hid hB2
  have Hz1 := Lib.hid hz1'
  have HL := Lib.hid (HO.out w1 hb1)
  clear hw1 hb1 hz1' hB1 hB2 HO
  refine HL.out.mono ?_
  rintro e w2 ⟨v2, rfl, hown2, hb2⟩
  obtain ⟨p2, k2, rfl, hCn⟩ := contains_any hown2 hfl
  have Hb2 := Lib.hid hb2
  have HCn := Lib.hid hCn
  clear hown2 hb2 hCn
  go_wp2_with fail
  obtain ⟨w3, hw3⟩ : ∃ w3, w3 = w2.alloc (.cells #[.string ⟨#[99, 117, 116]⟩, .string ⟨#[110, 101, 119]⟩] 9) := ⟨_, rfl⟩
  rw [← hw3]
  have hb3 : Below w2.heap.size w2 w3 := by rw [hw3]; exact (Below.refl _ _).alloc (Nat.le_refl _) _
  have hR3 : w3.heap[w2.heap.size]? = some (.cells #[.string ⟨#[99, 117, 116]⟩, .string ⟨#[110, 101, 119]⟩] 9 (0, 0)) := by rw [hw3]; exact heap_alloc_new _ _
  have r0 : ∀ j, j < 2 → w3.cell? ⟨w2.heap.size, j, none⟩ = some (.string ⟨([cutB, newB].getD j []).toArray⟩) := by
    intro j hj
    rw [cell_of_row _ _ _ _ _ (0, 0) hR3]
    match j, hj with
    | 0, _ => rfl
    | 1, _ => rfl
  have Hr0 := Lib.hid r0
  have Hb3 := Lib.hid (Hb1.out.trans ((Hb2.out.trans (hb3.mono Hb2.out.size)).mono Hb1.out.size))
  have Hb13 := Lib.hid (Hb2.out.trans (hb3.mono Hb2.out.size))
  have Hb23 := Lib.hid hb3
  clear hw3 hb3 hR3 r0
  have HD3 := Lib.hid (show w3.cell? ⟨w.heap.size + 1, 0, none⟩ = some (.pointer (some ⟨d, 0, none⟩)) from by
    rw [cell_of_row _ _ _ _ _ (0, 0) ((Hb13.out.block _ (Array.getElem?_eq_some_iff.1 HB2.out).1).trans HB2.out)]
    rfl)
  have HF3 := Lib.hid ((Hb13.out.block _ (Array.getElem?_eq_some_iff.1 HB1.out).1).trans HB1.out)
  go_loopw [6, 16] (fun s i wr => ∃ j : Nat, j ≤ 2 ∧ i = .int .i64 (j : Int) ∧ SRow B w3.heap.size d wr s (cleanM ([cutB, newB].take j) M) ∧ Below w3.heap.size w3 wr) (fun _ i _ => 2 - (intOf i).toNat)
  case atStart => exact ⟨0, Nat.zero_le _, rfl, SRow.nil _ _ _ _, Below.refl _ _⟩
  case round =>
    obtain ⟨j, hj, rfl, hS, hbr⟩ := hrel
    by_cases hlt : j < 2
    · have r := cell_keep hbr (Hr0.out j hlt)
      have hct : cleanM ([cutB, newB].take (j + 1)) M = cleanM ([cutB, newB].take j) M ++ (if [cutB, newB].getD j [] ∈ M.fs.map F.n then [⟨5, [cutB, newB].getD j [], [], []⟩] else []) := by
        rw [← cleanM_snoc]
        congr 1
        match j, hlt with
        | 0, _ => rfl
        | 1, _ => rfl
      have hnl : ([cutB, newB].getD j []).length ≤ 9223372036854775807 := by
        match j, hlt with
        | 0, _ => decide
        | 1, _ => decide
      have hcl := cleanM_len ([cutB, newB].take j) M
      have hcl2 : ([cutB, newB].take j).length ≤ 2 := by rw [List.length_take]; omega
      generalize [cutB, newB].getD j [] = nm at *
      have Hct := Lib.hid hct
      have Hnl := Lib.hid hnl
      have HCq := Lib.hid (HCn.out nm wr (Hb23.out.trans (hbr.mono Hb23.out.size)))
      have hji : (j : Int) < 2 := by omega
      have hdb := cell_keep hbr HD3.out
      have HS := Lib.hid hS
      have Hbr := Lib.hid hbr
      have Hlt := Lib.hid hlt
      have Hcl := Lib.hid (Nat.le_trans hcl hcl2)
      clear hct hnl hS hbr hlt hcl hcl2
      go_wp2_with fail
      refine HCq.out.mono ?_
      rintro e w4 ⟨rfl, rfl⟩
      by_cases hmem : nm ∈ M.fs.map F.n
      · rw [decide_eq_true hmem]
        have Hc2 := Lib.hid (show cleanM ([cutB, newB].take (j + 1)) M = cleanM ([cutB, newB].take j) M ++ [⟨5, nm, [], []⟩] from by rw [Hct.out, if_pos hmem])
        clear hmem
        go_wp2_with fail
        refine (HRm.out nm _).mono ?_
        rintro e w5 ⟨b1, b2, rfl, g1, g2, k1, k2, hb5⟩
        have hlt5 := HS.out.lt
        have hs3 := Hbr.out.size
        have hs5 := hb5.size
        have hB0 := HB.out
        have hs03 := Hb3.out.size
        obtain ⟨xs, hown, hG, hclose⟩ := one_appends (HS.out.grow hb5) (by omega) (stepAt_removing Hnl.out ⟨by omega, fun e => by have := hlt5 _ e; omega⟩ ⟨by omega, fun e => by have := hlt5 _ e; omega⟩ k1 k2)
        have Hown := Lib.hid hown
        have Hclose := Lib.hid hclose
        have Hb5 := Lib.hid (show Below w3.heap.size _ _ from hb5.mono hs3)
        clear hown hclose hlt5 hs3 hs5 hB0 hs03 k1 k2 g1 g2 hb5
        unfold skV
        go_wp2_with (at_builtin; refine wpList_append_own_at _ rfl _ _ 120 rfl w3.heap.size 172 i0 .nilFunc 1 8 Tryz.underlying120 hi hz0 hz1 hz2 rfl (by decide) _ _ _ rfl Hown.out ⟨_, 0, none⟩ 1 1 [skV ⟨151, #[.pointer (some ⟨b1, 0, none⟩), .pointer (some ⟨b2, 0, none⟩)]⟩] rfl rfl (cell_one_new _ _ _) (by simp [Value.oneCell', skV]) (by rw [maxLen_nat]; have := Hcl.out; omega) (by have := Hcl.out; omega) hG ?_; intro v' w6 hown' hgrow _ hblk)
        go_roundw
        case rel =>
          obtain ⟨q1, q2, _⟩ := Hclose.out _ _ hown' hgrow hblk
          exact ⟨j + 1, Hlt.out, by go_num, by rw [Hc2.out]; exact q1, Hbr.out.trans (Hb5.out.trans q2)⟩
        case measure => simp [intOf]; have := Hlt.out; omega
      · rw [decide_eq_false hmem]
        have Hc2 := Lib.hid (show cleanM ([cutB, newB].take (j + 1)) M = cleanM ([cutB, newB].take j) M from by rw [Hct.out, if_neg hmem, List.append_nil])
        clear hmem
        go_wp2
        go_roundw
        case rel => exact ⟨j + 1, Hlt.out, by go_num, by rw [Hc2.out]; exact HS.out, Hbr.out⟩
        case measure => simp [intOf]; have := Hlt.out; omega
    · obtain rfl : j = 2 := by omega
      have HS := Lib.hid (show SRow B w3.heap.size d wr _ (cleanM [cutB, newB] M) from hS)
      have Hbr := Lib.hid hbr
      obtain ⟨c0, c1, c2, c3, c4, c5, c6, c7, cf⟩ := box8 ((hbr.block _ (Array.getElem?_eq_some_iff.1 HF3.out).1).trans HF3.out)
      clear hS hbr
      go_wp2_with fail
      refine (HFl.out N _ h1 hN).mono ?_
      rintro e w4 ⟨rfl, hb4⟩
      have hrf := ((Hbr.out.trans (hb4.mono Hbr.out.size)).block _ (Array.getElem?_eq_some_iff.1 HF3.out).1).trans HF3.out
      have e7 := fun o => row_alloc' hrf o 7
      have e6 := fun o => row_alloc' hrf o 6
      have e5 := fun o => row_alloc' hrf o 5
      have e1 := fun o => row_alloc' hrf o 1
      simp only [List.getElem?_toArray, List.getElem?_cons_zero, List.getElem?_cons_succ] at e7 e6 e5 e1
      have hlt4 := HS.out.lt
      have hs3 := Hbr.out.size
      have hs4 := hb4.size
      have hs03 : w.heap.size + 2 ≤ w3.heap.size := by have h1 := Hz1.out; have h2 := Hb13.out.size; omega
      have hB0 := HB.out
      have hb45 := (Below.refl w4.heap.size w4).alloc (Nat.le_refl _) (.cells #[.string ⟨(nmB N).toArray⟩] 9)
      have hbr5 := hb4.trans (hb45.mono hb4.size)
      have k1 := cell_keep (Hbr.out.trans (hbr5.mono Hbr.out.size)) HD3.out
      have k2 : (w4.alloc (.cells #[.string ⟨(nmB N).toArray⟩] 9)).cell? ⟨w4.heap.size, 0, none⟩ = some (encStr (nmB N)) := by
        rw [cell_of_row _ _ _ _ _ (0, 0) (heap_alloc_new _ _)]
        rfl
      have hS5 := HS.out.grow hbr5
      cases no
      · have Hk1 := Lib.hid k1
        have Hk2 := Lib.hid k2
        have HS5 := Lib.hid hS5
        have Hbr5 := Lib.hid (Hbr.out.trans (hbr5.mono Hbr.out.size))
        have hsz5 : (w4.alloc (.cells #[.string ⟨(nmB N).toArray⟩] 9)).heap.size = w4.heap.size + 1 := World.size_alloc _ _
        have Hrf5 := Lib.hid ((hb45.block _ (Array.getElem?_eq_some_iff.1 hrf).1).trans hrf)
        clear k1 k2 hS5 hbr5 hb45 hb4 hrf c0 c1 c2 c3 c4 c5 c6 c7 cf
        have hcl := cleanM_len [cutB, newB] M
        simp only [List.length_cons, List.length_nil] at hcl
        have Hcl := Lib.hid hcl
        clear hcl
        have Hlt4 := Lib.hid hlt4
        have Hs := Lib.hid (And.intro hs3 (And.intro hs4 hs03))
        clear hlt4 hs3 hs4 hs03 hB0
        obtain ⟨pre, hpre⟩ : ∃ pre, pre = cleanM [cutB, newB] M ++ (if T = 0 then [] else cutOps (nmB N) l) := ⟨_, rfl⟩
        have Hprl := Lib.hid (show pre.length ≤ 6 by
          rw [hpre, List.length_append]
          have := Hcl.out
          split
          · simp only [List.length_nil]; omega
          · simp only [cutOps, List.length_cons, List.length_nil]; omega)
        have Hpre := Lib.hid hpre
        clear hpre
        rcases Nat.eq_zero_or_pos T with rfl | hT
        case' inl =>
          have HR2 := Lib.hid (show R2 B w3.heap.size d w3 w4.heap.size (nmB N) _ _ pre from ⟨by rw [Hpre.out, if_pos rfl, List.append_nil]; exact HS5.out, Hbr5.out, fun e => by have h := (Hlt4.out _ e).2; have h2 := Hs.out.2.1; omega, Hk2.out, by rw [hsz5]; omega⟩)
          go_wp2_with fail
        case' inr =>
          have hTp : (0 : Int) < (T : Int) := by omega
          have k1 := Hk1.out
          have k2 := Hk2.out
          go_wp2_with fail
          refine (HCt.out (nmB N) _).mono ?_
          rintro e w6 ⟨r, b1, b2, b3, rfl, gr, g1, g2, g3, m1, m2, m3, m4, m5, m6, m7, hb6⟩
          have hS6 := HS5.out.grow hb6
          have hs5 := Hs.out
          have hs6 := hb6.size
          have hBw := HB.out
          have hb06 := Hb3.out.trans ((Hbr5.out.mono Hb3.out.size).trans (hb6.mono (Nat.le_trans Hb3.out.size Hbr5.out.size)))
          obtain ⟨xs, hown, hclose⟩ := more_appends hS6 (Nat.le_trans Hbr5.out.size hs6) (Js := cutKs b1 b2 b3) (os := cutOps (nmB N) l) rfl (stepAt_cutting (nmB_len N) (HW.out.grow hb06)
            (fun h0 a ha => ⟨HWB.out h0 a ha, fun e => by have h1 := (Hlt4.out _ e).1; have h2 := bytes_blk HW.out h0 a ha; omega⟩) (by have := Hll.out; omega)
            ⟨by omega, fun e => by have := (Hlt4.out _ e).2; omega⟩ ⟨by omega, fun e => by have := (Hlt4.out _ e).2; omega⟩ ⟨by omega, fun e => by have := (Hlt4.out _ e).2; omega⟩ m1 m2 m3)
          have Hcells := Lib.hid (cut_cells m4 m5 m6 m7)
          have Hown := Lib.hid hown
          have Hclose := Lib.hid hclose
          have Hb6 := Lib.hid hb6
          have HG6 := Lib.hid (Nat.le_trans Hbr5.out.size hs6)
          clear hown hclose hS6 hb06 m1 m2 m3 m4 m5 m6 m7 k1 k2 hs5 hs6 hBw
          go_wp2_with (at_builtin; refine wpList_append_own_at _ rfl _ _ 120 rfl w3.heap.size 172 i0 .nilFunc 1 8 Tryz.underlying120 hi hz0 hz1 hz2 rfl (by decide) _ _ _ rfl Hown.out ⟨r, 0, none⟩ 4 4 ((cutKs b1 b2 b3).map skV) rfl rfl Hcells.out (by simp [Value.oneCell', skV, cutKs]) (by rw [maxLen_nat]; have := Hcl.out; omega) (by have := Hcl.out; omega) HG6.out ?_; intro v' w7 hown' hgrow _ hblk; obtain ⟨q1, q2, q3⟩ := Hclose.out _ _ hown' hgrow hblk; have q4 : v'.ownBlock ≠ some w4.heap.size := (fun e => by
              rcases hblk with h | h
              · rw [h] at e; have h3 := (Hlt4.out _ e).2; have h2 := Hs.out.2.1; omega
              · rw [h] at e; have h3 := Option.some.inj e; have h2 := Hb6.out.size; rw [hsz5] at h2; omega); have q5 : w7.heap[w4.heap.size]? = _ := (q3 w4.heap.size (by have h2 := Hb6.out.size; rw [hsz5] at h2; omega) (fun e => by have h3 := (Hlt4.out _ e).2; have h2 := Hs.out.2.1; omega)).trans (Hb6.out.block _ (by rw [hsz5]; omega)); have HR2 := Lib.hid (show R2 B w3.heap.size d w3 w4.heap.size (nmB N) v' w7 pre from ⟨by rw [Hpre.out, if_neg (Nat.ne_of_gt hT)]; exact q1, (Hbr5.out.trans (Hb6.out.mono Hbr5.out.size)).trans q2, q4, (World.cell?_of_block (a := ⟨w4.heap.size, 0, none⟩) q5).trans Hk2.out, by have h1 := World.block_lt_of_cell? _ _ ((World.cell?_of_block (a := ⟨w4.heap.size, 0, none⟩) q5).trans Hk2.out); exact h1⟩); have hB7 := ((HR2.out.2.1).block _ (Array.getElem?_eq_some_iff.1 HF3.out).1).trans HF3.out; obtain ⟨_, c1, _, _, _, _, _, _, _⟩ := box8 hB7; clear q1 q2 q3 q4 q5 hown' hgrow hblk hB7)
        all_goals
          go_loopw [6, 55] (fun s i wr2 => ∃ j : Nat, j ≤ on ∧ i = .int .i64 (j : Int) ∧ R2 B w3.heap.size d w3 w4.heap.size (nmB N) s wr2 (pre ++ (old.take j).map fun n => ⟨5, nmB n.toNat, [], []⟩)) (fun _ i _ => on - (intOf i).toNat)
          case atStart => exact ⟨0, Nat.zero_le _, rfl, by simpa using HR2.out⟩
          case round =>
            obtain ⟨j, hj, rfl, hS, hbr2, hne, hlast, hll⟩ := hrel
            have hw3 := hbr2.size
            have hd2 := cell_keep hbr2 HD3.out
            have hI2 := HI.out.grow (Hb3.out.trans (hbr2.mono Hb3.out.size))
            have hol := hI2.len
            have honm : on ≤ 1000 := by have := Hom.out; omega
            by_cases hlt : j < on
            · obtain ⟨bo, oo, rfl, hc⟩ := hI2.cell (by omega)
              have hcj := hc j hlt
              have hjo : j < old.length := by omega
              have hgj : old.getD j 0 = old[j] := by rw [List.getD_eq_getElem?_getD, List.getElem?_eq_getElem hjo]; rfl
              rw [hgj] at hcj
              obtain ⟨p1, p2⟩ := Hop.out old[j] (List.getElem_mem hjo)
              have htk : (old.take (j + 1)).map (fun n => (⟨5, nmB n.toNat, [], []⟩ : SO)) = (old.take j).map (fun n => ⟨5, nmB n.toNat, [], []⟩) ++ [⟨5, nmB old[j].toNat, [], []⟩] := by
                rw [List.take_succ_eq_append_getElem hjo, List.map_append]
                rfl
              clear hgj
              generalize old[j] = y at *
              obtain ⟨NN, rfl⟩ : ∃ NN : Nat, y = (NN : Int) := ⟨y.toNat, by omega⟩
              rw [Int.toNat_natCast] at htk
              have HKd := Lib.hid (fun W (hW : Below wr.heap.size wr W) => cell_keep hW hd2)
              have HKl := Lib.hid (fun W (hW : Below wr.heap.size wr W) => cell_keep hW hlast)
              have hji : (j : Int) < (on : Int) := by omega
              have hpl : (pre ++ (old.take j).map fun n => (⟨5, nmB n.toNat, [], []⟩ : SO)).length ≤ 1006 := by
                rw [List.length_append, List.length_map, List.length_take]
                have h1 := Hprl.out
                have h2 := Hom.out
                omega
              have Hpl := Lib.hid hpl
              have Htk := Lib.hid htk
              have Hp := Lib.hid (And.intro p1 p2)
              have HSx := Lib.hid hS
              have Hbr2 := Lib.hid hbr2
              have Hne := Lib.hid hne
              have Hll := Lib.hid hll
              have Hlt := Lib.hid hlt
              clear hI2 hc hol hpl htk p1 p2 hS hbr2 hne hlast hll hjo hlt
              go_wp2_with fail
              go_region_held3 (fun w' => w'.cell? ⟨w.heap.size + 1, 0, none⟩ = some (.pointer (some ⟨d, 0, none⟩)))
                (first | exact hk8 | exact HKd.out _ (hb7.alloc hb7.size _) | exact HKd.out _ hb7 | exact HKd.out _ hb6 | exact HKd.out _ (Below.drew (Below.refl _ _)))
                (first
                  | (go_at_call 111; (with_reducible refine (HFl.out NN _ (by have := Hp.out; omega) (by have := Hp.out; omega)).mono ?_); rintro e w6 ⟨rfl, hb0⟩; have hb6 : Below wr.heap.size wr w6 := (Below.drew (Below.refl _ _)).trans hb0; clear hb0)
                  | (go_at_call 110; (with_reducible refine (HRm.out (nmB NN) _).mono ?_); rintro e w7 ⟨b1, b2, rfl, g1, g2, m1, m2, hb0⟩; have hb7 : Below wr.heap.size wr w7 := hb6.trans (hb0.mono hb6.size); clear hb0; have hlv := HSx.out.lt; have hs6 := hb6.size; have hs3 := Hbr2.out.size; have h3s := Hs.out; have hBw := HB.out; obtain ⟨xs, hown, hG, hclose⟩ := one_appends (HSx.out.grow hb7) (Nat.le_trans hs3 hb7.size) (stepAt_removing (nmB_len NN) ⟨by omega, fun e => by have := (hlv _ e).2; omega⟩ ⟨by omega, fun e => by have := (hlv _ e).2; omega⟩ m1 m2); have Hown := Lib.hid hown; have Hclose := Lib.hid hclose; have Hhb7 := Lib.hid hb7; clear hown hclose m1 m2 hlv hs6 hs3 h3s hBw; unfold skV)
                  | (refine step_append_lies _ rfl (.tmp 59) (.tmp 64) 120 rfl w3.heap.size 172 i0 .nilFunc 1 8 Tryz.underlying120 hi hz0 hz1 hz2 rfl (by decide) _ _ _ (by first | rfl | (simp [Act.eval]; done)) Hown.out ⟨w7.heap.size, 0, none⟩ 1 1 [skV ⟨151, #[.pointer (some ⟨b1, 0, none⟩), .pointer (some ⟨b2, 0, none⟩)]⟩] (by first | rfl | (simp [Act.eval]; done)) rfl (cell_one_new _ _ _) (by simp [Value.oneCell', skV]) (by decide) (by rw [maxLen_nat]; have := Hpl.out; omega) (by have := Hpl.out; omega) hG _ rfl ?_; intro g cap w8 hown' hgrow hat hlt8; obtain ⟨q1, q2, q3⟩ := Hclose.out _ _ hown' hgrow (hat.imp (fun e => e.symm) (fun e => congrArg some e)); have hb8 := (Hbr2.out.trans (Hhb7.out.mono Hbr2.out.size)).trans q2; have hk8 := cell_keep hb8 HD3.out))
              have Hend := Lib.hid (show R2 B w3.heap.size d w3 w4.heap.size (nmB N) _ _ (pre ++ (old.take (j + 1)).map fun n => ⟨5, nmB n.toNat, [], []⟩) from ⟨by rw [Htk.out, ← List.append_assoc]; exact q1, hb8, fun e => by
                  have e : g = w4.heap.size := Option.some.inj e
                  rcases hat with h | h
                  · exact Hne.out (h.trans (congrArg some e))
                  · have h1 := Hhb7.out.size; have h2 := Hll.out; simp only [World.size_alloc] at h; omega, (World.cell?_of_block (a := ⟨w4.heap.size, 0, none⟩) (q3 _ (Nat.lt_of_lt_of_le Hll.out Hhb7.out.size) Hne.out)).trans (HKl.out _ Hhb7.out), World.block_lt_of_cell? _ _ ((World.cell?_of_block (a := ⟨w4.heap.size, 0, none⟩) (q3 _ (Nat.lt_of_lt_of_le Hll.out Hhb7.out.size) Hne.out)).trans (HKl.out _ Hhb7.out))⟩)
              clear q1 q2 q3 hown' hgrow hat
              go_wp2
              go_roundw
              case rel => exact ⟨j + 1, Hlt.out, by go_num, by have h := Hend.out; rw [List.length_append, List.length_map, List.length_take] at h; exact h⟩
              case measure => simp [intOf]; have := Hlt.out; omega
            · obtain rfl : j = on := by omega
              rw [List.take_of_length_le (by omega)] at hS
              have hji : ¬ (j : Int) < (j : Int) := by omega
              have hltv := hS.lt
              have h3s := Hs.out
              have hBw := HB.out
              obtain ⟨xs, hown, hG, hclose⟩ := one_appends hS hw3 (stepAt_syncing (nmB_len N) ⟨by omega, fun e => by have := (hltv _ e).1; omega⟩ ⟨by omega, hne⟩ hd2 hlast)
              have Hown := Lib.hid hown
              have Hclose := Lib.hid hclose
              have Hbr2 := Lib.hid (Hb3.out.trans (hbr2.mono Hb3.out.size))
              have hpl : (pre ++ old.map fun n => (⟨5, nmB n.toNat, [], []⟩ : SO)).length ≤ 1006 := by
                rw [List.length_append, List.length_map]
                have h1 := Hprl.out
                have h2 := Hom.out
                omega
              have Hpl := Lib.hid hpl
              have Hw3 := Lib.hid (show w.heap.size ≤ w3.heap.size by omega)
              clear hown hclose hS hbr2 hne hd2 hlast hll hw3 hltv h3s hBw hI2 hpl
              go_wp2_with (at_builtin; refine wpList_append_own_at _ rfl _ _ 120 rfl w3.heap.size 172 i0 .nilFunc 1 8 Tryz.underlying120 hi hz0 hz1 hz2 rfl (by decide) _ _ _ rfl Hown.out ⟨_, 0, none⟩ 1 1 [skV ⟨114, #[.pointer (some ⟨w.heap.size + 1, 0, none⟩), .pointer (some ⟨w4.heap.size, 0, none⟩)]⟩] rfl rfl (cell_one_new _ _ _) (by simp [Value.oneCell', skV]) (by rw [maxLen_nat]; have := Hpl.out; omega) (by have := Hpl.out; omega) hG ?_; intro v' w8 hown' hgrow _ hblk)
              go_ret
              obtain ⟨q1, q2, _⟩ := Hclose.out _ _ hown' hgrow hblk
              rw [Hpre.out] at q1
              exact ⟨v', rfl, q1.base Hw3.out, Hbr2.out.trans (q2.mono Hw3.out)⟩
      · obtain ⟨xs, hown, hG, hclose⟩ := one_appends hS5 (by rw [World.size_alloc]; omega) (stepAt_creating (nmB_len N) ⟨by omega, fun e => by have := (hlt4 _ e).1; omega⟩ ⟨by omega, fun e => by have := (hlt4 _ e).2; omega⟩ k1 k2)
        have hnw := cell_one_new (w4.alloc (.cells #[.string ⟨(nmB N).toArray⟩] 9)) (skV ⟨112, #[.pointer (some ⟨w.heap.size + 1, 0, none⟩), .pointer (some ⟨w4.heap.size, 0, none⟩)]⟩) 172
        rw [World.size_alloc] at hnw
        have Hnw := Lib.hid hnw
        have Hown := Lib.hid hown
        have Hclose := Lib.hid hclose
        clear hnw
        have Hb5 := Lib.hid (Hb3.out.trans ((Hbr.out.trans (hbr5.mono Hbr.out.size)).mono Hb3.out.size))
        have hcl := cleanM_len [cutB, newB] M
        simp only [List.length_cons, List.length_nil] at hcl
        clear hown hclose hlt4 k1 k2 hS5 hbr5 hb45 hb4
        go_wp2_with (at_builtin; refine wpList_append_own_at _ rfl _ _ 120 rfl w3.heap.size 172 i0 .nilFunc 1 8 Tryz.underlying120 hi hz0 hz1 hz2 rfl (by decide) _ _ _ rfl Hown.out ⟨_, 0, none⟩ 1 1 [skV ⟨112, #[.pointer (some ⟨w.heap.size + 1, 0, none⟩), .pointer (some ⟨w4.heap.size, 0, none⟩)]⟩] rfl rfl Hnw.out (by simp [Value.oneCell', skV]) (by rw [maxLen_nat]; omega) (by omega) hG ?_; intro v' w6 hown' hgrow _ hblk)
        go_ret
        obtain ⟨q1, q2, _⟩ := Hclose.out _ _ hown' hgrow hblk
        exact ⟨v', rfl, q1.base (by omega), Hb5.out.trans (q2.mono (by omega))⟩
end Go.Proofs.YtmiepigieajpcaaGreat

