import Derived.Test.YtnbddiiedagllaaGreatSSL30
import Derived.Test.YtnbddiiedagllaaGreatSSL27
import Derived.Test.YtnbddiiedagllaaGreatSSL5
import Derived.Maps.AppendAt
import Derived.Deep.RegionLaw
import Derived.Test.YtnbddiiedagllaaGreatSSL28
import Derived.Test.YtnbddiiedagllaaGreatSSL22
import Derived.Deep.RegionHeld
import Derived.Deep.AppendLies
import Derived.Deep.RegionHeldLaw
import Derived.Test.YtnbddiiedagllaaGreatSSL9
import Derived.Deep.RegionHeld3
import Derived.Deep.DrawnRows
/- Rows of steps that a call makes: each with the change that it stands for. -/
namespace Go.Proofs.YtnbddiiedagllaaGreat
open Go.RowKit Go.Maps Go.Shelf

def StepAt (Z : Nat → Prop) (d : Nat) (w : World) (K : SK) (x : SO) : Prop :=
 ∀ (w0 : World) (Y : Nat → Prop) (w1 : World), (∀ b, Z b → b < w.heap.size → w1.heap[b]? = w.heap[b]?) → (∀ b, Z b → b < w.heap.size → Y b) → Does w0 Y d w1 K x

theorem StepAt.moved {Z Z' : Nat → Prop} {d : Nat} {w w' : World} {K : SK} {x : SO} (h : StepAt Z d w K x) (hk : ∀ b, Z b → b < w.heap.size → w'.heap[b]? = w.heap[b]?) (hs : w.heap.size ≤ w'.heap.size) (hz : ∀ b, Z b → b < w.heap.size → Z' b) : StepAt Z' d w' K x :=
 fun w0 Y w1 h1 h2 => h w0 Y w1 (fun b hb hl => (h1 b (hz b hb hl) (Nat.lt_of_lt_of_le hl hs)).trans (hk b hb hl)) (fun b hb hl => h2 b (hz b hb hl) (Nat.lt_of_lt_of_le hl hs))

def SRow (B G d : Nat) (w : World) (v : Value) (ops : List SO) : Prop :=
 ∃ Ks : List SK, Ks.length = ops.length ∧ w.ownsRow G 172 1 v ops.length (Ks.map skV) ∧ ∀ i (h : i < Ks.length) (h' : i < ops.length), StepAt (fun b => B ≤ b ∧ v.ownBlock ≠ some b) d w Ks[i] ops[i]

theorem SRow.nil (B G d : Nat) (w : World) : SRow B G d w (.slice none 0 0) [] :=
 ⟨[], rfl, World.ownsRow_nil _ _ _ _, fun _ h => absurd h (Nat.not_lt_zero _)⟩

theorem SRow.grow {B G d : Nat} {w w' : World} {v : Value} {ops : List SO} (h : SRow B G d w v ops) (hb : Below w.heap.size w w') : SRow B G d w' v ops := by
 obtain ⟨Ks, h1, h2, h3⟩ := h
 exact ⟨Ks, h1, own_below h2 hb, fun i hi hi' => (h3 i hi hi').moved (fun b _ hl => hb.block b hl) hb.size (fun b hz _ => hz)⟩

theorem SRow.app {B G d : Nat} {w w' : World} {v v' : Value} {ops os : List SO} {Ks Js : List SK} (hl : Ks.length = ops.length) (hel : ∀ i (h : i < Ks.length) (h' : i < ops.length), StepAt (fun b => B ≤ b ∧ v.ownBlock ≠ some b) d w Ks[i] ops[i])
  (hl2 : Js.length = os.length) (hel2 : ∀ i (h : i < Js.length) (h' : i < os.length), StepAt (fun b => B ≤ b ∧ v.ownBlock ≠ some b) d w Js[i] os[i])
  (hown : w'.ownsRow G 172 1 v' (ops.length + os.length) (Ks.map skV ++ Js.map skV)) (hg : w.grownBy w' v.ownBlock) (hb : v'.ownBlock = v.ownBlock ∨ v'.ownBlock = some w.heap.size) (hs : w.heap.size ≤ w'.heap.size) : SRow B G d w' v' (ops ++ os) := by
 have turn : ∀ (K : SK) (x : SO), StepAt (fun b => B ≤ b ∧ v.ownBlock ≠ some b) d w K x → StepAt (fun b => B ≤ b ∧ v'.ownBlock ≠ some b) d w' K x := fun K x h =>
  h.moved (fun b hz hlt => hg.block b hlt (fun e => hz.2 e.symm)) hs (fun b hz hlt => ⟨hz.1, fun e => by
   rcases hb with e2 | e2
   ·exact hz.2 (e2.symm.trans e)
   ·rw [e2] at e
    have := Option.some.inj e
    omega⟩)
 refine ⟨Ks ++ Js, by rw [List.length_append, List.length_append, hl, hl2], by rw [List.length_append, List.map_append]; exact hown, fun i h h' => ?_⟩
 rcases Nat.lt_or_ge i Ks.length with hi | hi
 ·rw [List.getElem_append_left hi, List.getElem_append_left (by omega)]
  exact turn _ _ (hel i hi (by omega))
 ·rw [List.getElem_append_right hi, List.getElem_append_right (by omega)]
  rw [List.length_append] at h h'
  have e : i - ops.length = i - Ks.length := by omega
  have key := turn _ _ (hel2 (i - Ks.length) (by omega) (by omega))
  simp only [e]
  exact key

theorem stepAt_removing {d : Nat} {w : World} {Z : Nat → Prop} {b1 b2 : Nat} {nm : List UInt8} (hn : nm.length ≤ 9223372036854775807) (y1 : Z b1) (y2 : Z b2) (k1 : w.cell? ⟨b1, 0, none⟩ = some (.pointer (some ⟨d, 0, none⟩))) (k2 : w.cell? ⟨b2, 0, none⟩ = some (encStr nm)) :
  StepAt Z d w ⟨151, #[.pointer (some ⟨b1, 0, none⟩), .pointer (some ⟨b2, 0, none⟩)]⟩ ⟨5, nm, [], []⟩ := by
 have l1 := World.block_lt_of_cell? _ _ k1
 have l2 := World.block_lt_of_cell? _ _ k2
 exact fun w0 Y w1 h1 h2 => does_removing hn (h2 _ y1 l1) (h2 _ y2 l2) ((World.cell?_of_block (a := ⟨b1, 0, none⟩) (h1 _ y1 l1)).trans k1) ((World.cell?_of_block (a := ⟨b2, 0, none⟩) (h1 _ y2 l2)).trans k2)

theorem stepAt_creating {d : Nat} {w : World} {Z : Nat → Prop} {b1 b2 : Nat} {nm : List UInt8} (hn : nm.length ≤ 9223372036854775807) (y1 : Z b1) (y2 : Z b2) (k1 : w.cell? ⟨b1, 0, none⟩ = some (.pointer (some ⟨d, 0, none⟩))) (k2 : w.cell? ⟨b2, 0, none⟩ = some (encStr nm)) :
  StepAt Z d w ⟨112, #[.pointer (some ⟨b1, 0, none⟩), .pointer (some ⟨b2, 0, none⟩)]⟩ ⟨1, nm, [], []⟩ := by
 have l1 := World.block_lt_of_cell? _ _ k1
 have l2 := World.block_lt_of_cell? _ _ k2
 exact fun w0 Y w1 h1 h2 => does_creating hn (h2 _ y1 l1) (h2 _ y2 l2) ((World.cell?_of_block (a := ⟨b1, 0, none⟩) (h1 _ y1 l1)).trans k1) ((World.cell?_of_block (a := ⟨b2, 0, none⟩) (h1 _ y2 l2)).trans k2)

theorem stepAt_syncing {d : Nat} {w : World} {Z : Nat → Prop} {b1 b2 : Nat} {nm : List UInt8} (hn : nm.length ≤ 9223372036854775807) (y1 : Z b1) (y2 : Z b2) (k1 : w.cell? ⟨b1, 0, none⟩ = some (.pointer (some ⟨d, 0, none⟩))) (k2 : w.cell? ⟨b2, 0, none⟩ = some (encStr nm)) :
  StepAt Z d w ⟨114, #[.pointer (some ⟨b1, 0, none⟩), .pointer (some ⟨b2, 0, none⟩)]⟩ ⟨3, nm, [], []⟩ := by
 have l1 := World.block_lt_of_cell? _ _ k1
 have l2 := World.block_lt_of_cell? _ _ k2
 exact fun w0 Y w1 h1 h2 => does_syncing hn (h2 _ y1 l1) (h2 _ y2 l2) ((World.cell?_of_block (a := ⟨b1, 0, none⟩) (h1 _ y1 l1)).trans k1) ((World.cell?_of_block (a := ⟨b2, 0, none⟩) (h1 _ y2 l2)).trans k2)

def cutOps (last : List UInt8) (l : List Nat) : List SO := [⟨1, cutB, [], []⟩, ⟨2, cutB, [], l⟩, ⟨3, cutB, [], []⟩, ⟨4, cutB, last, []⟩]
def cutKs (b1 b2 b3 : Nat) : List SK := [⟨153, #[.pointer (some ⟨b1, 0, none⟩)]⟩, ⟨154, #[.pointer (some ⟨b1, 0, none⟩), .pointer (some ⟨b3, 0, none⟩)]⟩, ⟨155, #[.pointer (some ⟨b1, 0, none⟩)]⟩, ⟨156, #[.pointer (some ⟨b1, 0, none⟩), .pointer (some ⟨b2, 0, none⟩)]⟩]

theorem bytes_blk {w : World} {p : Option Addr} {m c : Nat} {l : List Nat} (h : Bytes w p m c l) (hm : 0 < m) : ∀ a, p = some a → a.block < w.heap.size := by
 intro a ha
 obtain ⟨b, o, e, hc⟩ := h.cell hm
 have := World.block_lt_of_cell? _ _ (hc 0 hm)
 rw [ha] at e
 have e := Option.some.inj e
 rw [e]
 exact this

theorem stepAt_cutting {d : Nat} {w : World} {Z : Nat → Prop} {b1 b2 b3 : Nat} {nm : List UInt8} {p : Option Addr} {m c : Nat} {l : List Nat} (hn : nm.length ≤ 9223372036854775807) (hB : Bytes w p m c l) (hp : 0 < m → ∀ a, p = some a → Z a.block) (hl : l.length ≤ 1000000) (y1 : Z b1) (y2 : Z b2) (y3 : Z b3)
  (k1 : w.cell? ⟨b1, 0, none⟩ = some (.pointer (some ⟨d, 0, none⟩))) (k2 : w.cell? ⟨b2, 0, none⟩ = some (encStr nm)) (k3 : w.cell? ⟨b3, 0, none⟩ = some (.slice p m c)) :
  ∀ i (_h : i < (cutKs b1 b2 b3).length) (_h' : i < (cutOps nm l).length), StepAt Z d w (cutKs b1 b2 b3)[i] (cutOps nm l)[i] := by
 have l1 := World.block_lt_of_cell? _ _ k1
 have l2 := World.block_lt_of_cell? _ _ k2
 have l3 := World.block_lt_of_cell? _ _ k3
 intro i h h' w0 Y w1 h1 h2
 have q1 := (World.cell?_of_block (a := ⟨b1, 0, none⟩) (h1 _ y1 l1)).trans k1
 have q2 := (World.cell?_of_block (a := ⟨b2, 0, none⟩) (h1 _ y2 l2)).trans k2
 have q3 := (World.cell?_of_block (a := ⟨b3, 0, none⟩) (h1 _ y3 l3)).trans k3
 have z1 := h2 _ y1 l1
 have z2 := h2 _ y2 l2
 have z3 := h2 _ y3 l3
 match i, h, h' with
 | 0, _, _ => exact does_cut1 z1 q1
 | 1, _, _ => exact does_cut2 (hB.moved (fun h0 x hx => h1 _ (hp h0 x hx) (bytes_blk hB h0 x hx))) (fun h0 a ha => h2 _ (hp h0 a ha) (bytes_blk hB h0 a ha)) hl z1 z3 q1 q3
 | 2, _, _ => exact does_cut3 z1 q1
 | 3, _, _ => exact does_cut4 hn z1 z2 q1 q2

theorem SRow.one {B G d : Nat} {w w' : World} {v v' : Value} {ops : List SO} {x : SO} {Ks : List SK} {K : SK} (hl : Ks.length = ops.length) (hel : ∀ i (h : i < Ks.length) (h' : i < ops.length), StepAt (fun b => B ≤ b ∧ v.ownBlock ≠ some b) d w Ks[i] ops[i])
  (hx : StepAt (fun b => B ≤ b ∧ v.ownBlock ≠ some b) d w K x) (hown : w'.ownsRow G 172 1 v' (ops.length + 1) (Ks.map skV ++ [skV K])) (hg : w.grownBy w' v.ownBlock) (hb : v'.ownBlock = v.ownBlock ∨ v'.ownBlock = some w.heap.size) (hs : w.heap.size ≤ w'.heap.size) : SRow B G d w' v' (ops ++ [x]) :=
 SRow.app (Js := [K]) hl hel rfl (fun i h h' => by
  obtain rfl : i = 0 := by simpa using h
  exact hx) hown hg hb hs

theorem contains_any {w : World} {base n : Nat} {e : TypeId} {v : Value} {ns : List (List UInt8)} (h : w.ownsRow base e 1 v n (ns.map encStr)) (hn : n ≤ 1000000) :
  ∃ p c, v = .slice p n c ∧ ∀ (nm : List UInt8) (W : World), Below w.heap.size w W → Calls Tryz.prog 109 #[.slice p n c, .string ⟨nm.toArray⟩] W fun e w' => e = .returned (.bool (decide (nm ∈ ns))) ∧ w' = W := by
 have hlen : ns.length = n := by have := h.1; simpa using this
 rcases h.2 with ⟨rfl, rfl⟩ | ⟨g, cap, cur, rfl, hbg, hg, hle, hcm, hsz, htake⟩
 ·obtain rfl : ns = [] := List.length_eq_zero_iff.1 hlen
  exact ⟨none, 0, rfl, fun nm W _ => by simpa using Tryz.slices_Contains_string_empty none 0 ⟨nm.toArray⟩ W⟩
 ·refine ⟨some ⟨g, 0, none⟩, cap, rfl, fun nm W hW => ?_⟩
  have hdec : Lib.containsS ((ns.map fun x => (⟨x.toArray⟩ : ByteArray)).take n) ⟨nm.toArray⟩ = decide (nm ∈ ns) := by
   rw [List.take_of_length_le (by rw [List.length_map]; omega), Bool.eq_iff_iff, Lib.containsS_iff, decide_eq_true_iff, List.mem_map]
   constructor
   ·rintro ⟨a, ha, e⟩
    have e2 : a.toArray = nm.toArray := congrArg ByteArray.data e
    rw [← show a = nm by simpa using e2]
    exact ha
   ·exact fun h => ⟨nm, h, rfl⟩
  rw [← hdec]
  refine Tryz.slices_Contains_string g 0 n cap (ns.map fun x => (⟨x.toArray⟩ : ByteArray)) ⟨nm.toArray⟩ W (by rw [List.length_map]; omega) (by omega) fun j hj => ?_
  rw [List.length_map] at hj
  have hg' := (hW.block _ (Array.getElem?_eq_some_iff.1 hg).1).trans hg
  rw [cell_of_row W g (0 + j) cur _ (0, 0) hg', Nat.zero_add]
  have h1 : cur[j]? = (ns.map encStr)[j]? := by
   rw [← htake, List.getElem?_take, if_pos (by omega), Array.getElem?_toList]
  rw [h1, List.getElem?_map, List.getElem?_eq_getElem hj, List.getD_eq_getElem?_getD, List.getElem?_map, List.getElem?_eq_getElem hj]
  rfl

theorem nmB_length (N : Nat) : (nmB N).length = 12 := by unfold nmB; rw [List.length_map]; exact nameL_len N

def cleanM (nms : List (List UInt8)) (M : DM) : List SO := (nms.filter fun n => decide (n ∈ M.fs.map F.n)).map fun n => ⟨5, n, [], []⟩

theorem cleanM_snoc (nms : List (List UInt8)) (n : List UInt8) (M : DM) : cleanM (nms ++ [n]) M = cleanM nms M ++ (if n ∈ M.fs.map F.n then [⟨5, n, [], []⟩] else []) := by
 unfold cleanM
 rw [List.filter_append, List.map_append]
 congr 1
 by_cases h : n ∈ M.fs.map F.n
 ·rw [if_pos h, List.filter_cons_of_pos (by simpa using h)]; rfl
 ·rw [if_neg h, List.filter_cons_of_neg (by simpa using h)]; rfl

theorem cleanM_len (nms : List (List UInt8)) (M : DM) : (cleanM nms M).length ≤ nms.length := by
 unfold cleanM
 rw [List.length_map]
 exact List.length_filter_le _ _

def repNone (M : DM) : List SO := cleanM [cutB, newB] M ++ [⟨1, nmB 1, [], []⟩]

def repOps (M : DM) (old : List Int) (N : Nat) (l : List Nat) (torn : Nat) : List SO :=
 cleanM [cutB, newB] M ++ (if torn = 0 then [] else cutOps (nmB N) l) ++ (old.map fun n => ⟨5, nmB n.toNat, [], []⟩) ++ [⟨3, nmB N, [], []⟩]

theorem repOps_len (M : DM) (old : List Int) (N : Nat) (l : List Nat) (torn : Nat) : (repOps M old N l torn).length ≤ old.length + 7 := by
 unfold repOps
 have h1 := cleanM_len [cutB, newB] M
 simp only [List.length_append, List.length_map, List.length_cons, List.length_nil] at *
 split
 ·simp only [List.length_nil]; omega
 ·simp only [cutOps, List.length_cons, List.length_nil]; omega
end Go.Proofs.YtnbddiiedagllaaGreat

/- Parts of slices of ints, and appending in a statement that draws its order. -/
namespace Go.Proofs.YtnbddiiedagllaaGreat
open Go.RowKit

theorem Ints.takeTo {w : World} {a : Option Addr} {n cap m c : Nat} {l : List Int} (h : Ints w a n cap l) (hm : m ≤ n) (hc : m ≤ c) (hc2 : c ≤ cap) : Ints w a m c (l.take m) := by
 refine ⟨by rw [List.length_take, h.len]; omega, hc, Nat.le_trans hc2 h.capmax, fun ha => ?_, fun h0 => ?_⟩
 ·have := h.nil ha; omega
 ·obtain ⟨b, o, e, hcell⟩ := h.cell (by omega)
  refine ⟨b, o, e, fun i hi => ?_⟩
  rw [hcell i (by omega), List.getD_eq_getElem?_getD, List.getD_eq_getElem?_getD, List.getElem?_take, if_pos hi]

theorem Ints.dropTo {w : World} {b o n cap m : Nat} {l : List Int} (h : Ints w (some ⟨b, o, none⟩) n cap l) (hm : m < n) : Ints w (some ⟨b, o + m, none⟩) (n - m) (cap - m) (l.drop m) := by
 have hle := h.le
 have hcm := h.capmax
 refine ⟨by rw [List.length_drop, h.len], by omega, by omega, fun ha => (by cases ha), fun h0 => ?_⟩
 obtain ⟨b', o', e, hcell⟩ := h.cell (by omega)
 cases e
 refine ⟨b, o + m, rfl, fun i hi => ?_⟩
 have := hcell (m + i) (by omega)
 rw [← Nat.add_assoc] at this
 rw [this, List.getD_eq_getElem?_getD, List.getD_eq_getElem?_getD, List.getElem?_drop]

theorem own_formed_i {w : World} {base : Nat} {e : TypeId} {p : Option Addr} {n c m : Nat} {l : List Int} (h : w.ownsRow base e 1 (.slice p n c) m (intsE l)) : Formed p c := by
 rcases h.2 with ⟨hv, _⟩ | ⟨g, cap', cur, hv, _⟩
 ·cases hv; exact formed_none 0 rfl
 ·cases hv; exact formed_at _ _ _

theorem ints_none {w : World} {a : Option Addr} {c : Nat} (hm : c ≤ 9223372036854775807) (h : a = none → c = 0) : Ints w a 0 c [] :=
 ⟨rfl, Nat.zero_le _, hm, h, fun h => absurd h (Nat.lt_irrefl _)⟩

section
variable {P : Program}

theorem ints_from {T E : TypeId} (hT : P.underlying T = some (.slice E)) (hin : (P.info? E).map (fun i => (i.zero, i.size, i.bytes)) = some (some (.int .i64 0), 1, 8)) {a : Option Addr} {n c k : Nat} (hk : k ≤ n) (hn : n ≤ c) (hf : Formed a c) :
  ∃ a', (∀ (w : World) (kl : IntKind), (Instr.slice T (.slice a n c) (some (.int kl (k : Int))) none none).run P w = .ok (.slice a' (n - k) (c - k)) w) ∧ ∀ (w : World) (l : List Int), Ints w a n c l → Ints w a' (n - k) (c - k) (l.drop k) := by
 obtain ⟨i, hi, _, hsz, _⟩ := info_parts hin
 have hT' : P.underlying T = some (.slice (P.elem T)) := by rw [hT]; simp [Program.elem, hT]
 have hE : P.elem T = E := by simp [Program.elem, hT]
 have hsize : ∀ w : World, (sizeOf (P.elem T)).run P w = .ok 1 w := fun w => by rw [hE]; simp [sizeOf, typeInfo, hi, hsz]
 refine ⟨if c = k then a else a.map (·.add (k * 1)), fun w kl => ?_, fun w l hl => ?_⟩
 ·rw [run_slice_l w T a n c hT' kl (k : Int) (by omega) (by omega), hsize]
  rfl
 ·have hcm := hl.capmax
  by_cases e : k = n
  ·subst e
   rw [Nat.sub_self, List.drop_eq_nil_of_le (by rw [hl.len]; exact Nat.le_refl _)]
   refine ints_none (by omega) (fun h => ?_)
   by_cases hck : c = k
   ·omega
   ·rw [if_neg hck] at h
    obtain ⟨b, o, rfl⟩ := hf (by omega)
    cases h
  ·obtain ⟨b, o, rfl⟩ := hf (by omega)
   rw [if_neg (by omega), Nat.mul_one]
   simp only [Option.map_some, addr_add]
   exact hl.dropTo (by omega)

theorem ints_to {T E : TypeId} (hT : P.underlying T = some (.slice E)) (hin : (P.info? E).map (fun i => (i.zero, i.size, i.bytes)) = some (some (.int .i64 0), 1, 8)) {a : Option Addr} {n c k : Nat} (hk : k ≤ n) (hn : n ≤ c) (hf : Formed a c) :
  ∃ a', (∀ (w : World) (kl : IntKind), (Instr.slice T (.slice a n c) none (some (.int kl (k : Int))) none).run P w = .ok (.slice a' k c) w) ∧ ∀ (w : World) (l : List Int), Ints w a n c l → Ints w a' k c (l.take k) := by
 obtain ⟨i, hi, _, hsz, _⟩ := info_parts hin
 have hT' : P.underlying T = some (.slice (P.elem T)) := by rw [hT]; simp [Program.elem, hT]
 have hE : P.elem T = E := by simp [Program.elem, hT]
 have hsize : ∀ w : World, (sizeOf (P.elem T)).run P w = .ok 1 w := fun w => by rw [hE]; simp [sizeOf, typeInfo, hi, hsz]
 have ha : (if c = 0 then a else a.map (·.add (0 * 1))) = a := by
  by_cases h : c = 0
  ·rw [if_pos h]
  ·rw [if_neg h]
   obtain ⟨b, o, rfl⟩ := hf (by omega)
   simp [addr_add]
 refine ⟨a, fun w kl => ?_, fun w l hl => ?_⟩
 ·rw [run_slice_h w T a n c hT' kl (k : Int) (by omega) (by omega), hsize]
  show Result.ok (Value.slice (if c = 0 then a else a.map (·.add (0 * 1))) (k - 0) (c - 0)) w = _
  rw [ha]; rfl
 ·exact hl.takeTo hk (by omega) (Nat.le_refl _)
end

theorem step_append_ints {ops : Array Oper} {o : Oper} {a : Act} {w : World} {K : Act → World → Prop} {Q : Exit → Act → World → Prop} {E : Prop} (hgd : o.guard = none) (s x : Operand)
  (ho : o.op = .call { callee := .builtin .append, args := #[s, x], argTypes := #[33, 33] })
  (base : Nat) (v : Value) (n : Nat) (l : List Int) (hs : a.eval s = v) (hown : w.ownsRow base 3 1 v n (intsE l))
  (p : Option Addr) (m c : Nat) (l' : List Int) (hx : a.eval x = .slice p m c) (hB : Ints w p m c l')
  (hbytes : (n + m) * 8 ≤ 140737488355328) (hbase : base ≤ w.heap.size)
  (h : ∀ v' w', w'.ownsRow base 3 1 v' (n + m) (intsE (l ++ l')) → w.grownBy w' v.ownBlock → K (a.put o.dst v') w') :
  if Region.wanted o (yielded ops a.tmps) = true then Oper.wp Tryz.prog o a w K Q else E := by
 obtain ⟨i, hi, hz, hsz, hby⟩ := info_parts info_int
 have hw : Region.wanted o (yielded ops a.tmps) = true := by simp [Region.wanted, hgd]
 rw [if_pos hw]
 cases p with
 | none =>
  obtain rfl : c = 0 := hB.nil rfl
  obtain rfl : m = 0 := by have := hB.le; omega
  obtain rfl : l' = [] := List.length_eq_zero_iff.1 hB.len
  have hrun := run_append_owned_none (P := Tryz.prog) (w := w) base 33 o.type 3 i 1 Tryz.underlying33 hi v n (intsE l) hown
  unfold Oper.wp
  have hh := h v w (by simpa using hown) ⟨rfl, rfl, rfl, Nat.le_refl _, fun _ _ _ => rfl⟩
  simp [execOp, ho, resolve, invoke, builtin, hs, hx, hrun, Result.andThen]
  rw [Oper.upon_value]
  simpa using hh
 | some ad =>
  refine wp_append_own w s x 33 ho base 3 i (.int .i64 0) 1 8 Tryz.underlying33 hi hz hsz hby rfl (by omega) v n (intsE l) hs hown ad m c (intsE l') hx (by simp [intsE, hB.len]) (fun j u hu => ?_) (intsE_one l') (by rw [maxLen_nat]; omega) (by omega) hbase (fun v' w' g1 g2 _ => ?_)
  ·obtain ⟨hj, rfl⟩ := intsE_get hu
   have hj' : j < m := by rw [← hB.len]; exact hj
   obtain ⟨b, o', e1, hc⟩ := hB.cell (by omega)
   cases e1
   rw [addr_add]
   exact hc j hj'
  ·rw [← intsE_append] at g1
   exact h v' w' g1 g2

theorem heap_at (w : World) (o : Obj) (k : Nat) : (w.alloc o).heap[k]? = if k = w.heap.size then some o else w.heap[k]? := by
 show (w.heap.push o)[k]? = _
 rw [Array.getElem?_push]
theorem heap_dr (w : World) : w.drew.heap = w.heap := rfl

theorem row_ints {W : World} {g : Nat} {x : Int} {e : TypeId} (h : W.heap[g]? = some (.cells #[.int .i64 x] e (0, 0))) : Ints W (some ⟨g, 0, none⟩) 1 1 [x] :=
 ⟨rfl, Nat.le_refl _, by omega, fun h => (by cases h), fun _ => ⟨g, 0, rfl, fun i hi => by
  obtain rfl : i = 0 := by omega
  rw [Nat.zero_add, cell_of_row _ _ _ _ _ (0, 0) h]; rfl⟩⟩

theorem own_emp {W : World} {g base : Nat} (h : W.heap[g]? = some (.cells #[] 3 (0, 0))) (hb : base ≤ g) : W.ownsRow base 3 1 (.slice (some ⟨g, 0, none⟩) 0 0) 0 (intsE []) :=
 ⟨rfl, .inr ⟨g, 0, #[], rfl, hb, h, Nat.le_refl _, Nat.zero_le _, rfl, rfl⟩⟩
end Go.Proofs.YtnbddiiedagllaaGreat

/- The walks of the reference's has and List of segments. -/
namespace Go.Proofs.YtnbddiiedagllaaGreat
open Go.RowKit

set_option maxRecDepth 100000 in
theorem seghas_any (a : Option Addr) (n cap : Nat) (l : List Int) (x : Int) (w : World) (hI : Ints w a n cap l) :
  Calls Tryz.prog 106 #[.slice a n cap, .int .i64 x] w fun e w' => e = .returned (.bool (decide (x ∈ l))) ∧ w = w' := by
 have HI := Lib.hid hI
 have hnm : n ≤ 9223372036854775807 := Nat.le_trans hI.le hI.capmax
 clear hI
 go_enter Tryz.func106, Tryz.ntmps106
 go_wp2
 go_loop [5] (fun i => ∃ k : Nat, k ≤ n ∧ i = .int .i64 (k : Int) ∧ x ∉ l.take k) (fun i => n - (intOf i).toNat)
 case atStart => exact ⟨0, Nat.zero_le _, rfl, by simp⟩
 case round =>
  obtain ⟨k, hk, rfl, hno⟩ := hrel
  have Hno := Lib.hid hno
  clear hno
  by_cases hlt : k < n
  ·obtain ⟨b, o, rfl, hc0⟩ := HI.out.cell (by omega)
   have hc := hc0 k hlt
   have Htk := Lib.hid (show l.take (k + 1) = l.take k ++ [l.getD k 0] by
    rw [List.take_succ_eq_append_getElem (by rw [HI.out.len]; exact hlt), List.getD_eq_getElem?_getD, List.getElem?_eq_getElem (by rw [HI.out.len]; exact hlt)]; rfl)
   have Hin := Lib.hid (show l.getD k 0 ∈ l by
    rw [List.getD_eq_getElem?_getD, List.getElem?_eq_getElem (by rw [HI.out.len]; exact hlt)]
    exact List.getElem_mem _)
   have Hlt := Lib.hid hlt
   clear hc0
   generalize l.getD k 0 = y at *
   by_cases hy : y = x
   ·have Hf := Lib.hid (show decide (x ∈ l) = true from decide_eq_true (by rw [← hy]; exact Hin.out))
    have hq : (y == x) = true := by rw [hy]; exact beq_self_eq_true _
    clear hy
    go_wp2
    go_ret
    exact ⟨ret_bool Hf.out.symm, rfl⟩
   ·have hq : (y == x) = false := beq_eq_false_iff_ne.2 hy
    have Hy := Lib.hid hy
    clear hy
    go_wp2
    go_round
    case rel => exact ⟨k + 1, Hlt.out, by go_num, fun h => by
     rw [Htk.out, List.mem_append, List.mem_singleton] at h
     rcases h with h | h
     ·exact Hno.out h
     ·exact Hy.out h.symm⟩
    case measure => simp [intOf]; have := Hlt.out; omega
  ·obtain rfl : k = n := by omega
   have Hf := Lib.hid (show decide (x ∈ l) = false from decide_eq_false (fun h => Hno.out (by rw [List.take_of_length_le (by rw [HI.out.len]; omega)]; exact h)))
   clear hlt
   go_wp2
   go_ret
   exact ⟨ret_bool Hf.out.symm, rfl⟩

def RlRel (w : World) (n : Nat) (ls : List (List Nat)) (v i : Value) (wr : World) : Prop :=
 ∃ (k : Nat) (out : List Int), k ≤ n ∧ i = .int .i64 (k : Int) ∧ out.length ≤ k ∧ Asc out ∧ (∀ x, x ∈ out ↔ NumsOf (ls.take k) x) ∧ wr.ownsRow w.heap.size 3 1 v out.length (intsE out) ∧ Below w.heap.size w wr

set_option maxRecDepth 100000 in
set_option maxHeartbeats 3200000 in
theorem rseglist_any (a : Option Addr) (n cap : Nat) (ls : List (List Nat)) (w : World) (hS : Strs w a n cap ls) (hn : n ≤ 1000) :
  Calls Tryz.prog 58 #[.slice a n cap] w (ListEnd w ls) := by
 have HS := Lib.hid hS
 clear hS
 go_enter Tryz.func58, Tryz.ntmps58
 go_wp2
 go_loopw [3, 4] (fun v i wr => RlRel w n ls v i wr) (fun _ i _ => n - (intOf i).toNat)
 case atStart => exact ⟨0, [], Nat.zero_le _, rfl, Nat.le_refl _, List.Pairwise.nil, fun x => ⟨fun h => (by cases h), fun ⟨l, hl, _⟩ => (by rw [List.take_zero] at hl; cases hl)⟩, World.ownsRow_nil _ _ _ _, Below.refl _ _⟩
 case round =>
  obtain ⟨k, out, hk, rfl, hol, hasc, hmem, hown, hbel⟩ := hrel
  have Hmem := Lib.hid hmem
  have Hol := Lib.hid hol
  have Hasc := Lib.hid hasc
  have Hown := Lib.hid hown
  have Hbel := Lib.hid hbel
  clear hmem hol hown hbel hasc
  by_cases hlt : k < n
  ·obtain ⟨b, o, rfl, hc0⟩ := (HS.out.grow Hbel.out).cell (by omega)
   have hc := hc0 k hlt
   have Hnx := Lib.hid (fun x => numsOf_next (ls := ls) (k := k) (by rw [HS.out.len]; exact hlt) (x := x))
   obtain ⟨hby, hlen⟩ : (∀ x ∈ ls.getD k [], x < 256) ∧ (ls.getD k []).length ≤ 9223372036854775807 := by
    rw [List.getD_eq_getElem?_getD, List.getElem?_eq_getElem (by rw [HS.out.len]; exact hlt)]
    exact HS.out.byte _ (List.getElem_mem _)
   have HC := Lib.hid (rsegnum_any (ls.getD k []) wr hby)
   unfold NumEnd at HC
   clear hc0 hby hlen
   generalize ls.getD k [] = l at *
   have Hlt := Lib.hid hlt
   generalize str l = s at *
   obtain ⟨p, cp, rfl, hI⟩ := own_ints Hown.out
   by_cases h0 : 0 < segNum l
   ·have H0 := Lib.hid h0
    rw [decide_eq_true h0] at HC
    generalize segNum l = m at *
    clear h0
    have HH := Lib.hid (seghas_any p out.length cp out (m : Int) wr hI)
    by_cases hin : (m : Int) ∈ out
    ·have Hin := Lib.hid hin
     rw [decide_eq_true hin] at HH
     clear hin hI
     go_wp2_with fail
     refine HC.out.mono ?_
     rintro e w1 ⟨rfl, rfl⟩
     go_wp2_with fail
     refine HH.out.mono ?_
     rintro e w1 ⟨rfl, rfl⟩
     go_wp2
     go_roundw
     case rel =>
      refine ⟨k + 1, out, Hlt.out, by go_num, by have := Hol.out; omega, Hasc.out, fun x => ?_, Hown.out, Hbel.out⟩
      rw [Hnx.out x, ← Hmem.out x]
      constructor
      ·exact .inl
      ·rintro (h | ⟨_, h⟩)
       ·exact h
       ·rw [h]; exact Hin.out
     case measure => simp [intOf]; have := Hlt.out; omega
    ·have Hin := Lib.hid hin
     rw [decide_eq_false hin] at HH
     have HI := Lib.hid hI
     clear hin hI
     go_wp2_with fail
     refine HC.out.mono ?_
     rintro e w1 ⟨rfl, rfl⟩
     go_wp2_with fail
     refine HH.out.mono ?_
     rintro e w1 ⟨rfl, rfl⟩
     go_wp2
     go_loop [7] (fun i => ∃ j : Nat, j ≤ out.length ∧ i = .int .i64 (j : Int) ∧ ∀ q, q < j → out.getD q 0 < (m : Int)) (fun i => out.length - (intOf i).toNat)
     case atStart => exact ⟨0, Nat.zero_le _, rfl, fun q h => absurd h (Nat.not_lt_zero _)⟩
     case round =>
      obtain ⟨j, hj, rfl, hlo⟩ := hrel
      have Hlo := Lib.hid hlo
      clear hlo
      have hol2 : out.length ≤ 1000 := by have := Hol.out; have := Hlt.out; omega
      by_cases hcont : j < out.length ∧ out.getD j 0 < (m : Int)
      ·obtain ⟨hjl, hym⟩ := hcont
       obtain ⟨b2, o2, rfl, hc2⟩ := HI.out.cell (by omega)
       have hcj := hc2 j hjl
       clear hc2
       generalize hy : out.getD j 0 = y at *
       have Hy := Lib.hid hy
       clear hy
       have Hym := Lib.hid hym
       have Hjl := Lib.hid hjl
       go_wp2
       go_round
       case rel => exact ⟨j + 1, Hjl.out, by go_num, fun q hq => by
        by_cases e : q = j
        ·subst e; rw [Hy.out]; exact Hym.out
        ·exact Hlo.out q (by omega)⟩
       case measure => simp [intOf]; have := Hjl.out; omega
      ·have Hhi := Lib.hid (show j < out.length → ¬ out.getD j 0 < (m : Int) from fun h1 h2 => hcont ⟨h1, h2⟩)
       clear hcont
       have hcple := HI.out.le
       obtain ⟨pt, hsl1, ht⟩ := ints_to (P := Tryz.prog) Tryz.underlying33 info_int (a := p) (n := out.length) (c := cp) (k := j) hj hcple (own_formed_i Hown.out)
       obtain ⟨pd, hsl2, hd⟩ := ints_from (P := Tryz.prog) Tryz.underlying33 info_int (a := p) (n := out.length) (c := cp) (k := j) hj hcple (own_formed_i Hown.out)
       have HT := Lib.hid (fun W (hb : Below wr.heap.size wr W) => ht W out (HI.out.grow hb))
       have HD := Lib.hid (fun W (hb : Below wr.heap.size wr W) => hd W out (HI.out.grow hb))
       have Hj := Lib.hid hj
       have HL3 := Lib.hid (show (out.take j ++ (m : Int) :: out.drop j).length = 0 + j + 1 + (out.length - j) by rw [List.length_append, List.length_cons, List.length_take, List.length_drop]; omega)
       have Hle3 := Lib.hid (show (out.take j ++ (m : Int) :: out.drop j).length ≤ k + 1 by rw [List.length_append, List.length_cons, List.length_take, List.length_drop]; have := Hol.out; omega)
       clear ht hd
       by_cases hjl : j < out.length
       case' pos =>
        obtain ⟨b2, o2, rfl, hc2⟩ := HI.out.cell (by omega)
        have hcj := hc2 j hjl
        have hym := Hhi.out hjl
        generalize out.getD j 0 = y at hcj hym
        clear hc2
       case' neg =>
        have hnl : ¬ ((j : Int) < (out.length : Int)) := by omega
       all_goals go_wp2
       all_goals go_region_law
        (first
         | (refine step_append_ints rfl (.tmp 50) (.tmp 53) rfl wr.heap.size v2 (0 + j + 1) (([] ++ out.take j) ++ [(m : Int)]) (by first | (simp [Act.eval]; done) | fail) (own_below Own2.out (by repeat' (first | exact Below.refl _ _ | refine Below.drew ?_ | refine Below.alloc ?_ (by first | exact Nat.le_refl _ | (simp; done) | (simp; omega) | (simp [heap_dr]; done) | (simp [heap_dr]; omega) | fail) _))) pd (out.length - j) (cp - j) (out.drop j) (by first | (simp [Act.eval]; done) | fail) (HD.out _ (Hb2.out.trans (Below.mono (B := w2.heap.size) (by repeat' (first | exact Below.refl _ _ | refine Below.drew ?_ | refine Below.alloc ?_ (by first | exact Nat.le_refl _ | (simp; done) | (simp; omega) | (simp [heap_dr]; done) | (simp [heap_dr]; omega) | fail) _)) Hb2.out.size))) (by omega) (Nat.le_trans Hb2.out.size (by first | exact Nat.le_refl _ | (simp; done) | (simp; omega) | (simp [heap_dr]; done) | (simp [heap_dr]; omega) | fail)) ?_
            intro v3 w3 own3 gr3
            have hb3 : Below wr.heap.size wr w3 := Below.grown (Hb2.out.trans (Below.mono (B := w2.heap.size) (by repeat' (first | exact Below.refl _ _ | refine Below.drew ?_ | refine Below.alloc ?_ (by first | exact Nat.le_refl _ | (simp; done) | (simp; omega) | (simp [heap_dr]; done) | (simp [heap_dr]; omega) | fail) _)) Hb2.out.size)) gr3 (Nat.le_trans Hb2.out.size (by first | exact Nat.le_refl _ | (simp; done) | (simp; omega) | (simp [heap_dr]; done) | (simp [heap_dr]; omega) | fail)) O2lt.out
            have Own3 := Lib.hid own3
            have Hb3 := Lib.hid hb3
            clear own3 gr3 hb3)
         | (refine step_append_ints rfl (.tmp 47) (.tmp 49) rfl wr.heap.size v1 (0 + j) ([] ++ out.take j) (by first | (simp [Act.eval]; done) | fail) (own_below Own1.out (by repeat' (first | exact Below.refl _ _ | refine Below.drew ?_ | refine Below.alloc ?_ (by first | exact Nat.le_refl _ | (simp; done) | (simp; omega) | (simp [heap_dr]; done) | (simp [heap_dr]; omega) | fail) _))) (some ⟨wr.heap.size, 0, none⟩) 1 1 [(m : Int)] (by first | (simp [Act.eval]; done) | fail) (HR1.out.grow (by repeat' (first | exact Below.refl _ _ | refine Below.drew ?_ | refine Below.alloc ?_ (by first | exact Nat.le_refl _ | (simp; done) | (simp; omega) | (simp [heap_dr]; done) | (simp [heap_dr]; omega) | fail) _))) (by omega) (Nat.le_trans Hb1.out.size (by first | exact Nat.le_refl _ | (simp; done) | (simp; omega) | (simp [heap_dr]; done) | (simp [heap_dr]; omega) | fail)) ?_
            intro v2 w2 own2 gr2
            have hb2 : Below wr.heap.size wr w2 := Below.grown (Hb1.out.trans (Below.mono (B := w1.heap.size) (by repeat' (first | exact Below.refl _ _ | refine Below.drew ?_ | refine Below.alloc ?_ (by first | exact Nat.le_refl _ | (simp; done) | (simp; omega) | (simp [heap_dr]; done) | (simp [heap_dr]; omega) | fail) _)) Hb1.out.size)) gr2 (Nat.le_trans Hb1.out.size (by first | exact Nat.le_refl _ | (simp; done) | (simp; omega) | (simp [heap_dr]; done) | (simp [heap_dr]; omega) | fail)) O1lt.out
            have o2lt := fun k hk => (own2.lt k hk).1
            have Own2 := Lib.hid own2
            have Hb2 := Lib.hid hb2
            have O2lt := Lib.hid o2lt
            clear own2 gr2 hb2 o2lt)
         | (refine step_append_ints rfl (.tmp 47) (.tmp 49) rfl wr.heap.size v1 (0 + j) ([] ++ out.take j) (by first | (simp [Act.eval]; done) | fail) (own_below Own1.out (by repeat' (first | exact Below.refl _ _ | refine Below.drew ?_ | refine Below.alloc ?_ (by first | exact Nat.le_refl _ | (simp; done) | (simp; omega) | (simp [heap_dr]; done) | (simp [heap_dr]; omega) | fail) _))) (some ⟨wr.heap.size + 1, 0, none⟩) 1 1 [(m : Int)] (by first | (simp [Act.eval]; done) | fail) (HR1.out.grow (by repeat' (first | exact Below.refl _ _ | refine Below.drew ?_ | refine Below.alloc ?_ (by first | exact Nat.le_refl _ | (simp; done) | (simp; omega) | (simp [heap_dr]; done) | (simp [heap_dr]; omega) | fail) _))) (by omega) (Nat.le_trans Hb1.out.size (by first | exact Nat.le_refl _ | (simp; done) | (simp; omega) | (simp [heap_dr]; done) | (simp [heap_dr]; omega) | fail)) ?_
            intro v2 w2 own2 gr2
            have hb2 : Below wr.heap.size wr w2 := Below.grown (Hb1.out.trans (Below.mono (B := w1.heap.size) (by repeat' (first | exact Below.refl _ _ | refine Below.drew ?_ | refine Below.alloc ?_ (by first | exact Nat.le_refl _ | (simp; done) | (simp; omega) | (simp [heap_dr]; done) | (simp [heap_dr]; omega) | fail) _)) Hb1.out.size)) gr2 (Nat.le_trans Hb1.out.size (by first | exact Nat.le_refl _ | (simp; done) | (simp; omega) | (simp [heap_dr]; done) | (simp [heap_dr]; omega) | fail)) O1lt.out
            have o2lt := fun k hk => (own2.lt k hk).1
            have Own2 := Lib.hid own2
            have Hb2 := Lib.hid hb2
            have O2lt := Lib.hid o2lt
            clear own2 gr2 hb2 o2lt)
         | (refine step_append_ints rfl (.tmp 47) (.tmp 49) rfl wr.heap.size v1 (0 + j) ([] ++ out.take j) (by first | (simp [Act.eval]; done) | fail) (own_below Own1.out (by repeat' (first | exact Below.refl _ _ | refine Below.drew ?_ | refine Below.alloc ?_ (by first | exact Nat.le_refl _ | (simp; done) | (simp; omega) | (simp [heap_dr]; done) | (simp [heap_dr]; omega) | fail) _))) (some ⟨w1.heap.size, 0, none⟩) 1 1 [(m : Int)] (by first | (simp [Act.eval]; done) | fail) (row_ints (e := 3) (by first | (simp only [heap_at]; simp; done) | (simp only [heap_at, World.size_alloc]; simp; done) | (simp only [heap_at, heap_dr]; simp; done) | (simp only [heap_at, heap_dr, World.size_alloc]; simp; done) | fail)) (by omega) (Nat.le_trans Hb1.out.size (by first | exact Nat.le_refl _ | (simp; done) | (simp; omega) | (simp [heap_dr]; done) | (simp [heap_dr]; omega) | fail)) ?_
            intro v2 w2 own2 gr2
            have hb2 : Below wr.heap.size wr w2 := Below.grown (Hb1.out.trans (Below.mono (B := w1.heap.size) (by repeat' (first | exact Below.refl _ _ | refine Below.drew ?_ | refine Below.alloc ?_ (by first | exact Nat.le_refl _ | (simp; done) | (simp; omega) | (simp [heap_dr]; done) | (simp [heap_dr]; omega) | fail) _)) Hb1.out.size)) gr2 (Nat.le_trans Hb1.out.size (by first | exact Nat.le_refl _ | (simp; done) | (simp; omega) | (simp [heap_dr]; done) | (simp [heap_dr]; omega) | fail)) O1lt.out
            have o2lt := fun k hk => (own2.lt k hk).1
            have Own2 := Lib.hid own2
            have Hb2 := Lib.hid hb2
            have O2lt := Lib.hid o2lt
            clear own2 gr2 hb2 o2lt)
         | (refine step_append_ints rfl (.tmp 43) (.tmp 46) rfl wr.heap.size (.slice (some ⟨wr.heap.size + 1, 0, none⟩) 0 0) 0 [] (by first | (simp [Act.eval]; done) | fail) (own_emp (by first | (simp only [heap_at]; simp; done) | (simp only [heap_at, World.size_alloc]; simp; done) | (simp only [heap_at, heap_dr]; simp; done) | (simp only [heap_at, heap_dr, World.size_alloc]; simp; done) | fail) (by omega)) pt j cp (out.take j) (by first | (simp [Act.eval]; done) | fail) (HT.out _ (by repeat' (first | exact Below.refl _ _ | refine Below.drew ?_ | refine Below.alloc ?_ (by first | exact Nat.le_refl _ | (simp; done) | (simp; omega) | (simp [heap_dr]; done) | (simp [heap_dr]; omega) | fail) _))) (by omega) (by first | exact Nat.le_refl _ | (simp; done) | (simp; omega) | (simp [heap_dr]; done) | (simp [heap_dr]; omega) | fail) ?_
            intro v1 w1 own1 gr1
            have hb1 : Below wr.heap.size wr w1 := Below.grown (by repeat' (first | exact Below.refl _ _ | refine Below.drew ?_ | refine Below.alloc ?_ (by first | exact Nat.le_refl _ | (simp; done) | (simp; omega) | (simp [heap_dr]; done) | (simp [heap_dr]; omega) | fail) _)) gr1 (by first | exact Nat.le_refl _ | (simp; done) | (simp; omega) | (simp [heap_dr]; done) | (simp [heap_dr]; omega) | fail) (fun k hk => by simp [Value.ownBlock] at hk; omega)
            have o1lt := fun k hk => (own1.lt k hk).1
            have HR1 := Lib.hid (show Ints w1 (some ⟨wr.heap.size, 0, none⟩) 1 1 [(m : Int)] from row_ints (e := 3) ((gr1.block (wr.heap.size) (by first | exact Nat.le_refl _ | (simp; done) | (simp; omega) | (simp [heap_dr]; done) | (simp [heap_dr]; omega) | fail) (by first | (simp [Value.ownBlock]; done) | fail)).trans (by first | (simp only [heap_at]; simp; done) | (simp only [heap_at, World.size_alloc]; simp; done) | (simp only [heap_at, heap_dr]; simp; done) | (simp only [heap_at, heap_dr, World.size_alloc]; simp; done) | fail)))
            have Own1 := Lib.hid own1
            have Hb1 := Lib.hid hb1
            have O1lt := Lib.hid o1lt
            clear own1 gr1 hb1 o1lt)
         | (refine step_append_ints rfl (.tmp 43) (.tmp 46) rfl wr.heap.size (.slice (some ⟨wr.heap.size, 0, none⟩) 0 0) 0 [] (by first | (simp [Act.eval]; done) | fail) (own_emp (by first | (simp only [heap_at]; simp; done) | (simp only [heap_at, World.size_alloc]; simp; done) | (simp only [heap_at, heap_dr]; simp; done) | (simp only [heap_at, heap_dr, World.size_alloc]; simp; done) | fail) (by omega)) pt j cp (out.take j) (by first | (simp [Act.eval]; done) | fail) (HT.out _ (by repeat' (first | exact Below.refl _ _ | refine Below.drew ?_ | refine Below.alloc ?_ (by first | exact Nat.le_refl _ | (simp; done) | (simp; omega) | (simp [heap_dr]; done) | (simp [heap_dr]; omega) | fail) _))) (by omega) (by first | exact Nat.le_refl _ | (simp; done) | (simp; omega) | (simp [heap_dr]; done) | (simp [heap_dr]; omega) | fail) ?_
            intro v1 w1 own1 gr1
            have hb1 : Below wr.heap.size wr w1 := Below.grown (by repeat' (first | exact Below.refl _ _ | refine Below.drew ?_ | refine Below.alloc ?_ (by first | exact Nat.le_refl _ | (simp; done) | (simp; omega) | (simp [heap_dr]; done) | (simp [heap_dr]; omega) | fail) _)) gr1 (by first | exact Nat.le_refl _ | (simp; done) | (simp; omega) | (simp [heap_dr]; done) | (simp [heap_dr]; omega) | fail) (fun k hk => by simp [Value.ownBlock] at hk; omega)
            have o1lt := fun k hk => (own1.lt k hk).1
            have HR1 := Lib.hid (show Ints w1 (some ⟨wr.heap.size + 1, 0, none⟩) 1 1 [(m : Int)] from row_ints (e := 3) ((gr1.block (wr.heap.size + 1) (by first | exact Nat.le_refl _ | (simp; done) | (simp; omega) | (simp [heap_dr]; done) | (simp [heap_dr]; omega) | fail) (by first | (simp [Value.ownBlock]; done) | fail)).trans (by first | (simp only [heap_at]; simp; done) | (simp only [heap_at, World.size_alloc]; simp; done) | (simp only [heap_at, heap_dr]; simp; done) | (simp only [heap_at, heap_dr, World.size_alloc]; simp; done) | fail)))
            have Own1 := Lib.hid own1
            have Hb1 := Lib.hid hb1
            have O1lt := Lib.hid o1lt
            clear own1 gr1 hb1 o1lt)
         | (refine step_append_ints rfl (.tmp 43) (.tmp 46) rfl wr.heap.size (.slice (some ⟨wr.heap.size, 0, none⟩) 0 0) 0 [] (by first | (simp [Act.eval]; done) | fail) (own_emp (by first | (simp only [heap_at]; simp; done) | (simp only [heap_at, World.size_alloc]; simp; done) | (simp only [heap_at, heap_dr]; simp; done) | (simp only [heap_at, heap_dr, World.size_alloc]; simp; done) | fail) (by omega)) pt j cp (out.take j) (by first | (simp [Act.eval]; done) | fail) (HT.out _ (by repeat' (first | exact Below.refl _ _ | refine Below.drew ?_ | refine Below.alloc ?_ (by first | exact Nat.le_refl _ | (simp; done) | (simp; omega) | (simp [heap_dr]; done) | (simp [heap_dr]; omega) | fail) _))) (by omega) (by first | exact Nat.le_refl _ | (simp; done) | (simp; omega) | (simp [heap_dr]; done) | (simp [heap_dr]; omega) | fail) ?_
            intro v1 w1 own1 gr1
            have hb1 : Below wr.heap.size wr w1 := Below.grown (by repeat' (first | exact Below.refl _ _ | refine Below.drew ?_ | refine Below.alloc ?_ (by first | exact Nat.le_refl _ | (simp; done) | (simp; omega) | (simp [heap_dr]; done) | (simp [heap_dr]; omega) | fail) _)) gr1 (by first | exact Nat.le_refl _ | (simp; done) | (simp; omega) | (simp [heap_dr]; done) | (simp [heap_dr]; omega) | fail) (fun k hk => by simp [Value.ownBlock] at hk; omega)
            have o1lt := fun k hk => (own1.lt k hk).1
            have Own1 := Lib.hid own1
            have Hb1 := Lib.hid hb1
            have O1lt := Lib.hid o1lt
            clear own1 gr1 hb1 o1lt)
        )
       all_goals go_wp2
       all_goals go_roundw
       all_goals try (case measure => simp [intOf]; have := Hlt.out; omega)
       all_goals refine ⟨k + 1, out.take j ++ (m : Int) :: out.drop j, Hlt.out, by go_num, Hle3.out, asc_insert Hasc.out Hj.out Hlo.out (fun h => by have := Hhi.out h; omega) Hin.out, fun x => ?_, ?_, Hbel.out.trans (Hb3.out.mono Hbel.out.size)⟩
       all_goals first
        | (rw [Hnx.out x, mem_insert, ← Hmem.out x]
           constructor
           ·rintro (h | h)
            ·exact .inr ⟨H0.out, h⟩
            ·exact .inl h
           ·rintro (h | ⟨_, h⟩)
            ·exact .inr h
            ·exact .inl h)
        | (rw [HL3.out]
           have h3 := Own3.out
           rw [List.nil_append, List.append_assoc, List.singleton_append] at h3
           exact own_base h3 Hbel.out.size)
   ·have H0 := Lib.hid h0
    rw [decide_eq_false h0] at HC
    generalize segNum l = m at *
    clear h0 hI
    go_wp2_with fail
    refine HC.out.mono ?_
    rintro e w1 ⟨rfl, rfl⟩
    go_wp2
    go_roundw
    case rel =>
     refine ⟨k + 1, out, Hlt.out, by go_num, by have := Hol.out; omega, Hasc.out, fun x => ?_, Hown.out, Hbel.out⟩
     rw [Hnx.out x, Hmem.out x]
     constructor
     ·exact .inl
     ·rintro (h | ⟨h, _⟩)
      ·exact h
      ·exact absurd h H0.out
    case measure => simp [intOf]; have := Hlt.out; omega
  ·obtain rfl : k = n := by omega
   have Hfull := Lib.hid (show ls.take k = ls from List.take_of_length_le (by rw [HS.out.len]; omega))
   clear hlt
   go_wp2
   go_ret
   exact ⟨_, out, rfl, Hasc.out, fun x => by rw [Hmem.out x, Hfull.out], by have := Hol.out; rw [HS.out.len]; exact this, Hown.out, Hbel.out⟩
end Go.Proofs.YtnbddiiedagllaaGreat

/- The walk of the reference's Records: the records of the segments of a disk, one after the other. -/
namespace Go.Proofs.YtnbddiiedagllaaGreat
open Go.RowKit Go.Maps Go.Shelf

attribute [local go_sem ↓] Go.wp_at_zero Go.wp_at_succ

theorem readM_up {n : List UInt8} {M : DM} {f : F} (hd : M.down = false) (h : findN F.n n M.fs = some f) : (readM n M).1 = f.b := by
 unfold readM
 rw [if_neg (by rw [hd]; decide), h]

theorem findN_have {n : List UInt8} {l : List F} (h : ∃ f ∈ l, f.n = n) : ∃ f, findN F.n n l = some f := by
 cases e : findN F.n n l with
 | some f => exact ⟨f, rfl⟩
 | none =>
  obtain ⟨f, hf, hn⟩ := h
  unfold findN at e
  have := List.find?_eq_none.1 e f hf
  simp [hn] at this

theorem nmB_of_num {n : List UInt8} (h : 0 < segNum (nmL n)) : nmB (segNum (nmL n)) = n := by
 unfold nmB
 rw [name_of_num h]
 unfold nmL
 rw [List.map_map]
 conv => rhs; rw [← List.map_id n]
 refine List.map_congr_left fun x _ => ?_
 simp

end Go.Proofs.YtnbddiiedagllaaGreat

