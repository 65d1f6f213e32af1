import Derived.Test.YtmiepigieajpcaaGreatMB1
import Derived.Maps.OwnSet
import Derived.Maps.OwnOps
import Derived.Maps.RangeWalk
import Derived.Maps.AppendAt
import Derived.Sort.KeysCollected
import Derived.Outline
/- Disks as plain data: files in the order of their names; what a change does. -/
namespace Go.Proofs.YtmiepigieajpcaaGreat
open Go.RowKit Go.Maps

section
variable {α β : Type}
/-- Lists in the order of names: put, take out, find. -/
def insN (f : α → List UInt8) (x : α) : List α → List α
  | [] => [x]
  | y :: r => if bytesBefore (f x) (f y) then x :: y :: r else y :: insN f x r
def delN (f : α → List UInt8) (n : List UInt8) (l : List α) : List α := l.filter fun y => !(f y == n)
def putN (f : α → List UInt8) (x : α) (l : List α) : List α := insN f x (delN f (f x) l)
def findN (f : α → List UInt8) (n : List UInt8) (l : List α) : Option α := l.find? fun y => f y == n
def setN (f : α → List UInt8) (x : α) (l : List α) : List α := l.map fun y => if f y == f x then x else y

theorem insN_map (f : α → List UInt8) (f' : β → List UInt8) (g : α → β) (h : ∀ x, f' (g x) = f x) (x : α) : ∀ l, (insN f x l).map g = insN f' (g x) (l.map g)
  | [] => rfl
  | y :: r => by
    show (if bytesBefore (f x) (f y) = true then x :: y :: r else y :: insN f x r).map g = if bytesBefore (f' (g x)) (f' (g y)) = true then g x :: g y :: r.map g else g y :: insN f' (g x) (r.map g)
    rw [h, h]
    split
    · rfl
    · rw [List.map_cons, insN_map f f' g h x r]

theorem delN_map (f : α → List UInt8) (f' : β → List UInt8) (g : α → β) (h : ∀ x, f' (g x) = f x) (n : List UInt8) (l : List α) : (delN f n l).map g = delN f' n (l.map g) := by
  unfold delN
  rw [List.filter_map]
  congr 1
  exact List.filter_congr (fun y _ => by simp [h])

theorem putN_map (f : α → List UInt8) (f' : β → List UInt8) (g : α → β) (h : ∀ x, f' (g x) = f x) (x : α) (l : List α) : (putN f x l).map g = putN f' (g x) (l.map g) := by
  unfold putN
  rw [insN_map f f' g h, delN_map f f' g h, h]

theorem findN_map (f : α → List UInt8) (f' : β → List UInt8) (g : α → β) (h : ∀ x, f' (g x) = f x) (n : List UInt8) (l : List α) : findN f' n (l.map g) = (findN f n l).map g := by
  unfold findN
  rw [List.find?_map]
  congr 2
  funext y
  simp [h]

theorem setN_map (f : α → List UInt8) (f' : β → List UInt8) (g : α → β) (h : ∀ x, f' (g x) = f x) (x : α) (l : List α) : (setN f x l).map g = setN f' (g x) (l.map g) := by
  unfold setN
  rw [List.map_map, List.map_map]
  refine List.map_congr_left (fun y _ => ?_)
  simp only [Function.comp, h]
  split <;> rfl

theorem mem_insN (f : α → List UInt8) (x : α) : ∀ (l : List α) (z : α), z ∈ insN f x l ↔ z = x ∨ z ∈ l
  | [], z => by simp [insN]
  | y :: r, z => by
    unfold insN
    split
    · simp
    · rw [List.mem_cons, mem_insN f x r z, List.mem_cons]
      constructor
      · rintro (h | h | h)
        · exact .inr (.inl h)
        · exact .inl h
        · exact .inr (.inr h)
      · rintro (h | h | h)
        · exact .inr (.inl h)
        · exact .inl h
        · exact .inr (.inr h)

theorem perm_insN (f : α → List UInt8) (x : α) : ∀ (l : List α), (insN f x l).Perm (x :: l)
  | [] => .refl _
  | y :: r => by
    unfold insN
    split
    · exact .refl _
    · exact ((perm_insN f x r).cons y).trans (List.Perm.swap x y r)

theorem findN_some {f : α → List UInt8} {n : List UInt8} {l : List α} {x : α} (h : findN f n l = some x) : x ∈ l ∧ f x = n :=
  ⟨List.mem_of_find?_eq_some h, by simpa using List.find?_some h⟩
theorem findN_none {f : α → List UInt8} {n : List UInt8} {l : List α} (h : findN f n l = none) : ∀ x ∈ l, f x ≠ n := fun x hx e => by
  have := List.find?_eq_none.1 h x hx
  simp [e] at this
theorem delN_none {f : α → List UInt8} {n : List UInt8} {l : List α} (h : findN f n l = none) : delN f n l = l := by
  unfold delN
  rw [List.filter_eq_self]
  intro y hy
  have := findN_none h y hy
  simpa using this
end

/-- A file: its name, its bytes, how many of them are durable. -/
structure F where
  n : List UInt8
  b : List Nat
  d : Nat

/-- A disk. -/
structure DM where
  room : Nat
  fs : List F
  down : Bool
  plan : Nat

def usedF (l : List F) : Nat := (l.map fun f => f.b.length).sum

/-- What a change does to the plan. -/
def failM (M : DM) : DM := if M.down = true then M else if M.plan = 1 then { M with plan := 0, down := true } else { M with plan := M.plan - 1 }

def okByte (c : UInt8) : Bool := (decide (97 ≤ c.toNat) && decide (c.toNat ≤ 122)) || (decide (48 ≤ c.toNat) && decide (c.toNat ≤ 57)) || c.toNat == 45 || c.toNat == 46
def named (n : List UInt8) : Bool := decide (1 ≤ n.length) && decide (n.length ≤ 100) && n.all okByte

/-- A change of the file with a name. -/
def chgM (M : DM) (n : List UInt8) (act : DM → DM × Int) : DM × Int := if (failM M).down = true then (failM M, 10) else if named n = true then act (failM M) else (failM M, 6)
def onM (n : List UInt8) (act : F → DM → DM × Int) (M : DM) : DM × Int := match findN F.n n M.fs with | none => (M, 6) | some f => act f M

def createM (n : List UInt8) (M : DM) : DM × Int := chgM M n fun M => match findN F.n n M.fs with | some _ => (M, 7) | none => ({ M with fs := putN F.n ⟨n, [], 0⟩ M.fs }, 0)
def appendM (n : List UInt8) (b : List Nat) (M : DM) : DM × Int := chgM M n (onM n fun f M => if usedF M.fs + b.length ≤ M.room then ({ M with fs := setN F.n ⟨n, f.b ++ b, f.d⟩ M.fs }, 0) else (M, 5))
def syncM (n : List UInt8) (M : DM) : DM × Int := chgM M n (onM n fun f M => ({ M with fs := setN F.n ⟨n, f.b, f.b.length⟩ M.fs }, 0))
def renameM (n to : List UInt8) (M : DM) : DM × Int := chgM M n (onM n fun f M => if named to = true then ({ M with fs := putN F.n ⟨to, f.b, f.d⟩ (delN F.n n M.fs) }, 0) else (M, 6))
def removeM (n : List UInt8) (M : DM) : DM × Int := chgM M n (onM n fun _ M => ({ M with fs := delN F.n n M.fs }, 0))
def readM (n : List UInt8) (M : DM) : List Nat × Int := if M.down = true then ([], 10) else match findN F.n n M.fs with | none => ([], 6) | some f => (f.b, 0)
def cutF (f : F) (k : Int) : F := ⟨f.n, f.b.take (f.d + min (max k 0).toNat (f.b.length - f.d)), f.d + min (max k 0).toNat (f.b.length - f.d)⟩
def crashM (ks : List Int) (M : DM) : DM := { M with fs := M.fs.mapIdx fun i f => cutF f (ks.getD i 0), down := false, plan := 0 }
def armM (k : Int) (M : DM) : DM := { M with plan := k.toNat }
def newM (room : Int) : DM := ⟨room.toNat, [], false, 0⟩

/-- A file in memory: the block of its struct, the slice that its bytes lie in. -/
structure FW where
  f : F
  blk : Nat
  v : Value

def FW.n (x : FW) : List UInt8 := x.f.n
def ent (x : FW) : Lit × DataW Unit := (.string x.n, .lit (.int .i64 (x.blk : Int)))
def dirD (L : List FW) : DataW Unit := .map (L.map ent)
/-- How a pointer to a file reads. -/
def ptrR : Value → Option (DataW Unit × List MemPlace)
  | .pointer none => some (.nil, [])
  | .pointer (some ⟨b, 0, none⟩) => some (.lit (.int .i64 (b : Int)), [])
  | _ => none
def fileV : Option FW → Value
  | none => .pointer none
  | some x => .pointer (some ⟨x.blk, 0, none⟩)

theorem insert_ent (x : FW) : ∀ L : List FW, DataW.insert (ent x) (L.map ent) = (insN FW.n x L).map ent
  | [] => rfl
  | y :: r => by
    show (if bytesBefore x.n y.n = true then ent x :: ent y :: r.map ent else ent y :: DataW.insert (ent x) (r.map ent)) = (if bytesBefore x.n y.n = true then x :: y :: r else y :: insN FW.n x r).map ent
    split
    · rfl
    · rw [List.map_cons, insert_ent x r]

theorem filter_ent (n : List UInt8) (L : List FW) : (L.map ent).filter (fun p => !p.1.sameKey (.string n)) = (delN FW.n n L).map ent := by
  unfold delN
  rw [List.filter_map]
  rfl

theorem dirD_put (x : FW) (L : List FW) : (dirD L).put (.string x.n) (.lit (.int .i64 (x.blk : Int))) = dirD (putN FW.n x L) := by
  show DataW.map (DataW.insert (ent x) ((L.map ent).filter fun p => !p.1.sameKey (.string x.n))) = _
  rw [filter_ent, insert_ent]
  rfl

theorem dirD_del (n : List UInt8) (L : List FW) : (dirD L).del (.string n) = dirD (delN FW.n n L) := by
  show DataW.map ((L.map ent).filter fun p => !p.1.sameKey (.string n)) = _
  rw [filter_ent]
  rfl

theorem dirD_at (n : List UInt8) (L : List FW) (z : DataW Unit) : (dirD L).atKey (.string n) z = match findN FW.n n L with | some x => .lit (.int .i64 (x.blk : Int)) | none => z := by
  unfold dirD DataW.atKey findN
  simp only
  rw [show (L.map ent).find? (fun p => p.1.sameKey (.string n)) = (L.find? fun y => y.n == n).map ent from List.find?_map]
  cases L.find? fun y => y.n == n <;> rfl

theorem dirD_keys (L : List FW) : strKeys (dirD L) = L.map FW.n := by
  show (L.map ent).map (fun p => strOf p.1) = _
  rw [List.map_map]
  rfl

theorem dirD_size (L : List FW) : Maps.size (dirD L) = L.length := List.length_map ..
end Go.Proofs.YtmiepigieajpcaaGreat

/- A disk in memory. -/
namespace Go.Proofs.YtmiepigieajpcaaGreat
open Go.RowKit Go.Maps

structure FileOk (w : World) (x : FW) : Prop where
  blk : w.heap[x.blk]? = some (.cells #[x.v, .int .i64 (x.f.d : Int)] 140 (0, 0))
  row : w.ownsRow 0 5 1 x.v x.f.b.length (u8s x.f.b)
  byte : ∀ c ∈ x.f.b, c < 256
  dur : x.f.d ≤ x.f.b.length

def fpOne (x : FW) : List Nat := x.blk :: x.v.ownBlock.toList
def fpOf (L : List FW) : List Nat := L.flatMap fpOne

/-- A disk whose struct lies in block d, its map in block mb, its files as L says; all blocks that it has are among S. -/
structure DiskAt (S : Nat → Prop) (w : World) (d mb : Nat) (p : Int) (L : List FW) (M : DM) : Prop where
  files : M.fs = L.map FW.f
  head : w.heap[d]? = some (.cells #[.int .i64 (M.room : Int), .map (some mb), .bool M.down, .int .i64 p] 118 (0, 0))
  plan : M.plan = p.toNat
  lo : -9223372036854775808 ≤ p
  hi : p < 9223372036854775808
  dir : w.ownsMap Tryz.prog 9 ptrR mb L.length (dirD L)
  ok : ∀ x ∈ L, FileOk w x
  apart : (d :: mb :: fpOf L).Nodup
  sub : ∀ b ∈ d :: mb :: fpOf L, S b
  bound : ∀ b, S b → b < w.heap.size
  used : usedF M.fs ≤ M.room
  room : M.room < 9223372036854775808

def DiskIn (S : Nat → Prop) (w : World) (d : Nat) (M : DM) : Prop := ∃ mb p L, DiskAt S w d mb p L M

/-- Nothing but blocks of S and new ones has turned. -/
structure Chg (S : Nat → Prop) (w w' : World) : Prop where
  os : w'.os = w.os
  tape : w'.tape = w.tape
  output : w'.output = w.output
  size : w.heap.size ≤ w'.heap.size
  block : ∀ b, b < w.heap.size → ¬ S b → w'.heap[b]? = w.heap[b]?

theorem Chg.refl (S : Nat → Prop) (w : World) : Chg S w w := ⟨rfl, rfl, rfl, Nat.le_refl _, fun _ _ _ => rfl⟩
theorem Chg.trans {S S1 : Nat → Prop} {w w1 w2 : World} (h : Chg S w w1) (h1 : Chg S1 w1 w2) (hs : ∀ b, S1 b → S b ∨ w.heap.size ≤ b) : Chg S w w2 :=
  ⟨h1.os.trans h.os, h1.tape.trans h.tape, h1.output.trans h.output, Nat.le_trans h.size h1.size, fun b hb hn =>
    (h1.block b (Nat.lt_of_lt_of_le hb h.size) (fun hb1 => (hs b hb1).elim hn (fun hle => absurd hle (by omega)))).trans (h.block b hb hn)⟩
theorem Chg.same {S : Nat → Prop} {w w1 w2 : World} (h : Chg S w w1) (h1 : Chg S w1 w2) : Chg S w w2 := h.trans h1 fun _ h => .inl h
theorem Chg.of_below {S : Nat → Prop} {w w' : World} (h : Below w.heap.size w w') : Chg S w w' := ⟨h.os, h.tape, h.output, h.size, fun b hb _ => h.block b hb⟩
theorem Chg.below {S : Nat → Prop} {w w' : World} {k : Nat} (h : Chg S w w') (hS : ∀ b, S b → k ≤ b) (hk : k ≤ w.heap.size) : Below k w w' :=
  ⟨h.os, h.tape, h.output, h.size, fun b hb => h.block b (by omega) (fun hs => absurd (hS b hs) (by omega))⟩
theorem Chg.grown {S : Nat → Prop} {w w' : World} {r : Option Nat} (h : w.grownBy w' r) (hr : ∀ k, r = some k → S k ∨ w.heap.size ≤ k) : Chg S w w' :=
  ⟨h.os, h.tape, h.output, h.size, fun b hb hn => h.block b hb (fun e => (hr b e.symm).elim hn (fun hle => absurd hle (by omega)))⟩
theorem Chg.set (S : Nat → Prop) (w : World) {g i : Nat} (hg : S g) (v : Value) : Chg S w (w.setCell ⟨g, i, none⟩ v) :=
  ⟨rfl, rfl, rfl, by simp, fun b _ hn => Below.heap_setCell w ⟨g, i, none⟩ v b (by rintro rfl; exact hn hg)⟩
theorem Chg.alloc (S : Nat → Prop) (w : World) (o : Obj) : Chg S w (w.alloc o) := Chg.of_below ((Below.refl _ _).alloc (Nat.le_refl _) _)
theorem Chg.drew (S : Nat → Prop) (w : World) : Chg S w w.drew := ⟨rfl, rfl, rfl, Nat.le_refl _, fun _ _ _ => rfl⟩
theorem Chg.cell {S : Nat → Prop} {w w' : World} (h : Chg S w w') {a : Addr} {v : Value} (hc : w.cell? a = some v) (hs : ¬ S a.block) : w'.cell? a = some v := by
  rw [World.cell?_of_block (h.block a.block (World.block_lt_of_cell? _ _ hc) hs)]
  exact hc

/-- What a call leaves of a disk. -/
def Step (S : Nat → Prop) (w : World) (d : Nat) (M' : DM) (w' : World) : Prop := ∃ S', DiskIn S' w' d M' ∧ (∀ b, S' b → S b ∨ w.heap.size ≤ b) ∧ Chg S w w'

theorem Step.same {S : Nat → Prop} {w w' : World} {d : Nat} {M : DM} (h : DiskIn S w' d M) (hc : Chg S w w') : Step S w d M w' := ⟨S, h, fun _ h => .inl h, hc⟩

theorem row_of_heap {w w' : World} {base n : Nat} {e : TypeId} {v : Value} {xs : List Value} (h : w.ownsRow base e 1 v n xs) (hk : ∀ b, v.ownBlock = some b → w'.heap[b]? = w.heap[b]?) : w'.ownsRow base e 1 v n xs := by
  refine ⟨h.1, ?_⟩
  rcases h.2 with hn | ⟨g, cap, cur, rfl, hbg, hg, rest⟩
  · exact .inl hn
  · exact .inr ⟨g, cap, cur, rfl, hbg, (hk g rfl).trans hg, rest⟩

theorem map_of_heap {w w' : World} {P : Program} {k : TypeId} {R : Value → Option (DataW Unit × List MemPlace)} {b n : Nat} {D : DataW Unit} (h : w.ownsMap P k R b n D) (hk : w'.heap[b]? = w.heap[b]?) : w'.ownsMap P k R b n D := by
  obtain ⟨es, clock, hb, r⟩ := h
  exact ⟨es, clock, hk.trans hb, r⟩

theorem FileOk.keep {w w' : World} {x : FW} (h : FileOk w x) (hk : ∀ b ∈ fpOne x, w'.heap[b]? = w.heap[b]?) : FileOk w' x :=
  ⟨(hk _ (List.mem_cons_self ..)).trans h.blk, row_of_heap h.row (fun b hb => hk b (List.mem_cons_of_mem _ (by simp [hb]))), h.byte, h.dur⟩

theorem mem_fpOf {L : List FW} {x : FW} (hx : x ∈ L) {b : Nat} (hb : b ∈ fpOne x) : b ∈ fpOf L := List.mem_flatMap.2 ⟨x, hx, hb⟩

/-- The disk in another world that holds the same in its blocks. -/
theorem DiskAt.keep {S S' : Nat → Prop} {w w' : World} {d mb : Nat} {p : Int} {L : List FW} {M : DM} (h : DiskAt S w d mb p L M) (hk : ∀ b ∈ d :: mb :: fpOf L, w'.heap[b]? = w.heap[b]?)
    (hs : ∀ b, S b → S' b) (hb : ∀ b, S' b → b < w'.heap.size) : DiskAt S' w' d mb p L M :=
  ⟨h.files, (hk d (by simp)).trans h.head, h.plan, h.lo, h.hi, map_of_heap h.dir (hk mb (by simp)), fun x hx => (h.ok x hx).keep (fun b hb => hk b (by simp [mem_fpOf hx hb])), h.apart, fun b hb => hs b (h.sub b hb), hb, h.used, h.room⟩

theorem DiskAt.below {S : Nat → Prop} {w w' : World} {d mb : Nat} {p : Int} {L : List FW} {M : DM} (h : DiskAt S w d mb p L M) (hb : Below w.heap.size w w') : DiskAt S w' d mb p L M :=
  h.keep (fun b hb' => hb.block b (h.bound b (h.sub b hb'))) (fun _ h => h) (fun b hs => Nat.lt_of_lt_of_le (h.bound b hs) hb.size)
theorem DiskIn.below {S : Nat → Prop} {w w' : World} {d : Nat} {M : DM} (h : DiskIn S w d M) (hb : Below w.heap.size w w') : DiskIn S w' d M := let ⟨mb, p, L, h⟩ := h; ⟨mb, p, L, h.below hb⟩
/-- .. while something else is written. -/
theorem DiskIn.aside {S T : Nat → Prop} {w w' : World} {d : Nat} {M : DM} (h : DiskIn S w d M) (hc : Chg T w w') (ht : ∀ b, S b → ¬ T b) : DiskIn S w' d M := by
  obtain ⟨mb, p, L, h⟩ := h
  exact ⟨mb, p, L, h.keep (fun b hb' => hc.block b (h.bound b (h.sub b hb')) (ht b (h.sub b hb'))) (fun _ h => h) (fun b hs => Nat.lt_of_lt_of_le (h.bound b hs) hc.size)⟩

theorem DiskAt.cells {S : Nat → Prop} {w : World} {d mb : Nat} {p : Int} {L : List FW} {M : DM} (h : DiskAt S w d mb p L M) :
    w.cell? ⟨d, 0, none⟩ = some (.int .i64 (M.room : Int)) ∧ w.cell? ⟨d, 1, none⟩ = some (.map (some mb)) ∧ w.cell? ⟨d, 2, none⟩ = some (.bool M.down) ∧ w.cell? ⟨d, 3, none⟩ = some (.int .i64 p) ∧
    ∀ i, w.frozen? ⟨d, i, none⟩ = false := by
  have hh := h.head
  refine ⟨?_, ?_, ?_, ?_, fun i => ?_⟩
  · rw [cell_of_row _ _ _ _ _ _ hh]; rfl
  · rw [cell_of_row _ _ _ _ _ _ hh]; rfl
  · rw [cell_of_row _ _ _ _ _ _ hh]; rfl
  · rw [cell_of_row _ _ _ _ _ _ hh]; rfl
  · simp [World.frozen?, hh]

theorem FileOk.cells {w : World} {x : FW} (h : FileOk w x) : w.cell? ⟨x.blk, 0, none⟩ = some x.v ∧ w.cell? ⟨x.blk, 1, none⟩ = some (.int .i64 (x.f.d : Int)) ∧ ∀ i, w.frozen? ⟨x.blk, i, none⟩ = false := by
  have hh := h.blk
  refine ⟨?_, ?_, fun i => ?_⟩
  · rw [cell_of_row _ _ _ _ _ _ hh]; rfl
  · rw [cell_of_row _ _ _ _ _ _ hh]; rfl
  · simp [World.frozen?, hh]

/-- A new state of the disk's own struct alone. -/
theorem DiskAt.head_set {S : Nat → Prop} {w w' : World} {d mb : Nat} {p p' : Int} {L : List FW} {M M' : DM} (h : DiskAt S w d mb p L M) (hc : Chg (fun b => b = d) w w') (hf : M'.fs = M.fs) (hr : M'.room = M.room)
    (hh : w'.heap[d]? = some (.cells #[.int .i64 (M'.room : Int), .map (some mb), .bool M'.down, .int .i64 p'] 118 (0, 0))) (hp : M'.plan = p'.toNat) (hlo : -9223372036854775808 ≤ p') (hhi : p' < 9223372036854775808) :
    DiskAt S w' d mb p' L M' := by
  have hnd := List.nodup_cons.1 h.apart
  have hk : ∀ b ∈ mb :: fpOf L, w'.heap[b]? = w.heap[b]? := fun b hb => hc.block b (h.bound b (h.sub b (List.mem_cons_of_mem _ hb))) (fun e => hnd.1 (e ▸ hb))
  exact ⟨hf.trans h.files, hh, hp, hlo, hhi, map_of_heap h.dir (hk mb (by simp)), fun x hx => (h.ok x hx).keep (fun b hb => hk b (by simp [mem_fpOf hx hb])), h.apart, h.sub, fun b hs => Nat.lt_of_lt_of_le (h.bound b hs) hc.size,
    by rw [hf, hr]; exact h.used, by rw [hr]; exact h.room⟩

theorem set_head {w : World} {d i : Nat} {cs : Array Value} {t : TypeId} {m : Nat × Nat} (h : w.heap[d]? = some (.cells cs t m)) (v : Value) : (w.setCell ⟨d, i, none⟩ v).heap[d]? = some (.cells (cs.setIfInBounds i v) t m) := by
  simp [World.setCell, Array.getElem?_modify, h]

theorem keyN (n : List UInt8) (hn : n.length ≤ 9223372036854775807) : keyOf Tryz.prog 9 (encStr n) = some (.string n) :=
  WideMaps.keyOf_string_mk Tryz.underlying9 (by rw [maxLen_nat]; show (n.toArray).size ≤ _; simpa using hn)

theorem mapKey : Keyed Tryz.prog 9 := string_keyed Tryz.underlying9

theorem ptrR_fileV {x : Option FW} {v : Value} {ps : List MemPlace} (h : ptrR v = some (match x with | some x => .lit (.int .i64 (x.blk : Int)) | none => .nil, ps)) : v = fileV x := by
  unfold ptrR at h
  split at h
  · cases x
    · rfl
    · cases h
  · cases x
    · cases h
    · rename_i b x
      simp at h
      have e : b = x.blk := by omega
      rw [e]
      rfl
  · cases h

/-- 'files[name]'. -/
theorem DiskAt.look {S : Nat → Prop} {w : World} {d mb : Nat} {p : Int} {L : List FW} {M : DM} (h : DiskAt S w d mb p L M) (n : List UInt8) (hn : n.length ≤ 9223372036854775807) :
    (Instr.lookup 116 (.map (some mb)) (encStr n) false).run Tryz.prog w = .ok (fileV (findN FW.n n L)) w := by
  have hz : (zeroValue 125).run Tryz.prog w = .ok (.pointer none) w := by kernel_rfl
  obtain ⟨v, ps, hrun, hv⟩ := h.dir.lookup mapKey Tryz.underlying116 hz (zd := .nil) (zp := []) rfl (keyN n hn)
  rw [dirD_at] at hv
  rw [hrun, ptrR_fileV hv]
end Go.Proofs.YtmiepigieajpcaaGreat

/- The walks of a disk's fails and possible. -/
namespace Go.Proofs.YtmiepigieajpcaaGreat
open Go.RowKit Go.Maps

theorem chg_d (w : World) (d i : Nat) (v : Value) : Chg (fun b => b = d) w (w.setCell ⟨d, i, none⟩ v) := Chg.set (fun b => b = d) w rfl v

set_option maxRecDepth 100000 in
set_option maxHeartbeats 1600000 in
theorem fails_any {S : Nat → Prop} {w : World} {d mb : Nat} {p : Int} {L : List FW} {M : DM} (h : DiskAt S w d mb p L M) :
    Calls Tryz.prog 126 #[.pointer (some ⟨d, 0, none⟩)] w fun e w' => e = .returned (.bool (failM M).down) ∧ (∃ p', DiskAt S w' d mb p' L (failM M)) ∧ Chg S w w' ∧ w'.heap.size = w.heap.size := by
  obtain ⟨c0, c1, c2, c3, fr⟩ := h.cells
  have f2 := fr 2
  have f3 := fr 3
  have H := Lib.hid h
  have hp := h.plan
  have hlo := h.lo
  have hhi := h.hi
  have hSd := Lib.hid (h.sub d (by simp))
  clear h fr
  cases hdn : M.down with
  | true =>
    have hf : failM M = M := by unfold failM; rw [if_pos hdn]
    rw [hf]
    have Hdn := Lib.hid hdn
    rw [hdn] at c2
    clear hf hp hdn
    go_enter Tryz.func126, Tryz.ntmps126
    go_wp2
    go_ret
    exact ⟨by rw [Hdn.out]; rfl, ⟨p, H.out⟩, Chg.refl _ _, rfl⟩
  | false =>
    have Hdn := Lib.hid hdn
    have Hp := Lib.hid hp
    rw [hdn] at c2
    clear hp hdn
    by_cases hp0 : 0 < p
    · obtain ⟨q, rfl⟩ : ∃ q : Nat, p = (q : Int) + 1 := ⟨(p - 1).toNat, by omega⟩
      have hq : (q : Int) + 1 - 1 = (q : Int) := by omega
      have hplan : M.plan = q + 1 := by rw [Hp.out]; omega
      by_cases hq0 : q = 0
      · have Hf := Lib.hid (show failM M = { M with plan := 0, down := true } from by unfold failM; rw [if_neg (by rw [Hdn.out]; decide), if_pos (by omega)])
        have HE := Lib.hid (H.out.head_set (M' := { M with plan := 0, down := true }) (p' := 0) (w' := ((w.setCell ⟨d, 3, none⟩ (.int .i64 0)).setCell ⟨d, 2, none⟩ (.bool true)))
          ((chg_d w d 3 _).same (chg_d _ d 2 _)) rfl rfl (by have := set_head (i := 2) (set_head (i := 3) H.out.head (.int .i64 0)) (.bool true); simpa using this) rfl (by decide) (by decide))
        have HC := Lib.hid (((Chg.set S w (i := 3) hSd.out (.int .i64 0))).same (Chg.set S (w.setCell ⟨d, 3, none⟩ (.int .i64 0)) (i := 2) hSd.out (.bool true)))
        subst hq0
        clear hplan hlo hhi
        go_enter Tryz.func126, Tryz.ntmps126
        go_wp2
        go_ret
        rw [Hf.out]
        exact ⟨rfl, ⟨0, HE.out⟩, HC.out, by simp⟩
      · have Hf := Lib.hid (show failM M = { M with plan := q, down := false } from by
          unfold failM
          rw [if_neg (by rw [Hdn.out]; decide), if_neg (by omega), hplan, ← Hdn.out]
          rfl)
        have HE := Lib.hid (H.out.head_set (M' := { M with plan := q, down := false }) (p' := (q : Int)) (w' := ((w.setCell ⟨d, 3, none⟩ (.int .i64 (q : Int))).setCell ⟨d, 2, none⟩ (.bool false)))
          ((chg_d w d 3 _).same (chg_d _ d 2 _)) rfl rfl (by have := set_head (i := 2) (set_head (i := 3) H.out.head (.int .i64 (q : Int))) (.bool false); simpa using this) (by simp) (by omega) (by omega))
        have HC := Lib.hid (((Chg.set S w (i := 3) hSd.out (.int .i64 (q : Int)))).same (Chg.set S (w.setCell ⟨d, 3, none⟩ (.int .i64 (q : Int))) (i := 2) hSd.out (.bool false)))
        have hz : ((q : Int) == 0) = false := beq_eq_false_iff_ne.2 (by omega)
        have hp1 : (0 : Int) < (q : Int) + 1 := by omega
        clear hplan hq0
        go_enter Tryz.func126, Tryz.ntmps126
        go_wp2
        go_ret
        rw [Hf.out]
        exact ⟨rfl, ⟨(q : Int), HE.out⟩, HC.out, by simp⟩
    · have Hf := Lib.hid (show failM M = M from by
        have h0 : M.plan = 0 := by rw [Hp.out]; omega
        unfold failM
        rw [if_neg (by rw [Hdn.out]; decide), if_neg (by omega), h0]
        cases M
        cases h0
        rfl)
      have hz : decide (0 < p) = false := decide_eq_false hp0
      clear hp0 hlo hhi
      rw [Hf.out]
      go_enter Tryz.func126, Tryz.ntmps126
      go_wp2
      go_ret
      exact ⟨by rw [Hdn.out]; rfl, ⟨p, H.out⟩, Chg.refl _ _, rfl⟩

theorem encStr_size (n : List UInt8) : (⟨n.toArray⟩ : ByteArray).size = n.length := by show (n.toArray).size = _; simp

theorem byte_at (n : List UInt8) (k : Nat) (hk : k < n.length) : (⟨n.toArray⟩ : ByteArray)[k]'(by rw [encStr_size]; exact hk) = n[k] := by
  show n.toArray[k]'(by simpa using hk) = _
  simp

theorem all_next {n : List UInt8} {k : Nat} (hk : k < n.length) (h : (n.take k).all okByte = true) (hx : okByte n[k] = true) : (n.take (k + 1)).all okByte = true := by
  rw [List.take_succ_eq_append_getElem hk, List.all_append, h]
  simpa using hx

theorem all_bad {n : List UInt8} {k : Nat} (hk : k < n.length) (hx : okByte n[k] = false) : n.all okByte = false := by
  rw [List.all_eq_false]
  exact ⟨n[k], List.getElem_mem _, by rw [hx]; decide⟩

theorem okByte_cases (c : UInt8) : (okByte c = true ∧ ((97 ≤ c.toNat ∧ c.toNat ≤ 122) ∨ (48 ≤ c.toNat ∧ c.toNat ≤ 57) ∨ c.toNat = 45 ∨ c.toNat = 46)) ∨
    (okByte c = false ∧ (c.toNat < 45 ∨ c.toNat = 47 ∨ (58 ≤ c.toNat ∧ c.toNat < 97) ∨ 122 < c.toNat)) := by
  unfold okByte
  simp only [Bool.or_eq_true, Bool.and_eq_true, decide_eq_true_eq, beq_iff_eq, Bool.or_eq_false_iff, Bool.and_eq_false_iff, decide_eq_false_iff_not, beq_eq_false_iff_ne]
  omega

set_option maxRecDepth 100000 in
set_option maxHeartbeats 6400000 in
theorem possible_any (n : List UInt8) (w : World) :
    Calls Tryz.prog 127 #[encStr n] w fun e w' => e = .returned (.bool (named n)) ∧ w' = w := by
  have hsz := encStr_size n
  change Calls _ _ #[.string ⟨n.toArray⟩] _ _
  by_cases h0 : n.length < 1
  · have hr := Lib.hid (show named n = false from by unfold named; rw [decide_eq_false (by omega)]; rfl)
    have h0' : ((n.length : Nat) : Int) < 1 := by omega
    generalize (⟨n.toArray⟩ : ByteArray) = s at *
    go_enter Tryz.func127, Tryz.ntmps127
    go_wp2
    go_ret
    exact ⟨ret_bool hr.out.symm, rfl⟩
  · by_cases h1 : 100 < n.length
    · have hr := Lib.hid (show named n = false from by unfold named; rw [decide_eq_false (show ¬ n.length ≤ 100 by omega), Bool.and_false]; rfl)
      have h0' : ¬ ((n.length : Nat) : Int) < 1 := by omega
      have h1' : (100 : Int) < ((n.length : Nat) : Int) := by omega
      generalize (⟨n.toArray⟩ : ByteArray) = s at *
      go_enter Tryz.func127, Tryz.ntmps127
      go_wp2
      go_ret
      exact ⟨ret_bool hr.out.symm, rfl⟩
    · have hr := Lib.hid (show named n = n.all okByte from by unfold named; rw [decide_eq_true (show 1 ≤ n.length by omega), decide_eq_true (show n.length ≤ 100 by omega)]; rfl)
      have h0' : ¬ ((n.length : Nat) : Int) < 1 := by omega
      have h1' : ¬ (100 : Int) < ((n.length : Nat) : Int) := by omega
      have hlen : n.length ≤ 100 := by omega
      have hget := Lib.hid (show ∀ k (h : k < (⟨n.toArray⟩ : ByteArray).size) (hk : k < n.length), (⟨n.toArray⟩ : ByteArray)[k]'h = n[k] from fun k _ hk => byte_at n k hk)
      have hsz' := Lib.hid hsz
      clear h0 h1
      generalize hs : (⟨n.toArray⟩ : ByteArray) = s at *
      clear hs
      go_enter Tryz.func127, Tryz.ntmps127
      go_wp2
      go_loopw [3] (fun i wr => ∃ k : Nat, k ≤ n.length ∧ i = .int .i64 (k : Int) ∧ (n.take k).all okByte = true ∧ wr = w) (fun i _ => n.length - (intOf i).toNat)
      case atStart => exact ⟨0, Nat.zero_le _, rfl, by simp, rfl⟩
      case round =>
        obtain ⟨k, hk, rfl, hall, rfl⟩ := hrel
        have Hall := Lib.hid hall
        clear hall
        by_cases hlt : k < n.length
        · have hlt' : (k : Int) < ((n.length : Nat) : Int) := by omega
          have hks : k < s.size := by rw [hsz'.out]; exact hlt
          obtain ⟨c, hc⟩ : ∃ c : UInt8, n[k] = c := ⟨_, rfl⟩
          have hx : s[k]'hks = c := by rw [hget.out k hks hlt, hc]
          have Hc := Lib.hid hc
          clear hc
          rcases okByte_cases c with ⟨hok, hcase⟩ | ⟨hok, hcase⟩
          · have Hok := Lib.hid hok
            clear hok
            rcases hcase with hcase | hcase | hcase | hcase
            · have a1 : (97 : Int) ≤ (c.toNat : Int) := by omega
              have a2 : (c.toNat : Int) ≤ 122 := by omega
              have a3 : (48 : Int) ≤ (c.toNat : Int) := by omega
              have a4 : ¬ (c.toNat : Int) ≤ 57 := by omega
              clear hcase
              go_wp2
              go_roundw
              case rel => exact ⟨k + 1, by omega, by go_num, all_next hlt Hall.out (by rw [Hc.out]; exact Hok.out), by first | rfl | trivial⟩
              case measure => simp [intOf]; omega
            · have a1 : ¬ (97 : Int) ≤ (c.toNat : Int) := by omega
              have a3 : (48 : Int) ≤ (c.toNat : Int) := by omega
              have a4 : (c.toNat : Int) ≤ 57 := by omega
              clear hcase
              go_wp2
              go_roundw
              case rel => exact ⟨k + 1, by omega, by go_num, all_next hlt Hall.out (by rw [Hc.out]; exact Hok.out), by first | rfl | trivial⟩
              case measure => simp [intOf]; omega
            · have a1 : ¬ (97 : Int) ≤ (c.toNat : Int) := by omega
              have a3 : ¬ (48 : Int) ≤ (c.toNat : Int) := by omega
              have b1 : ((c.toNat : Int) != 45) = false := by rw [bne_eq_false_iff_eq]; omega
              clear hcase
              go_wp2
              go_roundw
              case rel => exact ⟨k + 1, by omega, by go_num, all_next hlt Hall.out (by rw [Hc.out]; exact Hok.out), by first | rfl | trivial⟩
              case measure => simp [intOf]; omega
            · have a1 : ¬ (97 : Int) ≤ (c.toNat : Int) := by omega
              have a3 : ¬ (48 : Int) ≤ (c.toNat : Int) := by omega
              have b1 : ((c.toNat : Int) != 45) = true := bne_iff_ne.2 (by omega)
              have b2 : ((c.toNat : Int) != 46) = false := by rw [bne_eq_false_iff_eq]; omega
              clear hcase
              go_wp2
              go_roundw
              case rel => exact ⟨k + 1, by omega, by go_num, all_next hlt Hall.out (by rw [Hc.out]; exact Hok.out), by first | rfl | trivial⟩
              case measure => simp [intOf]; omega
          · have Hok := Lib.hid hok
            clear hok
            rcases hcase with hcase | hcase | hcase | hcase
            · have a1 : ¬ (97 : Int) ≤ (c.toNat : Int) := by omega
              have a3 : ¬ (48 : Int) ≤ (c.toNat : Int) := by omega
              have b1 : ((c.toNat : Int) != 45) = true := bne_iff_ne.2 (by omega)
              have b2 : ((c.toNat : Int) != 46) = true := bne_iff_ne.2 (by omega)
              clear hcase
              go_wp2
              go_ret
              exact ⟨ret_bool (by rw [hr.out, all_bad hlt (by rw [Hc.out]; exact Hok.out)]), rfl⟩
            · have a1 : ¬ (97 : Int) ≤ (c.toNat : Int) := by omega
              have a3 : ¬ (48 : Int) ≤ (c.toNat : Int) := by omega
              have b1 : ((c.toNat : Int) != 45) = true := bne_iff_ne.2 (by omega)
              have b2 : ((c.toNat : Int) != 46) = true := bne_iff_ne.2 (by omega)
              clear hcase
              go_wp2
              go_ret
              exact ⟨ret_bool (by rw [hr.out, all_bad hlt (by rw [Hc.out]; exact Hok.out)]), rfl⟩
            · have a1 : ¬ (97 : Int) ≤ (c.toNat : Int) := by omega
              have a3 : (48 : Int) ≤ (c.toNat : Int) := by omega
              have a4 : ¬ (c.toNat : Int) ≤ 57 := by omega
              have b1 : ((c.toNat : Int) != 45) = true := bne_iff_ne.2 (by omega)
              have b2 : ((c.toNat : Int) != 46) = true := bne_iff_ne.2 (by omega)
              clear hcase
              go_wp2
              go_ret
              exact ⟨ret_bool (by rw [hr.out, all_bad hlt (by rw [Hc.out]; exact Hok.out)]), rfl⟩
            · have a1 : (97 : Int) ≤ (c.toNat : Int) := by omega
              have a2 : ¬ (c.toNat : Int) ≤ 122 := by omega
              have a3 : (48 : Int) ≤ (c.toNat : Int) := by omega
              have a4 : ¬ (c.toNat : Int) ≤ 57 := by omega
              have b1 : ((c.toNat : Int) != 45) = true := bne_iff_ne.2 (by omega)
              have b2 : ((c.toNat : Int) != 46) = true := bne_iff_ne.2 (by omega)
              clear hcase
              go_wp2
              go_ret
              exact ⟨ret_bool (by rw [hr.out, all_bad hlt (by rw [Hc.out]; exact Hok.out)]), rfl⟩
        · have hlt' : ¬ (k : Int) < ((n.length : Nat) : Int) := by omega
          have hk2 : k = n.length := by omega
          have hr2 := Lib.hid (show named n = true from by rw [hr.out]; have := Hall.out; rwa [hk2, List.take_length] at this)
          clear hk2
          go_wp2
          go_ret
          exact ⟨ret_bool hr2.out.symm, rfl⟩
end Go.Proofs.YtmiepigieajpcaaGreat

