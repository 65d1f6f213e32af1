/- A disk in memory. -/
import Derived.Test.YtdnbjpfapfnpaaaDkM
namespace Go.Proofs.Ytdnbjpfapfnpaaa
open Go.RowKit Go.Maps

structure FileOk (w : World) (x : FW) : Prop where
  blk : w.heap[x.blk]? = some (.cells #[x.v, .int .i64 (x.f.d : Int)] 70 (0, 0))
  row : w.ownsRow 0 5 1 x.v x.f.b.length (u8s x.f.b)
  byte : ∀ c ∈ x.f.b, c < 256
  dur : x.f.d ≤ x.f.b.length

def fpOne (x : FW) : List Nat := x.blk :: x.v.ownBlock.toList
def fpOf (L : List FW) : List Nat := L.flatMap fpOne

/-- A disk whose struct lies in block d, its map in block mb, its files as L says; all blocks that it has are among S. -/
structure DiskAt (S : Nat → Prop) (w : World) (d mb : Nat) (p : Int) (L : List FW) (M : DM) : Prop where
  files : M.fs = L.map FW.f
  head : w.heap[d]? = some (.cells #[.int .i64 (M.room : Int), .map (some mb), .bool M.down, .int .i64 p] 49 (0, 0))
  plan : M.plan = p.toNat
  lo : -9223372036854775808 ≤ p
  hi : p < 9223372036854775808
  dir : w.ownsMap Try.prog 9 ptrR mb L.length (dirD L)
  ok : ∀ x ∈ L, FileOk w x
  apart : (d :: mb :: fpOf L).Nodup
  sub : ∀ b ∈ d :: mb :: fpOf L, S b
  bound : ∀ b, S b → b < w.heap.size
  used : usedF M.fs ≤ M.room
  room : M.room < 9223372036854775808

def DiskIn (S : Nat → Prop) (w : World) (d : Nat) (M : DM) : Prop := ∃ mb p L, DiskAt S w d mb p L M

/-- Nothing but blocks of S and new ones has turned. -/
structure Chg (S : Nat → Prop) (w w' : World) : Prop where
  os : w'.os = w.os
  tape : w'.tape = w.tape
  output : w'.output = w.output
  size : w.heap.size ≤ w'.heap.size
  block : ∀ b, b < w.heap.size → ¬ S b → w'.heap[b]? = w.heap[b]?

theorem Chg.refl (S : Nat → Prop) (w : World) : Chg S w w := ⟨rfl, rfl, rfl, Nat.le_refl _, fun _ _ _ => rfl⟩
theorem Chg.trans {S S1 : Nat → Prop} {w w1 w2 : World} (h : Chg S w w1) (h1 : Chg S1 w1 w2) (hs : ∀ b, S1 b → S b ∨ w.heap.size ≤ b) : Chg S w w2 :=
  ⟨h1.os.trans h.os, h1.tape.trans h.tape, h1.output.trans h.output, Nat.le_trans h.size h1.size, fun b hb hn =>
    (h1.block b (Nat.lt_of_lt_of_le hb h.size) (fun hb1 => (hs b hb1).elim hn (fun hle => absurd hle (by omega)))).trans (h.block b hb hn)⟩
theorem Chg.same {S : Nat → Prop} {w w1 w2 : World} (h : Chg S w w1) (h1 : Chg S w1 w2) : Chg S w w2 := h.trans h1 fun _ h => .inl h
theorem Chg.of_below {S : Nat → Prop} {w w' : World} (h : Below w.heap.size w w') : Chg S w w' := ⟨h.os, h.tape, h.output, h.size, fun b hb _ => h.block b hb⟩
theorem Chg.below {S : Nat → Prop} {w w' : World} {k : Nat} (h : Chg S w w') (hS : ∀ b, S b → k ≤ b) (hk : k ≤ w.heap.size) : Below k w w' :=
  ⟨h.os, h.tape, h.output, h.size, fun b hb => h.block b (by omega) (fun hs => absurd (hS b hs) (by omega))⟩
theorem Chg.grown {S : Nat → Prop} {w w' : World} {r : Option Nat} (h : w.grownBy w' r) (hr : ∀ k, r = some k → S k ∨ w.heap.size ≤ k) : Chg S w w' :=
  ⟨h.os, h.tape, h.output, h.size, fun b hb hn => h.block b hb (fun e => (hr b e.symm).elim hn (fun hle => absurd hle (by omega)))⟩
theorem Chg.set (S : Nat → Prop) (w : World) {g i : Nat} (hg : S g) (v : Value) : Chg S w (w.setCell ⟨g, i, none⟩ v) :=
  ⟨rfl, rfl, rfl, by simp, fun b _ hn => Below.heap_setCell w ⟨g, i, none⟩ v b (by rintro rfl; exact hn hg)⟩
theorem Chg.alloc (S : Nat → Prop) (w : World) (o : Obj) : Chg S w (w.alloc o) := Chg.of_below ((Below.refl _ _).alloc (Nat.le_refl _) _)
theorem Chg.drew (S : Nat → Prop) (w : World) : Chg S w w.drew := ⟨rfl, rfl, rfl, Nat.le_refl _, fun _ _ _ => rfl⟩
theorem Chg.cell {S : Nat → Prop} {w w' : World} (h : Chg S w w') {a : Addr} {v : Value} (hc : w.cell? a = some v) (hs : ¬ S a.block) : w'.cell? a = some v := by
  rw [World.cell?_of_block (h.block a.block (World.block_lt_of_cell? _ _ hc) hs)]
  exact hc

/-- What a call leaves of a disk. -/
def Step (S : Nat → Prop) (w : World) (d : Nat) (M' : DM) (w' : World) : Prop := ∃ S', DiskIn S' w' d M' ∧ (∀ b, S' b → S b ∨ w.heap.size ≤ b) ∧ Chg S w w'

theorem Step.same {S : Nat → Prop} {w w' : World} {d : Nat} {M : DM} (h : DiskIn S w' d M) (hc : Chg S w w') : Step S w d M w' := ⟨S, h, fun _ h => .inl h, hc⟩

theorem row_of_heap {w w' : World} {base n : Nat} {e : TypeId} {v : Value} {xs : List Value} (h : w.ownsRow base e 1 v n xs) (hk : ∀ b, v.ownBlock = some b → w'.heap[b]? = w.heap[b]?) : w'.ownsRow base e 1 v n xs := by
  refine ⟨h.1, ?_⟩
  rcases h.2 with hn | ⟨g, cap, cur, rfl, hbg, hg, rest⟩
  · exact .inl hn
  · exact .inr ⟨g, cap, cur, rfl, hbg, (hk g rfl).trans hg, rest⟩

theorem map_of_heap {w w' : World} {P : Program} {k : TypeId} {R : Value → Option (DataW Unit × List MemPlace)} {b n : Nat} {D : DataW Unit} (h : w.ownsMap P k R b n D) (hk : w'.heap[b]? = w.heap[b]?) : w'.ownsMap P k R b n D := by
  obtain ⟨es, clock, hb, r⟩ := h
  exact ⟨es, clock, hk.trans hb, r⟩

theorem FileOk.keep {w w' : World} {x : FW} (h : FileOk w x) (hk : ∀ b ∈ fpOne x, w'.heap[b]? = w.heap[b]?) : FileOk w' x :=
  ⟨(hk _ (List.mem_cons_self ..)).trans h.blk, row_of_heap h.row (fun b hb => hk b (List.mem_cons_of_mem _ (by simp [hb]))), h.byte, h.dur⟩

theorem mem_fpOf {L : List FW} {x : FW} (hx : x ∈ L) {b : Nat} (hb : b ∈ fpOne x) : b ∈ fpOf L := List.mem_flatMap.2 ⟨x, hx, hb⟩

/-- The disk in another world that holds the same in its blocks. -/
theorem DiskAt.keep {S S' : Nat → Prop} {w w' : World} {d mb : Nat} {p : Int} {L : List FW} {M : DM} (h : DiskAt S w d mb p L M) (hk : ∀ b ∈ d :: mb :: fpOf L, w'.heap[b]? = w.heap[b]?)
    (hs : ∀ b, S b → S' b) (hb : ∀ b, S' b → b < w'.heap.size) : DiskAt S' w' d mb p L M :=
  ⟨h.files, (hk d (by simp)).trans h.head, h.plan, h.lo, h.hi, map_of_heap h.dir (hk mb (by simp)), fun x hx => (h.ok x hx).keep (fun b hb => hk b (by simp [mem_fpOf hx hb])), h.apart, fun b hb => hs b (h.sub b hb), hb, h.used, h.room⟩

theorem DiskAt.below {S : Nat → Prop} {w w' : World} {d mb : Nat} {p : Int} {L : List FW} {M : DM} (h : DiskAt S w d mb p L M) (hb : Below w.heap.size w w') : DiskAt S w' d mb p L M :=
  h.keep (fun b hb' => hb.block b (h.bound b (h.sub b hb'))) (fun _ h => h) (fun b hs => Nat.lt_of_lt_of_le (h.bound b hs) hb.size)
theorem DiskIn.below {S : Nat → Prop} {w w' : World} {d : Nat} {M : DM} (h : DiskIn S w d M) (hb : Below w.heap.size w w') : DiskIn S w' d M := let ⟨mb, p, L, h⟩ := h; ⟨mb, p, L, h.below hb⟩
/-- .. while something else is written. -/
theorem DiskIn.aside {S T : Nat → Prop} {w w' : World} {d : Nat} {M : DM} (h : DiskIn S w d M) (hc : Chg T w w') (ht : ∀ b, S b → ¬ T b) : DiskIn S w' d M := by
  obtain ⟨mb, p, L, h⟩ := h
  exact ⟨mb, p, L, h.keep (fun b hb' => hc.block b (h.bound b (h.sub b hb')) (ht b (h.sub b hb'))) (fun _ h => h) (fun b hs => Nat.lt_of_lt_of_le (h.bound b hs) hc.size)⟩

theorem DiskAt.cells {S : Nat → Prop} {w : World} {d mb : Nat} {p : Int} {L : List FW} {M : DM} (h : DiskAt S w d mb p L M) :
    w.cell? ⟨d, 0, none⟩ = some (.int .i64 (M.room : Int)) ∧ w.cell? ⟨d, 1, none⟩ = some (.map (some mb)) ∧ w.cell? ⟨d, 2, none⟩ = some (.bool M.down) ∧ w.cell? ⟨d, 3, none⟩ = some (.int .i64 p) ∧
    ∀ i, w.frozen? ⟨d, i, none⟩ = false := by
  have hh := h.head
  refine ⟨?_, ?_, ?_, ?_, fun i => ?_⟩
  · rw [cell_of_row _ _ _ _ _ _ hh]; rfl
  · rw [cell_of_row _ _ _ _ _ _ hh]; rfl
  · rw [cell_of_row _ _ _ _ _ _ hh]; rfl
  · rw [cell_of_row _ _ _ _ _ _ hh]; rfl
  · simp [World.frozen?, hh]

theorem FileOk.cells {w : World} {x : FW} (h : FileOk w x) : w.cell? ⟨x.blk, 0, none⟩ = some x.v ∧ w.cell? ⟨x.blk, 1, none⟩ = some (.int .i64 (x.f.d : Int)) ∧ ∀ i, w.frozen? ⟨x.blk, i, none⟩ = false := by
  have hh := h.blk
  refine ⟨?_, ?_, fun i => ?_⟩
  · rw [cell_of_row _ _ _ _ _ _ hh]; rfl
  · rw [cell_of_row _ _ _ _ _ _ hh]; rfl
  · simp [World.frozen?, hh]

/-- A new state of the disk's own struct alone. -/
theorem DiskAt.head_set {S : Nat → Prop} {w w' : World} {d mb : Nat} {p p' : Int} {L : List FW} {M M' : DM} (h : DiskAt S w d mb p L M) (hc : Chg (fun b => b = d) w w') (hf : M'.fs = M.fs) (hr : M'.room = M.room)
    (hh : w'.heap[d]? = some (.cells #[.int .i64 (M'.room : Int), .map (some mb), .bool M'.down, .int .i64 p'] 49 (0, 0))) (hp : M'.plan = p'.toNat) (hlo : -9223372036854775808 ≤ p') (hhi : p' < 9223372036854775808) :
    DiskAt S w' d mb p' L M' := by
  have hnd := List.nodup_cons.1 h.apart
  have hk : ∀ b ∈ mb :: fpOf L, w'.heap[b]? = w.heap[b]? := fun b hb => hc.block b (h.bound b (h.sub b (List.mem_cons_of_mem _ hb))) (fun e => hnd.1 (e ▸ hb))
  exact ⟨hf.trans h.files, hh, hp, hlo, hhi, map_of_heap h.dir (hk mb (by simp)), fun x hx => (h.ok x hx).keep (fun b hb => hk b (by simp [mem_fpOf hx hb])), h.apart, h.sub, fun b hs => Nat.lt_of_lt_of_le (h.bound b hs) hc.size,
    by rw [hf, hr]; exact h.used, by rw [hr]; exact h.room⟩

theorem set_head {w : World} {d i : Nat} {cs : Array Value} {t : TypeId} {m : Nat × Nat} (h : w.heap[d]? = some (.cells cs t m)) (v : Value) : (w.setCell ⟨d, i, none⟩ v).heap[d]? = some (.cells (cs.setIfInBounds i v) t m) := by
  simp [World.setCell, Array.getElem?_modify, h]

theorem keyN (n : List UInt8) (hn : n.length ≤ 9223372036854775807) : keyOf Try.prog 9 (encStr n) = some (.string n) :=
  WideMaps.keyOf_string_mk Try.underlying9 (by rw [maxLen_nat]; show (n.toArray).size ≤ _; simpa using hn)

theorem mapKey : Keyed Try.prog 9 := string_keyed Try.underlying9

theorem ptrR_fileV {x : Option FW} {v : Value} {ps : List MemPlace} (h : ptrR v = some (match x with | some x => .lit (.int .i64 (x.blk : Int)) | none => .nil, ps)) : v = fileV x := by
  unfold ptrR at h
  split at h
  · cases x
    · rfl
    · cases h
  · cases x
    · cases h
    · rename_i b x
      simp at h
      have e : b = x.blk := by omega
      rw [e]
      rfl
  · cases h

/-- 'files[name]'. -/
theorem DiskAt.look {S : Nat → Prop} {w : World} {d mb : Nat} {p : Int} {L : List FW} {M : DM} (h : DiskAt S w d mb p L M) (n : List UInt8) (hn : n.length ≤ 9223372036854775807) :
    (Instr.lookup 47 (.map (some mb)) (encStr n) false).run Try.prog w = .ok (fileV (findN FW.n n L)) w := by
  have hz : (zeroValue 68).run Try.prog w = .ok (.pointer none) w := by kernel_rfl
  obtain ⟨v, ps, hrun, hv⟩ := h.dir.lookup mapKey Try.underlying47 hz (zd := .nil) (zp := []) rfl (keyN n hn)
  rw [dirD_at] at hv
  rw [hrun, ptrR_fileV hv]
end Go.Proofs.Ytdnbjpfapfnpaaa
