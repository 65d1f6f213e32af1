import Derived.Test.YtngnbmaocdadaaaMN8
import Derived.Test.YtngnbmaocdadaaaMN6
import Derived.Outline
import Derived.StillTailTactics
/- The walk of a log's take, whatever its steps do; a log in memory. -/
namespace Go.Proofs.Ytngnbmaocdadaaa
open Go.RowKit Go.Maps Go.Shelf

/-- A step: the function that it runs, what this has captured, and where the log goes on. -/
structure StepD where
  k : Nat
  caps : Array Value
  n : Int
  s : Int
  z : Int

def StepD.cells (x : StepD) : Array Value := #[.func (.func x.k) #[] x.caps, .int .i64 x.n, .int .i64 x.s, .int .i64 x.z]

/-- What a step leaves: a code other than 0, or the log's cells to be set. -/
def TakeStep (g B : Nat) (x : StepD) (Q : Ending → World → Prop) (J : World → Prop) (e : Ending) (w : World) : Prop :=
  ∃ code : Int, e = .returned (.int .i64 code) ∧ (code ≠ 0 → Q (.returned (.int .i64 code)) w) ∧
    (code = 0 → w.heap[B]? = some (.cells x.cells 52 (0, 0)) ∧ (∃ cs, w.heap[g]? = some (.cells cs 49 (0, 0)) ∧ cs.size = 5) ∧ J (((w.setCell ⟨g, 0, none⟩ (.int .i64 x.n)).setCell ⟨g, 1, none⟩ (.int .i64 x.s)).setCell ⟨g, 2, none⟩ (.int .i64 x.z)))

set_option maxRecDepth 100000 in
set_option maxHeartbeats 3200000 in
theorem take_any (g sb n cap : Nat) (L : List StepD) (hn : L.length = n) (hm : n ≤ 1000) (J : Nat → World → Prop) (Q : Ending → World → Prop) (w : World)
    (hent : ∀ (j : Nat) (hj : j < L.length) args w, (callFunc L[j].k args).run Try.prog w = .ok (.enter L[j].k args) w) (h0 : J 0 w)
    (hrow : ∀ (j : Nat) (hj : j < L.length) w', J j w' → w'.cell? ⟨sb, j * 4, none⟩ = some (.func (.func L[j].k) #[] L[j].caps) ∧ w'.cell? ⟨sb, j * 4 + 1, none⟩ = some (.int .i64 L[j].n) ∧ w'.cell? ⟨sb, j * 4 + 2, none⟩ = some (.int .i64 L[j].s) ∧ w'.cell? ⟨sb, j * 4 + 3, none⟩ = some (.int .i64 L[j].z))
    (hstep : ∀ (j : Nat) (hj : j < L.length) w', J j w' → Calls Try.prog L[j].k L[j].caps (w'.alloc (.cells L[j].cells 52)) (TakeStep g w'.heap.size L[j] Q (J (j + 1))))
    (hend : ∀ w', J n w' → Q (.returned (.int .i64 0)) w') :
    Calls Try.prog 19 #[.pointer (some ⟨g, 0, none⟩), .slice (some ⟨sb, 0, none⟩) n cap] w Q := by
  have HN := Lib.hid hn
  have HEnt := Lib.hid hent
  have H0 := Lib.hid h0
  have HRow := Lib.hid hrow
  have HStep := Lib.hid hstep
  have HEnd := Lib.hid hend
  clear hn hent h0 hrow hstep hend
  have hst := fun w a k ts caps m => store_func Try.prog w a k ts caps m
  go_enter Try.func19, Try.ntmps19
  go_wp2
  go_loopw [10] (fun i wr => ∃ j : Nat, j ≤ n ∧ i = .int .i64 (j : Int) ∧ J j wr) (fun i _ => n - (intOf i).toNat)
  case atStart => exact ⟨0, Nat.zero_le _, rfl, H0.out⟩
  case round =>
    obtain ⟨j, hj, rfl, hJ⟩ := hrel
    by_cases hlt : j < n
    · have hjl : j < L.length := by rw [HN.out]; exact hlt
      obtain ⟨r0, r1, r2, r3⟩ := HRow.out j hjl wr hJ
      have he := HEnt.out j hjl
      have HS := Lib.hid (HStep.out j hjl wr hJ)
      unfold StepD.cells at HS
      have Hlt := Lib.hid hlt
      have hji : (j : Int) < (n : Int) := by omega
      clear hJ
      generalize hLj : L[j] = x at *
      obtain ⟨k, caps, xn, xs, xz⟩ := x
      simp only at *
      clear hLj
      go_wp2_with fail
      refine HS.out.mono ?_
      rintro e w2 ⟨code, rfl, h1, h2⟩
      by_cases hc : code = 0
      · subst hc
        obtain ⟨hB, ⟨cs, hg, hcs⟩, hJ2⟩ := h2 rfl
        have hb0 : w2.cell? ⟨wr.heap.size, 0, none⟩ = some (.func (.func k) #[] caps) := by rw [cell_of_row _ _ _ _ _ (0, 0) hB]; rfl
        have hb1 : w2.cell? ⟨wr.heap.size, 1, none⟩ = some (.int .i64 xn) := by rw [cell_of_row _ _ _ _ _ (0, 0) hB]; rfl
        have hb2 : w2.cell? ⟨wr.heap.size, 2, none⟩ = some (.int .i64 xs) := by rw [cell_of_row _ _ _ _ _ (0, 0) hB]; rfl
        have hb3 : w2.cell? ⟨wr.heap.size, 3, none⟩ = some (.int .i64 xz) := by rw [cell_of_row _ _ _ _ _ (0, 0) hB]; rfl
        obtain ⟨v0, v1, v2, v3, v4, rfl⟩ : ∃ v0 v1 v2 v3 v4, cs = #[v0, v1, v2, v3, v4] := by
          match cs, hcs with
          | ⟨[v0, v1, v2, v3, v4]⟩, _ => exact ⟨v0, v1, v2, v3, v4, rfl⟩
        have hg0 : w2.cell? ⟨g, 0, none⟩ = some v0 := by rw [cell_of_row _ _ _ _ _ (0, 0) hg]; rfl
        have hg1 : w2.cell? ⟨g, 1, none⟩ = some v1 := by rw [cell_of_row _ _ _ _ _ (0, 0) hg]; rfl
        have hg2 : w2.cell? ⟨g, 2, none⟩ = some v2 := by rw [cell_of_row _ _ _ _ _ (0, 0) hg]; rfl
        have hgf : ∀ i, w2.frozen? ⟨g, i, none⟩ = false := fun i => by simp [World.frozen?, hg]
        have HJ2 := Lib.hid hJ2
        clear h1 h2 hB hg hcs hJ2
        go_wp2
        go_roundw
        case rel => exact ⟨j + 1, Hlt.out, by go_num, HJ2.out⟩
        case measure => simp [intOf]; omega
      · have HQ := Lib.hid (h1 hc)
        have hc1 : (code == 0) = false := by simpa using hc
        have hc2 : (code != 0) = true := by simpa using hc
        clear h1 h2 hc
        go_wp2
        exact HQ.out
    · obtain rfl : j = n := by omega
      have HJ := Lib.hid hJ
      have hji : ¬ (j : Int) < (j : Int) := by omega
      clear hJ
      go_wp2
      exact HEnd.out _ HJ.out
end Go.Proofs.Ytngnbmaocdadaaa

/- A disk in memory. -/
namespace Go.Proofs.Ytngnbmaocdadaaa
open Go.RowKit Go.Maps

structure FileOk (w : World) (x : FW) : Prop where
  blk : w.heap[x.blk]? = some (.cells #[x.v, .int .i64 (x.f.d : Int)] 66 (0, 0))
  row : w.ownsRow 0 5 1 x.v x.f.b.length (u8s x.f.b)
  byte : ∀ c ∈ x.f.b, c < 256
  dur : x.f.d ≤ x.f.b.length

def fpOne (x : FW) : List Nat := x.blk :: x.v.ownBlock.toList
def fpOf (L : List FW) : List Nat := L.flatMap fpOne

/-- A disk whose struct lies in block d, its map in block mb, its files as L says; all blocks that it has are among S. -/
structure DiskAt (S : Nat → Prop) (w : World) (d mb : Nat) (p : Int) (L : List FW) (M : DM) : Prop where
  files : M.fs = L.map FW.f
  head : w.heap[d]? = some (.cells #[.int .i64 (M.room : Int), .map (some mb), .bool M.down, .int .i64 p] 63 (0, 0))
  plan : M.plan = p.toNat
  lo : -9223372036854775808 ≤ p
  hi : p < 9223372036854775808
  dir : w.ownsMap Try.prog 9 ptrR mb L.length (dirD L)
  ok : ∀ x ∈ L, FileOk w x
  apart : (d :: mb :: fpOf L).Nodup
  sub : ∀ b ∈ d :: mb :: fpOf L, S b
  bound : ∀ b, S b → b < w.heap.size
  used : usedF M.fs ≤ M.room
  room : M.room < 9223372036854775808

def DiskIn (S : Nat → Prop) (w : World) (d : Nat) (M : DM) : Prop := ∃ mb p L, DiskAt S w d mb p L M

/-- Nothing but blocks of S and new ones has turned. -/
structure Chg (S : Nat → Prop) (w w' : World) : Prop where
  os : w'.os = w.os
  tape : w'.tape = w.tape
  output : w'.output = w.output
  size : w.heap.size ≤ w'.heap.size
  block : ∀ b, b < w.heap.size → ¬ S b → w'.heap[b]? = w.heap[b]?

theorem Chg.refl (S : Nat → Prop) (w : World) : Chg S w w := ⟨rfl, rfl, rfl, Nat.le_refl _, fun _ _ _ => rfl⟩
theorem Chg.trans {S S1 : Nat → Prop} {w w1 w2 : World} (h : Chg S w w1) (h1 : Chg S1 w1 w2) (hs : ∀ b, S1 b → S b ∨ w.heap.size ≤ b) : Chg S w w2 :=
  ⟨h1.os.trans h.os, h1.tape.trans h.tape, h1.output.trans h.output, Nat.le_trans h.size h1.size, fun b hb hn =>
    (h1.block b (Nat.lt_of_lt_of_le hb h.size) (fun hb1 => (hs b hb1).elim hn (fun hle => absurd hle (by omega)))).trans (h.block b hb hn)⟩
theorem Chg.same {S : Nat → Prop} {w w1 w2 : World} (h : Chg S w w1) (h1 : Chg S w1 w2) : Chg S w w2 := h.trans h1 fun _ h => .inl h
theorem Chg.of_below {S : Nat → Prop} {w w' : World} (h : Below w.heap.size w w') : Chg S w w' := ⟨h.os, h.tape, h.output, h.size, fun b hb _ => h.block b hb⟩
theorem Chg.below {S : Nat → Prop} {w w' : World} {k : Nat} (h : Chg S w w') (hS : ∀ b, S b → k ≤ b) (hk : k ≤ w.heap.size) : Below k w w' :=
  ⟨h.os, h.tape, h.output, h.size, fun b hb => h.block b (by omega) (fun hs => absurd (hS b hs) (by omega))⟩
theorem Chg.grown {S : Nat → Prop} {w w' : World} {r : Option Nat} (h : w.grownBy w' r) (hr : ∀ k, r = some k → S k ∨ w.heap.size ≤ k) : Chg S w w' :=
  ⟨h.os, h.tape, h.output, h.size, fun b hb hn => h.block b hb (fun e => (hr b e.symm).elim hn (fun hle => absurd hle (by omega)))⟩
theorem Chg.set (S : Nat → Prop) (w : World) {g i : Nat} (hg : S g) (v : Value) : Chg S w (w.setCell ⟨g, i, none⟩ v) :=
  ⟨rfl, rfl, rfl, by simp, fun b _ hn => Below.heap_setCell w ⟨g, i, none⟩ v b (by rintro rfl; exact hn hg)⟩
theorem Chg.alloc (S : Nat → Prop) (w : World) (o : Obj) : Chg S w (w.alloc o) := Chg.of_below ((Below.refl _ _).alloc (Nat.le_refl _) _)
theorem Chg.drew (S : Nat → Prop) (w : World) : Chg S w w.drew := ⟨rfl, rfl, rfl, Nat.le_refl _, fun _ _ _ => rfl⟩
theorem Chg.cell {S : Nat → Prop} {w w' : World} (h : Chg S w w') {a : Addr} {v : Value} (hc : w.cell? a = some v) (hs : ¬ S a.block) : w'.cell? a = some v := by
  rw [World.cell?_of_block (h.block a.block (World.block_lt_of_cell? _ _ hc) hs)]
  exact hc

/-- What a call leaves of a disk. -/
def Step (S : Nat → Prop) (w : World) (d : Nat) (M' : DM) (w' : World) : Prop := ∃ S', DiskIn S' w' d M' ∧ (∀ b, S' b → S b ∨ w.heap.size ≤ b) ∧ Chg S w w'

theorem Step.same {S : Nat → Prop} {w w' : World} {d : Nat} {M : DM} (h : DiskIn S w' d M) (hc : Chg S w w') : Step S w d M w' := ⟨S, h, fun _ h => .inl h, hc⟩

theorem row_of_heap {w w' : World} {base n : Nat} {e : TypeId} {v : Value} {xs : List Value} (h : w.ownsRow base e 1 v n xs) (hk : ∀ b, v.ownBlock = some b → w'.heap[b]? = w.heap[b]?) : w'.ownsRow base e 1 v n xs := by
  refine ⟨h.1, ?_⟩
  rcases h.2 with hn | ⟨g, cap, cur, rfl, hbg, hg, rest⟩
  · exact .inl hn
  · exact .inr ⟨g, cap, cur, rfl, hbg, (hk g rfl).trans hg, rest⟩

theorem map_of_heap {w w' : World} {P : Program} {k : TypeId} {R : Value → Option (DataW Unit × List MemPlace)} {b n : Nat} {D : DataW Unit} (h : w.ownsMap P k R b n D) (hk : w'.heap[b]? = w.heap[b]?) : w'.ownsMap P k R b n D := by
  obtain ⟨es, clock, hb, r⟩ := h
  exact ⟨es, clock, hk.trans hb, r⟩

theorem FileOk.keep {w w' : World} {x : FW} (h : FileOk w x) (hk : ∀ b ∈ fpOne x, w'.heap[b]? = w.heap[b]?) : FileOk w' x :=
  ⟨(hk _ (List.mem_cons_self ..)).trans h.blk, row_of_heap h.row (fun b hb => hk b (List.mem_cons_of_mem _ (by simp [hb]))), h.byte, h.dur⟩

theorem mem_fpOf {L : List FW} {x : FW} (hx : x ∈ L) {b : Nat} (hb : b ∈ fpOne x) : b ∈ fpOf L := List.mem_flatMap.2 ⟨x, hx, hb⟩

/-- The disk in another world that holds the same in its blocks. -/
theorem DiskAt.keep {S S' : Nat → Prop} {w w' : World} {d mb : Nat} {p : Int} {L : List FW} {M : DM} (h : DiskAt S w d mb p L M) (hk : ∀ b ∈ d :: mb :: fpOf L, w'.heap[b]? = w.heap[b]?)
    (hs : ∀ b, S b → S' b) (hb : ∀ b, S' b → b < w'.heap.size) : DiskAt S' w' d mb p L M :=
  ⟨h.files, (hk d (by simp)).trans h.head, h.plan, h.lo, h.hi, map_of_heap h.dir (hk mb (by simp)), fun x hx => (h.ok x hx).keep (fun b hb => hk b (by simp [mem_fpOf hx hb])), h.apart, fun b hb => hs b (h.sub b hb), hb, h.used, h.room⟩

theorem DiskAt.below {S : Nat → Prop} {w w' : World} {d mb : Nat} {p : Int} {L : List FW} {M : DM} (h : DiskAt S w d mb p L M) (hb : Below w.heap.size w w') : DiskAt S w' d mb p L M :=
  h.keep (fun b hb' => hb.block b (h.bound b (h.sub b hb'))) (fun _ h => h) (fun b hs => Nat.lt_of_lt_of_le (h.bound b hs) hb.size)
theorem DiskIn.below {S : Nat → Prop} {w w' : World} {d : Nat} {M : DM} (h : DiskIn S w d M) (hb : Below w.heap.size w w') : DiskIn S w' d M := let ⟨mb, p, L, h⟩ := h; ⟨mb, p, L, h.below hb⟩
/-- .. while something else is written. -/
theorem DiskIn.aside {S T : Nat → Prop} {w w' : World} {d : Nat} {M : DM} (h : DiskIn S w d M) (hc : Chg T w w') (ht : ∀ b, S b → ¬ T b) : DiskIn S w' d M := by
  obtain ⟨mb, p, L, h⟩ := h
  exact ⟨mb, p, L, h.keep (fun b hb' => hc.block b (h.bound b (h.sub b hb')) (ht b (h.sub b hb'))) (fun _ h => h) (fun b hs => Nat.lt_of_lt_of_le (h.bound b hs) hc.size)⟩

theorem DiskAt.cells {S : Nat → Prop} {w : World} {d mb : Nat} {p : Int} {L : List FW} {M : DM} (h : DiskAt S w d mb p L M) :
    w.cell? ⟨d, 0, none⟩ = some (.int .i64 (M.room : Int)) ∧ w.cell? ⟨d, 1, none⟩ = some (.map (some mb)) ∧ w.cell? ⟨d, 2, none⟩ = some (.bool M.down) ∧ w.cell? ⟨d, 3, none⟩ = some (.int .i64 p) ∧
    ∀ i, w.frozen? ⟨d, i, none⟩ = false := by
  have hh := h.head
  refine ⟨?_, ?_, ?_, ?_, fun i => ?_⟩
  · rw [cell_of_row _ _ _ _ _ _ hh]; rfl
  · rw [cell_of_row _ _ _ _ _ _ hh]; rfl
  · rw [cell_of_row _ _ _ _ _ _ hh]; rfl
  · rw [cell_of_row _ _ _ _ _ _ hh]; rfl
  · simp [World.frozen?, hh]

theorem FileOk.cells {w : World} {x : FW} (h : FileOk w x) : w.cell? ⟨x.blk, 0, none⟩ = some x.v ∧ w.cell? ⟨x.blk, 1, none⟩ = some (.int .i64 (x.f.d : Int)) ∧ ∀ i, w.frozen? ⟨x.blk, i, none⟩ = false := by
  have hh := h.blk
  refine ⟨?_, ?_, fun i => ?_⟩
  · rw [cell_of_row _ _ _ _ _ _ hh]; rfl
  · rw [cell_of_row _ _ _ _ _ _ hh]; rfl
  · simp [World.frozen?, hh]

/-- A new state of the disk's own struct alone. -/
theorem DiskAt.head_set {S : Nat → Prop} {w w' : World} {d mb : Nat} {p p' : Int} {L : List FW} {M M' : DM} (h : DiskAt S w d mb p L M) (hc : Chg (fun b => b = d) w w') (hf : M'.fs = M.fs) (hr : M'.room = M.room)
    (hh : w'.heap[d]? = some (.cells #[.int .i64 (M'.room : Int), .map (some mb), .bool M'.down, .int .i64 p'] 63 (0, 0))) (hp : M'.plan = p'.toNat) (hlo : -9223372036854775808 ≤ p') (hhi : p' < 9223372036854775808) :
    DiskAt S w' d mb p' L M' := by
  have hnd := List.nodup_cons.1 h.apart
  have hk : ∀ b ∈ mb :: fpOf L, w'.heap[b]? = w.heap[b]? := fun b hb => hc.block b (h.bound b (h.sub b (List.mem_cons_of_mem _ hb))) (fun e => hnd.1 (e ▸ hb))
  exact ⟨hf.trans h.files, hh, hp, hlo, hhi, map_of_heap h.dir (hk mb (by simp)), fun x hx => (h.ok x hx).keep (fun b hb => hk b (by simp [mem_fpOf hx hb])), h.apart, h.sub, fun b hs => Nat.lt_of_lt_of_le (h.bound b hs) hc.size,
    by rw [hf, hr]; exact h.used, by rw [hr]; exact h.room⟩

theorem set_head {w : World} {d i : Nat} {cs : Array Value} {t : TypeId} {m : Nat × Nat} (h : w.heap[d]? = some (.cells cs t m)) (v : Value) : (w.setCell ⟨d, i, none⟩ v).heap[d]? = some (.cells (cs.setIfInBounds i v) t m) := by
  simp [World.setCell, Array.getElem?_modify, h]

theorem keyN (n : List UInt8) (hn : n.length ≤ 9223372036854775807) : keyOf Try.prog 9 (encStr n) = some (.string n) :=
  WideMaps.keyOf_string_mk Try.underlying9 (by rw [maxLen_nat]; show (n.toArray).size ≤ _; simpa using hn)

theorem mapKey : Keyed Try.prog 9 := string_keyed Try.underlying9

theorem ptrR_fileV {x : Option FW} {v : Value} {ps : List MemPlace} (h : ptrR v = some (match x with | some x => .lit (.int .i64 (x.blk : Int)) | none => .nil, ps)) : v = fileV x := by
  unfold ptrR at h
  split at h
  · cases x
    · rfl
    · cases h
  · cases x
    · cases h
    · rename_i b x
      simp at h
      have e : b = x.blk := by omega
      rw [e]
      rfl
  · cases h

/-- 'files[name]'. -/
theorem DiskAt.look {S : Nat → Prop} {w : World} {d mb : Nat} {p : Int} {L : List FW} {M : DM} (h : DiskAt S w d mb p L M) (n : List UInt8) (hn : n.length ≤ 9223372036854775807) :
    (Instr.lookup 61 (.map (some mb)) (encStr n) false).run Try.prog w = .ok (fileV (findN FW.n n L)) w := by
  have hz : (zeroValue 64).run Try.prog w = .ok (.pointer none) w := by kernel_rfl
  obtain ⟨v, ps, hrun, hv⟩ := h.dir.lookup mapKey Try.underlying61 hz (zd := .nil) (zp := []) rfl (keyN n hn)
  rw [dirD_at] at hv
  rw [hrun, ptrR_fileV hv]
end Go.Proofs.Ytngnbmaocdadaaa

/- The walks of a disk's fails and possible. -/
namespace Go.Proofs.Ytngnbmaocdadaaa
open Go.RowKit Go.Maps

theorem chg_d (w : World) (d i : Nat) (v : Value) : Chg (fun b => b = d) w (w.setCell ⟨d, i, none⟩ v) := Chg.set (fun b => b = d) w rfl v

set_option maxRecDepth 100000 in
set_option maxHeartbeats 1600000 in
theorem fails_any {S : Nat → Prop} {w : World} {d mb : Nat} {p : Int} {L : List FW} {M : DM} (h : DiskAt S w d mb p L M) :
    Calls Try.prog 45 #[.pointer (some ⟨d, 0, none⟩)] w fun e w' => e = .returned (.bool (failM M).down) ∧ (∃ p', DiskAt S w' d mb p' L (failM M)) ∧ Chg S w w' ∧ w'.heap.size = w.heap.size := by
  obtain ⟨c0, c1, c2, c3, fr⟩ := h.cells
  have f2 := fr 2
  have f3 := fr 3
  have H := Lib.hid h
  have hp := h.plan
  have hlo := h.lo
  have hhi := h.hi
  have hSd := Lib.hid (h.sub d (by simp))
  clear h fr
  cases hdn : M.down with
  | true =>
    have hf : failM M = M := by unfold failM; rw [if_pos hdn]
    rw [hf]
    have Hdn := Lib.hid hdn
    rw [hdn] at c2
    clear hf hp hdn
    go_enter Try.func45, Try.ntmps45
    go_wp2
    go_ret
    exact ⟨by rw [Hdn.out]; rfl, ⟨p, H.out⟩, Chg.refl _ _, rfl⟩
  | false =>
    have Hdn := Lib.hid hdn
    have Hp := Lib.hid hp
    rw [hdn] at c2
    clear hp hdn
    by_cases hp0 : 0 < p
    · obtain ⟨q, rfl⟩ : ∃ q : Nat, p = (q : Int) + 1 := ⟨(p - 1).toNat, by omega⟩
      have hq : (q : Int) + 1 - 1 = (q : Int) := by omega
      have hplan : M.plan = q + 1 := by rw [Hp.out]; omega
      by_cases hq0 : q = 0
      · have Hf := Lib.hid (show failM M = { M with plan := 0, down := true } from by unfold failM; rw [if_neg (by rw [Hdn.out]; decide), if_pos (by omega)])
        have HE := Lib.hid (H.out.head_set (M' := { M with plan := 0, down := true }) (p' := 0) (w' := ((w.setCell ⟨d, 3, none⟩ (.int .i64 0)).setCell ⟨d, 2, none⟩ (.bool true)))
          ((chg_d w d 3 _).same (chg_d _ d 2 _)) rfl rfl (by have := set_head (i := 2) (set_head (i := 3) H.out.head (.int .i64 0)) (.bool true); simpa using this) rfl (by decide) (by decide))
        have HC := Lib.hid (((Chg.set S w (i := 3) hSd.out (.int .i64 0))).same (Chg.set S (w.setCell ⟨d, 3, none⟩ (.int .i64 0)) (i := 2) hSd.out (.bool true)))
        subst hq0
        clear hplan hlo hhi
        go_enter Try.func45, Try.ntmps45
        go_wp2
        go_ret
        rw [Hf.out]
        exact ⟨rfl, ⟨0, HE.out⟩, HC.out, by simp⟩
      · have Hf := Lib.hid (show failM M = { M with plan := q, down := false } from by
          unfold failM
          rw [if_neg (by rw [Hdn.out]; decide), if_neg (by omega), hplan, ← Hdn.out]
          rfl)
        have HE := Lib.hid (H.out.head_set (M' := { M with plan := q, down := false }) (p' := (q : Int)) (w' := ((w.setCell ⟨d, 3, none⟩ (.int .i64 (q : Int))).setCell ⟨d, 2, none⟩ (.bool false)))
          ((chg_d w d 3 _).same (chg_d _ d 2 _)) rfl rfl (by have := set_head (i := 2) (set_head (i := 3) H.out.head (.int .i64 (q : Int))) (.bool false); simpa using this) (by simp) (by omega) (by omega))
        have HC := Lib.hid (((Chg.set S w (i := 3) hSd.out (.int .i64 (q : Int)))).same (Chg.set S (w.setCell ⟨d, 3, none⟩ (.int .i64 (q : Int))) (i := 2) hSd.out (.bool false)))
        have hz : ((q : Int) == 0) = false := beq_eq_false_iff_ne.2 (by omega)
        have hp1 : (0 : Int) < (q : Int) + 1 := by omega
        clear hplan hq0
        go_enter Try.func45, Try.ntmps45
        go_wp2
        go_ret
        rw [Hf.out]
        exact ⟨rfl, ⟨(q : Int), HE.out⟩, HC.out, by simp⟩
    · have Hf := Lib.hid (show failM M = M from by
        have h0 : M.plan = 0 := by rw [Hp.out]; omega
        unfold failM
        rw [if_neg (by rw [Hdn.out]; decide), if_neg (by omega), h0]
        cases M
        cases h0
        rfl)
      have hz : decide (0 < p) = false := decide_eq_false hp0
      clear hp0 hlo hhi
      rw [Hf.out]
      go_enter Try.func45, Try.ntmps45
      go_wp2
      go_ret
      exact ⟨by rw [Hdn.out]; rfl, ⟨p, H.out⟩, Chg.refl _ _, rfl⟩

theorem encStr_size (n : List UInt8) : (⟨n.toArray⟩ : ByteArray).size = n.length := by show (n.toArray).size = _; simp

theorem byte_at (n : List UInt8) (k : Nat) (hk : k < n.length) : (⟨n.toArray⟩ : ByteArray)[k]'(by rw [encStr_size]; exact hk) = n[k] := by
  show n.toArray[k]'(by simpa using hk) = _
  simp

theorem all_next {n : List UInt8} {k : Nat} (hk : k < n.length) (h : (n.take k).all okByte = true) (hx : okByte n[k] = true) : (n.take (k + 1)).all okByte = true := by
  rw [List.take_succ_eq_append_getElem hk, List.all_append, h]
  simpa using hx

theorem all_bad {n : List UInt8} {k : Nat} (hk : k < n.length) (hx : okByte n[k] = false) : n.all okByte = false := by
  rw [List.all_eq_false]
  exact ⟨n[k], List.getElem_mem _, by rw [hx]; decide⟩

theorem okByte_cases (c : UInt8) : (okByte c = true ∧ ((97 ≤ c.toNat ∧ c.toNat ≤ 122) ∨ (48 ≤ c.toNat ∧ c.toNat ≤ 57) ∨ c.toNat = 45 ∨ c.toNat = 46)) ∨
    (okByte c = false ∧ (c.toNat < 45 ∨ c.toNat = 47 ∨ (58 ≤ c.toNat ∧ c.toNat < 97) ∨ 122 < c.toNat)) := by
  unfold okByte
  simp only [Bool.or_eq_true, Bool.and_eq_true, decide_eq_true_eq, beq_iff_eq, Bool.or_eq_false_iff, Bool.and_eq_false_iff, decide_eq_false_iff_not, beq_eq_false_iff_ne]
  omega

set_option maxRecDepth 100000 in
set_option maxHeartbeats 6400000 in
theorem possible_any (n : List UInt8) (w : World) :
    Calls Try.prog 46 #[encStr n] w fun e w' => e = .returned (.bool (named n)) ∧ w' = w := by
  have hsz := encStr_size n
  change Calls _ _ #[.string ⟨n.toArray⟩] _ _
  by_cases h0 : n.length < 1
  · have hr := Lib.hid (show named n = false from by unfold named; rw [decide_eq_false (by omega)]; rfl)
    have h0' : ((n.length : Nat) : Int) < 1 := by omega
    generalize (⟨n.toArray⟩ : ByteArray) = s at *
    go_enter Try.func46, Try.ntmps46
    go_wp2
    go_ret
    exact ⟨ret_bool hr.out.symm, rfl⟩
  · by_cases h1 : 100 < n.length
    · have hr := Lib.hid (show named n = false from by unfold named; rw [decide_eq_false (show ¬ n.length ≤ 100 by omega), Bool.and_false]; rfl)
      have h0' : ¬ ((n.length : Nat) : Int) < 1 := by omega
      have h1' : (100 : Int) < ((n.length : Nat) : Int) := by omega
      generalize (⟨n.toArray⟩ : ByteArray) = s at *
      go_enter Try.func46, Try.ntmps46
      go_wp2
      go_ret
      exact ⟨ret_bool hr.out.symm, rfl⟩
    · have hr := Lib.hid (show named n = n.all okByte from by unfold named; rw [decide_eq_true (show 1 ≤ n.length by omega), decide_eq_true (show n.length ≤ 100 by omega)]; rfl)
      have h0' : ¬ ((n.length : Nat) : Int) < 1 := by omega
      have h1' : ¬ (100 : Int) < ((n.length : Nat) : Int) := by omega
      have hlen : n.length ≤ 100 := by omega
      have hget := Lib.hid (show ∀ k (h : k < (⟨n.toArray⟩ : ByteArray).size) (hk : k < n.length), (⟨n.toArray⟩ : ByteArray)[k]'h = n[k] from fun k _ hk => byte_at n k hk)
      have hsz' := Lib.hid hsz
      clear h0 h1
      generalize hs : (⟨n.toArray⟩ : ByteArray) = s at *
      clear hs
      go_enter Try.func46, Try.ntmps46
      go_wp2
      go_loopw [3] (fun i wr => ∃ k : Nat, k ≤ n.length ∧ i = .int .i64 (k : Int) ∧ (n.take k).all okByte = true ∧ wr = w) (fun i _ => n.length - (intOf i).toNat)
      case atStart => exact ⟨0, Nat.zero_le _, rfl, by simp, rfl⟩
      case round =>
        obtain ⟨k, hk, rfl, hall, rfl⟩ := hrel
        have Hall := Lib.hid hall
        clear hall
        by_cases hlt : k < n.length
        · have hlt' : (k : Int) < ((n.length : Nat) : Int) := by omega
          have hks : k < s.size := by rw [hsz'.out]; exact hlt
          obtain ⟨c, hc⟩ : ∃ c : UInt8, n[k] = c := ⟨_, rfl⟩
          have hx : s[k]'hks = c := by rw [hget.out k hks hlt, hc]
          have Hc := Lib.hid hc
          clear hc
          rcases okByte_cases c with ⟨hok, hcase⟩ | ⟨hok, hcase⟩
          · have Hok := Lib.hid hok
            clear hok
            rcases hcase with hcase | hcase | hcase | hcase
            · have a1 : (97 : Int) ≤ (c.toNat : Int) := by omega
              have a2 : (c.toNat : Int) ≤ 122 := by omega
              have a3 : (48 : Int) ≤ (c.toNat : Int) := by omega
              have a4 : ¬ (c.toNat : Int) ≤ 57 := by omega
              clear hcase
              go_wp2
              go_roundw
              case rel => exact ⟨k + 1, by omega, by go_num, all_next hlt Hall.out (by rw [Hc.out]; exact Hok.out), by first | rfl | trivial⟩
              case measure => simp [intOf]; omega
            · have a1 : ¬ (97 : Int) ≤ (c.toNat : Int) := by omega
              have a3 : (48 : Int) ≤ (c.toNat : Int) := by omega
              have a4 : (c.toNat : Int) ≤ 57 := by omega
              clear hcase
              go_wp2
              go_roundw
              case rel => exact ⟨k + 1, by omega, by go_num, all_next hlt Hall.out (by rw [Hc.out]; exact Hok.out), by first | rfl | trivial⟩
              case measure => simp [intOf]; omega
            · have a1 : ¬ (97 : Int) ≤ (c.toNat : Int) := by omega
              have a3 : ¬ (48 : Int) ≤ (c.toNat : Int) := by omega
              have b1 : ((c.toNat : Int) != 45) = false := by rw [bne_eq_false_iff_eq]; omega
              clear hcase
              go_wp2
              go_roundw
              case rel => exact ⟨k + 1, by omega, by go_num, all_next hlt Hall.out (by rw [Hc.out]; exact Hok.out), by first | rfl | trivial⟩
              case measure => simp [intOf]; omega
            · have a1 : ¬ (97 : Int) ≤ (c.toNat : Int) := by omega
              have a3 : ¬ (48 : Int) ≤ (c.toNat : Int) := by omega
              have b1 : ((c.toNat : Int) != 45) = true := bne_iff_ne.2 (by omega)
              have b2 : ((c.toNat : Int) != 46) = false := by rw [bne_eq_false_iff_eq]; omega
              clear hcase
              go_wp2
              go_roundw
              case rel => exact ⟨k + 1, by omega, by go_num, all_next hlt Hall.out (by rw [Hc.out]; exact Hok.out), by first | rfl | trivial⟩
              case measure => simp [intOf]; omega
          · have Hok := Lib.hid hok
            clear hok
            rcases hcase with hcase | hcase | hcase | hcase
            · have a1 : ¬ (97 : Int) ≤ (c.toNat : Int) := by omega
              have a3 : ¬ (48 : Int) ≤ (c.toNat : Int) := by omega
              have b1 : ((c.toNat : Int) != 45) = true := bne_iff_ne.2 (by omega)
              have b2 : ((c.toNat : Int) != 46) = true := bne_iff_ne.2 (by omega)
              clear hcase
              go_wp2
              go_ret
              exact ⟨ret_bool (by rw [hr.out, all_bad hlt (by rw [Hc.out]; exact Hok.out)]), rfl⟩
            · have a1 : ¬ (97 : Int) ≤ (c.toNat : Int) := by omega
              have a3 : ¬ (48 : Int) ≤ (c.toNat : Int) := by omega
              have b1 : ((c.toNat : Int) != 45) = true := bne_iff_ne.2 (by omega)
              have b2 : ((c.toNat : Int) != 46) = true := bne_iff_ne.2 (by omega)
              clear hcase
              go_wp2
              go_ret
              exact ⟨ret_bool (by rw [hr.out, all_bad hlt (by rw [Hc.out]; exact Hok.out)]), rfl⟩
            · have a1 : ¬ (97 : Int) ≤ (c.toNat : Int) := by omega
              have a3 : (48 : Int) ≤ (c.toNat : Int) := by omega
              have a4 : ¬ (c.toNat : Int) ≤ 57 := by omega
              have b1 : ((c.toNat : Int) != 45) = true := bne_iff_ne.2 (by omega)
              have b2 : ((c.toNat : Int) != 46) = true := bne_iff_ne.2 (by omega)
              clear hcase
              go_wp2
              go_ret
              exact ⟨ret_bool (by rw [hr.out, all_bad hlt (by rw [Hc.out]; exact Hok.out)]), rfl⟩
            · have a1 : (97 : Int) ≤ (c.toNat : Int) := by omega
              have a2 : ¬ (c.toNat : Int) ≤ 122 := by omega
              have a3 : (48 : Int) ≤ (c.toNat : Int) := by omega
              have a4 : ¬ (c.toNat : Int) ≤ 57 := by omega
              have b1 : ((c.toNat : Int) != 45) = true := bne_iff_ne.2 (by omega)
              have b2 : ((c.toNat : Int) != 46) = true := bne_iff_ne.2 (by omega)
              clear hcase
              go_wp2
              go_ret
              exact ⟨ret_bool (by rw [hr.out, all_bad hlt (by rw [Hc.out]; exact Hok.out)]), rfl⟩
        · have hlt' : ¬ (k : Int) < ((n.length : Nat) : Int) := by omega
          have hk2 : k = n.length := by omega
          have hr2 := Lib.hid (show named n = true from by rw [hr.out]; have := Hall.out; rwa [hk2, List.take_length] at this)
          clear hk2
          go_wp2
          go_ret
          exact ⟨ret_bool hr2.out.symm, rfl⟩
end Go.Proofs.Ytngnbmaocdadaaa

/- The walk of a disk's carryOut, whatever the change does. -/
namespace Go.Proofs.Ytngnbmaocdadaaa
open Go.RowKit Go.Maps

set_option maxRecDepth 100000 in
set_option maxHeartbeats 3200000 in
theorem carry_any {S : Nat → Prop} {w : World} {d mb : Nat} {p : Int} {L : List FW} {M : DM} (h : DiskAt S w d mb p L M) (n : List UInt8) (hn : n.length ≤ 9223372036854775807)
    (k : Nat) (caps : Array Value) (hent : ∀ args w, (callFunc k args).run Try.prog w = .ok (.enter k args) w) (Q : Ending → World → Prop)
    (H10 : ∀ w', DiskIn S w' d (failM M) → Chg S w w' → (failM M).down = true → Q (.returned (.int .i64 10)) w')
    (H6 : ∀ w', DiskIn S w' d (failM M) → Chg S w w' → (failM M).down = false → named n = false → Q (.returned (.int .i64 6)) w')
    (HF : ∀ p' w', DiskAt S w' d mb p' L (failM M) → Chg S w w' → (failM M).down = false → named n = true → Calls Try.prog k (#[fileV (findN FW.n n L)] ++ caps) w' fun e w'' => (∃ v, e = .returned v) ∧ Q e w'') :
    Calls Try.prog 26 #[.pointer (some ⟨d, 0, none⟩), .agg #[encStr n, .func (.func k) #[] caps]] w Q := by
  have h1 := h.below ((Below.refl w.heap.size w).alloc (Nat.le_refl _) (.cells #[encStr n, .func (.func k) #[] caps] 70))
  have Hc1 := Lib.hid (Chg.alloc S w (.cells #[encStr n, .func (.func k) #[] caps] 70))
  have HFl := Lib.hid (fails_any h1)
  have HP := Lib.hid (fun w => possible_any n w)
  have hb : ¬ S w.heap.size := fun hs => absurd (h.bound _ hs) (Nat.lt_irrefl _)
  have Hb := Lib.hid hb
  have k0 : (w.alloc (.cells #[encStr n, .func (.func k) #[] caps] 70)).cell? ⟨w.heap.size, 0, none⟩ = some (encStr n) := cell_of_row _ _ _ _ _ (0, 0) (heap_alloc_new _ _)
  have k1 : (w.alloc (.cells #[encStr n, .func (.func k) #[] caps] 70)).cell? ⟨w.heap.size, 1, none⟩ = some (.func (.func k) #[] caps) := cell_of_row _ _ _ _ _ (0, 0) (heap_alloc_new _ _)
  have K0 := Lib.hid k0
  have K1 := Lib.hid k1
  have H10' := Lib.hid H10
  have H6' := Lib.hid H6
  have HF' := Lib.hid HF
  clear h h1 hb k0 k1 H10 H6 HF
  go_enter Try.func26, Try.ntmps26
  go_wp2_with fail
  refine HFl.out.mono ?_
  rintro e w1 ⟨rfl, ⟨p', hD⟩, hc, hsz⟩
  have HD := Lib.hid hD
  have Hc := Lib.hid (Hc1.out.same hc)
  have c0 := hc.cell K0.out Hb.out
  have c1 := hc.cell K1.out Hb.out
  obtain ⟨_, d1, _, _, _⟩ := hD.cells
  have hlk := hD.look n hn
  clear hD hc hsz
  cases hdn : (failM M).down with
  | true =>
    have Hdn := Lib.hid hdn
    clear hdn
    go_wp2
    exact H10'.out _ ⟨mb, p', L, HD.out⟩ Hc.out Hdn.out
  | false =>
    have Hdn := Lib.hid hdn
    clear hdn
    go_wp2_with fail
    refine (HP.out _).mono ?_
    rintro e w2 ⟨rfl, rfl⟩
    cases hnm : named n with
    | false =>
      have Hnm := Lib.hid hnm
      clear hnm
      go_wp2
      exact H6'.out _ ⟨mb, p', L, HD.out⟩ Hc.out Hdn.out Hnm.out
    | true =>
      have Hnm := Lib.hid hnm
      clear hnm
      go_wp2
      refine wp_region_still_tail 9 (by kernel_rfl) (by kernel_rfl) ?_
      simp only [List.take_succ_cons, List.take_zero, List.drop_succ_cons, List.drop_zero]
      have HD3 := Lib.hid (HD.out.below (Chg.below (S := fun _ => False) (Chg.drew _ w2) (fun _ h => h.elim) (Nat.le_refl _)))
      have Hc3 := Lib.hid (Hc.out.same (Chg.drew S w2))
      have c0 : w2.drew.cell? ⟨w.heap.size, 0, none⟩ = some (encStr n) := c0
      have c1 : w2.drew.cell? ⟨w.heap.size, 1, none⟩ = some (.func (.func k) #[] caps) := c1
      have d1 : w2.drew.cell? ⟨d, 1, none⟩ = some (.map (some mb)) := d1
      have hlk : (Instr.lookup 61 (.map (some mb)) (encStr n) false).run Try.prog w2.drew = .ok (fileV (findN FW.n n L)) w2.drew := HD3.out.look n hn
      change wpStill _ _ w2.drew (fun a' => wpList _ _ _ _ a' w2.drew) _ _
      have HF3 := Lib.hid (HF'.out p' w2.drew HD3.out Hc3.out Hdn.out Hnm.out)
      clear HD Hc HFl Hc1 HD3 Hc3 H10' H6' HF'
      generalize w2.drew = w3 at *
      repeat still_step
      refine wpStill_nil ?_
      go_wp2_with fail
      refine HF3.out.mono ?_
      rintro e w4 ⟨⟨v, rfl⟩, hq⟩
      have Hq := Lib.hid hq
      clear hq
      go_wp2
      exact Hq.out
end Go.Proofs.Ytngnbmaocdadaaa

