/- A disk that the call itself has made: what each method leaves of it. -/
import Derived.Test.YtdnbjpfapfnpaaaDkCr
namespace Go.Proofs.Ytdnbjpfapfnpaaa
open Go.RowKit Go.Maps Go.Shelf

/-- The disk d has been made since w0, lies in no block of X, and is M. -/
def Own (w0 : World) (X : Nat → Prop) (w : World) (d : Nat) (M : DM) : Prop := ∃ S, DiskIn S w d M ∧ (∀ b, S b → w0.heap.size ≤ b ∧ ¬ X b) ∧ (∀ b, X b → b < w.heap.size) ∧ Below w0.heap.size w0 w

theorem Own.below {w0 : World} {X : Nat → Prop} {w : World} {d : Nat} {M : DM} (h : Own w0 X w d M) {w' : World} (hb : Below w.heap.size w w') : Own w0 X w' d M := by
  obtain ⟨S, hD, hS, hX, h0⟩ := h
  exact ⟨S, hD.below hb, hS, fun b hx => Nat.lt_of_lt_of_le (hX b hx) hb.size, h0.trans (hb.mono h0.size)⟩

theorem Own.base {w0 : World} {X : Nat → Prop} {w : World} {d : Nat} {M : DM} (h : Own w0 X w d M) : Below w0.heap.size w0 w := by obtain ⟨_, _, _, _, h⟩ := h; exact h

/-- New blocks are not the disk's. -/
theorem Own.more {w0 : World} {X Y : Nat → Prop} {w w' : World} {d : Nat} {M : DM} (h : Own w0 X w d M) (hb : Below w.heap.size w w') (hY : ∀ b, Y b → X b ∨ (w.heap.size ≤ b ∧ b < w'.heap.size)) : Own w0 Y w' d M := by
  obtain ⟨S, hD, hS, hX, h0⟩ := h
  refine ⟨S, hD.below hb, fun b hs => ⟨(hS b hs).1, fun hy => ?_⟩, fun b hy => ?_, h0.trans (hb.mono h0.size)⟩
  · rcases hY b hy with h1 | ⟨h1, _⟩
    · exact (hS b hs).2 h1
    · obtain ⟨_, _, _, hD⟩ := hD
      have := hD.bound b hs
      omega
  · rcases hY b hy with h1 | ⟨_, h1⟩
    · exact Nat.lt_of_lt_of_le (hX b h1) hb.size
    · exact h1

/-- What a call leaves: the disk, and the blocks of X as they were. -/
def OwnEnd (w0 : World) (X : Nat → Prop) (w : World) (d : Nat) (M : DM) (w' : World) : Prop := Own w0 X w' d M ∧ (∀ b, X b → w'.heap[b]? = w.heap[b]?) ∧ Below w0.heap.size w w' ∧ w.heap.size ≤ w'.heap.size

theorem Own.step {w0 : World} {X S : Nat → Prop} {w w' : World} {d : Nat} {M' : DM} (hS : ∀ b, S b → w0.heap.size ≤ b ∧ ¬ X b) (hX : ∀ b, X b → b < w.heap.size) (h0 : Below w0.heap.size w0 w) (h : Step S w d M' w') : OwnEnd w0 X w d M' w' := by
  obtain ⟨S', hD, hs, hc⟩ := h
  have hb := hc.below (fun b hb => (hS b hb).1) h0.size
  refine ⟨⟨S', hD, fun b hb => ?_, fun b hx => Nat.lt_of_lt_of_le (hX b hx) hc.size, h0.trans hb⟩, fun b hx => hc.block b (hX b hx) (fun h => (hS b h).2 hx), hb, hc.size⟩
  rcases hs b hb with h1 | h1
  · exact hS b h1
  · exact ⟨Nat.le_trans h0.size h1, fun hx => absurd (hX b hx) (by omega)⟩

/-- What a change answers and leaves. -/
def OwnAct (w0 : World) (X : Nat → Prop) (w : World) (d : Nat) (r : DM × Int) (e : Ending) (w' : World) : Prop := e = .returned (.int .i64 r.2) ∧ OwnEnd w0 X w d r.1 w'

theorem own_new (room : Int) (w : World) (hhi : room < 9223372036854775808) : Calls Try.prog 5 #[.int .i64 room] w fun e w' => ∃ d, e = .returned (.pointer (some ⟨d, 0, none⟩)) ∧ Own w (fun _ => False) w' d (newM room) ∧ Below w.heap.size w w' :=
  (new_any room w hhi).mono fun _ _ ⟨d, he, hD, hb⟩ => ⟨d, he, ⟨_, hD, fun _ hb => ⟨hb.1, fun h => h⟩, fun _ h => h.elim, hb⟩, hb⟩

theorem own_create {w0 : World} {X : Nat → Prop} {w : World} {d : Nat} {M : DM} (h : Own w0 X w d M) (n : List UInt8) (hn : n.length ≤ 9223372036854775807) (hL : M.fs.length < 1000000) :
    Calls Try.prog 14 #[.pointer (some ⟨d, 0, none⟩), .string ⟨n.toArray⟩] w (OwnAct w0 X w d (createM n M)) := by
  obtain ⟨S, hD, hS, hX, h0⟩ := h
  exact (create_any hD n hn hL).mono fun e w' hq => ⟨hq.1, Own.step hS hX h0 hq.2⟩

theorem own_append {w0 : World} {X : Nat → Prop} {w : World} {d : Nat} {M : DM} (h : Own w0 X w d M) (n : List UInt8) (hn : n.length ≤ 9223372036854775807) (pa : Option Addr) (m c : Nat) (l : List Nat) (hB : Bytes w pa m c l) (hap : 0 < m → ∀ a, pa = some a → X a.block ∨ a.block < w0.heap.size)
    (hlim : usedF M.fs + l.length ≤ 140737488355328) : Calls Try.prog 15 #[.pointer (some ⟨d, 0, none⟩), .string ⟨n.toArray⟩, .slice pa m c] w (OwnAct w0 X w d (appendM n l M)) := by
  obtain ⟨S, hD, hS, hX, h0⟩ := h
  refine (append_any hD n hn pa m c l hB (fun h0' a ha hs => ?_) hlim).mono fun e w' hq => ⟨hq.1, Own.step hS hX h0 hq.2⟩
  rcases hap h0' a ha with h1 | h1
  · exact (hS _ hs).2 h1
  · have := (hS _ hs).1; omega

theorem own_sync {w0 : World} {X : Nat → Prop} {w : World} {d : Nat} {M : DM} (h : Own w0 X w d M) (n : List UInt8) (hn : n.length ≤ 9223372036854775807) :
    Calls Try.prog 18 #[.pointer (some ⟨d, 0, none⟩), .string ⟨n.toArray⟩] w (OwnAct w0 X w d (syncM n M)) := by
  obtain ⟨S, hD, hS, hX, h0⟩ := h
  exact (sync_any hD n hn).mono fun e w' hq => ⟨hq.1, Own.step hS hX h0 hq.2⟩

theorem own_arm {w0 : World} {X : Nat → Prop} {w : World} {d : Nat} {M : DM} (h : Own w0 X w d M) (k : Int) (hlo : -9223372036854775808 ≤ k) (hhi : k < 9223372036854775808) :
    Calls Try.prog 21 #[.pointer (some ⟨d, 0, none⟩), .int .i64 k] w fun e w' => (∃ v, e = .returned v) ∧ OwnEnd w0 X w d (armM k M) w' := by
  obtain ⟨S, hD, hS, hX, h0⟩ := h
  exact (arm_any hD k hlo hhi).mono fun e w' hq => ⟨hq.1, Own.step hS hX h0 hq.2⟩

theorem own_crash {w0 : World} {X : Nat → Prop} {w : World} {d : Nat} {M : DM} (h : Own w0 X w d M) (hlen : M.fs.length < 1000000) (pa : Option Addr) (n c : Nat) (ks : List Int) (hN : Nums w pa n c ks) (hap : 0 < n → ∀ a, pa = some a → X a.block ∨ a.block < w0.heap.size) :
    Calls Try.prog 16 #[.pointer (some ⟨d, 0, none⟩), .slice pa n c] w fun e w' => (∃ v, e = .returned v) ∧ OwnEnd w0 X w d (crashM ks M) w' := by
  obtain ⟨S, hD, hS, hX, h0⟩ := h
  refine (crash_any hD hlen pa n c ks hN (fun h0' a ha hs => ?_)).mono fun e w' hq => ⟨hq.1, Own.step hS hX h0 hq.2⟩
  rcases hap h0' a ha with h1 | h1
  · exact (hS _ hs).2 h1
  · have := (hS _ hs).1; omega

theorem own_read {w0 : World} {X : Nat → Prop} {w : World} {d : Nat} {M : DM} (h : Own w0 X w d M) (n : List UInt8) (hn : n.length ≤ 9223372036854775807) (hlim : usedF M.fs ≤ 140737488355328) :
    Calls Try.prog 17 #[.pointer (some ⟨d, 0, none⟩), .string ⟨n.toArray⟩] w (ReadEnd w (readM n M)) := by
  obtain ⟨S, hD, _⟩ := h
  exact read_any hD n hn hlim

theorem own_used {w0 : World} {X : Nat → Prop} {w : World} {d : Nat} {M : DM} (h : Own w0 X w d M) :
    Calls Try.prog 12 #[.pointer (some ⟨d, 0, none⟩)] w fun e w' => e = .returned (.int .i64 (usedF M.fs : Int)) ∧ Below w.heap.size w w' := by
  obtain ⟨S, hD, _⟩ := h
  exact used_any hD

theorem own_down {w0 : World} {X : Nat → Prop} {w : World} {d : Nat} {M : DM} (h : Own w0 X w d M) :
    Calls Try.prog 28 #[.pointer (some ⟨d, 0, none⟩)] w fun e w' => e = .returned (.bool M.down) ∧ w' = w := by
  obtain ⟨S, hD, _⟩ := h
  exact down_any hD

theorem own_list {w0 : World} {X : Nat → Prop} {w : World} {d : Nat} {M : DM} (h : Own w0 X w d M) (hlen : M.fs.length < 1000000) :
    Calls Try.prog 26 #[.pointer (some ⟨d, 0, none⟩)] w fun e w' => ∃ v, e = .returned v ∧ w'.ownsRow w.heap.size 9 1 v M.fs.length ((M.fs.map F.n).map encStr) ∧ Below w.heap.size w w' := by
  obtain ⟨S, hD, _⟩ := h
  exact list_any hD hlen

/-- The blocks of a slice's value. -/
def blkOf (p : Option Addr) (b : Nat) : Prop := ∃ a, p = some a ∧ b = a.block

/-- What has been read is kept aside. -/
theorem Own.read {w0 : World} {X : Nat → Prop} {w w' : World} {d : Nat} {M : DM} (h : Own w0 X w d M) (hb : Below w.heap.size w w') {p : Option Addr} (hp : ∀ a, p = some a → w.heap.size ≤ a.block ∧ a.block < w'.heap.size) : Own w0 (fun b => X b ∨ blkOf p b) w' d M :=
  h.more hb fun b hy => hy.imp id fun ⟨a, ha, e⟩ => by rw [e]; exact hp a ha

theorem Bytes.aside {w w' : World} {a : Option Addr} {n c : Nat} {l : List Nat} (h : Bytes w a n c l) (hk : ∀ b, blkOf a b → w'.heap[b]? = w.heap[b]?) : Bytes w' a n c l := by
  rcases Nat.eq_zero_or_pos n with rfl | hn
  · obtain rfl : l = [] := List.length_eq_zero_iff.1 h.len
    exact ⟨rfl, h.le, h.capmax, h.byte, h.nil, fun h => absurd h (Nat.lt_irrefl _)⟩
  · refine h.keep fun p _ hpa => ?_
    obtain ⟨b, o, rfl, _⟩ := h.cell hn
    have e := hpa _ rfl
    exact World.cell?_of_block (hk p.block ⟨_, rfl, e⟩)

theorem nums_nil (w : World) : Nums w none 0 0 [] := ⟨rfl, Nat.le_refl _, by omega, fun _ h => (by cases h), fun h => absurd h (Nat.lt_irrefl _)⟩
theorem nums_one (w : World) (k : Int) (hlo : -9223372036854775808 ≤ k) (hhi : k ≤ 9223372036854775807) : Nums (w.alloc (.cells #[.int .i64 k] 3)) (some ⟨w.heap.size, 0, none⟩) 1 1 [k] := by
  refine ⟨rfl, Nat.le_refl _, by omega, fun x hx => by rw [List.mem_singleton.1 hx]; exact ⟨hlo, hhi⟩, fun _ => ⟨w.heap.size, 0, rfl, fun i hi => ?_⟩⟩
  obtain rfl : i = 0 := by omega
  rw [Nat.zero_add, cell_of_row _ _ _ _ _ (0, 0) (heap_alloc_new _ _)]
  rfl

theorem bytes_new (w : World) (l : List Nat) (hb : ∀ x ∈ l, x < 256) (hm : l.length ≤ 9223372036854775807) : Bytes (w.alloc (.cells (u8s l).toArray 5)) (some ⟨w.heap.size, 0, none⟩) l.length l.length l := by
  refine ⟨rfl, Nat.le_refl _, hm, hb, fun h => (by cases h), fun _ => ⟨w.heap.size, 0, rfl, fun i hi => ?_⟩⟩
  rw [Nat.zero_add, cell_of_row _ _ _ _ _ (0, 0) (heap_alloc_new _ _)]
  simp [u8s, List.getElem?_map, List.getElem?_eq_getElem hi, List.getD_eq_getElem?_getD]
end Go.Proofs.Ytdnbjpfapfnpaaa
