/- A queue of strings of one byte each: what the statement on words makes of it: New of nothing, Has, Push, List. -/
import Derived.Test.YtmmiommfbkcebaaQmKit
namespace Go.Proofs.Ytmmiommfbkcebaa
open Go.RowKit Go.Maps

/-- The string of one byte. -/
def strB (x : UInt8) : ByteArray := ⟨#[x]⟩
theorem strB_size (x : UInt8) : (strB x).size = 1 := rfl
abbrev evS : UInt8 → Value := fun x => .string (strB x)
theorem evS_one (x : UInt8) : (evS x).oneCell' = true := rfl
abbrev ItS (w : World) (base : Nat) (v : Value) (l : List (UInt8 × Nat)) : Prop := ItR evS 70 w base v l
theorem info_itw : (Try.prog.info? 70).map (fun i => (i.zero, i.size, i.bytes)) = some (some (.agg #[.string ⟨#[]⟩, .int .u64 0]), 2, 24) := by kernel_rfl
def InS (_ : UInt8) : Prop := True
/-- A string as a key. -/
abbrev elS : UInt8 → Lit := fun x => .string [x]
theorem elS_inj (a b : UInt8) (h : elS a = elS b) : a = b := (List.cons.inj (Lit.string.inj h)).1
theorem keyS : Keyed Try.prog 9 := string_keyed Try.underlying9
theorem keyOfS (x : UInt8) : keyOf Try.prog 9 (.string (strB x)) = some (.string [x]) :=
  WideMaps.keyOf_string_mk Try.underlying9 (by rw [maxLen_nat]; show (#[x] : Array UInt8).size ≤ _; simp)
/-- What Push leaves. -/
def pushU (l : List UInt8) (x : UInt8) : List UInt8 := if x ∈ l then l else l ++ [x]

section
variable {w w' : World} {mb : Nat} {T T' : List (UInt8 × Nat)}

set_option maxRecDepth 100000 in
theorem MapE.lookS (h : MapE elS 9 w mb T) (x : UInt8) (_ : InS x) :
    ∃ c : Int, (Instr.lookup 65 (.map (some mb)) (.string (strB x)) true).run Try.prog w = .ok (.tuple #[.int .u64 c, .bool (hasE T x)]) w := by
  obtain ⟨D, h1, h2⟩ := h
  obtain ⟨v, ps, hrun, hv⟩ := h1.look_ok keyS Try.underlying65 (zeroU w) (plainElem_int Try.underlying55 (by decide)) (keyOfS x)
  obtain ⟨c, rfl, hc, _⟩ := plainElem_int_inv Try.underlying55 hv
  exact ⟨c, by rw [hrun, ← h2.has]⟩

theorem MapE.putS (h : MapE elS 9 w mb T) (t : UInt8 × Nat) (_ : InS t.1) (ha : t.2 < 18446744073709551616) (hno : hasE T t.1 = false) (hl : T.length ≤ 2000000) (hm : ∀ x, x ∈ T' ↔ x = t ∨ x ∈ T) (hn : T'.length = T.length + 1) :
    ∃ w', (Instr.mapUpdate 65 (.map (some mb)) (.string (strB t.1)) (.int .u64 (t.2 : Int))).run Try.prog w = .ok () w' ∧ MapE elS 9 w' mb T' ∧ w.grownBy w' (some mb) := by
  obtain ⟨D, h1, h2⟩ := h
  obtain ⟨w', r1, g1, g2⟩ := h1.update keyS Try.underlying65 (Nat.lt_of_le_of_lt hl (by decide)) (keyOfS t.1) (plainElem_int Try.underlying55 (wfU ha))
  have hk : WideAt.IsKeyLit (elS t.1) := by first | trivial | exact rfl | decide
  have h3 := h2.put elS_inj t hk hno hm hn
  exact ⟨w', r1, ⟨_, owns_tight g1 h3.size, h3⟩, g2⟩
end

/-- A queue: its cells lie in block d, its map in block mb, its items behind v; k pushes have been made; l are its elements. -/
structure Qw (w0 : World) (X : Nat → Prop) (w : World) (m d : Nat) (l : List UInt8) (v : Value) (T : List (UInt8 × Nat)) (mb k : Nat) : Prop where
  head : w.heap[d]? = some (.cells #[v, .map (some mb), .int .u64 (k : Int)] 68 (0, 0))
  row : ItS w w0.heap.size v T
  map : MapE elS 9 w mb T
  els : l = T.map (·.1)
  nd : l.Nodup
  rng : ∀ x ∈ l, InS x
  srt : T.Pairwise (fun a b => a.2 < b.2)
  lt : ∀ t ∈ T, t.2 < k
  cnt : k ≤ m ∧ T.length ≤ m
  dpos : w0.heap.size ≤ d ∧ ¬ X d
  mpos : w0.heap.size ≤ mb ∧ ¬ X mb
  vpos : ∀ b, v.ownBlock = some b → ¬ X b ∧ b ≠ d ∧ b ≠ mb
  ne : d ≠ mb
  xb : ∀ b, X b → b < w.heap.size
  base : Below w0.heap.size w0 w

section
variable {w0 : World} {X : Nat → Prop} {w : World} {m d : Nat} {l : List UInt8} {v : Value} {T : List (UInt8 × Nat)} {mb k : Nat}
theorem Qw.c0 (h : Qw w0 X w m d l v T mb k) : w.cell? ⟨d, 0, none⟩ = some v := by rw [cell_of_row _ _ _ _ _ (0, 0) h.head]; rfl
theorem Qw.c1 (h : Qw w0 X w m d l v T mb k) : w.cell? ⟨d, 1, none⟩ = some (.map (some mb)) := by rw [cell_of_row _ _ _ _ _ (0, 0) h.head]; rfl
theorem Qw.c2 (h : Qw w0 X w m d l v T mb k) : w.cell? ⟨d, 2, none⟩ = some (.int .u64 (k : Int)) := by rw [cell_of_row _ _ _ _ _ (0, 0) h.head]; rfl
theorem Qw.frozen (h : Qw w0 X w m d l v T mb k) (j : Nat) : w.frozen? ⟨d, j, none⟩ = false := by simp [World.frozen?, h.head]
theorem Qw.dlt (h : Qw w0 X w m d l v T mb k) : d < w.heap.size := (Array.getElem?_eq_some_iff.1 h.head).1
theorem Qw.len (h : Qw w0 X w m d l v T mb k) : l.length = T.length := by rw [h.els, List.length_map]
theorem Qw.has (h : Qw w0 X w m d l v T mb k) (x : UInt8) : hasE T x = decide (x ∈ l) := by rw [h.els]; rfl
theorem Qw.ids (h : Qw w0 X w m d l v T mb k) : ∀ a ∈ T, ∀ b ∈ T, a.1 = b.1 → a = b := by
  have h1 := h.nd
  rw [h.els] at h1
  intro a ha b hb e
  obtain ⟨i, hi⟩ := List.mem_iff_getElem?.1 ha
  obtain ⟨j, hj⟩ := List.mem_iff_getElem?.1 hb
  have hij : i = j := List.getElem?_inj (l := T.map (·.1)) (by rw [List.length_map]; exact (List.getElem?_eq_some_iff.1 hi).1) h1 |>.1 (by rw [List.getElem?_map, List.getElem?_map, hi, hj, Option.map_some, Option.map_some, e])
  rw [hij, hj] at hi
  exact (Option.some.inj hi).symm

/-- All that the queue has keeps its blocks; other blocks may turn, and others may be kept aside. -/
theorem Qw.other {Y : Nat → Prop} {w' : World} (h : Qw w0 X w m d l v T mb k) (hk : ∀ b, (b = d ∨ b = mb ∨ v.ownBlock = some b) → w'.heap[b]? = w.heap[b]?) (hY : ∀ b, Y b → (X b ∨ w.heap.size ≤ b) ∧ b < w'.heap.size) (hb : Below w0.heap.size w w') : Qw w0 Y w' m d l v T mb k := by
  have hnot : ∀ b, ¬ X b → b < w.heap.size → ¬ Y b := fun b h1 h2 h3 => (hY b h3).1.elim h1 (fun h4 => by omega)
  exact ⟨(hk d (.inl rfl)).trans h.head, h.row.kept (fun b e => hk b (.inr (.inr e))), h.map.kept (hk mb (.inr (.inl rfl))), h.els, h.nd, h.rng, h.srt, h.lt, h.cnt, ⟨h.dpos.1, hnot d h.dpos.2 h.dlt⟩, ⟨h.mpos.1, hnot mb h.mpos.2 h.map.lt⟩,
    fun b e => ⟨hnot b (h.vpos b e).1 (h.row.lt e).2, (h.vpos b e).2⟩, h.ne, fun b e => (hY b e).2, h.base.trans hb⟩

theorem Qw.below {w' : World} (h : Qw w0 X w m d l v T mb k) (hb : Below w.heap.size w w') : Qw w0 X w' m d l v T mb k :=
  h.other (fun b e => hb.block b (by rcases e with rfl | rfl | e; exact h.dlt; exact h.map.lt; exact (h.row.lt e).2)) (fun b e => ⟨.inl e, Nat.lt_of_lt_of_le (h.xb b e) hb.size⟩) (hb.mono h.base.size)

theorem Qw.more {m' : Nat} (h : Qw w0 X w m d l v T mb k) (hm : m ≤ m') : Qw w0 X w m' d l v T mb k :=
  ⟨h.head, h.row, h.map, h.els, h.nd, h.rng, h.srt, h.lt, ⟨Nat.le_trans h.cnt.1 hm, Nat.le_trans h.cnt.2 hm⟩, h.dpos, h.mpos, h.vpos, h.ne, h.xb, h.base⟩
end

/-- A queue of the law's own. -/
def QwS (w0 : World) (X : Nat → Prop) (w : World) (m d : Nat) (l : List UInt8) : Prop := ∃ v T mb k, Qw w0 X w m d l v T mb k
/-- What a change leaves. -/
def QwE (w0 : World) (X : Nat → Prop) (w : World) (m d : Nat) (l : List UInt8) (w' : World) : Prop := QwS w0 X w' m d l ∧ (∀ b, X b → w'.heap[b]? = w.heap[b]?) ∧ Below w0.heap.size w w'

theorem Qw.same {w0 : World} {X : Nat → Prop} {w w' : World} {m d : Nat} {l : List UInt8} {v : Value} {T : List (UInt8 × Nat)} {mb k m' : Nat} (h : Qw w0 X w m d l v T mb k) (hm : m ≤ m') (hb : Below w.heap.size w w') : QwE w0 X w m' d l w' :=
  ⟨⟨v, T, mb, k, (h.below hb).more hm⟩, fun b e => hb.block b (h.xb b e), hb.mono h.base.size⟩

/-- The queue has turned. -/
theorem Qw.turn {w0 : World} {X : Nat → Prop} {w w' : World} {m d : Nat} {l : List UInt8} {v : Value} {T : List (UInt8 × Nat)} {mb k m' k' : Nat} {l' : List UInt8} {v' : Value} {T' : List (UInt8 × Nat)} (h : Qw w0 X w m d l v T mb k)
    (hos : w'.os = w.os) (htape : w'.tape = w.tape) (hout : w'.output = w.output) (hsz : w.heap.size ≤ w'.heap.size) (hc : ∀ b, b < w.heap.size → b ≠ d → b ≠ mb → v.ownBlock ≠ some b → w'.heap[b]? = w.heap[b]?)
    (head : w'.heap[d]? = some (.cells #[v', .map (some mb), .int .u64 (k' : Int)] 68 (0, 0))) (row : ItS w' w0.heap.size v' T') (map : MapE elS 9 w' mb T') (own : ∀ b, v'.ownBlock = some b → v.ownBlock = some b ∨ w.heap.size ≤ b)
    (els : l' = T'.map (·.1)) (nd : l'.Nodup) (rng : ∀ x ∈ l', InS x) (srt : T'.Pairwise (fun a b => a.2 < b.2)) (lt : ∀ t ∈ T', t.2 < k') (cnt : k' ≤ m' ∧ T'.length ≤ m') : QwE w0 X w m' d l' w' := by
  have hb : Below w0.heap.size w w' := ⟨hos, htape, hout, hsz, fun b hb => hc b (Nat.lt_of_lt_of_le hb h.base.size) (fun e => by have := h.dpos.1; omega) (fun e => by have := h.mpos.1; omega) (fun e => by have := (h.row.lt e).1; omega)⟩
  refine ⟨⟨v', T', mb, k', head, row, map, els, nd, rng, srt, lt, cnt, h.dpos, h.mpos, fun b e => ?_, h.ne, fun b e => Nat.lt_of_lt_of_le (h.xb b e) hsz, h.base.trans hb⟩, fun b e => hc b (h.xb b e) (fun e' => h.dpos.2 (e' ▸ e)) (fun e' => h.mpos.2 (e' ▸ e)) (fun e' => (h.vpos b e').1 e), hb⟩
  rcases own b e with h1 | h1
  · exact h.vpos b h1
  · have h2 := h.dlt
    have h3 := h.map.lt
    exact ⟨fun e => by have := h.xb b e; omega, by omega, by omega⟩

section
variable {w0 : World} {X : Nat → Prop} {w : World} {m d : Nat} {l : List UInt8} {v : Value} {T : List (UInt8 × Nat)} {mb k : Nat}

set_option maxRecDepth 100000 in
theorem hasW_any (h : Qw w0 X w m d l v T mb k) (x : UInt8) (hx : InS x) : Calls Try.prog 31 #[.pointer (some ⟨d, 0, none⟩), (.string (strB x))] w fun r w' => r = .returned (.bool (decide (x ∈ l))) ∧ w' = w := by
  have q0 := h.c1
  obtain ⟨c, hrun⟩ := MapE.lookS h.map x hx
  rw [h.has] at hrun
  generalize decide (x ∈ l) = b at *
  clear h
  go_enter Try.func31, Try.ntmps31
  go_wp2
  go_ret
  exact ⟨rfl, rfl⟩

end
end Go.Proofs.Ytmmiommfbkcebaa
