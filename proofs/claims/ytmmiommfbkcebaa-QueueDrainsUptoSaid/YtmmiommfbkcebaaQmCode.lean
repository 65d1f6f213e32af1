/- A queue in memory; the walks of Has, Len, Peek, Push. -/
import Derived.Test.YtmmiommfbkcebaaQmMap
import Derived.Test.YtmmiommfbkcebaaQmSearch
import Derived.Test.YtmmiommfbkcebaaQuRef2
namespace Go.Proofs.Ytmmiommfbkcebaa
open Go.RowKit Go.Maps

/-- A queue: its cells lie in block d, its map in block mb, its items behind v; k pushes have been made; l are its elements. -/
structure Qm (w0 : World) (X : Nat → Prop) (w : World) (m d : Nat) (l : List Int) (v : Value) (T : List (Int × Nat)) (mb k : Nat) : Prop where
  head : w.heap[d]? = some (.cells #[v, .map (some mb), .int .u64 (k : Int)] 57 (0, 0))
  row : ItI w w0.heap.size v T
  map : MapE elI 3 w mb T
  els : l = T.map (·.1)
  nd : l.Nodup
  rng : ∀ x ∈ l, InI x
  srt : T.Pairwise (fun a b => a.2 < b.2)
  lt : ∀ t ∈ T, t.2 < k
  cnt : k ≤ m ∧ T.length ≤ m
  dpos : w0.heap.size ≤ d ∧ ¬ X d
  mpos : w0.heap.size ≤ mb ∧ ¬ X mb
  vpos : ∀ b, v.ownBlock = some b → ¬ X b ∧ b ≠ d ∧ b ≠ mb
  ne : d ≠ mb
  xb : ∀ b, X b → b < w.heap.size
  base : Below w0.heap.size w0 w

section
variable {w0 : World} {X : Nat → Prop} {w : World} {m d : Nat} {l : List Int} {v : Value} {T : List (Int × Nat)} {mb k : Nat}
theorem Qm.c0 (h : Qm w0 X w m d l v T mb k) : w.cell? ⟨d, 0, none⟩ = some v := by rw [cell_of_row _ _ _ _ _ (0, 0) h.head]; rfl
theorem Qm.c1 (h : Qm w0 X w m d l v T mb k) : w.cell? ⟨d, 1, none⟩ = some (.map (some mb)) := by rw [cell_of_row _ _ _ _ _ (0, 0) h.head]; rfl
theorem Qm.c2 (h : Qm w0 X w m d l v T mb k) : w.cell? ⟨d, 2, none⟩ = some (.int .u64 (k : Int)) := by rw [cell_of_row _ _ _ _ _ (0, 0) h.head]; rfl
theorem Qm.frozen (h : Qm w0 X w m d l v T mb k) (j : Nat) : w.frozen? ⟨d, j, none⟩ = false := by simp [World.frozen?, h.head]
theorem Qm.dlt (h : Qm w0 X w m d l v T mb k) : d < w.heap.size := (Array.getElem?_eq_some_iff.1 h.head).1
theorem Qm.len (h : Qm w0 X w m d l v T mb k) : l.length = T.length := by rw [h.els, List.length_map]
theorem Qm.has (h : Qm w0 X w m d l v T mb k) (x : Int) : hasE T x = decide (x ∈ l) := by rw [h.els]; rfl
theorem Qm.ids (h : Qm w0 X w m d l v T mb k) : ∀ a ∈ T, ∀ b ∈ T, a.1 = b.1 → a = b := by
  have h1 := h.nd
  rw [h.els] at h1
  intro a ha b hb e
  obtain ⟨i, hi⟩ := List.mem_iff_getElem?.1 ha
  obtain ⟨j, hj⟩ := List.mem_iff_getElem?.1 hb
  have hij : i = j := List.getElem?_inj (l := T.map (·.1)) (by rw [List.length_map]; exact (List.getElem?_eq_some_iff.1 hi).1) h1 |>.1 (by rw [List.getElem?_map, List.getElem?_map, hi, hj, Option.map_some, Option.map_some, e])
  rw [hij, hj] at hi
  exact (Option.some.inj hi).symm

/-- All that the queue has keeps its blocks; other blocks may turn, and others may be kept aside. -/
theorem Qm.other {Y : Nat → Prop} {w' : World} (h : Qm w0 X w m d l v T mb k) (hk : ∀ b, (b = d ∨ b = mb ∨ v.ownBlock = some b) → w'.heap[b]? = w.heap[b]?) (hY : ∀ b, Y b → (X b ∨ w.heap.size ≤ b) ∧ b < w'.heap.size) (hb : Below w0.heap.size w w') : Qm w0 Y w' m d l v T mb k := by
  have hnot : ∀ b, ¬ X b → b < w.heap.size → ¬ Y b := fun b h1 h2 h3 => (hY b h3).1.elim h1 (fun h4 => by omega)
  exact ⟨(hk d (.inl rfl)).trans h.head, h.row.kept (fun b e => hk b (.inr (.inr e))), h.map.kept (hk mb (.inr (.inl rfl))), h.els, h.nd, h.rng, h.srt, h.lt, h.cnt, ⟨h.dpos.1, hnot d h.dpos.2 h.dlt⟩, ⟨h.mpos.1, hnot mb h.mpos.2 h.map.lt⟩,
    fun b e => ⟨hnot b (h.vpos b e).1 (h.row.lt e).2, (h.vpos b e).2⟩, h.ne, fun b e => (hY b e).2, h.base.trans hb⟩

theorem Qm.below {w' : World} (h : Qm w0 X w m d l v T mb k) (hb : Below w.heap.size w w') : Qm w0 X w' m d l v T mb k :=
  h.other (fun b e => hb.block b (by rcases e with rfl | rfl | e; exact h.dlt; exact h.map.lt; exact (h.row.lt e).2)) (fun b e => ⟨.inl e, Nat.lt_of_lt_of_le (h.xb b e) hb.size⟩) (hb.mono h.base.size)

theorem Qm.more {m' : Nat} (h : Qm w0 X w m d l v T mb k) (hm : m ≤ m') : Qm w0 X w m' d l v T mb k :=
  ⟨h.head, h.row, h.map, h.els, h.nd, h.rng, h.srt, h.lt, ⟨Nat.le_trans h.cnt.1 hm, Nat.le_trans h.cnt.2 hm⟩, h.dpos, h.mpos, h.vpos, h.ne, h.xb, h.base⟩
end

/-- A queue of the law's own. -/
def QmS (w0 : World) (X : Nat → Prop) (w : World) (m d : Nat) (l : List Int) : Prop := ∃ v T mb k, Qm w0 X w m d l v T mb k
/-- What a change leaves. -/
def QmE (w0 : World) (X : Nat → Prop) (w : World) (m d : Nat) (l : List Int) (w' : World) : Prop := QmS w0 X w' m d l ∧ (∀ b, X b → w'.heap[b]? = w.heap[b]?) ∧ Below w0.heap.size w w'

theorem Qm.same {w0 : World} {X : Nat → Prop} {w w' : World} {m d : Nat} {l : List Int} {v : Value} {T : List (Int × Nat)} {mb k m' : Nat} (h : Qm w0 X w m d l v T mb k) (hm : m ≤ m') (hb : Below w.heap.size w w') : QmE w0 X w m' d l w' :=
  ⟨⟨v, T, mb, k, (h.below hb).more hm⟩, fun b e => hb.block b (h.xb b e), hb.mono h.base.size⟩

/-- The queue has turned. -/
theorem Qm.turn {w0 : World} {X : Nat → Prop} {w w' : World} {m d : Nat} {l : List Int} {v : Value} {T : List (Int × Nat)} {mb k m' k' : Nat} {l' : List Int} {v' : Value} {T' : List (Int × Nat)} (h : Qm w0 X w m d l v T mb k)
    (hos : w'.os = w.os) (htape : w'.tape = w.tape) (hout : w'.output = w.output) (hsz : w.heap.size ≤ w'.heap.size) (hc : ∀ b, b < w.heap.size → b ≠ d → b ≠ mb → v.ownBlock ≠ some b → w'.heap[b]? = w.heap[b]?)
    (head : w'.heap[d]? = some (.cells #[v', .map (some mb), .int .u64 (k' : Int)] 57 (0, 0))) (row : ItI w' w0.heap.size v' T') (map : MapE elI 3 w' mb T') (own : ∀ b, v'.ownBlock = some b → v.ownBlock = some b ∨ w.heap.size ≤ b)
    (els : l' = T'.map (·.1)) (nd : l'.Nodup) (rng : ∀ x ∈ l', InI x) (srt : T'.Pairwise (fun a b => a.2 < b.2)) (lt : ∀ t ∈ T', t.2 < k') (cnt : k' ≤ m' ∧ T'.length ≤ m') : QmE w0 X w m' d l' w' := by
  have hb : Below w0.heap.size w w' := ⟨hos, htape, hout, hsz, fun b hb => hc b (Nat.lt_of_lt_of_le hb h.base.size) (fun e => by have := h.dpos.1; omega) (fun e => by have := h.mpos.1; omega) (fun e => by have := (h.row.lt e).1; omega)⟩
  refine ⟨⟨v', T', mb, k', head, row, map, els, nd, rng, srt, lt, cnt, h.dpos, h.mpos, fun b e => ?_, h.ne, fun b e => Nat.lt_of_lt_of_le (h.xb b e) hsz, h.base.trans hb⟩, fun b e => hc b (h.xb b e) (fun e' => h.dpos.2 (e' ▸ e)) (fun e' => h.mpos.2 (e' ▸ e)) (fun e' => (h.vpos b e').1 e), hb⟩
  rcases own b e with h1 | h1
  · exact h.vpos b h1
  · have h2 := h.dlt
    have h3 := h.map.lt
    exact ⟨fun e => by have := h.xb b e; omega, by omega, by omega⟩

section
variable {w0 : World} {X : Nat → Prop} {w : World} {m d : Nat} {l : List Int} {v : Value} {T : List (Int × Nat)} {mb k : Nat}

set_option maxRecDepth 100000 in
theorem has_any (h : Qm w0 X w m d l v T mb k) (x : Int) (hx : InI x) : Calls Try.prog 23 #[.pointer (some ⟨d, 0, none⟩), .int .i64 x] w fun r w' => r = .returned (.bool (decide (x ∈ l))) ∧ w' = w := by
  have q0 := h.c1
  obtain ⟨c, hrun⟩ := h.map.look x hx
  rw [h.has] at hrun
  generalize decide (x ∈ l) = b at *
  clear h
  go_enter Try.func23, Try.ntmps23
  go_wp2
  go_ret
  exact ⟨rfl, rfl⟩

set_option maxRecDepth 100000 in
theorem len_any (h : Qm w0 X w m d l v T mb k) {n : Nat} (hn : l.length = n) : Calls Try.prog 20 #[.pointer (some ⟨d, 0, none⟩)] w fun r w' => r = .returned (.int .i64 (n : Int)) ∧ w' = w := by
  have q0 := h.c0
  obtain ⟨p, c, rfl, _, _⟩ := h.row.slice
  rw [← h.len, hn] at q0
  clear h
  go_enter Try.func20, Try.ntmps20
  go_wp2
  go_ret
  exact ⟨rfl, rfl⟩

set_option maxRecDepth 100000 in
theorem peek_any (h : Qm w0 X w m d l v T mb k) : Calls Try.prog 17 #[.pointer (some ⟨d, 0, none⟩)] w fun r w' => r = .returned (.tuple #[.int .i64 (l.headD 0), .bool (!l.isEmpty)]) ∧ w' = w := by
  have q0 := h.c0
  obtain ⟨n, hn⟩ : ∃ n, l.length = n := ⟨_, rfl⟩
  have HL := Lib.hid (len_any h hn)
  cases T with
  | nil =>
    obtain rfl : l = [] := h.els
    cases hn
    clear h q0
    go_enter Try.func17, Try.ntmps17
    go_wp2_with fail
    refine HL.out.mono ?_
    rintro r w1 ⟨rfl, rfl⟩
    go_wp2
    go_ret2
    exact ⟨rfl, rfl⟩
  | cons t T =>
    obtain ⟨x, j⟩ := t
    obtain rfl : l = x :: T.map (·.1) := h.els
    obtain ⟨g, o, c, rfl, _, _, hc⟩ := h.row.cell (by simp)
    obtain ⟨g0, _⟩ := hc 0 (x, j) rfl
    have g0 : w.cell? ⟨g, o, none⟩ = some (.int .i64 x) := g0
    obtain ⟨N, hN⟩ : ∃ N, N = ((x, j) :: T).length := ⟨_, rfl⟩
    have hNn : n = N := by rw [← hn, hN]; simp
    have hpos : 0 < N := by rw [hN]; simp
    have hnz : ¬ (N : Int) = 0 := by omega
    have hnp : (0 : Int) < (N : Int) := by omega
    rw [← hN] at q0
    rw [hNn] at HL
    clear h hc hn hN hNn
    go_enter Try.func17, Try.ntmps17
    go_wp2_with fail
    refine HL.out.mono ?_
    rintro r w1 ⟨rfl, rfl⟩
    go_wp2
    go_ret2
    exact ⟨rfl, rfl⟩
end
end Go.Proofs.Ytmmiommfbkcebaa
