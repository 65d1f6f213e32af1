/- Slices of bytes, and slices of these, as plain lists: what a world holds of them, and how it is kept while only new memory is made. -/
import Derived.WalkKit
import Derived.WalkLawsBesides
import Derived.WalkSpells
import Derived.Lib.Hide
import Derived.Laws.AppendOwnNone
import Derived.Laws.CopyOwn
namespace Go.Proofs.Ytmmiommfbkcebaa
open Go.RowKit

theorem u32_eq {a b : Nat} (h : a = b) : Value.int .u32 (a : Int) = Value.int .u32 (b : Int) := by rw [h]
theorem ret_u32 {a b : Nat} (h : a = b) : Ending.returned (.int .u32 (a : Int)) = Ending.returned (.int .u32 (b : Int)) := by rw [h]
theorem ret_bool {a b : Bool} (h : a = b) : Ending.returned (.bool a) = Ending.returned (.bool b) := by rw [h]

/-- The bytes l lie at the start of a slice's value. -/
structure Bytes (w : World) (a : Option Addr) (n cap : Nat) (l : List Nat) : Prop where
  len : l.length = n
  le : n ≤ cap
  capmax : cap ≤ 9223372036854775807
  byte : ∀ x ∈ l, x < 256
  nil : a = none → cap = 0
  cell : 0 < n → ∃ b o, a = some ⟨b, o, none⟩ ∧ ∀ i, i < n → w.cell? ⟨b, o + i, none⟩ = some (.int .u8 (l.getD i 0 : Nat))

theorem Bytes.max {w : World} {a : Option Addr} {n cap : Nat} {l : List Nat} (h : Bytes w a n cap l) : n ≤ 9223372036854775807 := Nat.le_trans h.le h.capmax

theorem Bytes.get {w : World} {a : Option Addr} {n cap : Nat} {l : List Nat} (h : Bytes w a n cap l) {i : Nat} (hi : i < n) :
    l.getD i 0 < 256 := by
  have h1 := h.len
  rw [List.getD_eq_getElem?_getD, List.getElem?_eq_getElem (by omega)]
  exact h.byte _ (List.getElem_mem _)

theorem Bytes.lt {w : World} {b o n cap : Nat} {l : List Nat} (h : Bytes w (some ⟨b, o, none⟩) n cap l) (hn : 0 < n) : b < w.heap.size := by
  obtain ⟨b', o', e, hc⟩ := h.cell hn
  cases e
  exact World.block_lt_of_cell? _ _ (hc 0 hn)

/-- Another world in which the same cells hold the same. -/
theorem Bytes.keep {w w' : World} {a : Option Addr} {n cap : Nat} {l : List Nat} (h : Bytes w a n cap l) (hw : ∀ p : Addr, p.block < w.heap.size → (∀ x, a = some x → p.block = x.block) → w'.cell? p = w.cell? p) : Bytes w' a n cap l := by
  obtain ⟨h1, h2, h3, h4, h5, h6⟩ := h
  refine ⟨h1, h2, h3, h4, h5, fun hn => ?_⟩
  obtain ⟨b, o, rfl, hc⟩ := h6 hn
  exact ⟨b, o, rfl, fun i hi => by rw [hw ⟨b, o + i, none⟩ (World.block_lt_of_cell? _ _ (hc i hi)) (fun x hx => by cases hx; rfl)]; exact hc i hi⟩

theorem Bytes.grow {w w' : World} {a : Option Addr} {n cap : Nat} {l : List Nat} (h : Bytes w a n cap l) (hw : Below w.heap.size w w') : Bytes w' a n cap l :=
  h.keep fun _ hp _ => hw.cell hp

/-- The byte strings ls lie at the start of a slice of slices. -/
structure Parts (w : World) (a : Option Addr) (n cap : Nat) (ls : List (List Nat)) : Prop where
  len : ls.length = n
  le : n ≤ cap
  capmax : cap ≤ 9223372036854775807
  cell : 0 < n → ∃ b o, a = some ⟨b, o, none⟩ ∧ b < w.heap.size ∧
    ∀ i, i < n → ∃ a' n' c', w.cell? ⟨b, o + i, none⟩ = some (.slice a' n' c') ∧ Bytes w a' n' c' (ls.getD i [])

theorem Parts.max {w : World} {a : Option Addr} {n cap : Nat} {ls : List (List Nat)} (h : Parts w a n cap ls) : n ≤ 9223372036854775807 := Nat.le_trans h.le h.capmax

theorem Parts.grow {w w' : World} {a : Option Addr} {n cap : Nat} {ls : List (List Nat)} (h : Parts w a n cap ls) (hw : Below w.heap.size w w') : Parts w' a n cap ls := by
  obtain ⟨h1, h2, h3, h4⟩ := h
  refine ⟨h1, h2, h3, fun hn => ?_⟩
  obtain ⟨b, o, rfl, hb, hc⟩ := h4 hn
  refine ⟨b, o, rfl, Nat.lt_of_lt_of_le hb hw.size, fun i hi => ?_⟩
  obtain ⟨a', n', c', g1, g2⟩ := hc i hi
  exact ⟨a', n', c', by rw [hw.cell (p := ⟨b, o + i, none⟩) hb]; exact g1, g2.grow hw⟩

theorem Parts.byte {w : World} {a : Option Addr} {n cap : Nat} {ls : List (List Nat)} (h : Parts w a n cap ls) : ∀ l ∈ ls, ∀ x ∈ l, x < 256 := by
  intro l hl
  obtain ⟨i, hi, rfl⟩ := List.getElem_of_mem hl
  have hn : i < n := by rw [← h.len]; exact hi
  obtain ⟨b, o, _, _, hc⟩ := h.cell (by omega)
  obtain ⟨a', n', c', _, g2⟩ := hc i hn
  have e : ls.getD i [] = ls[i] := by rw [List.getD_eq_getElem?_getD, List.getElem?_eq_getElem hi]; rfl
  rw [← e]
  exact g2.byte

theorem byte_one {l : List Nat} (h : ∀ x ∈ l, x < 256) : ∀ m ∈ [l], ∀ x ∈ m, x < 256 := by
  intro m hm
  have e : m = l := by simpa using hm
  rw [e]
  exact h

/-- One byte string as the only part. -/
theorem parts_one {w : World} {a : Option Addr} {n cap : Nat} {l : List Nat} (h : Bytes w a n cap l) (t : TypeId) :
    Parts (w.alloc (.cells #[.slice a n cap] t)) (some ⟨w.heap.size, 0, none⟩) 1 1 [l] := by
  refine ⟨rfl, Nat.le_refl _, by omega, fun _ => ⟨w.heap.size, 0, rfl, by simp, fun i hi => ?_⟩⟩
  obtain rfl : i = 0 := by omega
  refine ⟨a, n, cap, ?_, h.grow ((Below.refl _ _).alloc (Nat.le_refl _) _)⟩
  rw [Nat.zero_add, cell_of_row _ _ _ _ _ (0, 0) (heap_alloc_new _ _)]; rfl

theorem parts_one_at {w : World} {a : Option Addr} {n cap g : Nat} {l : List Nat} (h : Bytes w a n cap l) (t : TypeId) (hg : g = w.heap.size) :
    Parts (w.alloc (.cells #[.slice a n cap] t)) (some ⟨g, 0, none⟩) 1 1 [l] := by
  subst hg; exact parts_one h t

theorem bytes_nil (w : World) : Bytes w none 0 0 [] := ⟨rfl, Nat.le_refl _, Nat.zero_le _, fun _ h => (by cases h), fun _ => rfl, fun h => absurd h (Nat.lt_irrefl _)⟩

/-- Two byte strings as the parts. -/
theorem parts_two {w : World} {a a' : Option Addr} {n cap n' cap' g : Nat} {l l' : List Nat} (h : Bytes w a n cap l) (h' : Bytes w a' n' cap' l') (t : TypeId) (hg : g = w.heap.size) :
    Parts (w.alloc (.cells #[.slice a n cap, .slice a' n' cap'] t)) (some ⟨g, 0, none⟩) 2 2 [l, l'] := by
  subst hg
  refine ⟨rfl, Nat.le_refl _, by omega, fun _ => ⟨w.heap.size, 0, rfl, by simp, fun i hi => ?_⟩⟩
  have hb : Below w.heap.size w (w.alloc (.cells #[.slice a n cap, .slice a' n' cap'] t)) := (Below.refl _ _).alloc (Nat.le_refl _) _
  rcases (show i = 0 ∨ i = 1 by omega) with rfl | rfl
  · exact ⟨a, n, cap, by rw [Nat.zero_add, cell_of_row _ _ _ _ _ (0, 0) (heap_alloc_new _ _)]; rfl, h.grow hb⟩
  · exact ⟨a', n', cap', by rw [Nat.zero_add, cell_of_row _ _ _ _ _ (0, 0) (heap_alloc_new _ _)]; rfl, h'.grow hb⟩

theorem below_call {w w' : World} {o : Obj} (h : Below (w.alloc o).heap.size (w.alloc o) w') : Below w.heap.size w w' :=
  ((Below.refl _ _).alloc (Nat.le_refl _) o).trans (h.mono (by simp))

/-- Bytes as cells. -/
def u8s (l : List Nat) : List Value := l.map fun x : Nat => Value.int .u8 (x : Int)

theorem u8s_get {l : List Nat} {i : Nat} {u : Value} (h : (u8s l)[i]? = some u) : i < l.length ∧ u = .int .u8 (l.getD i 0 : Nat) := by
  unfold u8s at h
  rw [List.getElem?_map] at h
  obtain ⟨x, hx, rfl⟩ := Option.map_eq_some_iff.1 h
  obtain ⟨hi, rfl⟩ := List.getElem?_eq_some_iff.1 hx
  exact ⟨hi, by rw [List.getD_eq_getElem?_getD, hx]; rfl⟩

theorem u8s_one (l : List Nat) : ∀ u ∈ u8s l, u.oneCell' = true := by
  intro u hu
  obtain ⟨x, _, rfl⟩ := List.mem_map.1 hu
  rfl

theorem u8s_append (a b : List Nat) : u8s (a ++ b) = u8s a ++ u8s b := List.map_append

/-- A row of the call's own, written as bytes, is read as a byte slice. -/
theorem bytes_of_own {w : World} {base : Nat} {e : TypeId} {a : Option Addr} {n cap m : Nat} {l : List Nat} (h : w.ownsRow base e 1 (.slice a n cap) m (u8s l)) (hb : ∀ x ∈ l, x < 256) :
    Bytes w a n cap l := by
  have hlen : l.length = m := by have := h.1; simpa [u8s] using this
  rcases h.2 with ⟨hv, rfl⟩ | ⟨g, cap', cur, hv, _, hg, hle, hcm, hsz, htake⟩
  · cases hv
    exact ⟨hlen, Nat.le_refl _, Nat.zero_le _, hb, fun _ => rfl, fun h => absurd h (Nat.lt_irrefl _)⟩
  · cases hv
    refine ⟨hlen, hle, hcm, hb, fun h => (by cases h), fun _ => ⟨g, 0, rfl, fun i hi => ?_⟩⟩
    rw [Nat.zero_add, cell_of_row w g i cur e (0, 0) hg]
    have e1 : (u8s l)[i]? = some (.int .u8 (l.getD i 0 : Nat)) := by
      unfold u8s
      rw [List.getElem?_map, List.getElem?_eq_getElem (by omega), List.getD_eq_getElem?_getD, List.getElem?_eq_getElem (by omega)]; rfl
    rw [← htake, List.getElem?_take, if_pos (by omega)] at e1
    simpa using e1

theorem own_slice {w : World} {base : Nat} {e : TypeId} {v : Value} {m : Nat} {l : List Nat} (h : w.ownsRow base e 1 v m (u8s l)) (hb : ∀ x ∈ l, x < 256) :
    ∃ p cp, v = .slice p m cp ∧ Bytes w p m cp l := by
  have h0 := h
  rcases h.2 with ⟨rfl, rfl⟩ | ⟨g, cap', cur, rfl, _⟩
  · exact ⟨none, 0, rfl, bytes_of_own h0 hb⟩
  · exact ⟨_, _, rfl, bytes_of_own h0 hb⟩

theorem maxLen_nat : maxLen = 9223372036854775807 := rfl

section
variable {P : Program} (w : World)

/-- 'append(out, p...)': out the call's own bytes, p any byte slice. -/
theorem wpList_append_bytes {ops : Array Oper} {rest : List Oper} {o : Oper} {a : Act} {Q : Exit → Act → World → Prop} (hgd : o.guard = none) (s x : Operand) (t : TypeId)
    (ho : o.op = .call { callee := .builtin .append, args := #[s, x], argTypes := #[t, t] })
    (base : Nat) (e : TypeId) (ht : P.underlying t = some (.slice e)) (hinfo : (P.info? e).map (fun i => (i.zero, i.size, i.bytes)) = some (some (.int .u8 0), 1, 1))
    (v : Value) (n : Nat) (l : List Nat) (hs : a.eval s = v) (hown : w.ownsRow base e 1 v n (u8s l))
    (p : Option Addr) (m c : Nat) (l' : List Nat) (hx : a.eval x = .slice p m c) (hB : Bytes w p m c l')
    (hbytes : n + m ≤ 140737488355328) (hbase : base ≤ w.heap.size)
    (h : ∀ v' w', w'.ownsRow base e 1 v' (n + m) (u8s (l ++ l')) → w.grownBy w' v.ownBlock → wpList P ops Q rest (a.put o.dst v') w') : wpList P ops Q (o :: rest) a w := by
  obtain ⟨i, hi, hz, hsz, hby⟩ := info_parts hinfo
  cases p with
  | none =>
    obtain rfl : c = 0 := hB.nil rfl
    obtain rfl : m = 0 := by have := hB.le; omega
    obtain rfl : l' = [] := List.length_eq_zero_iff.1 hB.len
    refine wpList_append_own_none hgd s x t ho base e i 1 ht hi v n (u8s l) hs hown hx ?_
    have := h v w (by simpa using hown) ⟨rfl, rfl, rfl, Nat.le_refl _, fun _ _ _ => rfl⟩
    exact this
  | some ad =>
    refine wpList_append_own w hgd s x t ho base e i (.int .u8 0) 1 1 ht hi hz hsz hby rfl (by omega) v n (u8s l) hs hown ad m c (u8s l') hx (by simp [u8s, hB.len]) ?_ (u8s_one l') (by rw [maxLen_nat]; omega) (by omega) hbase ?_
    · intro j u hu
      obtain ⟨hj, rfl⟩ := u8s_get hu
      have hj' : j < m := by rw [← hB.len]; exact hj
      obtain ⟨b, o', e1, hc⟩ := hB.cell (by omega)
      cases e1
      have hadd : (⟨b, o', none⟩ : Addr).add j = ⟨b, o' + j, none⟩ := by unfold Addr.add; split <;> simp_all
      rw [hadd]
      exact hc j hj'
    · intro v' w' g1 g2 _
      rw [← u8s_append] at g1
      exact h v' w' g1 g2
end
end Go.Proofs.Ytmmiommfbkcebaa
