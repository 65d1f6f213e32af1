/- The walk of the reference's Unhex. -/
import Derived.Test.YtpmjjefnmgbifaaGreatDoorHEventSameRNum
import Derived.Test.YtpmjjefnmgbifaaGreatDoorMB1
import Derived.Deep.RegionHeld
namespace Go.Proofs.YtpmjjefnmgbifaaGreatDoor
open Go.RowKit

/-- A new row of one byte. -/
theorem byte_row (w : World) {z : Int} {x : Nat} (h : z = (x : Int)) (hx : x < 256) : Bytes (w.alloc (.cells #[.int .u8 z] 5)) (some ⟨w.heap.size, 0, none⟩) 1 1 [x] := by
  subst h
  exact bytes_of_own (new_row w [x] (by simp)) (by simpa using hx)

def stepU (n c : Nat) : Nat := n * 16 + (if 48 ≤ c ∧ c ≤ 57 then c - 48 else if 97 ≤ c ∧ c ≤ 102 then c - 87 else 0)

theorem stepU_hexD {n d : Nat} (h : d < 16) : stepU n (hexD d) = n * 16 + d := by
  unfold stepU hexD
  split
  · rw [if_pos (by omega)]; omega
  · rw [if_neg (by omega), if_pos (by omega)]; omega

theorem stepU_lt {n c k : Nat} (h : n < k) : stepU n c < 16 * k := by
  unfold stepU
  split
  · omega
  · split <;> omega

/-- The bytes of the first pairs. -/
def outB (l : List Nat) (j : Nat) : List Nat := (List.range j).map fun i => stepU (stepU 0 (l.getD (2 * i) 0)) (l.getD (2 * i + 1) 0)

theorem outB_len (l : List Nat) (j : Nat) : (outB l j).length = j := by unfold outB; rw [List.length_map, List.length_range]

theorem outB_succ (l : List Nat) (j : Nat) : outB l (j + 1) = outB l j ++ [stepU (stepU 0 (l.getD (2 * j) 0)) (l.getD (2 * j + 1) 0)] := by
  unfold outB
  rw [List.range_succ, List.map_append]
  rfl

theorem outB_byte (l : List Nat) (j : Nat) : ∀ c ∈ outB l j, c < 256 := by
  intro c hc
  unfold outB at hc
  obtain ⟨i, _, rfl⟩ := List.mem_map.1 hc
  exact stepU_lt (k := 16) (stepU_lt (k := 1) (by omega))

theorem hex2_get : ∀ (b : List Nat) (i : Nat), i < b.length → (hex2 b).getD (2 * i) 0 = hexD (b.getD i 0 / 16) ∧ (hex2 b).getD (2 * i + 1) 0 = hexD (b.getD i 0 % 16)
  | [], i, h => by simp at h
  | c :: r, 0, _ => ⟨rfl, rfl⟩
  | c :: r, i + 1, h => by
    have ih := hex2_get r i (by simpa using h)
    unfold hex2 at *
    rw [List.flatMap_cons, show 2 * (i + 1) = 2 * i + 1 + 1 by omega]
    exact ih

theorem outB_hex2 (b : List Nat) (hb : ∀ c ∈ b, c < 256) : outB (hex2 b) ((hex2 b).length / 2) = b := by
  rw [hex2_len, Nat.mul_div_cancel_left _ (by omega)]
  apply List.ext_getElem
  · rw [outB_len]
  · intro i h1 h2
    obtain ⟨e1, e2⟩ := hex2_get b i h2
    have e3 : b.getD i 0 = b[i] := by rw [List.getD_eq_getElem?_getD, List.getElem?_eq_getElem h2]; rfl
    have := hb _ (List.getElem_mem h2)
    have e4 : (outB (hex2 b) b.length)[i] = stepU (stepU 0 ((hex2 b).getD (2 * i) 0)) ((hex2 b).getD (2 * i + 1) 0) := by simp [outB]
    rw [e4, e1, e2, e3, stepU_hexD (by omega), stepU_hexD (by omega)]
    omega

/-- What Unhex answers. -/
def UnhexEnd (w : World) (l : List Nat) (e : Ending) (w' : World) : Prop :=
  ∃ b : List Nat, (∀ c ∈ b, c < 256) ∧ 2 * b.length ≤ l.length ∧ e = .returned (.tuple #[.string (str b), .bool (decide (hex2 b = l))]) ∧ (hex2 b ≠ l → ∀ x : List Nat, (∀ c ∈ x, c < 256) → hex2 x ≠ l) ∧ Below w.heap.size w w'

def UnRel (w : World) (l : List Nat) (v i : Value) (wr : World) : Prop := ∃ j : Nat, 2 * j ≤ l.length ∧ i = .int .i64 ((2 * j : Nat) : Int) ∧ wr.ownsRow w.heap.size 5 1 v (outB l j).length (u8s (outB l j)) ∧ Below w.heap.size w wr

def InRel (c d J : Nat) (n k : Value) : Prop :=
  (n = .int .i64 0 ∧ k = .int .i64 (J : Int)) ∨ (n = .int .i64 ((stepU 0 c : Nat) : Int) ∧ k = .int .i64 ((J : Int) + 1)) ∨ (n = .int .i64 ((stepU (stepU 0 c) d : Nat) : Int) ∧ k = .int .i64 ((J : Int) + 2))

theorem stepU_is {n c : Nat} {x : Int} (h : x = (n : Int) * 16 + (if 48 ≤ (c : Int) ∧ (c : Int) ≤ 57 then (c : Int) - 48 else if 97 ≤ (c : Int) ∧ (c : Int) ≤ 102 then (c : Int) - 87 else 0)) : x = ((stepU n c : Nat) : Int) := by
  rw [h]
  unfold stepU
  by_cases h1 : 48 ≤ c ∧ c ≤ 57
  · rw [if_pos h1, if_pos (by omega)]; omega
  · rw [if_neg h1, if_neg (by omega)]
    by_cases h2 : 97 ≤ c ∧ c ≤ 102
    · rw [if_pos h2, if_pos (by omega)]; omega
    · rw [if_neg h2, if_neg (by omega)]; omega

end Go.Proofs.YtpmjjefnmgbifaaGreatDoor
