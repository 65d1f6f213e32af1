import Derived.Test.YtmiepigieajpcaaGreatMB1
import Derived.Test.YtmiepigieajpcaaGreatMB16
import Derived.Test.YtmiepigieajpcaaGreatMB5
/- The walk of slices.Equal of bytes. -/
namespace Go.Proofs.YtmiepigieajpcaaGreat
open Go.RowKit

theorem equal_len (a a' : Option Addr) (n cap n' cap' : Nat) (w : World) (hn : n ≠ n') :
    Calls Tryz.prog 64 #[.slice a n cap, .slice a' n' cap'] w fun e w' => e = .returned (.bool false) ∧ w = w' := by
  have hq : ((n : Int) != (n' : Int)) = true := by rw [bne_iff_ne]; omega
  go_enter Tryz.func64, Tryz.ntmps64
  go_wp2
  go_ret
  exact ⟨rfl, rfl⟩

theorem take_next {l l' : List Nat} {k : Nat} (h : k < l.length) (h' : k < l'.length) (ht : l.take k = l'.take k) (hx : l.getD k 0 = l'.getD k 0) : l.take (k + 1) = l'.take (k + 1) := by
  rw [List.take_succ_eq_append_getElem h, List.take_succ_eq_append_getElem h', ht]
  rw [List.getD_eq_getElem?_getD, List.getElem?_eq_getElem h, List.getD_eq_getElem?_getD, List.getElem?_eq_getElem h'] at hx
  have hx : l[k] = l'[k] := hx
  rw [hx]

def EqRel (w : World) (n : Nat) (l l' : List Nat) (i : Value) (wr : World) : Prop := ∃ k : Nat, k ≤ n ∧ i = .int .i64 k ∧ l.take k = l'.take k ∧ Below w.heap.size w wr

set_option maxHeartbeats 800000 in
theorem equal_same (a a' : Option Addr) (n cap cap' : Nat) (l l' : List Nat) (w : World) (hl : Bytes w a n cap l) (hl' : Bytes w a' n cap' l') :
    Calls Tryz.prog 64 #[.slice a n cap, .slice a' n cap'] w fun e w' => e = .returned (.bool (decide (l = l'))) ∧ Below w.heap.size w w' := by
  have hnm := hl.max
  have hB := Lib.hid hl
  have hB' := Lib.hid hl'
  clear hl hl'
  have hq : ((n : Int) != (n : Int)) = false := by simp
  go_enter Tryz.func64, Tryz.ntmps64
  go_wp2
  go_loopw [13] (fun i wr => EqRel w n l l' i wr) (fun i _ => n - (intOf i).toNat)
  case atStart => exact ⟨0, Nat.zero_le _, rfl, rfl, Below.refl _ _⟩
  case round =>
    obtain ⟨k, hk, rfl, ht, hbel⟩ := hrel
    have ht := Lib.hid ht
    rename_i ht0; clear ht0
    by_cases hlt : k < n
    · obtain ⟨b, o, rfl, hc0⟩ := (hB.out.grow hbel).cell (by omega)
      obtain ⟨b', o', rfl, hc0'⟩ := (hB'.out.grow hbel).cell (by omega)
      have hc := hc0 k hlt
      have hc' := hc0' k hlt
      clear hc0 hc0'
      have hx := Lib.hid (show l.getD k 0 = l.getD k 0 from rfl)
      generalize hy : l.getD k 0 = x at hc
      generalize hy' : l'.getD k 0 = x' at hc'
      have hy := Lib.hid hy
      have hy' := Lib.hid hy'
      rename_i hy0 hy0'; clear hy0 hy0' hx
      by_cases hxx : x = x'
      · have hq2 : ((x : Int) != (x' : Int)) = false := by rw [bne_eq_false_iff_eq]; omega
        have hxx := Lib.hid hxx
        rename_i hxx0; clear hxx0
        go_wp2
        go_quiet (fail)
        go_wp2
        go_roundw
        case rel => exact ⟨k + 1, by omega, by go_num, take_next (by rw [hB.out.len]; exact hlt) (by rw [hB'.out.len]; exact hlt) ht.out (by rw [hy.out, hy'.out, hxx.out]), below_drewN hbel _⟩
        case measure => simp [intOf]; omega
      · have hq2 : ((x : Int) != (x' : Int)) = true := by rw [bne_iff_ne]; omega
        go_wp2
        go_quiet (fail)
        go_wp2
        go_ret
        exact ⟨ret_bool (decide_eq_false (fun e => hxx (by rw [← hy.out, ← hy'.out, e]))).symm, below_drewN hbel _⟩
    · obtain rfl : k = n := by omega
      go_wp2
      go_ret
      exact ⟨ret_bool (decide_eq_true (by rw [← List.take_length (l := l), ← List.take_length (l := l'), hB.out.len, hB'.out.len]; exact ht.out)).symm, hbel⟩

theorem equal_any (a a' : Option Addr) (n cap n' cap' : Nat) (l l' : List Nat) (w : World) (hl : Bytes w a n cap l) (hl' : Bytes w a' n' cap' l') :
    Calls Tryz.prog 64 #[.slice a n cap, .slice a' n' cap'] w fun e w' => e = .returned (.bool (decide (l = l'))) ∧ Below w.heap.size w w' := by
  by_cases h : n = n'
  · subst h
    exact equal_same a a' n cap cap' l l' w hl hl'
  · refine (equal_len a a' n cap n' cap' w h).mono ?_
    rintro e w' ⟨rfl, rfl⟩
    exact ⟨ret_bool (decide_eq_false (fun e => h (by rw [← hl.len, ← hl'.len, e]))).symm, Below.refl _ _⟩
end Go.Proofs.YtmiepigieajpcaaGreat

/- What the statements on sealed bytes want of appending, copying and comparing. -/

/- Plain mathematics of the checksum of layer 1: the register's step, its linearity, and what a table of half bytes computes. It speaks of no program. -/
namespace Go.Proofs.YtmiepigieajpcaaGreat.Crc

/-- One bit is shifted out of the register. -/
def step (r : Nat) : Nat := if r % 2 = 1 then (r / 2) ^^^ 2197175160 else r / 2

def steps : Nat → Nat → Nat
  | 0, r => r
  | n + 1, r => steps n (step r)

/-- A byte is fed. -/
def feedB (r c : Nat) : Nat := steps 8 (r ^^^ c)

def feedL (r : Nat) (l : List Nat) : Nat := l.foldl feedB r

def feedP (r : Nat) (ls : List (List Nat)) : Nat := ls.foldl feedL r

def inv (r : Nat) : Nat := 4294967295 - r

theorem steps_succ' (n r : Nat) : steps (n + 1) r = step (steps n r) := by
  induction n generalizing r with
  | zero => rfl
  | succ n ih => rw [steps, ih (step r)]; rfl

theorem steps_add (m n r : Nat) : steps (m + n) r = steps n (steps m r) := by
  induction m generalizing r with
  | zero => simp [steps]
  | succ m ih => rw [Nat.succ_add, steps, ih]; rfl

theorem half_xor (a b : Nat) : (a ^^^ b) / 2 = (a / 2) ^^^ (b / 2) := by
  have := Nat.shiftRight_xor_distrib (a := a) (b := b) (i := 1)
  simpa [Nat.shiftRight_succ] using this

theorem odd_xor (a b : Nat) : (a ^^^ b) % 2 = (a % 2 + b % 2) % 2 := by
  have h := Nat.testBit_xor a b 0
  simp only [Nat.testBit_zero] at h
  rcases Nat.mod_two_eq_zero_or_one a with ha | ha <;> rcases Nat.mod_two_eq_zero_or_one b with hb | hb <;>
    rcases Nat.mod_two_eq_zero_or_one (a ^^^ b) with hc | hc <;> simp [ha, hb, hc] at h ⊢

theorem step_xor (a b : Nat) : step (a ^^^ b) = step a ^^^ step b := by
  unfold step
  rw [odd_xor, half_xor]
  rcases Nat.mod_two_eq_zero_or_one a with ha | ha <;> rcases Nat.mod_two_eq_zero_or_one b with hb | hb <;> simp [ha, hb]
  · rw [Nat.xor_assoc]
  · rw [Nat.xor_assoc, Nat.xor_comm (b / 2), ← Nat.xor_assoc]
  · rw [Nat.xor_assoc, Nat.xor_comm (b / 2), ← Nat.xor_assoc 2197175160, Nat.xor_self, Nat.zero_xor]

theorem steps_xor (n a b : Nat) : steps n (a ^^^ b) = steps n a ^^^ steps n b := by
  induction n generalizing a b with
  | zero => rfl
  | succ n ih => rw [steps, step_xor, ih]; rfl

theorem step_zero : step 0 = 0 := rfl
theorem steps_zero (n : Nat) : steps n 0 = 0 := by
  induction n with
  | zero => rfl
  | succ n ih => rw [steps, step_zero, ih]

theorem step_lt {r : Nat} (h : r < 4294967296) : step r < 4294967296 := by
  unfold step
  have h2 : r / 2 < 2 ^ 32 := by omega
  split
  · exact Nat.xor_lt_two_pow h2 (by omega)
  · omega

theorem steps_lt {n r : Nat} (h : r < 4294967296) : steps n r < 4294967296 := by
  induction n generalizing r with
  | zero => exact h
  | succ n ih => exact ih (step_lt h)

theorem xor_lt {a b : Nat} (ha : a < 4294967296) (hb : b < 4294967296) : a ^^^ b < 4294967296 :=
  Nat.xor_lt_two_pow (n := 32) ha hb

theorem feedB_lt {r c : Nat} (h : r < 4294967296) (hc : c < 256) : feedB r c < 4294967296 := steps_lt (xor_lt h (by omega))

theorem feedL_lt {r : Nat} {l : List Nat} (h : r < 4294967296) (hl : ∀ x ∈ l, x < 256) : feedL r l < 4294967296 := by
  induction l generalizing r with
  | nil => exact h
  | cons c l ih => exact ih (feedB_lt h (hl c (by simp))) (fun x hx => hl x (by simp [hx]))

theorem feedP_lt {r : Nat} {ls : List (List Nat)} (h : r < 4294967296) (hl : ∀ l ∈ ls, ∀ x ∈ l, x < 256) : feedP r ls < 4294967296 := by
  induction ls generalizing r with
  | nil => exact h
  | cons c l ih => exact ih (feedL_lt h (hl c (by simp))) (fun x hx => hl x (by simp [hx]))

theorem feedL_append (r : Nat) (a b : List Nat) : feedL r (a ++ b) = feedL (feedL r a) b := List.foldl_append ..
theorem feedP_flatten (r : Nat) (ls : List (List Nat)) : feedP r ls = feedL r ls.flatten := by
  induction ls generalizing r with
  | nil => rfl
  | cons l ls ih => rw [List.flatten_cons, feedL_append]; exact ih _

/-- Sixteen times a number is shifted by four without a remainder. -/
theorem steps4_mul (q : Nat) : steps 4 (q * 16) = q := by
  have h : ∀ x, step (x * 2) = x := fun x => by unfold step; rw [if_neg (by omega)]; omega
  show step (step (step (step (q * 16)))) = q
  rw [show q * 16 = (((q * 2) * 2) * 2) * 2 by omega, h, h, h, h]

theorem split16 (r : Nat) : (r / 16 * 16) ^^^ (r % 16) = r := by
  apply Nat.eq_of_testBit_eq
  intro i
  rw [Nat.testBit_xor, show (16 : Nat) = 2 ^ 4 from rfl, Nat.testBit_mul_two_pow, Nat.testBit_mod_two_pow]
  by_cases h : i < 4
  · simp [h, show ¬ 4 ≤ i by omega]
  · have h4 : 4 ≤ i := by omega
    have e : (r / 2 ^ 4).testBit (i - 4) = r.testBit i := by rw [Nat.testBit_div_two_pow, Nat.sub_add_cancel h4]
    simp only [h, h4, decide_true, decide_false, Bool.true_and, Bool.false_and, Bool.xor_false]
    exact e

/-- What one look into the table does. -/
theorem steps4 (r : Nat) : steps 4 r = (r / 16) ^^^ steps 4 (r % 16) := by
  conv => lhs; rw [← split16 r]
  rw [steps_xor, steps4_mul]

theorem and15 (r : Nat) : r &&& 15 = r % 16 := Nat.and_two_pow_sub_one_eq_mod r 4
theorem and1 (r : Nat) : r &&& 1 = r % 2 := Nat.and_two_pow_sub_one_eq_mod r 1

/-- The register behind two looks into the table. -/
theorem feed_by_table (r c : Nat) :
    (((r ^^^ c) / 16) ^^^ steps 4 ((r ^^^ c) &&& 15)) / 16 ^^^ steps 4 ((((r ^^^ c) / 16) ^^^ steps 4 ((r ^^^ c) &&& 15)) &&& 15) = feedB r c := by
  unfold feedB
  rw [and15, and15, ← steps4, ← steps4]
  exact (steps_add 4 4 _).symm

theorem take_snoc {l : List Nat} {k : Nat} (h : k < l.length) : l.take (k + 1) = l.take k ++ [l.getD k 0] := by
  rw [List.take_succ_eq_append_getElem h, List.getD_eq_getElem?_getD, List.getElem?_eq_getElem h]; rfl

theorem feedL_take {l : List Nat} {k : Nat} (r : Nat) (h : k < l.length) : feedL r (l.take (k + 1)) = feedB (feedL r (l.take k)) (l.getD k 0) := by
  rw [take_snoc h, feedL_append]; rfl

theorem takeP_snoc {l : List (List Nat)} {k : Nat} (h : k < l.length) : l.take (k + 1) = l.take k ++ [l.getD k []] := by
  rw [List.take_succ_eq_append_getElem h, List.getD_eq_getElem?_getD, List.getElem?_eq_getElem h]; rfl

theorem feedP_take {ls : List (List Nat)} {k : Nat} (r : Nat) (h : k < ls.length) : feedP r (ls.take (k + 1)) = feedL (feedP r (ls.take k)) (ls.getD k []) := by
  rw [takeP_snoc h]
  exact List.foldl_append ..

theorem flat_take {ls : List (List Nat)} {k : Nat} (h : k < ls.length) : (ls.take (k + 1)).flatten = (ls.take k).flatten ++ ls.getD k [] := by
  rw [takeP_snoc h]; simp

/-- The checksum of the chapter's example. -/
theorem example_sum : inv (feedL 4294967295 [49, 50, 51, 52, 53, 54, 55, 56, 57]) = 3808858755 := by decide +kernel

end Go.Proofs.YtmiepigieajpcaaGreat.Crc

