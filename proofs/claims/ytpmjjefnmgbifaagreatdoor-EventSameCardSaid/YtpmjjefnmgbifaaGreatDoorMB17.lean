import Derived.Test.YtpmjjefnmgbifaaGreatDoorMB1
import Derived.RangeFuncBox
import Derived.RangeFuncLeaves
import Derived.Shelf.Abstract
import Derived.OwnWalkIn
import Derived.TacticsInMore
import Derived.LoopNIn
import Derived.LoopIn
import Derived.Maps.AppendAt
import Derived.Test.YtpmjjefnmgbifaaGreatDoorMB3
import Derived.Lib.AppendStr
/- The forms of numbers and the reading of them, on lists of plain numbers; no program is named. -/
namespace Go.Proofs.YtpmjjefnmgbifaaGreatDoor

/-- The form of a number. -/
def form (x : Nat) : List Nat := if x < 128 then [x] else (x % 128 + 128) :: form (x / 128)
  termination_by x
  decreasing_by omega

theorem form_small {x : Nat} (h : x < 128) : form x = [x] := by rw [form, if_pos h]
theorem form_big {x : Nat} (h : 128 ≤ x) : form x = (x % 128 + 128) :: form (x / 128) := by rw [form, if_neg (by omega)]

theorem form_ne (x : Nat) : form x ≠ [] := by
  by_cases h : x < 128
  · rw [form_small h]; simp
  · rw [form_big (by omega)]; simp

theorem form_pos (x : Nat) : 0 < (form x).length := List.length_pos_iff.2 (form_ne x)

theorem form_byte (x : Nat) : ∀ y ∈ form x, y < 256 := by
  induction x using Nat.strongRecOn with
  | ind x ih =>
    intro y hy
    by_cases h : x < 128
    · rw [form_small h] at hy
      simp only [List.mem_singleton] at hy
      omega
    · rw [form_big (by omega)] at hy
      rcases List.mem_cons.1 hy with rfl | hy
      · omega
      · exact ih (x / 128) (by omega) y hy

theorem form_le (k : Nat) : ∀ x : Nat, x < 128 ^ (k + 1) → (form x).length ≤ k + 1 := by
  induction k with
  | zero => intro x h; rw [form_small (by simpa using h)]; simp
  | succ k ih =>
    intro x h
    by_cases hx : x < 128
    · rw [form_small hx]; simp
    · rw [form_big (by omega), List.length_cons]
      have := ih (x / 128) (by rw [Nat.div_lt_iff_lt_mul (by omega), ← Nat.pow_succ]; exact h)
      omega

theorem form_len {x : Nat} (h : x < 18446744073709551616) : (form x).length ≤ 10 := form_le 9 x (by omega)

/-- What reading a number yields, from the i-th digit on, x having been read: the number, and how many bytes it has; 0 if there is none. -/
def numL : List Nat → Nat → Nat → Nat × Nat
  | [], _, _ => (0, 0)
  | c :: r, i, x =>
    if i = 10 then (0, 0) else if i = 9 ∧ 1 < c % 128 then (0, 0) else
    if c < 128 then (if 0 < i ∧ c % 128 = 0 then (0, 0) else (x + c % 128 * 128 ^ i, i + 1)) else numL r (i + 1) (x + c % 128 * 128 ^ i)

theorem numL_nil (i x : Nat) : numL [] i x = (0, 0) := rfl
theorem numL_ten (l : List Nat) (x : Nat) : numL l 10 x = (0, 0) := by cases l <;> simp [numL]
theorem numL_nine {c : Nat} {r : List Nat} {x : Nat} (h : 1 < c % 128) : numL (c :: r) 9 x = (0, 0) := by simp [numL, h]
theorem numL_zero {c : Nat} {r : List Nat} {i x : Nat} (hi : i < 10) (h : c < 128) (h0 : 0 < i) (hc : c % 128 = 0) : numL (c :: r) i x = (0, 0) := by
  rw [numL, if_neg (by omega), if_neg (by omega), if_pos h, if_pos ⟨h0, hc⟩]
theorem numL_last {c : Nat} {r : List Nat} {i x : Nat} (hi : i < 10) (h9 : ¬ (i = 9 ∧ 1 < c % 128)) (h : c < 128) (h0 : ¬ (0 < i ∧ c % 128 = 0)) : numL (c :: r) i x = (x + c % 128 * 128 ^ i, i + 1) := by
  rw [numL, if_neg (by omega), if_neg h9, if_pos h, if_neg h0]
theorem numL_more {c : Nat} {r : List Nat} {i x : Nat} (hi : i < 10) (h9 : ¬ (i = 9 ∧ 1 < c % 128)) (h : ¬ c < 128) : numL (c :: r) i x = numL r (i + 1) (x + c % 128 * 128 ^ i) := by
  rw [numL, if_neg (by omega), if_neg h9, if_neg h]

theorem drop_cons {l : List Nat} {k : Nat} (h : k < l.length) : l.drop k = l.getD k 0 :: l.drop (k + 1) := by
  rw [List.drop_eq_getElem_cons h, List.getD_eq_getElem?_getD, List.getElem?_eq_getElem h]; rfl

/-- Reading inverts writing. -/
theorem numL_form (y : Nat) : ∀ (i x : Nat) (r : List Nat), i < 10 → y * 128 ^ i < 18446744073709551616 → (0 < i → y ≠ 0) → numL (form y ++ r) i x = (x + y * 128 ^ i, i + (form y).length) := by
  induction y using Nat.strongRecOn with
  | ind y ih =>
    intro i x r hi hy h0
    have h9 : i = 9 → y < 2 := by
      intro e
      subst e
      omega
    by_cases h : y < 128
    · rw [form_small h, List.singleton_append, numL_last hi (by omega) h (by omega), Nat.mod_eq_of_lt h]; rfl
    · have hi9 : i < 9 := by
        rcases Nat.lt_or_ge i 9 with hh | hh
        · exact hh
        · have := h9 (by omega); omega
      rw [form_big (by omega), List.cons_append, numL_more hi (by omega) (by omega)]
      have e1 : (y % 128 + 128) % 128 = y % 128 := by omega
      have e2 : y / 128 * 128 ^ (i + 1) = (y / 128 * 128) * 128 ^ i := by rw [Nat.pow_succ, Nat.mul_assoc, Nat.mul_comm 128]
      have e3 : y % 128 * 128 ^ i + y / 128 * 128 ^ (i + 1) = y * 128 ^ i := by
        rw [e2, ← Nat.add_mul]
        congr 1
        omega
      rw [e1, ih (y / 128) (by omega) (i + 1) _ r (by omega) (by omega) (fun _ => by omega)]
      rw [Nat.add_assoc, e3, List.length_cons, Nat.add_assoc, Nat.add_comm 1]

theorem numL_of_form {y : Nat} (h : y < 18446744073709551616) (r : List Nat) : numL (form y ++ r) 0 0 = (y, (form y).length) := by
  rw [numL_form y 0 0 r (by omega) (by simpa using h) (fun h => absurd h (by omega))]
  simp

/-- What is read is a form. -/
theorem numL_only (l : List Nat) : ∀ (i x z n : Nat), i ≤ 10 → (∀ c ∈ l, c < 256) → numL l i x = (z, n) → 0 < n →
    ∃ (y : Nat) (r : List Nat), l = form y ++ r ∧ z = x + y * 128 ^ i ∧ n = i + (form y).length ∧ (0 < i → y ≠ 0) ∧ y * 128 ^ i < 18446744073709551616 := by
  induction l with
  | nil => intro i x z n _ _ h h0; rw [numL_nil] at h; cases h; omega
  | cons c r ih =>
    intro i x z n hi hb h h0
    have hc : c < 256 := hb c (by simp)
    by_cases hi10 : i = 10
    · subst hi10; rw [numL_ten] at h; cases h; omega
    by_cases h9 : i = 9 ∧ 1 < c % 128
    · obtain ⟨rfl, h9⟩ := h9; rw [numL_nine h9] at h; cases h; omega
    have hp : 128 ^ i ≤ 128 ^ 9 := Nat.pow_le_pow_right (by omega) (by omega)
    have hp8 : i < 9 → 128 ^ i ≤ 128 ^ 8 := fun h => Nat.pow_le_pow_right (by omega) (by omega)
    by_cases hlt : c < 128
    · by_cases hz : 0 < i ∧ c % 128 = 0
      · rw [numL_zero (by omega) hlt hz.1 hz.2] at h; cases h; omega
      · rw [numL_last (by omega) h9 hlt hz] at h
        cases h
        refine ⟨c, r, by rw [form_small hlt]; rfl, by rw [Nat.mod_eq_of_lt hlt], by rw [form_small hlt]; rfl, fun h e => hz ⟨h, by omega⟩, ?_⟩
        by_cases e9 : i = 9
        · subst e9; omega
        · have := hp8 (by omega)
          have h2 : c * 128 ^ i ≤ 127 * 128 ^ 8 := Nat.mul_le_mul (by omega) this
          omega
    · rw [numL_more (by omega) h9 hlt] at h
      obtain ⟨y, r', rfl, rfl, rfl, hy, hlim⟩ := ih (i + 1) _ _ _ (by omega) (fun c hc => hb c (by simp [hc])) h h0
      have hy1 : y ≠ 0 := hy (by omega)
      have e1 : (c % 128 + y * 128) / 128 = y := by omega
      have e2 : (c % 128 + y * 128) % 128 + 128 = c := by omega
      have e3 : form (c % 128 + y * 128) = c :: form y := by rw [form_big (by omega), e1, e2]
      have e4 : c % 128 * 128 ^ i + y * 128 ^ (i + 1) = (c % 128 + y * 128) * 128 ^ i := by
        rw [Nat.add_mul, Nat.pow_succ, Nat.mul_assoc, Nat.mul_comm 128]
      refine ⟨c % 128 + y * 128, r', by rw [e3]; rfl, by rw [Nat.add_assoc, e4], by rw [e3, List.length_cons]; omega, fun _ => by omega, ?_⟩
      rw [← e4]
      by_cases e8 : i = 9
      · subst e8
        exfalso
        exact absurd hlim (Nat.not_lt.2 (Nat.le_trans (by decide) (Nat.mul_le_mul (Nat.pos_of_ne_zero hy1) (Nat.le_refl _))))
      · have h2 : c % 128 * 128 ^ i < 128 * 128 ^ i := Nat.mul_lt_mul_of_pos_right (by omega) (Nat.pow_pos (by omega))
        have h3 : 128 * 128 ^ i = 128 ^ (i + 1) := by rw [Nat.pow_succ, Nat.mul_comm]
        have h5 : 128 ^ (i + 1) ∣ 18446744073709551616 ∨ i = 8 := by
          by_cases e : i = 8
          · exact .inr e
          · left
            have : (18446744073709551616 : Nat) = 128 ^ (i + 1) * (2 ^ (64 - 7 * (i + 1))) := by
              rw [show (128 : Nat) = 2 ^ 7 from rfl, ← Nat.pow_mul, ← Nat.pow_add]
              rw [show 7 * (i + 1) + (64 - 7 * (i + 1)) = 64 by omega]
            rw [this]
            exact Nat.dvd_mul_right _ _
        have h5 : 128 ^ (i + 1) ∣ 18446744073709551616 := by
          rcases h5 with h | rfl
          · exact h
          · exact ⟨2, by decide⟩
        obtain ⟨q, hq⟩ := h5
        rw [hq] at hlim ⊢
        have h6 : y < q := by
          rw [Nat.mul_comm] at hlim
          exact Nat.lt_of_mul_lt_mul_left hlim
        have h7 : (y + 1) * 128 ^ (i + 1) ≤ q * 128 ^ (i + 1) := Nat.mul_le_mul_right _ h6
        rw [Nat.add_mul, Nat.one_mul] at h7
        rw [Nat.mul_comm (128 ^ (i + 1)) q]
        omega

theorem numL_read {l : List Nat} {z n : Nat} (hb : ∀ c ∈ l, c < 256) (h : numL l 0 0 = (z, n)) (h0 : 0 < n) : z < 18446744073709551616 ∧ n ≤ l.length ∧ l = form z ++ l.drop n := by
  obtain ⟨y, r, rfl, rfl, rfl, _, h2⟩ := numL_only l 0 0 z n (by omega) hb h h0
  simp only [Nat.pow_zero, Nat.mul_one, Nat.zero_add] at h2 ⊢
  refine ⟨h2, by rw [List.length_append]; omega, by rw [List.drop_left]⟩

theorem numL_size_le {l : List Nat} {z n : Nat} (hb : ∀ c ∈ l, c < 256) (h : numL l 0 0 = (z, n)) : n ≤ l.length ∧ n ≤ 10 ∧ z < 18446744073709551616 ∧ (n = 0 → z = 0) := by
  rcases Nat.eq_zero_or_pos n with rfl | h0
  · have hz : ∀ (l : List Nat) (i x z : Nat), numL l i x = (z, 0) → z = 0 := by
      intro l
      induction l with
      | nil => intro i x z h; rw [numL_nil] at h; cases h; rfl
      | cons c r ih =>
        intro i x z h
        unfold numL at h
        split at h
        · cases h; rfl
        · split at h
          · cases h; rfl
          · split at h
            · split at h
              · cases h; rfl
              · cases h
            · exact ih _ _ _ h
    have := hz l 0 0 z h
    subst this
    exact ⟨Nat.zero_le _, by omega, by omega, fun _ => rfl⟩
  · obtain ⟨h1, h2, h3⟩ := numL_read hb h h0
    refine ⟨h2, ?_, h1, fun h => by omega⟩
    have h4 := numL_of_form h1 (l.drop n)
    rw [← h3, h] at h4
    cases h4
    exact form_len h1

/-- The form of a number with a sign. -/
def foldL (y : Int) : Nat := if 0 ≤ y then 2 * y.toNat else (-(2 * y) - 1).toNat
def unfoldL (u : Nat) : Int := if u % 2 = 0 then ((u / 2 : Nat) : Int) else -((u / 2 : Nat) : Int) - 1

theorem unfold_fold (y : Int) : unfoldL (foldL y) = y := by unfold unfoldL foldL; split <;> split <;> omega
theorem fold_lt {y : Int} (h1 : -9223372036854775808 ≤ y) (h2 : y ≤ 9223372036854775807) : foldL y < 18446744073709551616 := by unfold foldL; split <;> omega
end Go.Proofs.YtpmjjefnmgbifaaGreatDoor

/- The walk of the reference's Uint: it returns the form of the number, in memory of its own. -/
namespace Go.Proofs.YtpmjjefnmgbifaaGreatDoor
open Go.RowKit

/-- A new row of one byte. -/
theorem one_bytes (w : World) {z : Int} {x : Nat} (h : z = (x : Int)) (hx : x < 256) : Bytes (w.alloc (.cells #[.int .u8 z] 5)) (some ⟨w.heap.size, 0, none⟩) 1 1 [x] := by
  subst h
  exact bytes_of_own (new_row w [x] (by simp)) (by simpa using hx)

def FormRel (w : World) (x : Nat) (u v : Value) (wr : World) : Prop :=
  ∃ (pre : List Nat) (y : Nat), u = .int .u64 y ∧ y < 18446744073709551616 ∧ form x = pre ++ form y ∧ wr.ownsRow w.heap.size 5 1 v pre.length (u8s pre) ∧ Below w.heap.size w wr

theorem formRel_step {w wr w1 : World} {x y : Nat} {pre : List Nat} {v v' : Value} {u : Value} (hy : 128 ≤ y) (hl : y < 18446744073709551616) (hf : form x = pre ++ form y) (hu : u = .int .u64 ((y / 128 : Nat) : Int))
    (hown : wr.ownsRow w.heap.size 5 1 v pre.length (u8s pre)) (hbel : Below w.heap.size w wr) {o : Obj}
    (g1 : w1.ownsRow w.heap.size 5 1 v' (pre.length + 1) (u8s (pre ++ [y % 128 + 128]))) (g2 : (wr.alloc o).grownBy w1 v.ownBlock) : FormRel w x u v' w1 := by
  refine ⟨pre ++ [y % 128 + 128], y / 128, hu, by omega, by rw [hf, form_big hy]; simp, by rw [List.length_append]; exact g1, ?_⟩
  have hb : Below w.heap.size w (wr.alloc o) := hbel.alloc hbel.size o
  exact hb.grown g2 hb.size (fun x hx => (hown.lt x hx).1)

theorem form_pre_len {x y : Nat} {pre : List Nat} (hx : x < 18446744073709551616) (h : form x = pre ++ form y) : pre.length ≤ 9 := by
  have h1 := form_len hx
  have h2 := form_pos y
  rw [h, List.length_append] at h1
  omega

set_option maxRecDepth 100000 in
set_option maxHeartbeats 800000 in
theorem ruint_any (x : Nat) (w : World) (hx : x < 18446744073709551616) :
    Calls Tryz.prog 76 #[.int .u64 (x : Int)] w (NewBytes w (form x)) := by
  go_enter Tryz.func76, Tryz.ntmps76
  go_wp2
  go_loopw [0, 3] (fun u v wr => FormRel w x u v wr) (fun u _ _ => (intOf u).toNat)
  case atStart => exact ⟨[], x, rfl, hx, rfl, World.ownsRow_nil _ _ _ _, Below.refl _ _⟩
  case round =>
    obtain ⟨pre, y, rfl, hy, hf, hown, hbel⟩ := hrel
    have h9 := form_pre_len hx hf
    have Hf := Lib.hid hf
    clear hf
    have hsz := hbel.size
    have Hx := Lib.hid hx
    clear hx
    by_cases hlt : 128 ≤ y
    · go_wp2_with (at_builtin; refine wpList_append_bytes _ rfl _ _ 31 rfl w.heap.size 5 Tryz.underlying31 info_u8 _ _ _ rfl (hown.alloc _) _ 1 1 [y % 128 + 128] rfl (one_bytes _ (by omega) (by omega)) (by omega) (by simp; omega) ?_; intro v' w1 g1 g2)
      go_roundw
      case rel => exact formRel_step hlt hy Hf.out (by go_num) hown hbel g1 g2
      case measure => simp [intOf]; omega
    · go_wp2_with (at_builtin; refine wpList_append_bytes _ rfl _ _ 31 rfl w.heap.size 5 Tryz.underlying31 info_u8 _ _ _ rfl (hown.alloc _) _ 1 1 [y] rfl (one_bytes _ (by omega) (by omega)) (by omega) (by simp; omega) ?_; intro v' w1 g1 g2)
      go_ret
      have hb : Below w.heap.size w (wr.alloc (.cells #[.int .u8 (y : Int)] 5)) := hbel.alloc hbel.size _
      refine ⟨_, rfl, ?_, hb.grown g2 hb.size (fun x hx => (hown.lt x hx).1)⟩
      rw [Hf.out, form_small (by omega), List.length_append]
      exact g1
end Go.Proofs.YtpmjjefnmgbifaaGreatDoor

/- The walk of Uint: a loop over a range function that yields the bytes of the form. -/
namespace Go.Proofs.YtpmjjefnmgbifaaGreatDoor
open Go.RowKit Go.Shelf

attribute [local go_sem] Oper.semAt_some

theorem or128 (y : Nat) : bits .or .u8 ((y : Int) % 256) 128 = (y : Int) % 128 + 128 := by
  have h := u8_or_nat (y % 256) 128 (by omega) (by omega)
  have hall : ∀ z : Fin 256, (z.val ||| 128) = z.val % 128 + 128 := by decide +kernel
  have e : y % 256 ||| 128 = y % 128 + 128 := by
    have := hall ⟨y % 256, by omega⟩
    simp only at this
    rw [this]
    omega
  rw [e] at h
  rw [show ((y : Int) % 256) = ((y % 256 : Nat) : Int) by omega, show ((y : Int) % 128 + 128) = ((y % 128 + 128 : Nat) : Int) by omega]
  exact h

set_option maxRecDepth 100000 in
set_option maxHeartbeats 1000000 in
/-- What the range function of a number yields: the bytes of the form, in order; or the first of them, where a round has said 'no more'. -/
theorem digits1_in (F : Fence) (n : Nat) (h6 : F.fn 142) (hro : F.round = none) (hn : 1 ≤ n) (l Bn x : Nat) (hx : x < 18446744073709551616) (J Jx : List Nat → World → Prop)
    (hY : ∀ pre (z : Nat) W, J pre W → pre.length < (form x).length → YieldAt F (n - 1) Tryz.prog l #[.int .u8 (z : Int)] W fun e W' =>
      (e = .returned (.bool true) ∧ J (pre ++ [z]) W' ∧ True) ∨ (e = .returned (.bool false) ∧ Jx (pre ++ [z]) W'))
    (W : World) (hBn : W.cell? ⟨Bn, 0, none⟩ = some (.int .u64 (x : Int))) (h0 : J [] W) :
    CallsIn F n Tryz.prog 142 #[.func (.yield l) #[] #[], .pointer (some ⟨Bn, 0, none⟩)] W fun e W' => (∃ v, e = .returned v) ∧
      ((∃ ys, ys = form x ∧ J ys W') ∨ (∃ pre, pre <+: form x ∧ Jx pre W')) := by
  refine callsIn_of_wp Tryz.func142 rfl h6 ?_ hro
  simp only [Tryz.ntmps142, List.size_toArray, List.length_cons, List.length_nil, Nat.reduceAdd, Nat.reduceSub, Array.replicate_succ, Array.replicate_zero, List.push_toArray, List.append_toArray, List.nil_append, List.cons_append]
  gi_wp2
  gi_loopw [3] (fun u wr => ∃ (pre : List Nat) (y : Nat), u = .int .u64 y ∧ y < 18446744073709551616 ∧ form x = pre ++ form y ∧ J pre wr) (fun u _ => (intOf u).toNat)
  case atStart => exact ⟨[], x, rfl, hx, rfl, h0⟩
  case round =>
    obtain ⟨pre, y, rfl, hy, hf, hJ⟩ := hrel
    have hlen : pre.length < (form x).length := by rw [hf, List.length_append]; have := form_pos y; omega
    have Hf := Lib.hid hf
    clear hf
    by_cases hlt : 128 ≤ y
    · obtain ⟨fn, tmps, assign, body, hy2, hR⟩ := hY pre (y % 128 + 128) wr hJ hlen
      have ho := or128 y
      rw [show ((y % 128 + 128 : Nat) : Int) = (y : Int) % 128 + 128 by omega] at hy2
      gi_wp2
      refine hR.mono ?_
      rintro e W3 (⟨rfl, hJ3, _⟩ | ⟨rfl, hJx3⟩)
      · gi_wp2
        go_roundw
        case rel => exact ⟨pre ++ [y % 128 + 128], y / 128, by go_num, by omega, by rw [Hf.out, form_big hlt]; simp, hJ3⟩
        case measure => simp [intOf]; omega
      · gi_wp2
        refine bodyPost_ret (results_none rfl _ _ _) rfl ?_
        exact ⟨⟨_, rfl⟩, .inr ⟨pre ++ [y % 128 + 128], ⟨form (y / 128), by rw [Hf.out, form_big hlt]; simp⟩, hJx3⟩⟩
    · obtain ⟨fn, tmps, assign, body, hy2, hR⟩ := hY pre y wr hJ hlen
      have hm : (y : Int) % 256 = (y : Int) := by omega
      gi_wp2
      refine hR.mono ?_
      rintro e W3 (⟨rfl, hJ3, _⟩ | ⟨rfl, hJx3⟩)
      · gi_wp2
        go_end0
        exact ⟨⟨_, rfl⟩, .inl ⟨pre ++ [y], by rw [Hf.out, form_small (by omega)], hJ3⟩⟩
      · gi_wp2
        go_end0
        exact ⟨⟨_, rfl⟩, .inr ⟨pre ++ [y], ⟨[], by rw [Hf.out, form_small (by omega)]; simp⟩, hJx3⟩⟩

set_option maxHeartbeats 1000000 in
/-- digits(x): the number is boxed; the function value captures the box. -/
theorem digits_in (F : Fence) (n : Nat) (h5 : F.fn 86) (hro : F.round = none) (x : Nat) (w : World) :
    CallsIn F n Tryz.prog 86 #[.int .u64 (x : Int)] w fun e w' => e = .returned (.func (.func 142) #[] #[.pointer (some ⟨w.heap.size, 0, none⟩)]) ∧ w' = w.alloc (.cells #[.int .u64 (x : Int)] 22) := by
  refine callsIn_of_wp Tryz.func86 rfl h5 ?_ hro
  simp only [Tryz.ntmps86, List.size_toArray, List.length_cons, List.length_nil, Nat.reduceAdd, Nat.reduceSub, Array.replicate_succ, Array.replicate_zero, List.push_toArray, List.append_toArray, List.nil_append, List.cons_append]
  gi_wp2
  go_ret
  exact ⟨rfl, rfl⟩

theorem digits_stops (F : Fence) (n : Nat) (h6 : F.fn 142) (hro : F.round = none) (hn : 1 ≤ n) (Bn x : Nat) (hx : x < 18446744073709551616) (w : World) (hBn : Bn < w.heap.size)
    (hc : w.cell? ⟨Bn, 0, none⟩ = some (.int .u64 (x : Int))) :
    SeqStopsK F n Tryz.prog 142 #[.pointer (some ⟨Bn, 0, none⟩)] (fun z : Nat => #[Value.int .u8 (z : Int)]) (fun _ _ => True) (fun ys => ys = form x) (fun pre => pre <+: form x) (form x).length w := fun l J Jx W hW _ _ hY h0 =>
  digits1_in F n h6 hro hn l Bn x hx J Jx hY W ((hW.cell (p := ⟨Bn, 0, none⟩) hBn).trans hc) h0

set_option maxRecDepth 100000 in
set_option maxHeartbeats 2000000 in
theorem uint_in (F : Fence) (n : Nat) (h3 : F.fn 39) (h4 : F.fn 86) (h5 : F.fn 142) (hro : F.round = none) (hn : 3 ≤ n) (x : Nat) (hx : x < 18446744073709551616) (w : World) :
    CallsIn F n Tryz.prog 39 #[.int .u64 (x : Int)] w (NewBytes w (form x)) := by
  have h1 : 1 ≤ n := by omega
  have hten := form_len hx
  obtain ⟨i0, hi, hz0, hz1, hz2⟩ := info_parts info_u8
  refine callsIn_of_wp_marks Tryz.func39 rfl h3 ?_ hro
  simp only [Tryz.ntmps39, List.size_toArray, List.length_cons, List.length_nil, Nat.reduceAdd, Nat.reduceSub, Array.replicate_succ, Array.replicate_zero, List.push_toArray, List.append_toArray, List.nil_append, List.cons_append]
  gi_wp2_with (gi_at_call 86; refine (digits_in F (n - 1) h4 hro _ _).mono ?_; rintro e w' ⟨rfl, rfl⟩)
  have bO := Boxed.new w 31 (.slice none 0 0)
  have bN := Boxed.new (w.alloc (.cells #[.slice none 0 0] 31)) 22 (.int .u64 (x : Int))
  rw [World.size_alloc] at bN
  have hB0 : Below w.heap.size w ((w.alloc (.cells #[.slice none 0 0] 31)).alloc (.cells #[.int .u64 (x : Int)] 22)) := ((Below.refl _ w).alloc (Nat.le_refl _) _).alloc (by simp) _
  refine wpIn_rangeFunc_ownG hro h1 (gf := 142) (lb := #[.pointer (some ⟨w.heap.size + 1, 0, none⟩)]) rfl h5 (enters_of Tryz.func142 (by kernel_rfl) rfl)
    (digits_stops F (n - 1) h5 hro (by omega) (w.heap.size + 1) x hx _ (by simp) bN.cell) (fun _ _ => trivial) (fun _ _ _ _ _ _ _ _ => trivial) (Below.refl _ _) (fun _ => rfl)
    (fun pre W => (∃ v, Boxed W w.heap.size 31 v ∧ W.ownsRow w.heap.size 5 1 v pre.length (u8s pre) ∧ True) ∧ Below w.heap.size w W)
    (fun _ _ _ => False)
    (OwnFrom.and (Own.from (holdsRow_own w.heap.size w.heap.size 31 5 1 (fun pre => pre.length) (fun pre => u8s pre) (fun _ _ => True)) _) (ownFrom_below (Nat.le_refl _) (by simp; omega)))
    (fun _ _ _ _ _ hs _ _ => hs)
    ⟨⟨_, bO.alloc _, World.ownsRow_nil _ _ _ _, trivial⟩, hB0⟩
    (fun z => { tmps := #[.int .u64 (x : Int), undef, .slice none 0 0, .pointer (some ⟨w.heap.size, 0, none⟩), .int .u8 (z : Int), .int .u64 (x : Int), .func (.func 142) #[] #[.pointer (some ⟨w.heap.size + 1, 0, none⟩)], .int .u8 (z : Int), undef, undef, undef, undef, undef], defers := [] }) ?assign ?body ?done ?stop
  case assign =>
    intro l z W K hK
    gi_wp2
    exact hK
  case body =>
    rintro l pre z W ⟨⟨v, hv, hrow, _⟩, hB⟩ hlt
    have hc := hv.cell
    gi_wp2_with (gi_at_builtin; refine wpListIn_append_own _ rfl _ _ 31 rfl w.heap.size 5 i0 (.int .u8 0) 1 1 Tryz.underlying31 hi hz0 hz1 hz2 rfl (by decide) _ _ _ rfl (hrow.alloc _) ⟨W.heap.size, 0, none⟩ 1 1 [.int .u8 (z : Int)] rfl rfl (cell_one_new _ _ _) (by simp [Value.oneCell']) (by rw [maxLen_nat]; omega) (by omega) (by have := hB.size; simp; omega) ?_; intro v' w1 hown' hgrow _; obtain ⟨g', cap', rfl⟩ := ownsRow_succ hown'; obtain ⟨hv1, hv2, hr2, hk2, hb2⟩ := hv.appended (by decide) hrow hB.size (Nat.le_refl _) hown' hgrow; have hc1 := hv1.cell; have hf1 := hv1.frozen)
    exact ⟨hk2.from _, trivial, ⟨_, hv2, by rw [List.length_append, u8s_append]; exact hr2, trivial⟩, hB.trans hb2⟩
  case done =>
    rintro D ys W hD rfl ⟨⟨v, hv, hrow, _⟩, hB⟩ hK
    have hc := hv.cell
    gi_wp2
    refine ⟨by simp, .inl ⟨_, _, rfl, run_takeDeferred hK, ?_⟩⟩
    exact ⟨_, results_tmp rfl _ _ _, v, rfl, ownsRow_putObj hrow _ hK rfl, hB.trans (belowK_b (w := w) (Nat.le_refl _) W D _ _ (by simp at hD; omega) hK rfl rfl)⟩
  case stop =>
    rintro D c pre W _ _ h _
    exact h.elim

theorem uint_any (x : Nat) (w : World) (hx : x < 18446744073709551616) : Calls Tryz.prog 39 #[.int .u64 (x : Int)] w (NewBytes w (form x)) :=
  (callsIn_wide (n := 3)).1 (uint_in Fence.wide 3 trivial trivial trivial rfl (Nat.le_refl _) x hx w)
end Go.Proofs.YtpmjjefnmgbifaaGreatDoor

/- The walks of Int, of the code and of the reference, and of what they call. -/
namespace Go.Proofs.YtpmjjefnmgbifaaGreatDoor
open Go.RowKit

set_option maxRecDepth 100000 in
theorem fold_any (y : Int) (w : World) (h1 : -9223372036854775808 ≤ y) (h2 : y ≤ 9223372036854775807) :
    Calls Tryz.prog 222 #[.int .i64 y] w fun e w' => e = .returned (.int .u64 (foldL y : Nat)) ∧ w = w' := by
  by_cases h : 0 ≤ y
  · go_enter Tryz.func222, Tryz.ntmps222
    go_wp2
    go_ret
    refine ⟨ret_u64 ?_, rfl⟩
    unfold foldL
    rw [if_pos h]
    omega
  · have h' : y < 0 := by omega
    go_enter Tryz.func222, Tryz.ntmps222
    go_wp2
    go_ret
    refine ⟨ret_u64 ?_, rfl⟩
    have e : IntKind.u64.wrap (IntKind.u64.wrap y * 2) = ((18446744073709551616 + 2 * y).toNat : Int) := by
      rw [IntKind.wrap_u64, IntKind.wrap_u64]
      omega
    rw [e, not_u64 _ (by omega)]
    unfold foldL
    rw [if_neg (show ¬ 0 ≤ y by omega)]
    omega

set_option maxRecDepth 100000 in
theorem unfold_any (u : Nat) (w : World) (h1 : u < 18446744073709551616) :
    Calls Tryz.prog 192 #[.int .u64 (u : Int)] w fun e w' => e = .returned (.int .i64 (unfoldL u)) ∧ w = w' := by
  by_cases h : u % 2 = 1
  · have hq : ((u : Int) % 2 == 1) = true := beq_iff_eq.2 (by omega)
    go_enter Tryz.func192, Tryz.ntmps192
    go_wp2
    go_ret
    refine ⟨ret_i64 ?_, rfl⟩
    have e : ((u : Int) / 2) = ((u / 2 : Nat) : Int) := by omega
    rw [e, not_i64 _ (by omega)]
    unfold unfoldL
    rw [if_neg (by omega)]
  · have hq : ((u : Int) % 2 == 1) = false := beq_eq_false_iff_ne.2 (by omega)
    go_enter Tryz.func192, Tryz.ntmps192
    go_wp2
    go_ret
    refine ⟨ret_i64 ?_, rfl⟩
    unfold unfoldL
    rw [if_pos (by omega)]
    omega

theorem int_any (y : Int) (w : World) (h1 : -9223372036854775808 ≤ y) (h2 : y ≤ 9223372036854775807) :
    Calls Tryz.prog 220 #[.int .i64 y] w (NewBytes w (form (foldL y))) := by
  have hl := fold_lt h1 h2
  go_enter Tryz.func220, Tryz.ntmps220
  go_wp2_with fail
  refine (fold_any y w h1 h2).mono ?_
  rintro e w1 ⟨rfl, rfl⟩
  go_wp2_with fail
  refine (uint_any _ w hl).mono ?_
  rintro e w1 ⟨v, rfl, hv⟩
  go_wp2
  go_ret
  exact ⟨v, rfl, hv⟩

set_option maxRecDepth 100000 in
theorem rint_any (y : Int) (w : World) (h1 : -9223372036854775808 ≤ y) (h2 : y ≤ 9223372036854775807) :
    Calls Tryz.prog 172 #[.int .i64 y] w (NewBytes w (form (foldL y))) := by
  have hl := fold_lt h1 h2
  by_cases h : 0 ≤ y
  · obtain ⟨z, rfl⟩ := Int.eq_ofNat_of_zero_le h
    have Hf := Lib.hid (show foldL (z : Int) = 2 * z by unfold foldL; rw [if_pos h]; omega)
    have hz : z < 9223372036854775808 := by omega
    have e := ruint_any (2 * z) w (by omega)
    rw [show ((2 * z : Nat) : Int) = (z : Int) * 2 by omega] at e
    have E := Lib.hid e
    clear e hl
    rw [Hf.out]
    go_enter Tryz.func172, Tryz.ntmps172
    go_wp2_with fail
    refine E.out.mono ?_
    rintro e w1 ⟨v, rfl, hv⟩
    go_wp2
    go_ret
    exact ⟨v, rfl, hv⟩
  · have h' : y < 0 := by omega
    have Hf := Lib.hid (show ((foldL y : Nat) : Int) = -(y + 1) * 2 + 1 by unfold foldL; rw [if_neg h]; omega)
    have e := ruint_any (foldL y) w hl
    rw [Hf.out] at e
    have E := Lib.hid e
    clear e
    go_enter Tryz.func172, Tryz.ntmps172
    go_wp2_with fail
    refine E.out.mono ?_
    rintro e w1 ⟨v, rfl, hv⟩
    go_wp2
    go_ret
    exact ⟨v, rfl, hv⟩
end Go.Proofs.YtpmjjefnmgbifaaGreatDoor

/- The walks of Bytes and Text, of the code and of the reference, and of the examples of the chapter. -/
namespace Go.Proofs.YtpmjjefnmgbifaaGreatDoor
open Go.RowKit

theorem strCells_str {l : List Nat} (h : ∀ x ∈ l, x < 256) : Lib.strCells (str l) = u8s l := by
  unfold Lib.strCells u8s str
  rw [List.map_map]
  refine List.map_congr_left (fun x hx => ?_)
  have := h x hx
  simp [UInt8.toNat_ofNat']
  omega

/-- The form of bytes. -/
def formB (l : List Nat) : List Nat := form l.length ++ l

theorem formB_byte {l : List Nat} (h : ∀ x ∈ l, x < 256) : ∀ x ∈ formB l, x < 256 := by
  intro x hx
  rcases List.mem_append.1 hx with hx | hx
  · exact form_byte _ x hx
  · exact h x hx

theorem rbytesF_any (a : Option Addr) (n cap : Nat) (l : List Nat) (w : World) (hl : Bytes w a n cap l) (hn : n ≤ 100000000000000) :
    Calls Tryz.prog 75 #[.slice a n cap] w (NewBytes w (formB l)) := by
  have h10 := form_len (x := n) (by omega)
  have HB := Lib.hid hl
  clear hl
  go_enter Tryz.func75, Tryz.ntmps75
  go_wp2_with fail
  refine (ruint_any n w (by omega)).mono ?_
  rintro e w1 ⟨v, rfl, hown, hb1⟩
  have Hown := Lib.hid hown
  have HB1 := Lib.hid (HB.out.grow hb1)
  clear hown
  go_wp2_with (at_builtin; refine wpList_append_bytes _ rfl _ _ 31 rfl w.heap.size 5 Tryz.underlying31 info_u8 _ _ _ rfl Hown.out a n cap l rfl HB1.out (by omega) hb1.size ?_; intro v' w2 g1 g2)
  go_ret
  refine ⟨_, rfl, ?_, hb1.grown g2 hb1.size (fun k hk => (Hown.out.lt k hk).1)⟩
  unfold formB
  rw [HB.out.len, List.length_append, HB.out.len]
  exact g1

theorem textF_any (l : List Nat) (w : World) (hl : ∀ x ∈ l, x < 256) (hn : l.length ≤ 100000000000000) :
    Calls Tryz.prog 71 #[.string (str l)] w (NewBytes w (formB l)) := by
  have h10 := form_len (x := l.length) (by omega)
  obtain ⟨i0, hi, hz0, hz1, hz2⟩ := info_parts info_u8
  have hs := str_size l
  have hsc := Lib.hid (strCells_str hl)
  have hF : NewBytes w (formB l) = NewBytes w (form (str l).size ++ l) := by rw [hs]; rfl
  rw [hF]
  rw [← hs] at h10 hn
  have HS := Lib.hid hs
  clear hF hs
  go_enter Tryz.func71, Tryz.ntmps71
  go_wp2_with fail
  refine (uint_any _ w (by omega)).mono ?_
  rintro e w1 ⟨v, rfl, hown, hb1⟩
  have Hown := Lib.hid hown
  clear hown
  go_wp2_with (at_builtin; refine Lib.wpList_append_own_string _ rfl _ _ 31 9 rfl w.heap.size 5 i0 Tryz.underlying31 Tryz.underlying9 hi hz0 hz1 hz2 _ _ _ rfl Hown.out (str l) rfl (by rw [maxLen_nat]; omega) (by omega) hb1.size ?_; intro v' w2 g1 g2 _)
  go_ret
  refine ⟨_, rfl, ?_, hb1.grown g2 hb1.size (fun k hk => (Hown.out.lt k hk).1)⟩
  rw [List.length_append, ← HS.out, u8s_append, ← hsc.out]
  exact g1
end Go.Proofs.YtpmjjefnmgbifaaGreatDoor

