/- The walks of the two functions that read a number: each returns what the plain reading says. -/
import Derived.Test.YtjkpcpoplpgecaaInt
namespace Go.Proofs.Ytjkpcpoplpgecaa
open Go.RowKit

theorem digit_facts {X c k : Nat} (hX : X < 128 ^ k) (hk : k < 10) (h9 : ¬ (k = 9 ∧ 1 < c % 128)) : X + c % 128 * 128 ^ k < 128 ^ (k + 1) ∧ X + c % 128 * 128 ^ k < 18446744073709551616 := by
  have h1 : c % 128 * 128 ^ k ≤ 127 * 128 ^ k := Nat.mul_le_mul_right _ (by omega)
  have h2 : 128 ^ (k + 1) = 128 * 128 ^ k := by rw [Nat.pow_succ, Nat.mul_comm]
  refine ⟨by omega, ?_⟩
  by_cases e : k = 9
  · subst e
    have h3 : c % 128 ≤ 1 := by omega
    have h4 : c % 128 * 128 ^ 9 ≤ 1 * 128 ^ 9 := Nat.mul_le_mul_right _ h3
    omega
  · have h3 : 128 ^ k ≤ 128 ^ 8 := Nat.pow_le_pow_right (by omega) (by omega)
    omega

theorem digit_cast (c k : Nat) : (c : Int) % 128 * 2 ^ (7 * k) = ((c % 128 * 128 ^ k : Nat) : Int) := by
  rw [Int.natCast_mul, Int.natCast_pow, Int.pow_mul]
  rfl

theorem digit_wrap {X c k : Nat} (hX : X < 128 ^ k) (hk : k < 10) (h9 : ¬ (k = 9 ∧ 1 < c % 128)) : IntKind.u64.wrap ((c : Int) % 128 * 2 ^ (7 * k)) = ((c % 128 * 128 ^ k : Nat) : Int) := by
  have h := (digit_facts hX hk h9).2
  rw [digit_cast, IntWalk.u64_in _ ⟨by omega, by omega⟩]

theorem or_digit {X c k : Nat} (hX : X < 128 ^ k) (hk : k < 10) (h9 : ¬ (k = 9 ∧ 1 < c % 128)) :
    bits .or .u64 (X : Int) (IntKind.u64.wrap ((c : Int) % 128 * 2 ^ (7 * k))) = ((X + c % 128 * 128 ^ k : Nat) : Int) := by
  have h := (digit_facts hX hk h9).2
  rw [digit_wrap hX hk h9, u64_or_nat _ _ (by omega) (by omega)]
  congr 1
  have e : (128 : Nat) ^ k = 2 ^ (7 * k) := by rw [Nat.pow_mul]
  rw [e] at hX ⊢
  rw [Nat.or_comm, Nat.mul_comm (c % 128), ← Nat.two_pow_add_eq_or_of_lt hX, Nat.add_comm]

theorem or_digit9 {X c : Nat} (hX : X < 128 ^ 9) (h : c % 128 ≤ 1) : bits .or .u64 (X : Int) ((c : Int) % 128 * 9223372036854775808) = ((X + c % 128 * 128 ^ 9 : Nat) : Int) := by
  rw [← or_digit hX (by omega) (by omega), digit_wrap hX (by omega) (by omega)]
  congr 1

theorem add_digit {X c k : Nat} (hX : X < 128 ^ k) (hk : k < 10) (h9 : ¬ (k = 9 ∧ 1 < c % 128)) :
    IntKind.u64.wrap ((X : Int) + IntKind.u64.wrap ((c : Int) % 128 * 2 ^ (7 * k))) = ((X + c % 128 * 128 ^ k : Nat) : Int) := by
  have h := (digit_facts hX hk h9).2
  rw [digit_wrap hX hk h9, ← Int.natCast_add, IntWalk.u64_in _ ⟨by omega, by omega⟩]

theorem u64_eq {a b : Int} (h : a = b) : Value.int .u64 a = Value.int .u64 b := by rw [h]
theorem ret_num {p : Nat × Nat} {a b : Int} {x y : Nat} (h : p = (x, y)) (ha : a = (x : Int)) (hb : b = (y : Int)) :
    Ending.returned (.tuple #[.int .u64 a, .int .i64 b]) = Ending.returned (.tuple #[.int .u64 (p.1 : Int), .int .i64 (p.2 : Int)]) := by subst h ha hb; rfl

def ParseRel (l : List Nat) (n : Nat) (x i : Value) : Prop := ∃ (k X : Nat), k ≤ n ∧ k ≤ 10 ∧ i = .int .i64 k ∧ x = .int .u64 X ∧ X < 18446744073709551616 ∧ X < 128 ^ k ∧ numL l 0 0 = numL (l.drop k) k X

theorem parse_start (l : List Nat) (n : Nat) : ParseRel l n (.int .u64 0) (.int .i64 0) := ⟨0, 0, Nat.zero_le _, Nat.zero_le _, rfl, rfl, by omega, by decide, rfl⟩

theorem parse_next {l : List Nat} {n k X c : Nat} {x : Int} (hk : k < n) (hk10 : k < 10) (hX : X < 128 ^ k) (he : numL l 0 0 = numL (l.drop k) k X) (hd : l.drop k = c :: l.drop (k + 1)) (h9 : ¬ (k = 9 ∧ 1 < c % 128)) (hc : 128 ≤ c)
    (hx : x = ((X + c % 128 * 128 ^ k : Nat) : Int)) : ParseRel l n (.int .u64 x) (.int .i64 ((k : Int) + 1)) := by
  obtain ⟨f1, f2⟩ := digit_facts hX hk10 h9
  exact ⟨k + 1, _, hk, hk10, by go_num, u64_eq hx, f2, f1, by rw [he, hd, numL_more hk10 h9 (by omega)]⟩

theorem parse_end {l : List Nat} {n k X : Nat} (hl : l.length = n) (h : ¬ (k < n ∧ k < 10)) (hk : k ≤ n) (hk10 : k ≤ 10) (he : numL l 0 0 = numL (l.drop k) k X) : numL l 0 0 = (0, 0) := by
  rw [he]
  by_cases e : k = 10
  · subst e; exact numL_ten _ _
  · rw [List.drop_eq_nil_of_le (by omega)]; rfl

theorem add_digit9 {X c : Nat} (hX : X < 128 ^ 9) (h : c % 128 ≤ 1) : IntKind.u64.wrap ((X : Int) + (c : Int) % 128 * 9223372036854775808) = ((X + c % 128 * 128 ^ 9 : Nat) : Int) := by
  rw [← add_digit hX (by omega) (by omega), digit_wrap hX (by omega) (by omega)]
  congr 1

set_option maxRecDepth 100000 in
set_option maxHeartbeats 1600000 in
theorem parse_any (a : Option Addr) (n cap : Nat) (l : List Nat) (w : World) (hl : Bytes w a n cap l) :
    Calls Try.prog 43 #[.slice a n cap] w fun e w' => e = .returned (.tuple #[.int .u64 (numL l 0 0).1, .int .i64 (numL l 0 0).2]) ∧ w = w' := by
  have hmax := hl.max
  have hle := hl.le
  have HB := Lib.hid hl
  clear hl
  by_cases hn : n ≤ 10
  all_goals
    go_enter Try.func43, Try.ntmps43
    go_wp2
    go_loop [2, 13] (fun x i => ParseRel l n x i) (fun _ i => 10 - (intOf i).toNat)
    case atStart => exact parse_start l n
    case round =>
      obtain ⟨k, X, hk, hk10, rfl, rfl, hX, hp, he⟩ := hrel
      have HP := Lib.hid hp
      have He := Lib.hid he
      clear hp he
      by_cases hlt : k < n ∧ k < 10
      · obtain ⟨hlt1, hlt2⟩ := hlt
        obtain ⟨b, o, rfl, hc0⟩ := HB.out.cell (by omega)
        have hc := hc0 k (by omega)
        have hg := HB.out.get (i := k) (by omega)
        have Hdc := Lib.hid (drop_cons (l := l) (k := k) (by rw [HB.out.len]; omega))
        clear hc0
        generalize l.getD k 0 = c at hc hg Hdc
        by_cases h9 : k = 9 ∧ 1 < c % 128
        · obtain ⟨rfl, h91⟩ := h9
          have hfin := Lib.hid (show numL l 0 0 = (0, 0) by rw [He.out, Hdc.out]; exact numL_nine h91)
          have h92 : (1 : Int) < (c : Int) % 128 := by omega
          go_wp2
          go_ret2
          exact ⟨ret_num hfin.out rfl rfl, rfl⟩
        · have hor := Lib.hid (or_digit HP.out hlt2 h9)
          have H9 := Lib.hid h9
          have h91 : k = 9 → c % 128 ≤ 1 := by omega
          have Hd1 := Lib.hid h91
          clear h9 h91
          by_cases hc8 : 128 ≤ c
          · by_cases h9 : k = 9
            · subst h9
              have hd : (c : Int) % 128 ≤ 1 := by have := Hd1.out rfl; omega
              go_wp2
              go_round
              case rel => exact parse_next hlt1 hlt2 HP.out He.out Hdc.out H9.out hc8 (or_digit9 HP.out (by omega))
              case measure => simp [intOf]
            · have hq : ((k : Int) == 9) = false := beq_eq_false_iff_ne.2 (by omega)
              go_wp2
              go_round
              case rel => exact parse_next hlt1 hlt2 HP.out He.out Hdc.out H9.out hc8 hor.out
              case measure => simp [intOf]; omega
          · have hc8' : c < 128 := by omega
            by_cases hz : 0 < k ∧ c % 128 = 0
            · have hfin := Lib.hid (show numL l 0 0 = (0, 0) by rw [He.out, Hdc.out]; exact numL_zero hlt2 hc8' hz.1 hz.2)
              obtain ⟨hz1, hz2⟩ := hz
              have hqz : ((c : Int) % 128 == 0) = true := beq_iff_eq.2 (by omega)
              have Hz2 := Lib.hid hz2
              clear hz2
              by_cases h9 : k = 9
              · subst h9
                have hd : (c : Int) % 128 ≤ 1 := by have := Hd1.out rfl; omega
                go_wp2
                go_ret2
                exact ⟨ret_num hfin.out rfl rfl, rfl⟩
              · have hq : ((k : Int) == 9) = false := beq_eq_false_iff_ne.2 (by omega)
                go_wp2
                go_ret2
                exact ⟨ret_num hfin.out rfl rfl, rfl⟩
            · have hfin := Lib.hid (show numL l 0 0 = (X + c % 128 * 128 ^ k, k + 1) by rw [He.out, Hdc.out]; exact numL_last hlt2 H9.out hc8' hz)
              by_cases h9 : k = 9
              · subst h9
                have hd : (c : Int) % 128 ≤ 1 := by have := Hd1.out rfl; omega
                have hqz : ((c : Int) % 128 == 0) = false := beq_eq_false_iff_ne.2 (by omega)
                go_wp2
                go_ret2
                exact ⟨ret_num hfin.out (or_digit9 HP.out (by omega)) (by omega), rfl⟩
              · have hq : ((k : Int) == 9) = false := beq_eq_false_iff_ne.2 (by omega)
                by_cases hz0 : c % 128 = 0
                · have hqz : ((c : Int) % 128 == 0) = true := beq_iff_eq.2 (by omega)
                  have hk0 : (k : Int) ≤ 0 := by omega
                  have Hz0 := Lib.hid hz0
                  clear hz0
                  go_wp2
                  go_ret2
                  exact ⟨ret_num hfin.out hor.out (by omega), rfl⟩
                · have hqz : ((c : Int) % 128 == 0) = false := beq_eq_false_iff_ne.2 (by omega)
                  go_wp2
                  go_ret2
                  exact ⟨ret_num hfin.out hor.out (by omega), rfl⟩
      · have hfin := Lib.hid (parse_end HB.out.len hlt hk hk10 He.out)
        have hend : n ≤ k ∨ 10 ≤ k := by omega
        go_wp2
        go_ret2
        exact ⟨ret_num hfin.out rfl rfl, rfl⟩

set_option maxRecDepth 100000 in
set_option maxHeartbeats 1600000 in
theorem rnumber_any (a : Option Addr) (n cap : Nat) (l : List Nat) (w : World) (hl : Bytes w a n cap l) :
    Calls Try.prog 37 #[.slice a n cap] w fun e w' => e = .returned (.tuple #[.int .u64 (numL l 0 0).1, .int .i64 (numL l 0 0).2]) ∧ w = w' := by
  have hmax := hl.max
  have hle := hl.le
  have HB := Lib.hid hl
  clear hl
  by_cases hn : n ≤ 10
  all_goals
    go_enter Try.func37, Try.ntmps37
    go_wp2
    go_loop [4, 5] (fun x i => ParseRel l n x i) (fun _ i => 10 - (intOf i).toNat)
    case atStart => exact parse_start l n
    case round =>
      obtain ⟨k, X, hk, hk10, rfl, rfl, hX, hp, he⟩ := hrel
      have HP := Lib.hid hp
      have He := Lib.hid he
      clear hp he
      by_cases hlt : k < n ∧ k < 10
      · obtain ⟨hlt1, hlt2⟩ := hlt
        obtain ⟨b, o, rfl, hc0⟩ := HB.out.cell (by omega)
        have hc := hc0 k (by omega)
        have hg := HB.out.get (i := k) (by omega)
        have Hdc := Lib.hid (drop_cons (l := l) (k := k) (by rw [HB.out.len]; omega))
        clear hc0
        generalize l.getD k 0 = c at hc hg Hdc
        by_cases h9 : k = 9 ∧ 1 < c % 128
        · obtain ⟨rfl, h91⟩ := h9
          have hfin := Lib.hid (show numL l 0 0 = (0, 0) by rw [He.out, Hdc.out]; exact numL_nine h91)
          have h92 : (1 : Int) < (c : Int) % 128 := by omega
          go_wp2
          go_ret2
          exact ⟨ret_num hfin.out rfl rfl, rfl⟩
        · have hor := Lib.hid (add_digit HP.out hlt2 h9)
          have H9 := Lib.hid h9
          have h91 : k = 9 → c % 128 ≤ 1 := by omega
          have Hd1 := Lib.hid h91
          clear h9 h91
          by_cases hc8 : 128 ≤ c
          · by_cases h9 : k = 9
            · subst h9
              have hd : (c : Int) % 128 ≤ 1 := by have := Hd1.out rfl; omega
              go_wp2
              go_round
              case rel => exact parse_next hlt1 hlt2 HP.out He.out Hdc.out H9.out hc8 (add_digit9 HP.out (by omega))
              case measure => simp [intOf]
            · have hq : ((k : Int) == 9) = false := beq_eq_false_iff_ne.2 (by omega)
              go_wp2
              go_round
              case rel => exact parse_next hlt1 hlt2 HP.out He.out Hdc.out H9.out hc8 hor.out
              case measure => simp [intOf]; omega
          · have hc8' : c < 128 := by omega
            by_cases hz : 0 < k ∧ c % 128 = 0
            · have hfin := Lib.hid (show numL l 0 0 = (0, 0) by rw [He.out, Hdc.out]; exact numL_zero hlt2 hc8' hz.1 hz.2)
              obtain ⟨hz1, hz2⟩ := hz
              have hqz : ((c : Int) % 128 == 0) = true := beq_iff_eq.2 (by omega)
              have Hz2 := Lib.hid hz2
              clear hz2
              by_cases h9 : k = 9
              · subst h9
                have hd : (c : Int) % 128 ≤ 1 := by have := Hd1.out rfl; omega
                go_wp2
                go_ret2
                exact ⟨ret_num hfin.out rfl rfl, rfl⟩
              · have hq : ((k : Int) == 9) = false := beq_eq_false_iff_ne.2 (by omega)
                go_wp2
                go_ret2
                exact ⟨ret_num hfin.out rfl rfl, rfl⟩
            · have hfin := Lib.hid (show numL l 0 0 = (X + c % 128 * 128 ^ k, k + 1) by rw [He.out, Hdc.out]; exact numL_last hlt2 H9.out hc8' hz)
              by_cases h9 : k = 9
              · subst h9
                have hd : (c : Int) % 128 ≤ 1 := by have := Hd1.out rfl; omega
                have hqz : ((c : Int) % 128 == 0) = false := beq_eq_false_iff_ne.2 (by omega)
                go_wp2
                go_ret2
                exact ⟨ret_num hfin.out (add_digit9 HP.out (by omega)) (by omega), rfl⟩
              · have hq : ((k : Int) == 9) = false := beq_eq_false_iff_ne.2 (by omega)
                by_cases hz0 : c % 128 = 0
                · have hqz : ((c : Int) % 128 == 0) = true := beq_iff_eq.2 (by omega)
                  have hk0 : (k : Int) ≤ 0 := by omega
                  have Hz0 := Lib.hid hz0
                  clear hz0
                  go_wp2
                  go_ret2
                  exact ⟨ret_num hfin.out hor.out (by omega), rfl⟩
                · have hqz : ((c : Int) % 128 == 0) = false := beq_eq_false_iff_ne.2 (by omega)
                  go_wp2
                  all_goals go_ret2
                  all_goals exact ⟨ret_num hfin.out hor.out (by omega), rfl⟩
      · have hfin := Lib.hid (parse_end HB.out.len hlt hk hk10 He.out)
        have hend : n ≤ k ∨ 10 ≤ k := by omega
        go_wp2
        go_ret2
        exact ⟨ret_num hfin.out rfl rfl, rfl⟩
end Go.Proofs.Ytjkpcpoplpgecaa
