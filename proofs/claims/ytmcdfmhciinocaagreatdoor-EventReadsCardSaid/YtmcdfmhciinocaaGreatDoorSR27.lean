import Derived.Test.YtmcdfmhciinocaaGreatDoorSR14
import Derived.Test.YtmcdfmhciinocaaGreatDoorSR1
import Derived.Test.YtmcdfmhciinocaaGreatDoorSR8
import Derived.Test.YtmcdfmhciinocaaGreatDoorSR19
/- The walks of the two functions that read a number: each returns what the plain reading says. -/
namespace Go.Proofs.YtmcdfmhciinocaaGreatDoor
open Go.RowKit

theorem digit_facts {X c k : Nat} (hX : X < 128 ^ k) (hk : k < 10) (h9 : ¬ (k = 9 ∧ 1 < c % 128)) : X + c % 128 * 128 ^ k < 128 ^ (k + 1) ∧ X + c % 128 * 128 ^ k < 18446744073709551616 := by
  have h1 : c % 128 * 128 ^ k ≤ 127 * 128 ^ k := Nat.mul_le_mul_right _ (by omega)
  have h2 : 128 ^ (k + 1) = 128 * 128 ^ k := by rw [Nat.pow_succ, Nat.mul_comm]
  refine ⟨by omega, ?_⟩
  by_cases e : k = 9
  · subst e
    have h3 : c % 128 ≤ 1 := by omega
    have h4 : c % 128 * 128 ^ 9 ≤ 1 * 128 ^ 9 := Nat.mul_le_mul_right _ h3
    omega
  · have h3 : 128 ^ k ≤ 128 ^ 8 := Nat.pow_le_pow_right (by omega) (by omega)
    omega

theorem digit_cast (c k : Nat) : (c : Int) % 128 * 2 ^ (7 * k) = ((c % 128 * 128 ^ k : Nat) : Int) := by
  rw [Int.natCast_mul, Int.natCast_pow, Int.pow_mul]
  rfl

theorem digit_wrap {X c k : Nat} (hX : X < 128 ^ k) (hk : k < 10) (h9 : ¬ (k = 9 ∧ 1 < c % 128)) : IntKind.u64.wrap ((c : Int) % 128 * 2 ^ (7 * k)) = ((c % 128 * 128 ^ k : Nat) : Int) := by
  have h := (digit_facts hX hk h9).2
  rw [digit_cast, IntWalk.u64_in _ ⟨by omega, by omega⟩]

theorem or_digit {X c k : Nat} (hX : X < 128 ^ k) (hk : k < 10) (h9 : ¬ (k = 9 ∧ 1 < c % 128)) :
    bits .or .u64 (X : Int) (IntKind.u64.wrap ((c : Int) % 128 * 2 ^ (7 * k))) = ((X + c % 128 * 128 ^ k : Nat) : Int) := by
  have h := (digit_facts hX hk h9).2
  rw [digit_wrap hX hk h9, u64_or_nat _ _ (by omega) (by omega)]
  congr 1
  have e : (128 : Nat) ^ k = 2 ^ (7 * k) := by rw [Nat.pow_mul]
  rw [e] at hX ⊢
  rw [Nat.or_comm, Nat.mul_comm (c % 128), ← Nat.two_pow_add_eq_or_of_lt hX, Nat.add_comm]

theorem or_digit9 {X c : Nat} (hX : X < 128 ^ 9) (h : c % 128 ≤ 1) : bits .or .u64 (X : Int) ((c : Int) % 128 * 9223372036854775808) = ((X + c % 128 * 128 ^ 9 : Nat) : Int) := by
  rw [← or_digit hX (by omega) (by omega), digit_wrap hX (by omega) (by omega)]
  congr 1

theorem add_digit {X c k : Nat} (hX : X < 128 ^ k) (hk : k < 10) (h9 : ¬ (k = 9 ∧ 1 < c % 128)) :
    IntKind.u64.wrap ((X : Int) + IntKind.u64.wrap ((c : Int) % 128 * 2 ^ (7 * k))) = ((X + c % 128 * 128 ^ k : Nat) : Int) := by
  have h := (digit_facts hX hk h9).2
  rw [digit_wrap hX hk h9, ← Int.natCast_add, IntWalk.u64_in _ ⟨by omega, by omega⟩]

theorem u64_eq {a b : Int} (h : a = b) : Value.int .u64 a = Value.int .u64 b := by rw [h]
theorem ret_num {p : Nat × Nat} {a b : Int} {x y : Nat} (h : p = (x, y)) (ha : a = (x : Int)) (hb : b = (y : Int)) :
    Ending.returned (.tuple #[.int .u64 a, .int .i64 b]) = Ending.returned (.tuple #[.int .u64 (p.1 : Int), .int .i64 (p.2 : Int)]) := by subst h ha hb; rfl

def ParseRel (l : List Nat) (n : Nat) (x i : Value) : Prop := ∃ (k X : Nat), k ≤ n ∧ k ≤ 10 ∧ i = .int .i64 k ∧ x = .int .u64 X ∧ X < 18446744073709551616 ∧ X < 128 ^ k ∧ numL l 0 0 = numL (l.drop k) k X

theorem parse_start (l : List Nat) (n : Nat) : ParseRel l n (.int .u64 0) (.int .i64 0) := ⟨0, 0, Nat.zero_le _, Nat.zero_le _, rfl, rfl, by omega, by decide, rfl⟩

theorem parse_next {l : List Nat} {n k X c : Nat} {x : Int} (hk : k < n) (hk10 : k < 10) (hX : X < 128 ^ k) (he : numL l 0 0 = numL (l.drop k) k X) (hd : l.drop k = c :: l.drop (k + 1)) (h9 : ¬ (k = 9 ∧ 1 < c % 128)) (hc : 128 ≤ c)
    (hx : x = ((X + c % 128 * 128 ^ k : Nat) : Int)) : ParseRel l n (.int .u64 x) (.int .i64 ((k : Int) + 1)) := by
  obtain ⟨f1, f2⟩ := digit_facts hX hk10 h9
  exact ⟨k + 1, _, hk, hk10, by go_num, u64_eq hx, f2, f1, by rw [he, hd, numL_more hk10 h9 (by omega)]⟩

theorem parse_end {l : List Nat} {n k X : Nat} (hl : l.length = n) (h : ¬ (k < n ∧ k < 10)) (hk : k ≤ n) (hk10 : k ≤ 10) (he : numL l 0 0 = numL (l.drop k) k X) : numL l 0 0 = (0, 0) := by
  rw [he]
  by_cases e : k = 10
  · subst e; exact numL_ten _ _
  · rw [List.drop_eq_nil_of_le (by omega)]; rfl

theorem add_digit9 {X c : Nat} (hX : X < 128 ^ 9) (h : c % 128 ≤ 1) : IntKind.u64.wrap ((X : Int) + (c : Int) % 128 * 9223372036854775808) = ((X + c % 128 * 128 ^ 9 : Nat) : Int) := by
  rw [← add_digit hX (by omega) (by omega), digit_wrap hX (by omega) (by omega)]
  congr 1

set_option maxRecDepth 100000 in
set_option maxHeartbeats 1600000 in
theorem parse_any (a : Option Addr) (n cap : Nat) (l : List Nat) (w : World) (hl : Bytes w a n cap l) :
    Calls Tryz.prog 148 #[.slice a n cap] w fun e w' => e = .returned (.tuple #[.int .u64 (numL l 0 0).1, .int .i64 (numL l 0 0).2]) ∧ w = w' := by
  have hmax := hl.max
  have hle := hl.le
  have HB := Lib.hid hl
  clear hl
  by_cases hn : n ≤ 10
  all_goals
    go_enter Tryz.func148, Tryz.ntmps148
    go_wp2
    go_loop [2, 13] (fun x i => ParseRel l n x i) (fun _ i => 10 - (intOf i).toNat)
    case atStart => exact parse_start l n
    case round =>
      obtain ⟨k, X, hk, hk10, rfl, rfl, hX, hp, he⟩ := hrel
      have HP := Lib.hid hp
      have He := Lib.hid he
      clear hp he
      by_cases hlt : k < n ∧ k < 10
      · obtain ⟨hlt1, hlt2⟩ := hlt
        obtain ⟨b, o, rfl, hc0⟩ := HB.out.cell (by omega)
        have hc := hc0 k (by omega)
        have hg := HB.out.get (i := k) (by omega)
        have Hdc := Lib.hid (drop_cons (l := l) (k := k) (by rw [HB.out.len]; omega))
        clear hc0
        generalize l.getD k 0 = c at hc hg Hdc
        by_cases h9 : k = 9 ∧ 1 < c % 128
        · obtain ⟨rfl, h91⟩ := h9
          have hfin := Lib.hid (show numL l 0 0 = (0, 0) by rw [He.out, Hdc.out]; exact numL_nine h91)
          have h92 : (1 : Int) < (c : Int) % 128 := by omega
          go_wp2
          go_ret2
          exact ⟨ret_num hfin.out rfl rfl, rfl⟩
        · have hor := Lib.hid (or_digit HP.out hlt2 h9)
          have H9 := Lib.hid h9
          have h91 : k = 9 → c % 128 ≤ 1 := by omega
          have Hd1 := Lib.hid h91
          clear h9 h91
          by_cases hc8 : 128 ≤ c
          · by_cases h9 : k = 9
            · subst h9
              have hd : (c : Int) % 128 ≤ 1 := by have := Hd1.out rfl; omega
              go_wp2
              go_round
              case rel => exact parse_next hlt1 hlt2 HP.out He.out Hdc.out H9.out hc8 (or_digit9 HP.out (by omega))
              case measure => simp [intOf]
            · have hq : ((k : Int) == 9) = false := beq_eq_false_iff_ne.2 (by omega)
              go_wp2
              go_round
              case rel => exact parse_next hlt1 hlt2 HP.out He.out Hdc.out H9.out hc8 hor.out
              case measure => simp [intOf]; omega
          · have hc8' : c < 128 := by omega
            by_cases hz : 0 < k ∧ c % 128 = 0
            · have hfin := Lib.hid (show numL l 0 0 = (0, 0) by rw [He.out, Hdc.out]; exact numL_zero hlt2 hc8' hz.1 hz.2)
              obtain ⟨hz1, hz2⟩ := hz
              have hqz : ((c : Int) % 128 == 0) = true := beq_iff_eq.2 (by omega)
              have Hz2 := Lib.hid hz2
              clear hz2
              by_cases h9 : k = 9
              · subst h9
                have hd : (c : Int) % 128 ≤ 1 := by have := Hd1.out rfl; omega
                go_wp2
                go_ret2
                exact ⟨ret_num hfin.out rfl rfl, rfl⟩
              · have hq : ((k : Int) == 9) = false := beq_eq_false_iff_ne.2 (by omega)
                go_wp2
                go_ret2
                exact ⟨ret_num hfin.out rfl rfl, rfl⟩
            · have hfin := Lib.hid (show numL l 0 0 = (X + c % 128 * 128 ^ k, k + 1) by rw [He.out, Hdc.out]; exact numL_last hlt2 H9.out hc8' hz)
              by_cases h9 : k = 9
              · subst h9
                have hd : (c : Int) % 128 ≤ 1 := by have := Hd1.out rfl; omega
                have hqz : ((c : Int) % 128 == 0) = false := beq_eq_false_iff_ne.2 (by omega)
                go_wp2
                go_ret2
                exact ⟨ret_num hfin.out (or_digit9 HP.out (by omega)) (by omega), rfl⟩
              · have hq : ((k : Int) == 9) = false := beq_eq_false_iff_ne.2 (by omega)
                by_cases hz0 : c % 128 = 0
                · have hqz : ((c : Int) % 128 == 0) = true := beq_iff_eq.2 (by omega)
                  have hk0 : (k : Int) ≤ 0 := by omega
                  have Hz0 := Lib.hid hz0
                  clear hz0
                  go_wp2
                  go_ret2
                  exact ⟨ret_num hfin.out hor.out (by omega), rfl⟩
                · have hqz : ((c : Int) % 128 == 0) = false := beq_eq_false_iff_ne.2 (by omega)
                  go_wp2
                  go_ret2
                  exact ⟨ret_num hfin.out hor.out (by omega), rfl⟩
      · have hfin := Lib.hid (parse_end HB.out.len hlt hk hk10 He.out)
        have hend : n ≤ k ∨ 10 ≤ k := by omega
        go_wp2
        go_ret2
        exact ⟨ret_num hfin.out rfl rfl, rfl⟩

set_option maxRecDepth 100000 in
set_option maxHeartbeats 1600000 in
theorem rnumber_any (a : Option Addr) (n cap : Nat) (l : List Nat) (w : World) (hl : Bytes w a n cap l) :
    Calls Tryz.prog 125 #[.slice a n cap] w fun e w' => e = .returned (.tuple #[.int .u64 (numL l 0 0).1, .int .i64 (numL l 0 0).2]) ∧ w = w' := by
  have hmax := hl.max
  have hle := hl.le
  have HB := Lib.hid hl
  clear hl
  by_cases hn : n ≤ 10
  all_goals
    go_enter Tryz.func125, Tryz.ntmps125
    go_wp2
    go_loop [4, 5] (fun x i => ParseRel l n x i) (fun _ i => 10 - (intOf i).toNat)
    case atStart => exact parse_start l n
    case round =>
      obtain ⟨k, X, hk, hk10, rfl, rfl, hX, hp, he⟩ := hrel
      have HP := Lib.hid hp
      have He := Lib.hid he
      clear hp he
      by_cases hlt : k < n ∧ k < 10
      · obtain ⟨hlt1, hlt2⟩ := hlt
        obtain ⟨b, o, rfl, hc0⟩ := HB.out.cell (by omega)
        have hc := hc0 k (by omega)
        have hg := HB.out.get (i := k) (by omega)
        have Hdc := Lib.hid (drop_cons (l := l) (k := k) (by rw [HB.out.len]; omega))
        clear hc0
        generalize l.getD k 0 = c at hc hg Hdc
        by_cases h9 : k = 9 ∧ 1 < c % 128
        · obtain ⟨rfl, h91⟩ := h9
          have hfin := Lib.hid (show numL l 0 0 = (0, 0) by rw [He.out, Hdc.out]; exact numL_nine h91)
          have h92 : (1 : Int) < (c : Int) % 128 := by omega
          go_wp2
          go_ret2
          exact ⟨ret_num hfin.out rfl rfl, rfl⟩
        · have hor := Lib.hid (add_digit HP.out hlt2 h9)
          have H9 := Lib.hid h9
          have h91 : k = 9 → c % 128 ≤ 1 := by omega
          have Hd1 := Lib.hid h91
          clear h9 h91
          by_cases hc8 : 128 ≤ c
          · by_cases h9 : k = 9
            · subst h9
              have hd : (c : Int) % 128 ≤ 1 := by have := Hd1.out rfl; omega
              go_wp2
              go_round
              case rel => exact parse_next hlt1 hlt2 HP.out He.out Hdc.out H9.out hc8 (add_digit9 HP.out (by omega))
              case measure => simp [intOf]
            · have hq : ((k : Int) == 9) = false := beq_eq_false_iff_ne.2 (by omega)
              go_wp2
              go_round
              case rel => exact parse_next hlt1 hlt2 HP.out He.out Hdc.out H9.out hc8 hor.out
              case measure => simp [intOf]; omega
          · have hc8' : c < 128 := by omega
            by_cases hz : 0 < k ∧ c % 128 = 0
            · have hfin := Lib.hid (show numL l 0 0 = (0, 0) by rw [He.out, Hdc.out]; exact numL_zero hlt2 hc8' hz.1 hz.2)
              obtain ⟨hz1, hz2⟩ := hz
              have hqz : ((c : Int) % 128 == 0) = true := beq_iff_eq.2 (by omega)
              have Hz2 := Lib.hid hz2
              clear hz2
              by_cases h9 : k = 9
              · subst h9
                have hd : (c : Int) % 128 ≤ 1 := by have := Hd1.out rfl; omega
                go_wp2
                go_ret2
                exact ⟨ret_num hfin.out rfl rfl, rfl⟩
              · have hq : ((k : Int) == 9) = false := beq_eq_false_iff_ne.2 (by omega)
                go_wp2
                go_ret2
                exact ⟨ret_num hfin.out rfl rfl, rfl⟩
            · have hfin := Lib.hid (show numL l 0 0 = (X + c % 128 * 128 ^ k, k + 1) by rw [He.out, Hdc.out]; exact numL_last hlt2 H9.out hc8' hz)
              by_cases h9 : k = 9
              · subst h9
                have hd : (c : Int) % 128 ≤ 1 := by have := Hd1.out rfl; omega
                have hqz : ((c : Int) % 128 == 0) = false := beq_eq_false_iff_ne.2 (by omega)
                go_wp2
                go_ret2
                exact ⟨ret_num hfin.out (add_digit9 HP.out (by omega)) (by omega), rfl⟩
              · have hq : ((k : Int) == 9) = false := beq_eq_false_iff_ne.2 (by omega)
                by_cases hz0 : c % 128 = 0
                · have hqz : ((c : Int) % 128 == 0) = true := beq_iff_eq.2 (by omega)
                  have hk0 : (k : Int) ≤ 0 := by omega
                  have Hz0 := Lib.hid hz0
                  clear hz0
                  go_wp2
                  go_ret2
                  exact ⟨ret_num hfin.out hor.out (by omega), rfl⟩
                · have hqz : ((c : Int) % 128 == 0) = false := beq_eq_false_iff_ne.2 (by omega)
                  go_wp2
                  all_goals go_ret2
                  all_goals exact ⟨ret_num hfin.out hor.out (by omega), rfl⟩
      · have hfin := Lib.hid (parse_end HB.out.len hlt hk hk10 He.out)
        have hend : n ≤ k ∨ 10 ≤ k := by omega
        go_wp2
        go_ret2
        exact ⟨ret_num hfin.out rfl rfl, rfl⟩
end Go.Proofs.YtmcdfmhciinocaaGreatDoor

/- Parts of byte slices: 's[k:]' and 's[:k]' as one equation each, whatever the capacity is. -/
namespace Go.Proofs.YtmcdfmhciinocaaGreatDoor
open Go.RowKit

/-- The address of a slice that has room. -/
def Formed (a : Option Addr) (c : Nat) : Prop := 0 < c → ∃ b o, a = some ⟨b, o, none⟩

theorem formed_none (c : Nat) (h : c = 0) : Formed none c := fun hc => by omega
theorem formed_at (b o c : Nat) : Formed (some ⟨b, o, none⟩) c := fun _ => ⟨b, o, rfl⟩

theorem own_formed {w : World} {base : Nat} {e : TypeId} {p : Option Addr} {n c m : Nat} {l : List Nat} (h : w.ownsRow base e 1 (.slice p n c) m (u8s l)) : Formed p c := by
  rcases h.2 with ⟨hv, _⟩ | ⟨g, cap', cur, hv, _⟩
  · cases hv; exact formed_none 0 rfl
  · cases hv; exact formed_at _ _ _

section
variable {P : Program}

theorem addr_add (b o k : Nat) : (⟨b, o, none⟩ : Addr).add k = ⟨b, o + k, none⟩ := by unfold Addr.add; split <;> simp_all

theorem bytes_none {w : World} {a : Option Addr} {c : Nat} (hm : c ≤ 9223372036854775807) (h : a = none → c = 0) : Bytes w a 0 c [] :=
  ⟨rfl, Nat.zero_le _, hm, fun _ h => (by cases h), h, fun h => absurd h (Nat.lt_irrefl _)⟩

/-- 's[k:]'. -/
theorem slice_from {T E : TypeId} (hT : P.underlying T = some (.slice E)) (hin : (P.info? E).map (fun i => (i.zero, i.size, i.bytes)) = some (some (.int .u8 0), 1, 1)) {a : Option Addr} {n c k : Nat} (hk : k ≤ n) (hn : n ≤ c) (hf : Formed a c) :
    ∃ a', (∀ (w : World) (kl : IntKind), (Instr.slice T (.slice a n c) (some (.int kl (k : Int))) none none).run P w = .ok (.slice a' (n - k) (c - k)) w) ∧ Formed a' (c - k) ∧ ∀ (w : World) (l : List Nat), Bytes w a n c l → Bytes w a' (n - k) (c - k) (l.drop k) := by
  obtain ⟨i, hi, _, hsz, _⟩ := info_parts hin
  have hT' : P.underlying T = some (.slice (P.elem T)) := by rw [hT]; simp [Program.elem, hT]
  have hE : P.elem T = E := by simp [Program.elem, hT]
  have hsize : ∀ w : World, (sizeOf (P.elem T)).run P w = .ok 1 w := fun w => by rw [hE]; simp [sizeOf, typeInfo, hi, hsz]
  refine ⟨if c = k then a else a.map (·.add (k * 1)), fun w kl => ?_, ?_, fun w l hl => ?_⟩
  · rw [run_slice_l w T a n c hT' kl (k : Int) (by omega) (by omega), hsize]
    rfl
  · intro h
    rw [if_neg (by omega)]
    obtain ⟨b, o, rfl⟩ := hf (by omega)
    exact ⟨b, o + k * 1, by simp [addr_add]⟩
  · have hcm := hl.capmax
    by_cases e : k = n
    · subst e
      rw [Nat.sub_self, List.drop_eq_nil_of_le (by rw [hl.len]; exact Nat.le_refl _)]
      refine bytes_none (by omega) (fun h => ?_)
      by_cases hck : c = k
      · omega
      · rw [if_neg hck] at h
        obtain ⟨b, o, rfl⟩ := hf (by omega)
        cases h
    · obtain ⟨b, o, rfl⟩ := hf (by omega)
      rw [if_neg (by omega), Nat.mul_one]
      simp only [Option.map_some, addr_add]
      exact hl.dropTo (by omega)

/-- 's[:k]'. -/
theorem slice_to {T E : TypeId} (hT : P.underlying T = some (.slice E)) (hin : (P.info? E).map (fun i => (i.zero, i.size, i.bytes)) = some (some (.int .u8 0), 1, 1)) {a : Option Addr} {n c k : Nat} (hk : k ≤ n) (hn : n ≤ c) (hf : Formed a c) :
    ∃ a', (∀ (w : World) (kl : IntKind), (Instr.slice T (.slice a n c) none (some (.int kl (k : Int))) none).run P w = .ok (.slice a' k c) w) ∧ Formed a' c ∧ ∀ (w : World) (l : List Nat), Bytes w a n c l → Bytes w a' k c (l.take k) := by
  obtain ⟨i, hi, _, hsz, _⟩ := info_parts hin
  have hT' : P.underlying T = some (.slice (P.elem T)) := by rw [hT]; simp [Program.elem, hT]
  have hE : P.elem T = E := by simp [Program.elem, hT]
  have hsize : ∀ w : World, (sizeOf (P.elem T)).run P w = .ok 1 w := fun w => by rw [hE]; simp [sizeOf, typeInfo, hi, hsz]
  have ha : (if c = 0 then a else a.map (·.add (0 * 1))) = a := by
    by_cases h : c = 0
    · rw [if_pos h]
    · rw [if_neg h]
      obtain ⟨b, o, rfl⟩ := hf (by omega)
      simp [addr_add]
  refine ⟨a, fun w kl => ?_, hf, fun w l hl => ?_⟩
  · rw [run_slice_h w T a n c hT' kl (k : Int) (by omega) (by omega), hsize]
    show Result.ok (Value.slice (if c = 0 then a else a.map (·.add (0 * 1))) (k - 0) (c - 0)) w = _
    rw [ha]; rfl
  · exact hl.takeTo hk (by omega) (Nat.le_refl _)
end
end Go.Proofs.YtmcdfmhciinocaaGreatDoor

/- The walks of a reader's methods: what they return, and what they leave of it. -/
namespace Go.Proofs.YtmcdfmhciinocaaGreatDoor
open Go.RowKit

/-- A reader in block g: the bytes that are left, and whether it is ok. -/
def Rd (w : World) (g : Nat) (l : List Nat) (ok : Bool) : Prop :=
  ∃ a n c, w.heap[g]? = some (.cells #[.slice a n c, .bool ok] 82 (0, 0)) ∧ Bytes w a n c l ∧ Formed a c

def readN (l : List Nat) (ok : Bool) : Nat × List Nat × Bool := if ok = true ∧ 0 < (numL l 0 0).2 then ((numL l 0 0).1, l.drop (numL l 0 0).2, true) else (0, l, false)
def takeN (l : List Nat) (ok : Bool) (k : Int) : List Nat × List Nat × Bool := if ok = true ∧ 0 ≤ k ∧ k ≤ l.length then (l.take k.toNat, l.drop k.toNat, true) else ([], l, false)
def readB (l : List Nat) (ok : Bool) : List Nat × List Nat × Bool :=
  if ok = true ∧ 0 < (numL l 0 0).2 ∧ (numL l 0 0).1 ≤ l.length - (numL l 0 0).2 then ((l.drop (numL l 0 0).2).take (numL l 0 0).1, l.drop ((numL l 0 0).2 + (numL l 0 0).1), true) else ([], l, false)

theorem Rd.below {w w' : World} {g : Nat} {l : List Nat} {ok : Bool} (h : Rd w g l ok) (hb : Below w.heap.size w w') : Rd w' g l ok := by
  obtain ⟨a, n, c, h1, h2, h3⟩ := h
  exact ⟨a, n, c, (hb.block g (Array.getElem?_eq_some_iff.1 h1).1).trans h1, h2.grow hb, h3⟩

theorem rd_cell {w : World} {g : Nat} {a : Option Addr} {n c : Nat} {ok : Bool} {t : TypeId} (h : w.heap[g]? = some (.cells #[.slice a n c, .bool ok] t (0, 0))) :
    w.cell? ⟨g, 0, none⟩ = some (.slice a n c) ∧ w.cell? ⟨g, 1, none⟩ = some (.bool ok) ∧ w.frozen? ⟨g, 0, none⟩ = false ∧ w.frozen? ⟨g, 1, none⟩ = false := by
  refine ⟨?_, ?_, ?_, ?_⟩
  · rw [cell_of_row _ _ _ _ _ _ h]; rfl
  · rw [cell_of_row _ _ _ _ _ _ h]; rfl
  · simp [World.frozen?, h]
  · simp [World.frozen?, h]

theorem rd_other {w : World} {g : Nat} {a : Option Addr} {n c : Nat} {ok : Bool} {t : TypeId} {l : List Nat} (h : w.heap[g]? = some (.cells #[.slice a n c, .bool ok] t (0, 0))) {a' : Option Addr} {n' c' : Nat} (hB : Bytes w a' n' c' l) (hn : 0 < n') {x : Addr} (hx : a' = some x) : x.block ≠ g := by
  intro e
  obtain ⟨b, o, rfl, hc⟩ := hB.cell hn
  cases hx
  have h0 := hc 0 hn
  simp only at e
  subst e
  rw [Nat.add_zero, cell_of_row _ _ _ _ _ _ h] at h0
  match o with
  | 0 => cases h0
  | 1 => cases h0
  | o + 2 => simp at h0

theorem Bytes.setFar {w : World} {a : Option Addr} {n c g i : Nat} {l : List Nat} (h : Bytes w a n c l) (hg : 0 < n → ∀ x, a = some x → x.block ≠ g) (v : Value) : Bytes (w.setCell ⟨g, i, none⟩ v) a n c l := by
  rcases Nat.eq_zero_or_pos n with rfl | hn
  · obtain rfl : l = [] := List.length_eq_zero_iff.1 h.len
    exact ⟨rfl, h.le, h.capmax, h.byte, h.nil, fun h => absurd h (Nat.lt_irrefl _)⟩
  · refine h.keep fun p _ hp => ?_
    obtain ⟨b, o, rfl, _⟩ := h.cell hn
    have e := hp _ rfl
    refine World.cell?_setCell_other w _ p v (fun e2 => ?_)
    have := hg hn _ rfl
    rw [← e2] at e
    exact this e.symm

theorem rd_store1 {w : World} {g : Nat} {a : Option Addr} {n c : Nat} {ok ok' : Bool} {t : TypeId} (h : w.heap[g]? = some (.cells #[.slice a n c, .bool ok] t (0, 0))) :
    (w.setCell ⟨g, 1, none⟩ (.bool ok')).heap[g]? = some (.cells #[.slice a n c, .bool ok'] t (0, 0)) := by
  simp [World.setCell, Array.getElem?_modify, h]

theorem rd_store0 {w : World} {g : Nat} {a a' : Option Addr} {n c n' c' : Nat} {ok : Bool} {t : TypeId} (h : w.heap[g]? = some (.cells #[.slice a n c, .bool ok] t (0, 0))) :
    (w.setCell ⟨g, 0, none⟩ (.slice a' n' c')).heap[g]? = some (.cells #[.slice a' n' c', .bool ok] t (0, 0)) := by
  simp [World.setCell, Array.getElem?_modify, h]

theorem only_set {a w : World} {g : Nat} (h : a.grownBy w (some g)) (i : Nat) (u : Value) : a.grownBy (w.setCell ⟨g, i, none⟩ u) (some g) :=
  ⟨h.os, h.tape, h.output, by simpa [World.setCell] using h.size, fun k hk hne => (Below.heap_setCell w ⟨g, i, none⟩ u k (by rintro rfl; exact hne rfl)).trans (h.block k hk hne)⟩

theorem only_refl (w : World) (r : Option Nat) : w.grownBy w r := ⟨rfl, rfl, rfl, Nat.le_refl _, fun _ _ _ => rfl⟩

/-- What a method of a reader leaves: only its block has turned. -/
def RdEnd (w : World) (g : Nat) (s : List Nat × Bool) (w' : World) : Prop := Rd w' g s.1 s.2 ∧ w.grownBy w' (some g)

theorem parse_is (a : Option Addr) (n cap : Nat) (l : List Nat) (w : World) (z s : Nat) (hl : Bytes w a n cap l) (h : numL l 0 0 = (z, s)) :
    Calls Tryz.prog 148 #[.slice a n cap] w fun e w' => e = .returned (.tuple #[.int .u64 (z : Int), .int .i64 (s : Int)]) ∧ w = w' := by
  have := parse_any a n cap l w hl
  rw [h] at this
  exact this

theorem only_trans {a b c : World} {r : Option Nat} (h : a.grownBy b r) (k : b.grownBy c r) : a.grownBy c r :=
  ⟨k.os.trans h.os, k.tape.trans h.tape, k.output.trans h.output, Nat.le_trans h.size k.size, fun i hi hne => (k.block i (Nat.lt_of_lt_of_le hi h.size) hne).trans (h.block i hi hne)⟩

end Go.Proofs.YtmcdfmhciinocaaGreatDoor

/- The walk of bytes.Clone of bytes. -/
namespace Go.Proofs.YtmcdfmhciinocaaGreatDoor
open Go.RowKit

theorem bclone_nil (w : World) : Calls Tryz.prog 48 #[.slice none 0 0] w (NewBytes w []) := by
  have hq := fun (w : World) (a : Option Addr) (n c : Nat) => Lib.run_eql_slice_nil (P := Tryz.prog) w 31 5 a n c 0 0 Tryz.underlying31
  go_enter Tryz.func48, Tryz.ntmps48
  go_wp2
  go_ret
  exact ⟨_, rfl, World.ownsRow_nil _ _ _ _, Below.refl _ _⟩

theorem bclone_some (a : Addr) (n cap : Nat) (l : List Nat) (w : World) (hl : Bytes w (some a) n cap l) (hn : n ≤ 140737488355328) : Calls Tryz.prog 48 #[.slice (some a) n cap] w (NewBytes w l) := by
  have hl := Lib.hid (hl.grow (w' := w.alloc (.cells #[] 5)) ((Below.refl _ _).alloc (Nat.le_refl _) _))
  have hown : (w.alloc (.cells #[] 5)).ownsRow w.heap.size 5 1 (.slice (some ⟨w.heap.size, 0, none⟩) 0 0) 0 (u8s []) := World.ownsRow_made w #[] 0 (Nat.le_refl _) (Nat.zero_le _) rfl
  have hown := Lib.hid hown
  rename_i hl0 hown0; clear hl0 hown0
  have hq := fun (w : World) (a : Option Addr) (n c : Nat) => Lib.run_eql_slice_nil (P := Tryz.prog) w 31 5 a n c 0 0 Tryz.underlying31
  have hbel : Below w.heap.size w (w.alloc (.cells #[] 5)) := (Below.refl _ _).alloc (Nat.le_refl _) _
  go_enter Tryz.func48, Tryz.ntmps48
  go_wp2_with (at_builtin; refine wpList_append_bytes _ rfl _ _ 31 rfl w.heap.size 5 Tryz.underlying31 info_u8 _ _ _ rfl hown.out (some a) n cap l rfl hl.out (by omega) hbel.size ?_; intro v' w1 g1 g2)
  go_ret
  refine ⟨_, rfl, ?_, hbel.grown g2 hbel.size (fun k hk => (hown.out.lt k hk).1)⟩
  rw [hl.out.len]
  simpa using g1

theorem bclone_any (a : Option Addr) (n cap : Nat) (l : List Nat) (w : World) (hl : Bytes w a n cap l) (hn : n ≤ 140737488355328) : Calls Tryz.prog 48 #[.slice a n cap] w (NewBytes w l) := by
  cases a with
  | none =>
    obtain rfl : cap = 0 := hl.nil rfl
    obtain rfl : n = 0 := by have := hl.le; omega
    obtain rfl : l = [] := List.length_eq_zero_iff.1 hl.len
    exact bclone_nil w
  | some a => exact bclone_some a n cap l w hl hn

end Go.Proofs.YtmcdfmhciinocaaGreatDoor

/- The walks of a reader's exported methods, for a reader and for none. -/
namespace Go.Proofs.YtmcdfmhciinocaaGreatDoor
open Go.RowKit

theorem only_below {a b c : World} {r : Option Nat} (h : a.grownBy b r) (k : Below b.heap.size b c) : a.grownBy c r :=
  ⟨k.os.trans h.os, k.tape.trans h.tape, k.output.trans h.output, Nat.le_trans h.size k.size, fun i hi hne => (k.block i (Nat.lt_of_lt_of_le hi h.size)).trans (h.block i hi hne)⟩

theorem RdEnd.below {w w1 w2 : World} {g : Nat} {s : List Nat × Bool} (h : RdEnd w g s w1) (hb : Below w1.heap.size w1 w2) : RdEnd w g s w2 := ⟨h.1.below hb, only_below h.2 hb⟩

/-- What orNone answers: the receiver, or a new reader. -/
def OrNone (v : Value) (g : Nat) (w w1 : World) : Prop := Calls Tryz.prog 58 #[v] w fun e w' => e = .returned (.pointer (some ⟨g, 0, none⟩)) ∧ w1 = w'

theorem orNone_some (g : Nat) (w : World) : OrNone (.pointer (some ⟨g, 0, none⟩)) g w w := by
  show Calls _ _ _ _ _
  go_enter Tryz.func58, Tryz.ntmps58
  go_wp2
  go_ret
  exact ⟨rfl, rfl⟩

section
variable (v : Value) (g : Nat) (l : List Nat) (ok : Bool) (w w1 : World) (hO : OrNone v g w w1) (hR : Rd w1 g l ok)
include hO hR

omit hO in
theorem readN_lt : (readN l ok).1 < 18446744073709551616 := by
  obtain ⟨a, n, c, _, hB, _⟩ := hR
  obtain ⟨z, s, hz⟩ : ∃ z s, numL l 0 0 = (z, s) := ⟨_, _, rfl⟩
  have := (numL_size_le hB.byte hz).2.2.1
  unfold readN
  rw [hz]
  split
  · exact this
  · show (0 : Nat) < 18446744073709551616
    decide

theorem mLeft : Calls Tryz.prog 20 #[v] w fun e w' => e = .returned (.int .i64 (l.length : Nat)) ∧ w1 = w' := by
  have HO := Lib.hid hO
  obtain ⟨a, n, c, hg, hB, _⟩ := hR
  obtain ⟨c0, _, _, _⟩ := rd_cell hg
  have HL := Lib.hid hB.len
  clear hO hg hB
  go_enter Tryz.func20, Tryz.ntmps20
  go_wp2_with fail
  refine (show Calls _ _ _ _ _ from HO.out).mono ?_
  rintro e w2 ⟨rfl, rfl⟩
  go_wp2
  go_ret
  exact ⟨ret_i64 (by rw [HL.out]), rfl⟩

theorem mOk : Calls Tryz.prog 52 #[v] w fun e w' => e = .returned (.bool ok) ∧ w1 = w' := by
  have HO := Lib.hid hO
  obtain ⟨a, n, c, hg, hB, _⟩ := hR
  obtain ⟨_, c1, _, _⟩ := rd_cell hg
  clear hO hg hB
  go_enter Tryz.func52, Tryz.ntmps52
  go_wp2_with fail
  refine (show Calls _ _ _ _ _ from HO.out).mono ?_
  rintro e w2 ⟨rfl, rfl⟩
  go_wp2
  go_ret
  exact ⟨rfl, rfl⟩
end

/-- A reader whose bytes lie beyond what there was. -/
def RdF (w : World) (g : Nat) (l : List Nat) (ok : Bool) (base : Nat) : Prop :=
  ∃ a n c, w.heap[g]? = some (.cells #[.slice a n c, .bool ok] 82 (0, 0)) ∧ Bytes w a n c l ∧ Formed a c ∧ ∀ x, a = some x → base ≤ x.block

theorem RdF.rd {w : World} {g : Nat} {l : List Nat} {ok : Bool} {base : Nat} (h : RdF w g l ok base) : Rd w g l ok := by
  obtain ⟨a, n, c, h1, h2, h3, _⟩ := h
  exact ⟨a, n, c, h1, h2, h3⟩

theorem RdF.below {w w' : World} {g : Nat} {l : List Nat} {ok : Bool} {base : Nat} (h : RdF w g l ok base) (hb : Below w.heap.size w w') : RdF w' g l ok base := by
  obtain ⟨a, n, c, h1, h2, h3, h4⟩ := h
  exact ⟨a, n, c, (hb.block g (Array.getElem?_eq_some_iff.1 h1).1).trans h1, h2.grow hb, h3, h4⟩

end Go.Proofs.YtmcdfmhciinocaaGreatDoor

/- The walks of a reader's methods, where the bytes lie in blocks of which K holds: those that are left lie there too. -/
namespace Go.Proofs.YtmcdfmhciinocaaGreatDoor
open Go.RowKit

/-- A reader in block g: the bytes that are left, whether it is ok, and where the bytes lie. -/
def RdK (K : Nat → Prop) (w : World) (g : Nat) (l : List Nat) (ok : Bool) : Prop :=
  ∃ a n c, w.heap[g]? = some (.cells #[.slice a n c, .bool ok] 82 (0, 0)) ∧ Bytes w a n c l ∧ Formed a c ∧ ∀ x : Addr, a = some x → K x.block

theorem RdK.rd {K : Nat → Prop} {w : World} {g : Nat} {l : List Nat} {ok : Bool} (h : RdK K w g l ok) : Rd w g l ok := by
  obtain ⟨a, n, c, h1, h2, h3, _⟩ := h
  exact ⟨a, n, c, h1, h2, h3⟩

theorem RdK.below {K : Nat → Prop} {w w' : World} {g : Nat} {l : List Nat} {ok : Bool} (h : RdK K w g l ok) (hb : Below w.heap.size w w') : RdK K w' g l ok := by
  obtain ⟨a, n, c, h1, h2, h3, h4⟩ := h
  exact ⟨a, n, c, (hb.block g (Array.getElem?_eq_some_iff.1 h1).1).trans h1, h2.grow hb, h3, h4⟩

/-- Another world in which the blocks of which K holds, and that of the reader, are as they were. -/
theorem RdK.keep {K : Nat → Prop} {w w' : World} {g : Nat} {l : List Nat} {ok : Bool} (h : RdK K w g l ok) (hg : w'.heap[g]? = w.heap[g]?) (hk : ∀ b, b < w.heap.size → K b → w'.heap[b]? = w.heap[b]?) : RdK K w' g l ok := by
  obtain ⟨a, n, c, h1, h2, h3, h4⟩ := h
  refine ⟨a, n, c, hg.trans h1, ?_, h3, h4⟩
  rcases Nat.eq_zero_or_pos n with rfl | hn
  · obtain rfl : l = [] := List.length_eq_zero_iff.1 h2.len
    exact ⟨rfl, h2.le, h2.capmax, h2.byte, h2.nil, fun h => absurd h (Nat.lt_irrefl _)⟩
  · refine h2.keep fun p hp hpx => ?_
    obtain ⟨b, o, rfl, _⟩ := h2.cell hn
    have hb := h4 _ rfl
    have hb2 := hpx _ rfl
    simp only at hb hb2
    exact World.cell?_of_block (hk p.block hp (by rw [hb2]; exact hb))

def RdEndK (K : Nat → Prop) (w : World) (g : Nat) (s : List Nat × Bool) (w' : World) : Prop := RdK K w' g s.1 s.2 ∧ w.grownBy w' (some g)

theorem RdEndK.below {K : Nat → Prop} {w w1 w2 : World} {g : Nat} {s : List Nat × Bool} (h : RdEndK K w g s w1) (hb : Below w1.heap.size w1 w2) : RdEndK K w g s w2 := ⟨h.1.below hb, only_below h.2 hb⟩
theorem RdEndK.go {K : Nat → Prop} {w w1 w2 : World} {g : Nat} {s s' : List Nat × Bool} (h : RdEndK K w g s w1) (k : RdEndK K w1 g s' w2) : RdEndK K w g s' w2 := ⟨k.1, only_trans h.2 k.2⟩

section
variable {K : Nat → Prop}

theorem rdEndK_fail {w : World} {g : Nat} {a : Option Addr} {n c : Nat} {ok : Bool} {l : List Nat} (h : w.heap[g]? = some (.cells #[.slice a n c, .bool ok] 82 (0, 0))) (hB : Bytes w a n c l) (hf : Formed a c) (hK : ∀ x : Addr, a = some x → K x.block) :
    RdEndK K w g (l, false) (w.setCell ⟨g, 1, none⟩ (.bool false)) :=
  ⟨⟨a, n, c, rd_store1 h, hB.setFar (fun hn _ hx => rd_other h hB hn hx) _, hf, hK⟩, only_set (only_refl _ _) _ _⟩

theorem rdEndK_go {w : World} {g : Nat} {a a' : Option Addr} {n c n' c' : Nat} {ok : Bool} {l' : List Nat} (h : w.heap[g]? = some (.cells #[.slice a n c, .bool ok] 82 (0, 0))) (hB : Bytes w a' n' c' l') (hf : Formed a' c') (hK : ∀ x : Addr, a' = some x → K x.block) :
    RdEndK K w g (l', true) ((w.setCell ⟨g, 1, none⟩ (.bool true)).setCell ⟨g, 0, none⟩ (.slice a' n' c')) :=
  ⟨⟨a', n', c', rd_store0 (rd_store1 h), (hB.setFar (fun hn _ hx => rd_other h hB hn hx) _).setFar (fun hn _ hx => rd_other h hB hn hx) _, hf, hK⟩, only_set (only_set (only_refl _ _) _ _) _ _⟩

theorem rdK_mark {w : World} {g : Nat} {a : Option Addr} {n c : Nat} {ok : Bool} {l : List Nat} (h : w.heap[g]? = some (.cells #[.slice a n c, .bool ok] 82 (0, 0))) (hB : Bytes w a n c l) (hf : Formed a c) (hK : ∀ x : Addr, a = some x → K x.block) :
    RdK K (w.setCell ⟨g, 1, none⟩ (.bool true)) g l true := ⟨a, n, c, rd_store1 h, hB.setFar (fun hn _ hx => rd_other h hB hn hx) _, hf, hK⟩

theorem slice_fromK {P : Program} {T E : TypeId} (hT : P.underlying T = some (.slice E)) (hin : (P.info? E).map (fun i => (i.zero, i.size, i.bytes)) = some (some (.int .u8 0), 1, 1)) {a : Option Addr} {n c k : Nat} (hk : k ≤ n) (hn : n ≤ c) (hf : Formed a c) (hK : ∀ x : Addr, a = some x → K x.block) :
    ∃ a', (∀ (w : World) (kl : IntKind), (Instr.slice T (.slice a n c) (some (.int kl (k : Int))) none none).run P w = .ok (.slice a' (n - k) (c - k)) w) ∧ Formed a' (c - k) ∧ (∀ x : Addr, a' = some x → K x.block) ∧ ∀ (w : World) (l : List Nat), Bytes w a n c l → Bytes w a' (n - k) (c - k) (l.drop k) := by
  obtain ⟨i, hi, _, hsz, _⟩ := info_parts hin
  have hT' : P.underlying T = some (.slice (P.elem T)) := by rw [hT]; simp [Program.elem, hT]
  have hE : P.elem T = E := by simp [Program.elem, hT]
  have hsize : ∀ w : World, (sizeOf (P.elem T)).run P w = .ok 1 w := fun w => by rw [hE]; simp [sizeOf, typeInfo, hi, hsz]
  refine ⟨if c = k then a else a.map (·.add (k * 1)), fun w kl => ?_, ?_, ?_, fun w l hl => ?_⟩
  · rw [run_slice_l w T a n c hT' kl (k : Int) (by omega) (by omega), hsize]
    rfl
  · intro h
    rw [if_neg (by omega)]
    obtain ⟨b, o, rfl⟩ := hf (by omega)
    exact ⟨b, o + k * 1, by simp [addr_add]⟩
  · intro x hx
    by_cases hck : c = k
    · rw [if_pos hck] at hx; exact hK x hx
    · rw [if_neg hck] at hx
      obtain ⟨b, o, rfl⟩ := hf (by omega)
      simp only [Option.map_some, addr_add] at hx
      cases hx
      exact hK ⟨b, o, none⟩ rfl
  · have hcm := hl.capmax
    by_cases e : k = n
    · subst e
      rw [Nat.sub_self, List.drop_eq_nil_of_le (by rw [hl.len]; exact Nat.le_refl _)]
      refine bytes_none (by omega) (fun h => ?_)
      by_cases hck : c = k
      · omega
      · rw [if_neg hck] at h
        obtain ⟨b, o, rfl⟩ := hf (by omega)
        cases h
    · obtain ⟨b, o, rfl⟩ := hf (by omega)
      rw [if_neg (by omega), Nat.mul_one]
      simp only [Option.map_some, addr_add]
      exact hl.dropTo (by omega)

set_option maxRecDepth 100000 in
theorem numberK_any (g : Nat) (l : List Nat) (ok : Bool) (w : World) (hR : RdK K w g l ok) :
    Calls Tryz.prog 116 #[.pointer (some ⟨g, 0, none⟩)] w fun e w' => e = .returned (.int .u64 ((readN l ok).1 : Int)) ∧ RdEndK K w g (readN l ok).2 w' := by
  obtain ⟨a, n, c, hg, hB, hf, hK⟩ := hR
  have HK := Lib.hid hK
  clear hK
  obtain ⟨z, s, hz⟩ : ∃ z s, numL l 0 0 = (z, s) := ⟨_, _, rfl⟩
  obtain ⟨hs1, hs2, hs3, hs4⟩ := numL_size_le hB.byte hz
  have hlen := hB.len
  have hle := hB.le
  have hsn : s ≤ n := by omega
  have hcm := hB.capmax
  obtain ⟨c0, c1, f0, f1⟩ := rd_cell hg
  have HG := Lib.hid hg
  have HB := Lib.hid hB
  have HZ := Lib.hid hz
  clear hg hB hz hs4 hlen hs1
  by_cases hok : ok = true ∧ 0 < s
  · obtain ⟨rfl, hs⟩ := hok
    have hrd : readN l true = (z, l.drop s, true) := by unfold readN; rw [HZ.out, if_pos ⟨rfl, hs⟩]
    rw [hrd]
    obtain ⟨a', hS, hf', hk', hB'⟩ := slice_fromK (K := K) (k := s) Tryz.underlying31 info_u8 hsn hle hf HK.out
    have Hk' := Lib.hid hk'
    clear hk'
    have HB' := Lib.hid hB'
    have hsI : (0 : Int) < (s : Int) := by omega
    clear hrd hB'
    go_enter Tryz.func116, Tryz.ntmps116
    go_wp2_with fail
    refine (parse_is a n c l w z s HB.out HZ.out).mono ?_
    rintro e w1 ⟨rfl, rfl⟩
    go_wp2
    go_ret
    exact ⟨rfl, rdEndK_go HG.out (HB'.out _ _ HB.out) hf' Hk'.out⟩
  · have hrd : readN l ok = (0, l, false) := by unfold readN; rw [HZ.out, if_neg hok]
    rw [hrd]
    clear hrd
    cases ok
    · clear hok
      go_enter Tryz.func116, Tryz.ntmps116
      go_wp2_with fail
      refine (parse_is a n c l w z s HB.out HZ.out).mono ?_
      rintro e w1 ⟨rfl, rfl⟩
      go_wp2
      go_ret
      exact ⟨rfl, rdEndK_fail HG.out HB.out hf HK.out⟩
    · have hsI : (s : Int) ≤ 0 := by have : ¬ 0 < s := fun h => hok ⟨rfl, h⟩; omega
      have hsD : decide (0 < s) = false := decide_eq_false (by omega)
      clear hok
      go_enter Tryz.func116, Tryz.ntmps116
      go_wp2_with fail
      refine (parse_is a n c l w z s HB.out HZ.out).mono ?_
      rintro e w1 ⟨rfl, rfl⟩
      go_wp2
      go_ret
      exact ⟨rfl, rdEndK_fail HG.out HB.out hf HK.out⟩

/-- A part of the bytes, and what is left of the reader. -/
def TakeEndK (K : Nat → Prop) (w : World) (g : Nat) (r : List Nat × List Nat × Bool) (e : Ending) (w' : World) : Prop :=
  ∃ p m cp, e = .returned (.slice p m cp) ∧ Bytes w' p m cp r.1 ∧ Formed p cp ∧ RdEndK K w g r.2 w'

set_option maxRecDepth 100000 in
theorem takeK_any (g : Nat) (l : List Nat) (ok : Bool) (k : Int) (w : World) (hR : RdK K w g l ok) (k1 : -9223372036854775808 ≤ k) (k2 : k ≤ 9223372036854775807) :
    Calls Tryz.prog 160 #[.pointer (some ⟨g, 0, none⟩), .int .i64 k] w (TakeEndK K w g (takeN l ok k)) := by
  obtain ⟨a, n, c, hg, hB, hf, hK⟩ := hR
  have HK := Lib.hid hK
  clear hK
  have hle := hB.le
  have hcm := hB.capmax
  have hlen := hB.len
  obtain ⟨c0, c1, f0, f1⟩ := rd_cell hg
  have HG := Lib.hid hg
  have HB := Lib.hid hB
  clear hg hB
  by_cases hok : ok = true ∧ 0 ≤ k ∧ k ≤ l.length
  · obtain ⟨rfl, hk1, hk2⟩ := hok
    have hrd : takeN l true k = (l.take k.toNat, l.drop k.toNat, true) := by unfold takeN; rw [if_pos ⟨rfl, hk1, hk2⟩]
    rw [hrd]
    obtain ⟨j, rfl⟩ := Int.eq_ofNat_of_zero_le hk1
    rw [Int.toNat_natCast]
    have hjn : j ≤ n := by omega
    obtain ⟨a1, hS1, hf1, hB1⟩ := slice_to (k := j) Tryz.underlying31 info_u8 hjn hle hf
    obtain ⟨a2, hS2, hf2, hk2, hB2⟩ := slice_fromK (K := K) (k := j) Tryz.underlying31 info_u8 hjn hle hf HK.out
    have Hk2 := Lib.hid hk2
    clear hk2
    have HB1 := Lib.hid hB1
    have HB2 := Lib.hid hB2
    have hj : (j : Int) ≤ (n : Int) := by omega
    clear hrd hB1 hB2 hlen hk2
    go_enter Tryz.func160, Tryz.ntmps160
    go_wp2
    go_ret
    refine ⟨_, _, _, rfl, HB1.out _ _ ((HB.out.setFar (fun hn _ hx => rd_other HG.out HB.out hn hx) _).setFar (fun hn _ hx => rd_other HG.out HB.out hn hx) _), hf1, rdEndK_go HG.out (HB2.out _ _ HB.out) hf2 Hk2.out⟩
  · have hrd : takeN l ok k = ([], l, false) := by unfold takeN; rw [if_neg hok]
    rw [hrd]
    clear hrd
    cases ok
    · clear hok hlen
      go_enter Tryz.func160, Tryz.ntmps160
      go_wp2
      go_ret
      exact ⟨none, 0, 0, rfl, bytes_nil _, formed_none 0 rfl, rdEndK_fail HG.out HB.out hf HK.out⟩
    · by_cases hk0 : 0 ≤ k
      · have hkn : (n : Int) < k := by have : ¬ k ≤ l.length := fun h => hok ⟨rfl, hk0, h⟩; omega
        have hkD : decide (k ≤ (n : Int)) = false := decide_eq_false (by omega)
        clear hok hlen
        go_enter Tryz.func160, Tryz.ntmps160
        go_wp2
        go_ret
        exact ⟨none, 0, 0, rfl, bytes_nil _, formed_none 0 rfl, rdEndK_fail HG.out HB.out hf HK.out⟩
      · have hkn : k < 0 := by omega
        clear hok hlen
        go_enter Tryz.func160, Tryz.ntmps160
        go_wp2
        go_ret
        exact ⟨none, 0, 0, rfl, bytes_nil _, formed_none 0 rfl, rdEndK_fail HG.out HB.out hf HK.out⟩

set_option maxRecDepth 100000 in
theorem countedK_any (g : Nat) (l : List Nat) (ok : Bool) (w : World) (hR : RdK K w g l ok) :
    Calls Tryz.prog 134 #[.pointer (some ⟨g, 0, none⟩)] w (TakeEndK K w g (readB l ok)) := by
  obtain ⟨a, n, c, hg, hB, hf, hK⟩ := hR
  have HK := Lib.hid hK
  clear hK
  obtain ⟨z, s, hz⟩ : ∃ z s, numL l 0 0 = (z, s) := ⟨_, _, rfl⟩
  obtain ⟨hs1, hs2, hs3, hs4⟩ := numL_size_le hB.byte hz
  have hlen := hB.len
  have hle := hB.le
  have hsn : s ≤ n := by omega
  have hcm := hB.capmax
  obtain ⟨c0, c1, f0, f1⟩ := rd_cell hg
  have HG := Lib.hid hg
  have HB := Lib.hid hB
  have HZ := Lib.hid hz
  clear hg hB hz hs4 hs1
  by_cases hok : ok = true ∧ 0 < s ∧ z ≤ n - s
  · obtain ⟨rfl, hs, hzn⟩ := hok
    have hrd : readB l true = ((l.drop s).take z, l.drop (s + z), true) := by unfold readB; rw [HZ.out, if_pos ⟨rfl, hs, by omega⟩]
    rw [hrd]
    have hsI : (0 : Int) < (s : Int) := by omega
    have hzI : (z : Int) ≤ (n : Int) - (s : Int) := by omega
    have hta : takeN l true ((s : Int) + (z : Int)) = (l.take (s + z), l.drop (s + z), true) := by
      unfold takeN
      rw [if_pos ⟨rfl, by omega, by omega⟩, show ((s : Int) + (z : Int)).toNat = s + z by omega]
    have Hta := Lib.hid hta
    have Hlen := Lib.hid hlen
    clear hrd hta hlen
    go_enter Tryz.func134, Tryz.ntmps134
    go_wp2_with fail
    refine (parse_is a n c l w z s HB.out HZ.out).mono ?_
    rintro e w1 ⟨rfl, rfl⟩
    go_wp2_with fail
    refine (takeK_any g l true _ _ (rdK_mark HG.out HB.out hf HK.out) (by omega) (by omega)).mono ?_
    rintro e w2 h2
    rw [Hta.out] at h2
    obtain ⟨p, m, cp, rfl, hP, hfp, hE⟩ := h2
    have HP := Lib.hid hP
    have hmm : m = s + z := by rw [← hP.len, List.length_take, Hlen.out]; omega
    have hpl := hP.le
    clear hP
    obtain ⟨p2, hS2, hf2, hB2⟩ := slice_from (k := s) Tryz.underlying31 info_u8 (show s ≤ m by omega) hpl hfp
    have HB2 := Lib.hid hB2
    have Hmm := Lib.hid hmm
    have hsm : (s : Int) ≤ (m : Int) := by omega
    clear hB2 hmm
    go_wp2
    go_ret
    refine ⟨_, _, _, rfl, ?_, hf2, hE.1, only_trans (only_set (only_refl _ _) _ _) hE.2⟩
    have hfin := HB2.out _ _ HP.out
    rw [List.drop_take, show s + z - s = z by omega] at hfin
    exact hfin
  · have hrd : readB l ok = ([], l, false) := by unfold readB; rw [HZ.out, hlen, if_neg hok]
    rw [hrd]
    clear hrd hlen
    cases ok
    · clear hok
      go_enter Tryz.func134, Tryz.ntmps134
      go_wp2_with fail
      refine (parse_is a n c l w z s HB.out HZ.out).mono ?_
      rintro e w1 ⟨rfl, rfl⟩
      go_wp2
      go_ret
      exact ⟨none, 0, 0, rfl, bytes_nil _, formed_none 0 rfl, rdEndK_fail HG.out HB.out hf HK.out⟩
    · by_cases hs : 0 < s
      · have hzI : (n : Int) - (s : Int) < (z : Int) := by have : ¬ z ≤ n - s := fun h => hok ⟨rfl, hs, h⟩; omega
        have hsI : (0 : Int) < (s : Int) := by omega
        have hzD : decide ((z : Int) ≤ (n : Int) - (s : Int)) = false := decide_eq_false (by omega)
        clear hok
        go_enter Tryz.func134, Tryz.ntmps134
        go_wp2_with fail
        refine (parse_is a n c l w z s HB.out HZ.out).mono ?_
        rintro e w1 ⟨rfl, rfl⟩
        go_wp2
        go_ret
        exact ⟨none, 0, 0, rfl, bytes_nil _, formed_none 0 rfl, rdEndK_fail HG.out HB.out hf HK.out⟩
      · have hsI : (s : Int) ≤ 0 := by omega
        have hsD : decide (0 < s) = false := decide_eq_false (by omega)
        clear hok
        go_enter Tryz.func134, Tryz.ntmps134
        go_wp2_with fail
        refine (parse_is a n c l w z s HB.out HZ.out).mono ?_
        rintro e w1 ⟨rfl, rfl⟩
        go_wp2
        go_ret
        exact ⟨none, 0, 0, rfl, bytes_nil _, formed_none 0 rfl, rdEndK_fail HG.out HB.out hf HK.out⟩

/-- Bytes in new memory. -/
def GiveEndK (K : Nat → Prop) (w : World) (g : Nat) (r : List Nat × List Nat × Bool) (e : Ending) (w' : World) : Prop :=
  ∃ p m cp, e = .returned (.slice p m cp) ∧ Bytes w' p m cp r.1 ∧ RdEndK K w g r.2 w'

theorem giveK_of_clone {w1 w2 w3 : World} {g : Nat} {r : List Nat × List Nat × Bool} {x : Value} (hE : RdEndK K w1 g r.2 w2) (hx : OwnBytes w2 w3 x r.1) (hb : ∀ y ∈ r.1, y < 256) : GiveEndK K w1 g r (.returned x) w3 := by
  obtain ⟨hown, hbel⟩ := hx
  obtain ⟨p, cp, rfl, hB⟩ := own_slice hown hb
  exact ⟨p, _, cp, rfl, hB, hE.below hbel⟩

section
variable (v : Value) (g : Nat) (l : List Nat) (ok : Bool) (w w1 : World) (hO : OrNone v g w w1) (hR : RdK K w1 g l ok)
include hO hR

theorem mUintK : Calls Tryz.prog 49 #[v] w fun e w' => e = .returned (.int .u64 ((readN l ok).1 : Int)) ∧ RdEndK K w1 g (readN l ok).2 w' := by
  have HO := Lib.hid hO
  have HR := Lib.hid hR
  clear hO hR
  go_enter Tryz.func49, Tryz.ntmps49
  go_wp2_with fail
  refine (show Calls _ _ _ _ _ from HO.out).mono ?_
  rintro e w2 ⟨rfl, rfl⟩
  go_wp2_with fail
  refine (numberK_any g l ok w1 HR.out).mono ?_
  rintro e w2 ⟨rfl, h2⟩
  go_wp2
  go_ret
  exact ⟨rfl, h2⟩

theorem mIntK : Calls Tryz.prog 171 #[v] w fun e w' => e = .returned (.int .i64 (unfoldL (readN l ok).1)) ∧ RdEndK K w1 g (readN l ok).2 w' := by
  have hlt := readN_lt g l ok w1 hR.rd
  have HO := Lib.hid hO
  have HR := Lib.hid hR
  clear hO hR
  go_enter Tryz.func171, Tryz.ntmps171
  go_wp2_with fail
  refine (show Calls _ _ _ _ _ from HO.out).mono ?_
  rintro e w2 ⟨rfl, rfl⟩
  go_wp2_with fail
  refine (numberK_any g l ok w1 HR.out).mono ?_
  rintro e w2 ⟨rfl, h2⟩
  go_wp2_with fail
  refine (unfold_any _ w2 hlt).mono ?_
  rintro e w3 ⟨rfl, rfl⟩
  go_wp2
  go_ret
  exact ⟨rfl, h2⟩

theorem mTakeK (k : Int) (k1 : -9223372036854775808 ≤ k) (k2 : k ≤ 9223372036854775807) (hl : l.length ≤ 1000000) : Calls Tryz.prog 191 #[v, .int .i64 k] w (GiveEndK K w1 g (takeN l ok k)) := by
  have HO := Lib.hid hO
  have HR := Lib.hid hR
  have hlen : (takeN l ok k).1.length ≤ 1000000 := by
    unfold takeN
    split
    · rw [List.length_take]; omega
    · simp
  clear hO hR
  go_enter Tryz.func191, Tryz.ntmps191
  go_wp2_with fail
  refine (show Calls _ _ _ _ _ from HO.out).mono ?_
  rintro e w2 ⟨rfl, rfl⟩
  go_wp2_with fail
  refine (takeK_any g l ok k w1 HR.out k1 k2).mono ?_
  rintro e w2 ⟨p, m, cp, rfl, hP, hfp, hE⟩
  have hm : m ≤ 1000000 := by rw [← hP.len]; exact hlen
  have HP := Lib.hid hP
  clear hP
  go_wp2_with fail
  refine (bclone_any p m cp _ w2 HP.out (by omega)).mono ?_
  rintro e w3 ⟨x, rfl, hx⟩
  go_wp2
  go_ret
  exact giveK_of_clone hE hx HP.out.byte

theorem mTextK : Calls Tryz.prog 73 #[v] w fun e w' => e = .returned (.string (str (readB l ok).1)) ∧ RdEndK K w1 g (readB l ok).2 w' := by
  have HO := Lib.hid hO
  have HR := Lib.hid hR
  clear hO hR
  go_enter Tryz.func73, Tryz.ntmps73
  go_wp2_with fail
  refine (show Calls _ _ _ _ _ from HO.out).mono ?_
  rintro e w2 ⟨rfl, rfl⟩
  go_wp2_with fail
  refine (countedK_any g l ok w1 HR.out).mono ?_
  rintro e w2 ⟨p, m, cp, rfl, hP, hfp, hE⟩
  have hcv := convert_bytes (P := Tryz.prog) hP 31 5 9 Tryz.underlying31 Tryz.underlying5 Tryz.underlying9
  clear hP
  go_wp2
  go_ret
  exact ⟨rfl, hE⟩
end
end
end Go.Proofs.YtmcdfmhciinocaaGreatDoor

/- The number of some bits. -/
namespace Go.Proofs.YtmcdfmhciinocaaGreatDoor
open Go.RowKit Fl

theorem bitsB_ofB {g : Nat} (h : bitsB g = g) : ofB g = some g := by rw [ofB_bits, if_pos h]
end Go.Proofs.YtmcdfmhciinocaaGreatDoor

/- Forms that are read again: numbers and their bytes. -/
namespace Go.Proofs.YtmcdfmhciinocaaGreatDoor
open Go.RowKit Go.Shelf Fl

theorem readN_form {y : Nat} (h : y < 18446744073709551616) (r : List Nat) : readN (form y ++ r) true = (y, r, true) := by
  have hp := form_pos y
  unfold readN
  rw [numL_of_form h r]
  simp only
  rw [if_pos ⟨trivial, hp⟩, List.drop_left]

theorem readB_form {s : List Nat} (h : s.length < 18446744073709551616) (r : List Nat) : readB (formB s ++ r) true = (s, r, true) := by
  have hp := form_pos s.length
  unfold readB formB
  rw [List.append_assoc, numL_of_form h (s ++ r)]
  simp only
  rw [if_pos ⟨trivial, hp, by rw [List.length_append, List.length_append]; omega⟩, List.drop_left, List.take_left, ← List.drop_drop, List.drop_left, List.drop_left]

theorem takeN_eight {b : List Nat} (h : b.length = 8) (r : List Nat) : takeN (b ++ r) true 8 = (b, r, true) := by
  unfold takeN
  rw [if_pos ⟨rfl, by omega, by rw [List.length_append]; omega⟩]
  have e : (8 : Int).toNat = b.length := by rw [h]; rfl
  rw [e, List.take_left, List.drop_left]

theorem or_next (y c : Nat) (hy : y < 72057594037927936) (hc : c < 256) : bits .or .u64 ((y : Int) * 256) (c : Int) = ((y * 256 + c : Nat) : Int) := by
  have h1 := u64_or_nat (y * 256) c (by omega) (by omega)
  have h2 := Nat.shiftLeft_add_eq_or_of_lt (i := 8) (b := c) (by omega) y
  rw [Nat.shiftLeft_eq, show (2 : Nat) ^ 8 = 256 by decide] at h2
  rw [← h2] at h1
  exact h1

theorem be8_getD (x j : Nat) (h : j < 8) : (be8 x).getD j 0 = x / 2 ^ (8 * (7 - j)) % 256 := by
  rw [List.getD_eq_getElem?_getD, List.getElem?_eq_getElem (by rw [be8_len]; exact h)]
  simp [be8]

theorem shift_next (x j : Nat) (h : j < 8) : x / 2 ^ (8 * (8 - j)) * 256 + x / 2 ^ (8 * (7 - j)) % 256 = x / 2 ^ (8 * (8 - (j + 1))) := by
  have e : x / 2 ^ (8 * (8 - j)) = x / 2 ^ (8 * (7 - j)) / 256 := by
    rw [Nat.div_div_eq_div_mul, show (256 : Nat) = 2 ^ 8 by decide, ← Nat.pow_add]
    congr 2
    omega
  rw [e, show 8 - (j + 1) = 7 - j by omega]
  omega

theorem shift_lt (x j : Nat) (h : j < 8) (hx : x < 18446744073709551616) : x / 2 ^ (8 * (8 - j)) < 72057594037927936 := by
  have h1 : 256 ≤ 2 ^ (8 * (8 - j)) := Nat.pow_le_pow_right (n := 2) (by omega) (show 8 ≤ 8 * (8 - j) by omega)
  rw [Nat.div_lt_iff_lt_mul (by omega)]
  omega

set_option maxRecDepth 100000 in
set_option maxHeartbeats 1600000 in
theorem readFloat_any (K : Nat → Prop) (g x : Nat) (rest : List Nat) (w : World) (hx : x < 18446744073709551616) (hc : bitsB x = x) (hl : (be8 x ++ rest).length ≤ 1000000) (hR : RdK K w g (be8 x ++ rest) true) :
    Calls Tryz.prog 172 #[.pointer (some ⟨g, 0, none⟩)] w fun e w' => e = .returned (.iface 156 (.float .f64 x)) ∧ RdEndK K w g (rest, true) w' := by
  have HT := Lib.hid (mTakeK _ g _ true w w (orNone_some g w) hR 8 (by omega) (by omega) hl)
  rw [takeN_eight (be8_len x) rest] at HT
  have HO := Lib.hid (fun w => of_any x w hx)
  rw [bitsB_ofB hc] at HO
  have Hx := Lib.hid hx
  clear hx hc hl hR
  go_enter Tryz.func172, Tryz.ntmps172
  go_wp2_with fail
  refine HT.out.mono ?_
  rintro e w1 ⟨p, m, cp, rfl, hP, hE⟩
  have hm : m = 8 := by rw [← hP.len]; exact be8_len x
  subst hm
  have HP := Lib.hid hP
  have HE := Lib.hid hE
  clear hP hE
  go_wp2
  go_loop [3, 11] (fun b i => ∃ j : Nat, j ≤ 8 ∧ i = .int .i64 (j : Int) ∧ b = .int .u64 ((x / 2 ^ (8 * (8 - j)) : Nat) : Int)) (fun _ i => 8 - (intOf i).toNat)
  case atStart =>
    refine ⟨0, by omega, rfl, ?_⟩
    rw [Nat.div_eq_of_lt (by have := Hx.out; omega)]
    rfl
  case round =>
    obtain ⟨j, hj, rfl, rfl⟩ := hrel
    by_cases hlt : j < 8
    · obtain ⟨b, o, rfl, hc⟩ := HP.out.cell (by omega)
      have hcj := hc j hlt
      rw [be8_getD x j hlt] at hcj
      have Hsn := Lib.hid (shift_next x j hlt)
      have hy := shift_lt x j hlt Hx.out
      have hc8 : x / 2 ^ (8 * (7 - j)) % 256 < 256 := Nat.mod_lt _ (by omega)
      have Hlt := Lib.hid hlt
      clear hc
      generalize x / 2 ^ (8 * (7 - j)) % 256 = c at *
      generalize x / 2 ^ (8 * (8 - j)) = y at *
      have hor := or_next y c hy hc8
      go_wp2
      go_round
      case rel => exact ⟨j + 1, Hlt.out, by go_num, by rw [← Hsn.out]; go_num⟩
      case measure => simp [intOf]; have := Hlt.out; omega
    · obtain rfl : j = 8 := by omega
      have e : x / 2 ^ (8 * (8 - 8)) = x := by simp
      rw [e]
      clear hlt e
      go_wp2_with fail
      refine (HO.out _).mono ?_
      rintro e w' ⟨rfl, rfl⟩
      go_wp2
      go_ret
      exact ⟨rfl, HE.out⟩
end Go.Proofs.YtmcdfmhciinocaaGreatDoor

