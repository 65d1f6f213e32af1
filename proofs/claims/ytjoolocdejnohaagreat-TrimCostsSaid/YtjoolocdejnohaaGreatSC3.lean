import Derived.Test.YtjoolocdejnohaaGreatRows
import Derived.Test.YtjoolocdejnohaaGreatSC1
import Derived.WalkKit
import Derived.WalkLawsBesides
import Derived.WalkSpells
import Derived.Lib.Hide
import Derived.Deep.OwnRows
import Derived.Deep.LoopGhost
import Derived.Laws.CopyOwn
import Derived.Deep.WholeRow
import Derived.Lib.SlBytesConst
/- Plain mathematics of the checksum of layer 1: the register's step, its linearity, and what a table of half bytes computes. It speaks of no program. -/
namespace Go.Proofs.YtjoolocdejnohaaGreat.Crc

/-- One bit is shifted out of the register. -/
def step (r : Nat) : Nat := if r % 2 = 1 then (r / 2) ^^^ 2197175160 else r / 2

def steps : Nat → Nat → Nat
  | 0, r => r
  | n + 1, r => steps n (step r)

/-- A byte is fed. -/
def feedB (r c : Nat) : Nat := steps 8 (r ^^^ c)

def feedL (r : Nat) (l : List Nat) : Nat := l.foldl feedB r

def feedP (r : Nat) (ls : List (List Nat)) : Nat := ls.foldl feedL r

def inv (r : Nat) : Nat := 4294967295 - r

theorem steps_succ' (n r : Nat) : steps (n + 1) r = step (steps n r) := by
  induction n generalizing r with
  | zero => rfl
  | succ n ih => rw [steps, ih (step r)]; rfl

theorem steps_add (m n r : Nat) : steps (m + n) r = steps n (steps m r) := by
  induction m generalizing r with
  | zero => simp [steps]
  | succ m ih => rw [Nat.succ_add, steps, ih]; rfl

theorem half_xor (a b : Nat) : (a ^^^ b) / 2 = (a / 2) ^^^ (b / 2) := by
  have := Nat.shiftRight_xor_distrib (a := a) (b := b) (i := 1)
  simpa [Nat.shiftRight_succ] using this

theorem odd_xor (a b : Nat) : (a ^^^ b) % 2 = (a % 2 + b % 2) % 2 := by
  have h := Nat.testBit_xor a b 0
  simp only [Nat.testBit_zero] at h
  rcases Nat.mod_two_eq_zero_or_one a with ha | ha <;> rcases Nat.mod_two_eq_zero_or_one b with hb | hb <;>
    rcases Nat.mod_two_eq_zero_or_one (a ^^^ b) with hc | hc <;> simp [ha, hb, hc] at h ⊢

theorem step_xor (a b : Nat) : step (a ^^^ b) = step a ^^^ step b := by
  unfold step
  rw [odd_xor, half_xor]
  rcases Nat.mod_two_eq_zero_or_one a with ha | ha <;> rcases Nat.mod_two_eq_zero_or_one b with hb | hb <;> simp [ha, hb]
  · rw [Nat.xor_assoc]
  · rw [Nat.xor_assoc, Nat.xor_comm (b / 2), ← Nat.xor_assoc]
  · rw [Nat.xor_assoc, Nat.xor_comm (b / 2), ← Nat.xor_assoc 2197175160, Nat.xor_self, Nat.zero_xor]

theorem steps_xor (n a b : Nat) : steps n (a ^^^ b) = steps n a ^^^ steps n b := by
  induction n generalizing a b with
  | zero => rfl
  | succ n ih => rw [steps, step_xor, ih]; rfl

theorem step_lt {r : Nat} (h : r < 4294967296) : step r < 4294967296 := by
  unfold step
  have h2 : r / 2 < 2 ^ 32 := by omega
  split
  · exact Nat.xor_lt_two_pow h2 (by omega)
  · omega

theorem steps_lt {n r : Nat} (h : r < 4294967296) : steps n r < 4294967296 := by
  induction n generalizing r with
  | zero => exact h
  | succ n ih => exact ih (step_lt h)

theorem xor_lt {a b : Nat} (ha : a < 4294967296) (hb : b < 4294967296) : a ^^^ b < 4294967296 :=
  Nat.xor_lt_two_pow (n := 32) ha hb

theorem feedB_lt {r c : Nat} (h : r < 4294967296) (hc : c < 256) : feedB r c < 4294967296 := steps_lt (xor_lt h (by omega))

theorem feedL_lt {r : Nat} {l : List Nat} (h : r < 4294967296) (hl : ∀ x ∈ l, x < 256) : feedL r l < 4294967296 := by
  induction l generalizing r with
  | nil => exact h
  | cons c l ih => exact ih (feedB_lt h (hl c (by simp))) (fun x hx => hl x (by simp [hx]))

theorem feedP_lt {r : Nat} {ls : List (List Nat)} (h : r < 4294967296) (hl : ∀ l ∈ ls, ∀ x ∈ l, x < 256) : feedP r ls < 4294967296 := by
  induction ls generalizing r with
  | nil => exact h
  | cons c l ih => exact ih (feedL_lt h (hl c (by simp))) (fun x hx => hl x (by simp [hx]))

theorem feedL_append (r : Nat) (a b : List Nat) : feedL r (a ++ b) = feedL (feedL r a) b := List.foldl_append ..
/-- Sixteen times a number is shifted by four without a remainder. -/
theorem steps4_mul (q : Nat) : steps 4 (q * 16) = q := by
  have h : ∀ x, step (x * 2) = x := fun x => by unfold step; rw [if_neg (by omega)]; omega
  show step (step (step (step (q * 16)))) = q
  rw [show q * 16 = (((q * 2) * 2) * 2) * 2 by omega, h, h, h, h]

theorem split16 (r : Nat) : (r / 16 * 16) ^^^ (r % 16) = r := by
  apply Nat.eq_of_testBit_eq
  intro i
  rw [Nat.testBit_xor, show (16 : Nat) = 2 ^ 4 from rfl, Nat.testBit_mul_two_pow, Nat.testBit_mod_two_pow]
  by_cases h : i < 4
  · simp [h, show ¬ 4 ≤ i by omega]
  · have h4 : 4 ≤ i := by omega
    have e : (r / 2 ^ 4).testBit (i - 4) = r.testBit i := by rw [Nat.testBit_div_two_pow, Nat.sub_add_cancel h4]
    simp only [h, h4, decide_true, decide_false, Bool.true_and, Bool.false_and, Bool.xor_false]
    exact e

/-- What one look into the table does. -/
theorem steps4 (r : Nat) : steps 4 r = (r / 16) ^^^ steps 4 (r % 16) := by
  conv => lhs; rw [← split16 r]
  rw [steps_xor, steps4_mul]

theorem and15 (r : Nat) : r &&& 15 = r % 16 := Nat.and_two_pow_sub_one_eq_mod r 4
theorem and1 (r : Nat) : r &&& 1 = r % 2 := Nat.and_two_pow_sub_one_eq_mod r 1

/-- The register behind two looks into the table. -/
theorem feed_by_table (r c : Nat) :
    (((r ^^^ c) / 16) ^^^ steps 4 ((r ^^^ c) &&& 15)) / 16 ^^^ steps 4 ((((r ^^^ c) / 16) ^^^ steps 4 ((r ^^^ c) &&& 15)) &&& 15) = feedB r c := by
  unfold feedB
  rw [and15, and15, ← steps4, ← steps4]
  exact (steps_add 4 4 _).symm

theorem take_snoc {l : List Nat} {k : Nat} (h : k < l.length) : l.take (k + 1) = l.take k ++ [l.getD k 0] := by
  rw [List.take_succ_eq_append_getElem h, List.getD_eq_getElem?_getD, List.getElem?_eq_getElem h]; rfl

theorem feedL_take {l : List Nat} {k : Nat} (r : Nat) (h : k < l.length) : feedL r (l.take (k + 1)) = feedB (feedL r (l.take k)) (l.getD k 0) := by
  rw [take_snoc h, feedL_append]; rfl

theorem takeP_snoc {l : List (List Nat)} {k : Nat} (h : k < l.length) : l.take (k + 1) = l.take k ++ [l.getD k []] := by
  rw [List.take_succ_eq_append_getElem h, List.getD_eq_getElem?_getD, List.getElem?_eq_getElem h]; rfl

theorem feedP_take {ls : List (List Nat)} {k : Nat} (r : Nat) (h : k < ls.length) : feedP r (ls.take (k + 1)) = feedL (feedP r (ls.take k)) (ls.getD k []) := by
  rw [takeP_snoc h]
  exact List.foldl_append ..

end Go.Proofs.YtjoolocdejnohaaGreat.Crc

/- The walks of the reference's feed, More and Sum: each returns what the plain register says. -/
namespace Go.Proofs.YtjoolocdejnohaaGreat
open Go.RowKit Crc

theorem step_odd {x : Nat} (h : x % 2 = 1) : Crc.step x = x / 2 ^^^ 2197175160 := if_pos h
theorem step_even {x : Nat} (h : ¬ x % 2 = 1) : Crc.step x = x / 2 := if_neg h

set_option maxHeartbeats 400000 in
theorem rfeed_any (r c : Nat) (w : World) (hr : r < 4294967296) (hc : c < 256) :
    Calls Tryz.prog 201 #[.int .u32 (r : Int), .int .u8 (c : Int)] w fun e w' => e = .returned (.int .u32 (feedB r c : Nat)) ∧ w = w' := by
  have e0 : bits .xor .u32 (r : Int) (c : Int) = ((r ^^^ c : Nat) : Int) := u32_xor_nat r c hr (by omega)
  have h0 := Crc.xor_lt hr (show c < 4294967296 by omega)
  go_enter Tryz.func201, Tryz.ntmps201
  go_wp2
  go_loop [0, 5] (fun x i => ∃ k : Nat, k ≤ 8 ∧ i = .int .i64 k ∧ x = .int .u32 (steps k (r ^^^ c) : Nat)) (fun _ i => 8 - (intOf i).toNat)
  case atStart => exact ⟨0, Nat.zero_le _, rfl, rfl⟩
  case round =>
    obtain ⟨k, hk, rfl, rfl⟩ := hrel
    have hs := Lib.hid (Crc.steps_succ' k (r ^^^ c))
    have hb : steps k (r ^^^ c) < 4294967296 := steps_lt h0
    generalize hx : steps k (r ^^^ c) = x at *
    have hx := Lib.hid hx
    rename_i hx0; clear hx0
    have e1 : bits .and .u32 (x : Int) 1 = ((x % 2 : Nat) : Int) := by rw [← Crc.and1]; exact u32_and_nat x 1 hb (by omega)
    have e2 : bits .xor .u32 ((x : Int) / 2) 2197175160 = (((x / 2) ^^^ 2197175160 : Nat) : Int) := u32_xor_nat (x / 2) 2197175160 (by omega) (by omega)
    by_cases hlt : k < 8
    · by_cases hodd : x % 2 = 1
      · have hodd2 : (((x % 2 : Nat) : Int) == 1) = true := by rw [hodd]; rfl
        go_wp2
        go_round
        case rel => exact ⟨k + 1, by omega, by go_num, u32_eq (by rw [hs.out, step_odd hodd])⟩
        case measure => simp [intOf]; omega
      · go_wp2
        go_round
        case rel => exact ⟨k + 1, by omega, by go_num, u32_eq (a := x / 2) (by rw [hs.out, step_even hodd])⟩
        case measure => simp [intOf]; omega
    · obtain rfl : k = 8 := by omega
      go_wp2
      go_ret
      exact ⟨ret_u32 hx.out.symm, rfl⟩

theorem inv_bits {r : Nat} (h : r < 4294967296) : bits .xor .u32 IntKind.u32.max (r : Int) = ((inv r : Nat) : Int) := by
  have e : IntKind.u32.max = ((4294967295 : Nat) : Int) := rfl
  rw [e, u32_xor_nat 4294967295 r (by omega) h]
  congr 1
  have h2 := congrArg BitVec.toNat (BitVec.allOnes_xor (x := BitVec.ofNat 32 r))
  rw [BitVec.toNat_xor, BitVec.toNat_not, BitVec.toNat_allOnes, BitVec.toNat_ofNat, Nat.mod_eq_of_lt (by omega)] at h2
  exact h2

set_option maxHeartbeats 400000 in
theorem rmore_any (r : Nat) (a : Option Addr) (n cap : Nat) (l : List Nat) (w : World) (hr : r < 4294967296) (hl : Bytes w a n cap l) :
    Calls Tryz.prog 181 #[.int .u32 (r : Int), .slice a n cap] w fun e w' => e = .returned (.int .u32 (inv (feedL (inv r) l) : Nat)) ∧ w = w' := by
  have hmax := hl.max
  obtain ⟨hn, hcap, hcm, hby, hnl, hcell⟩ := hl
  have hn' := Lib.hid hn
  have hget : ∀ i, i < n → l.getD i 0 < 256 := fun i hi => Bytes.get ⟨hn, hcap, hcm, hby, hnl, hcell⟩ hi
  have hget := Lib.hid hget
  have hcell' := Lib.hid hcell
  have hby' := Lib.hid hby
  clear hn hcell hby hnl hcm
  rename_i hget0; clear hget0
  have hi : inv r < 4294967296 := by unfold inv; omega
  have e0 := inv_bits hr
  go_enter Tryz.func181, Tryz.ntmps181
  go_wp2
  go_loop [5, 6] (fun x i => ∃ k : Nat, k ≤ n ∧ i = .int .i64 k ∧ x = .int .u32 (feedL (inv r) (l.take k) : Nat)) (fun _ i => n - (intOf i).toNat)
  case atStart => exact ⟨0, Nat.zero_le _, rfl, rfl⟩
  case round =>
    obtain ⟨k, hk, rfl, rfl⟩ := hrel
    have hb : feedL (inv r) (l.take k) < 4294967296 := feedL_lt hi (fun x hx => hby'.out x (List.mem_of_mem_take hx))
    by_cases hlt : k < n
    · have hs0 := Crc.feedL_take (l := l) (inv r) (show k < l.length by rw [hn'.out]; exact hlt)
      obtain ⟨b, o, rfl, hc0⟩ := hcell'.out (by omega)
      have hc := hc0 k hlt
      clear hc0
      have hg := hget.out k hlt
      generalize l.getD k 0 = c at hs0 hc hg
      have hs := Lib.hid hs0
      clear hs0
      go_wp2_with ((with_reducible refine (rfeed_any _ _ _ hb hg).mono ?_); rintro e w' ⟨rfl, rfl⟩)
      go_round
      case rel => exact ⟨k + 1, by omega, by go_num, u32_eq hs.out.symm⟩
      case measure => simp [intOf]; omega
    · obtain rfl : k = n := by omega
      have e1 := inv_bits hb
      go_wp2
      go_ret
      exact ⟨ret_u32 (by rw [← hn'.out, List.take_length]), rfl⟩
end Go.Proofs.YtjoolocdejnohaaGreat

/- The walks of the code's table of half bytes: shift, the closure that fills one place, and the whole table. -/
namespace Go.Proofs.YtjoolocdejnohaaGreat
open Go.RowKit Crc

theorem rsum_any (a : Option Addr) (n cap : Nat) (l : List Nat) (w : World) (hl : Bytes w a n cap l) :
    Calls Tryz.prog 158 #[.slice a n cap] w fun e w' => e = .returned (.int .u32 (inv (feedL 4294967295 l) : Nat)) ∧ w = w' := by
  have H := rmore_any 0 a n cap l w (by omega) hl
  have H0 : (((0 : Nat) : Int)) = 0 := rfl
  have H1 : inv 0 = 4294967295 := rfl
  rw [H0, H1] at H
  have H := Lib.hid H
  clear H0 H1
  rename_i Hx; clear Hx
  go_enter Tryz.func158, Tryz.ntmps158
  go_wp2_with ((with_reducible refine H.out.mono ?_); rintro e w' ⟨rfl, rfl⟩)
  go_ret
  exact ⟨rfl, rfl⟩

theorem shift_any (x : Nat) (w : World) (hb : x < 4294967296) :
    Calls Tryz.prog 211 #[.int .u32 (x : Int)] w fun e w' => e = .returned (.int .u32 (Crc.step x : Nat)) ∧ w = w' := by
  have e1 : bits .and .u32 (x : Int) 1 = ((x % 2 : Nat) : Int) := by rw [← Crc.and1]; exact u32_and_nat x 1 hb (by omega)
  have e2 : bits .xor .u32 ((x : Int) / 2) 2197175160 = (((x / 2) ^^^ 2197175160 : Nat) : Int) := u32_xor_nat (x / 2) 2197175160 (by omega) (by omega)
  by_cases hodd : x % 2 = 1
  · have hodd2 : (((x % 2 : Nat) : Int) != 0) = true := by rw [hodd]; rfl
    go_enter Tryz.func211, Tryz.ntmps211
    go_wp2
    go_ret
    exact ⟨ret_u32 (step_odd hodd).symm, rfl⟩
  · have hodd2 : (((x % 2 : Nat) : Int) != 0) = false := by rw [show x % 2 = 0 by omega]; rfl
    go_enter Tryz.func211, Tryz.ntmps211
    go_wp2
    go_ret
    exact ⟨ret_u32 (b := Crc.step x) (a := x / 2) (step_even hodd).symm, rfl⟩

set_option maxHeartbeats 400000 in
theorem fill_any (i B : Nat) (f : Nat → Value) (w : World) (hi : i < 16) (hB : w.rowIs B 241 16 f) :
    Calls Tryz.prog 210 #[.int .i64 (i : Int), .pointer (some ⟨B, 0, none⟩)] w fun e w' => e = .returned (.tuple #[]) ∧ w' = w.setCell ⟨B, i, none⟩ (.int .u32 (steps 4 i : Nat)) := by
  have hc := Lib.hid (hB.cell hi)
  have hf := Lib.hid (hB.frozen i)
  have hi4 : i < 4294967296 := by omega
  go_enter Tryz.func210, Tryz.ntmps210
  go_wp2
  go_loop [3, 6] (fun x j => ∃ k : Nat, k ≤ 4 ∧ j = .int .i64 k ∧ x = .int .u32 (steps k i : Nat)) (fun _ j => 4 - (intOf j).toNat)
  case atStart => exact ⟨0, Nat.zero_le _, rfl, rfl⟩
  case round =>
    obtain ⟨k, hk, rfl, rfl⟩ := hrel
    have hs := Lib.hid (Crc.steps_succ' k i)
    have hb : steps k i < 4294967296 := steps_lt hi4
    by_cases hlt : k < 4
    · go_wp2_with ((with_reducible refine (shift_any _ _ hb).mono ?_); rintro e w' ⟨rfl, rfl⟩)
      go_round
      case rel => exact ⟨k + 1, by omega, by go_num, u32_eq hs.out.symm⟩
      case measure => simp [intOf]; omega
    · obtain rfl : k = 4 := by omega
      have hc := hc.out
      have hf := hf.out
      have hi' : (i : Int) < 16 := by omega
      go_wp2
      go_end0
      exact ⟨rfl, rfl⟩

def tabCell (k j : Nat) : Value := if j < k then .int .u32 (steps 4 j : Nat) else .int .u32 0

def tabV : Array Value := ((List.range 16).map fun i => Value.int .u32 (steps 4 i : Nat)).toArray
theorem tabV_size : tabV.size = 16 := by simp [tabV]
theorem tabV_get {i : Nat} (h : i < 16) : tabV[i]? = some (.int .u32 (steps 4 i : Nat)) := by simp [tabV, h]
theorem tabV_one : tabV.all (·.oneCell') = true := by
  rw [Array.all_eq_true]
  intro i h
  simp [tabV, Value.oneCell']
theorem row_tab {w : World} {b : Nat} {t : TypeId} (h : w.rowIs b t 16 (tabCell 16)) : w.heap[b]? = some (.cells tabV t (0, 0)) := by
  obtain ⟨c, hc, hs, hi⟩ := h
  have e : c = tabV := by
    apply Array.ext_getElem?
    intro i
    by_cases h : i < 16
    · rw [hi i h, tabV_get h, tabCell, if_pos h]
    · rw [Array.getElem?_eq_none (by omega), Array.getElem?_eq_none (by rw [tabV_size]; omega)]
  rw [hc, e]

theorem info47 : (Tryz.prog.info? 241).map (·.size) = some tabV.size := by rw [tabV_size]; kernel_rfl

def TabRel (w : World) (i : Value) (wr : World) : Prop :=
  ∃ k : Nat, k ≤ 16 ∧ i = .int .i64 k ∧ wr.rowIs (w.heap.size + 1) 241 16 (tabCell k) ∧ wr.rowIs w.heap.size 241 16 (fun _ => .int .u32 0) ∧ Below w.heap.size w wr

theorem tabRel_start (w : World) : TabRel w (.int .i64 0) ((w.alloc (.cells #[.int .u32 0, .int .u32 0, .int .u32 0, .int .u32 0, .int .u32 0, .int .u32 0, .int .u32 0, .int .u32 0, .int .u32 0, .int .u32 0, .int .u32 0, .int .u32 0, .int .u32 0, .int .u32 0, .int .u32 0, .int .u32 0] 241)).alloc
    (.cells #[.int .u32 0, .int .u32 0, .int .u32 0, .int .u32 0, .int .u32 0, .int .u32 0, .int .u32 0, .int .u32 0, .int .u32 0, .int .u32 0, .int .u32 0, .int .u32 0, .int .u32 0, .int .u32 0, .int .u32 0, .int .u32 0] 241)) := by
  have hz : ∀ (v : World), (v.alloc (.cells #[.int .u32 0, .int .u32 0, .int .u32 0, .int .u32 0, .int .u32 0, .int .u32 0, .int .u32 0, .int .u32 0, .int .u32 0, .int .u32 0, .int .u32 0, .int .u32 0, .int .u32 0, .int .u32 0, .int .u32 0, .int .u32 0] 241)).rowIs v.heap.size 241 16 (fun _ => .int .u32 0) := fun v =>
    World.rowIs_alloc v _ _ _ (fun i hi => by
      have hi : i < 16 := hi
      rcases i with _ | _ | _ | _ | _ | _ | _ | _ | _ | _ | _ | _ | _ | _ | _ | _ | i
      all_goals first | rfl | omega)
  refine ⟨0, Nat.zero_le _, rfl, ?_, (hz w).alloc _, ((Below.refl _ _).alloc (Nat.le_refl _) _).alloc (by simp) _⟩
  have h := hz (w.alloc (.cells #[.int .u32 0, .int .u32 0, .int .u32 0, .int .u32 0, .int .u32 0, .int .u32 0, .int .u32 0, .int .u32 0, .int .u32 0, .int .u32 0, .int .u32 0, .int .u32 0, .int .u32 0, .int .u32 0, .int .u32 0, .int .u32 0] 241))
  rw [show ∀ o, (w.alloc o).heap.size = w.heap.size + 1 from fun o => by simp] at h
  exact h.congr (fun j _ => by simp [tabCell])

theorem tabRel_step {w wr : World} {k : Nat} (hk : k < 16) (hrow : wr.rowIs (w.heap.size + 1) 241 16 (tabCell k)) (hres : wr.rowIs w.heap.size 241 16 (fun _ => .int .u32 0)) (hbel : Below w.heap.size w wr) :
    TabRel w (.int .i64 ((k : Int) + 1)) (wr.setCell ⟨w.heap.size + 1, k, none⟩ (.int .u32 (steps 4 k : Nat))) := by
  refine ⟨k + 1, by omega, by go_num, (hrow.set k _).congr (fun j _ => ?_), hres.setOther (by simp) _, hbel.setCell (by simp) _⟩
  unfold tabCell
  by_cases h : j = k
  · subst h; simp
  · rw [if_neg h]
    by_cases h2 : j < k
    · rw [if_pos h2, if_pos (by omega)]
    · rw [if_neg h2, if_neg (by omega)]

theorem newTable_any (w : World) :
    Calls Tryz.prog 202 #[] w fun e w' => e = .returned (.agg tabV) ∧ Below w.heap.size w w' := by
  have hmf : ∀ (fn : Fn) (first cap : Array Value) (w : World), (Instr.makeFunc fn first cap).run Tryz.prog w = .ok (.func fn first cap) w := fun _ _ _ _ => rfl
  go_enter Tryz.func202, Tryz.ntmps202
  go_wp2
  go_loopw [5] (fun i wr => TabRel w i wr) (fun i _ => 16 - (intOf i).toNat)
  case atStart => exact tabRel_start w
  case round =>
    obtain ⟨k, hk, rfl, hrow, hres, hbel⟩ := hrel
    by_cases hlt : k < 16
    · go_wp2_with ((with_reducible refine (fill_any k _ _ _ hlt hrow).mono ?_); rintro e w' ⟨rfl, rfl⟩)
      go_roundw
      case rel => exact tabRel_step hlt hrow hres hbel
      case measure => simp [intOf]; omega
    · obtain rfl : k = 16 := by omega
      have g1 := row_tab hrow
      obtain ⟨old, hg3, hold, _⟩ := hres
      have hg3 := Lib.hid hg3
      clear hrow hlt hk hmf
      rename_i hg30 _; clear hg30
      go_wp2_with (first
        | (refine wpList_load_row rfl 241 _ rfl (w.heap.size + 1) rfl 241 tabV (0, 0) _ g1 Tryz.underlying241 rfl info47 ?_)
        | (refine wpList_store_row rfl 241 _ _ rfl w.heap.size tabV rfl rfl 241 old hg3.out info47 (by rw [hold]; rfl) tabV_one ?_))
      exact bodyPost_ret (v := .agg tabV) (results_cell_row (p := 0) (ty := 241) rfl _ _ w.heap.size 241 tabV (0, 0) _ rfl (setRow_heap _ _ _ _ _ _ hg3.out) Tryz.underlying241 rfl info47) rfl
        ⟨rfl, below_setRow hbel (Nat.le_refl _) _⟩
end Go.Proofs.YtjoolocdejnohaaGreat

/- The walks of the code's feed, Sum and More: each returns what the plain register says. -/
namespace Go.Proofs.YtjoolocdejnohaaGreat
open Go.RowKit Crc

theorem tab_cell {W : World} {T m : Nat} {t : TypeId} (h : W.heap[T]? = some (.cells tabV t (0, 0))) (hm : m < 16) : W.cell? ⟨T, m, none⟩ = some (.int .u32 (steps 4 m : Nat)) := by
  rw [cell_of_row W T m tabV t (0, 0) h, tabV_get hm]

theorem round_facts {fr c : Nat} (hr : fr < 4294967296) (hc : c < 256) : ∃ y m z m' : Nat, m < 16 ∧ m' < 16 ∧ feedB fr c < 4294967296 ∧
    bits .xor .u32 (fr : Int) (c : Int) = (y : Int) ∧ bits .and .u32 (y : Int) 15 = (m : Int) ∧ bits .xor .u32 ((y : Int) / 16) (steps 4 m : Nat) = (z : Int) ∧
    bits .and .u32 (z : Int) 15 = (m' : Int) ∧ bits .xor .u32 ((z : Int) / 16) (steps 4 m' : Nat) = ((feedB fr c : Nat) : Int) := by
  have hy := Crc.xor_lt hr (show c < 4294967296 by omega)
  have hm : (fr ^^^ c) &&& 15 < 16 := by rw [Crc.and15]; omega
  have h4 : ∀ m, m < 16 → steps 4 m < 4294967296 := fun m h => steps_lt (by omega)
  have hz := Crc.xor_lt (show (fr ^^^ c) / 16 < 4294967296 by omega) (h4 _ hm)
  have hm' : ((fr ^^^ c) / 16 ^^^ steps 4 ((fr ^^^ c) &&& 15)) &&& 15 < 16 := by rw [Crc.and15]; omega
  refine ⟨fr ^^^ c, (fr ^^^ c) &&& 15, (fr ^^^ c) / 16 ^^^ steps 4 ((fr ^^^ c) &&& 15), ((fr ^^^ c) / 16 ^^^ steps 4 ((fr ^^^ c) &&& 15)) &&& 15, hm, hm', feedB_lt hr hc,
    u32_xor_nat _ _ hr (by omega), u32_and_nat _ 15 hy (by omega), u32_xor_nat (_ / 16) _ (by omega) (h4 _ hm), u32_and_nat _ 15 hz (by omega), ?_⟩
  rw [← feed_by_table]
  exact u32_xor_nat (_ / 16) _ (by omega) (h4 _ hm')

set_option maxHeartbeats 800000 in
theorem feed_any (r : Nat) (a : Option Addr) (n cap : Nat) (ls : List (List Nat)) (w : World) (hr : r < 4294967296) (hl : Parts w a n cap ls) :
    Calls Tryz.prog 182 #[.int .u32 (r : Int), .slice a n cap] w fun e w' => e = .returned (.int .u32 (feedP r ls : Nat)) ∧ Below w.heap.size w w' := by
  have hl := Lib.hid hl
  rename_i hl0; clear hl0
  go_enter Tryz.func182, Tryz.ntmps182
  go_wp2_with (first
    | ((with_reducible refine (newTable_any _).mono ?_); rintro e w1 ⟨rfl, hb1⟩)
    | (refine wpList_store_row rfl 241 _ _ rfl _ tabV rfl rfl 241 _ (heap_alloc_new _ _) info47 (by rw [tabV_size]; rfl) tabV_one ?_; rw [World.setRow_alloc_new]))
  have hsz : w.heap.size ≤ w1.heap.size := hb1.size
  have hb2 : Below w.heap.size w (w1.alloc (.cells tabV 241)) := hb1.alloc hsz _
  have htab : (w1.alloc (.cells tabV 241)).heap[w1.heap.size]? = some (.cells tabV 241 (0, 0)) := heap_alloc_new _ _
  generalize w1.alloc (.cells tabV 241) = W at *
  generalize w1.heap.size = T at *
  have hP := Lib.hid (hl.out.grow hb2)
  clear hb1 hl hsz
  have hnb := hP.out.max
  have hls := Lib.hid hP.out.len
  have hcells := Lib.hid hP.out.cell
  have htab := Lib.hid htab
  rename_i htab0; clear htab0
  go_loop [0, 13] (fun x i => ∃ k : Nat, k ≤ n ∧ i = .int .i64 k ∧ x = .int .u32 (feedP r (ls.take k) : Nat) ∧ feedP r (ls.take k) < 4294967296) (fun _ i => n - (intOf i).toNat)
  case atStart => exact ⟨0, Nat.zero_le _, rfl, rfl, hr⟩
  case round =>
    obtain ⟨k, hk, rfl, rfl, hxb⟩ := hrel
    by_cases hlt : k < n
    · obtain ⟨b, o, rfl, hbl, hc0⟩ := hcells.out (by omega)
      obtain ⟨a', n', c', hc, hB⟩ := hc0 k hlt
      have hs := Lib.hid (Crc.feedP_take (ls := ls) r (show k < ls.length by rw [hls.out]; exact hlt))
      clear hc0
      generalize ls.getD k [] = l at hs hB
      generalize feedP r (ls.take k) = x at *
      rename_i hs0; clear hs0
      have g3 := hB.max
      obtain ⟨g1, g2, g7, g4, g6, g5⟩ := hB
      have g1 := Lib.hid g1
      have g4 := Lib.hid g4
      have g5 := Lib.hid g5
      have g6 := Lib.hid g6
      have g7 := Lib.hid g7
      rename_i g70 g60 g50 g40 g10; clear g70 g60 g50 g40 g10
      go_wp2
      go_loop [0, 19] (fun y i => ∃ j : Nat, j ≤ n' ∧ i = .int .i64 j ∧ y = .int .u32 (feedL x (l.take j) : Nat) ∧ feedL x (l.take j) < 4294967296) (fun _ i => n' - (intOf i).toNat)
      case atStart => exact ⟨0, Nat.zero_le _, rfl, rfl, hxb⟩
      case round =>
        obtain ⟨j, hj, rfl, rfl, hyb⟩ := hrel
        by_cases hjlt : j < n'
        · obtain ⟨b', o', rfl, hd0⟩ := g5.out (by omega)
          have hd := hd0 j hjlt
          have hs2 := Crc.feedL_take (l := l) x (show j < l.length by rw [g1.out]; exact hjlt)
          have hcb : l.getD j 0 < 256 := Bytes.get ⟨g1.out, g2, g7.out, g4.out, g6.out, fun _ => ⟨b', o', rfl, hd0⟩⟩ hjlt
          clear hd0
          generalize l.getD j 0 = c at *
          generalize feedL x (l.take j) = fr at *

          obtain ⟨y, m, z, m', hm, hm', hfb, e0, e1, e2, e3, e4⟩ := round_facts hyb hcb
          have t1 := tab_cell htab.out hm
          have t2 := tab_cell htab.out hm'
          rw [← hs2] at hfb e4
          clear hs2
          have hm4 : (m : Int) < 16 := by omega
          have hm4' : (m' : Int) < 16 := by omega
          generalize steps 4 m = v at *
          generalize steps 4 m' = v' at *
          go_wp2
          go_round
          case rel => exact ⟨j + 1, by omega, by go_num, rfl, hfb⟩
          case measure => simp [intOf]; omega
        · obtain rfl : j = n' := by omega
          have ht : l.take j = l := by rw [← g1.out, List.take_length]
          rw [ht] at hyb
          rw [ht]
          rw [← hs.out] at hyb
          go_wp2
          go_round
          case rel => exact ⟨k + 1, by omega, by go_num, u32_eq hs.out.symm, hyb⟩
          case measure => simp [intOf]; omega
    · obtain rfl : k = n := by omega
      go_wp2
      go_ret
      exact ⟨ret_u32 (by rw [← hls.out, List.take_length]), hb2⟩
end Go.Proofs.YtjoolocdejnohaaGreat

/- The walks of the code's Sum and More, of the statements' own helpers alive and few, and of the reference's Cat. -/
namespace Go.Proofs.YtjoolocdejnohaaGreat
open Go.RowKit Crc

theorem sum_any (a : Option Addr) (n cap : Nat) (ls : List (List Nat)) (w : World) (hl : Parts w a n cap ls) (hby : ∀ l ∈ ls, ∀ x ∈ l, x < 256) :
    Calls Tryz.prog 159 #[.slice a n cap] w fun e w' => e = .returned (.int .u32 (inv (feedP 4294967295 ls) : Nat)) ∧ Below w.heap.size w w' := by
  have hb := feedP_lt (r := 4294967295) (by omega) hby
  have H0 := feed_any 4294967295 a n cap ls w (by omega) hl
  rw [show (((4294967295 : Nat) : Int)) = 4294967295 from rfl] at H0
  have H := Lib.hid H0
  clear hl hby H0
  have e1 := inv_bits hb
  go_enter Tryz.func159, Tryz.ntmps159
  go_wp2_with ((with_reducible refine H.out.mono ?_); rintro e w1 ⟨rfl, hb1⟩)
  go_ret
  exact ⟨rfl, hb1⟩

end Go.Proofs.YtjoolocdejnohaaGreat

