/- The walks of newHead and number: four bytes of a number, and back. -/
import Derived.Test.YtmebffmdfnnbmaaFrM
namespace Go.Proofs.Ytmebffmdfnnbmaa
open Go.RowKit Crc

def headV (n : Nat) : Array Value := (u8s (little n)).toArray
theorem headV_size (n : Nat) : (headV n).size = 4 := by simp [headV, u8s, little]
theorem headV_one (n : Nat) : (headV n).all (·.oneCell') = true := by simp [headV, u8s, little, Value.oneCell']
theorem head_info : (Try.prog.info? 49).map (·.size) = some 4 := by kernel_rfl
theorem head_infoV (n : Nat) : (Try.prog.info? 49).map (·.size) = some (headV n).size := by rw [headV_size]; exact head_info

def headCell (n k j : Nat) : Value := if j < k then .int .u8 ((little n).getD j 0 : Nat) else .int .u8 0

theorem row_head {w : World} {b : Nat} {t : TypeId} {n : Nat} (h : w.rowIs b t 4 (headCell n 4)) : w.heap[b]? = some (.cells (headV n) t (0, 0)) := by
  obtain ⟨c, hc, hs, hi⟩ := h
  have e : c = headV n := by
    apply Array.ext_getElem?
    intro i
    by_cases h : i < 4
    · rw [hi i h, headCell, if_pos h]
      rcases i with _ | _ | _ | _ | i
      all_goals first | rfl | omega
    · rw [Array.getElem?_eq_none (by omega), Array.getElem?_eq_none (by rw [headV_size]; omega)]
  rw [hc, e]

def HeadRel (w : World) (n : Nat) (i : Value) (wr : World) : Prop :=
  ∃ k : Nat, k ≤ 4 ∧ i = .int .i64 k ∧ wr.rowIs (w.heap.size + 1) 49 4 (headCell n k) ∧ wr.rowIs w.heap.size 49 4 (fun _ => .int .u8 0) ∧ Below w.heap.size w wr

theorem headRel_start (w : World) (n : Nat) : HeadRel w n (.int .i64 0) ((w.alloc (.cells #[.int .u8 0, .int .u8 0, .int .u8 0, .int .u8 0] 49)).alloc (.cells #[.int .u8 0, .int .u8 0, .int .u8 0, .int .u8 0] 49)) := by
  have hz : ∀ (v : World), (v.alloc (.cells #[.int .u8 0, .int .u8 0, .int .u8 0, .int .u8 0] 49)).rowIs v.heap.size 49 4 (fun _ => .int .u8 0) := fun v =>
    World.rowIs_alloc v _ _ _ (fun i hi => by
      have hi : i < 4 := hi
      rcases i with _ | _ | _ | _ | i
      all_goals first | rfl | omega)
  refine ⟨0, Nat.zero_le _, rfl, ?_, (hz w).alloc _, ((Below.refl _ _).alloc (Nat.le_refl _) _).alloc (by simp) _⟩
  have h := hz (w.alloc (.cells #[.int .u8 0, .int .u8 0, .int .u8 0, .int .u8 0] 49))
  rw [show ∀ o, (w.alloc o).heap.size = w.heap.size + 1 from fun o => by simp] at h
  exact h.congr (fun j _ => by simp [headCell])

theorem headRel_step {w wr : World} {k n : Nat} {z : Int} (hk : k < 4) (hz : z = ((little n).getD k 0 : Nat)) (hrow : wr.rowIs (w.heap.size + 1) 49 4 (headCell n k)) (hres : wr.rowIs w.heap.size 49 4 (fun _ => .int .u8 0)) (hbel : Below w.heap.size w wr) :
    HeadRel w n (.int .i64 ((k : Int) + 1)) (wr.setCell ⟨w.heap.size + 1, k, none⟩ (.int .u8 z)) := by
  subst hz
  refine ⟨k + 1, by omega, by go_num, (hrow.set k _).congr (fun j _ => ?_), hres.setOther (by simp) _, hbel.setCell (by simp) _⟩
  unfold headCell
  by_cases h : j = k
  · subst h; simp
  · rw [if_neg h]
    by_cases h2 : j < k
    · rw [if_pos h2, if_pos (by omega)]
    · rw [if_neg h2, if_neg (by omega)]

set_option maxRecDepth 100000 in
theorem newHead_any (n : Nat) (w : World) (hn : n < 4294967296) :
    Calls Try.prog 31 #[.int .i64 (n : Int)] w fun e w' => e = .returned (.agg (headV n)) ∧ Below w.heap.size w w' := by
  go_enter Try.func31, Try.ntmps31
  go_wp2
  go_loopw [5] (fun i wr => HeadRel w n i wr) (fun i _ => 4 - (intOf i).toNat)
  case atStart => exact headRel_start w n
  case round =>
    obtain ⟨k, hk, rfl, hrow, hres, hbel⟩ := hrel
    by_cases hlt : k < 4
    · have Hc := Lib.hid (hrow.cell hlt)
      have hf := hrow.frozen k
      have hcell := Hc.out
      generalize headCell n k k = old at hcell
      clear Hc
      rcases (show k = 0 ∨ k = 1 ∨ k = 2 ∨ k = 3 by omega) with rfl | rfl | rfl | rfl
      · go_wp2
        go_roundw
        case rel => exact headRel_step (k := 0) (by omega) (by simp [little]) hrow hres hbel
        case measure => simp [intOf]
      · go_wp2
        go_roundw
        case rel => exact headRel_step (k := 1) (by omega) (by simp [little]) hrow hres hbel
        case measure => simp [intOf]
      · go_wp2
        go_roundw
        case rel => exact headRel_step (k := 2) (by omega) (by simp [little]) hrow hres hbel
        case measure => simp [intOf]
      · go_wp2
        go_roundw
        case rel => exact headRel_step (k := 3) (by omega) (by simp [little]) hrow hres hbel
        case measure => simp [intOf]
    · obtain rfl : k = 4 := by omega
      have g1 := row_head hrow
      obtain ⟨old, hg3, hold, _⟩ := hres
      have Hg3 := Lib.hid hg3
      clear hrow hlt hk hg3
      go_wp2_with (first
        | (refine wpList_load_row rfl 49 _ rfl (w.heap.size + 1) rfl 49 (headV n) (0, 0) _ g1 Try.underlying49 rfl (head_infoV n) ?_)
        | (refine wpList_store_row rfl 49 _ _ rfl w.heap.size (headV n) rfl rfl 49 old Hg3.out (head_infoV n) (by rw [hold, headV_size]) (headV_one n) ?_))
      exact bodyPost_ret (v := .agg (headV n)) (results_cell_row (p := 2) (ty := 49) rfl _ _ w.heap.size 49 (headV n) (0, 0) _ rfl (setRow_heap _ _ _ _ _ _ Hg3.out) Try.underlying49 rfl (head_infoV n)) rfl
        ⟨rfl, below_setRow hbel (Nat.le_refl _) _⟩

/-- The number behind k bytes. -/
def part4 (b : Nat → Nat) : Nat → Nat
  | 0 => 0
  | 1 => b 0
  | 2 => b 0 + 256 * b 1
  | 3 => b 0 + 256 * b 1 + 65536 * b 2
  | _ => b 0 + 256 * b 1 + 65536 * b 2 + 16777216 * b 3

theorem or_up {a x s : Nat} (ha : a < 2 ^ s) (h : a + x * 2 ^ s < 4294967296) : bits .or .u32 (a : Int) ((x * 2 ^ s : Nat) : Int) = ((a + x * 2 ^ s : Nat) : Int) := by
  rw [u32_or_nat a (x * 2 ^ s) (by omega) (by omega)]
  congr 1
  rw [Nat.or_comm, Nat.mul_comm x, ← Nat.two_pow_add_eq_or_of_lt ha]
  omega

theorem or_part (b : Nat → Nat) (hb : ∀ i, b i < 256) : ∀ k, k < 4 → bits .or .u32 (part4 b k : Int) ((b k : Int) * 2 ^ (8 * k)) = (part4 b (k + 1) : Int) := by
  intro k hk
  have h0 := hb 0
  have h1 := hb 1
  have h2 := hb 2
  have h3 := hb 3
  have e : ((b k : Int) * 2 ^ (8 * k)) = ((b k * 2 ^ (8 * k) : Nat) : Int) := by simp
  rw [e]
  rcases (show k = 0 ∨ k = 1 ∨ k = 2 ∨ k = 3 by omega) with rfl | rfl | rfl | rfl
  · rw [or_up (by show 0 < 2 ^ (8 * 0); decide) (by simp [part4]; omega)]; simp [part4]
  · rw [or_up (by simp [part4]; omega) (by simp [part4]; omega)]; simp [part4]; omega
  · rw [or_up (by simp [part4]; omega) (by simp [part4]; omega)]; simp [part4]; omega
  · rw [or_up (by simp [part4]; omega) (by simp [part4]; omega)]; simp [part4]; omega

theorem at_head (b : Nat → Nat) (w : World) (k : Nat) (hk : k < 4) :
    (Instr.index 49 (.agg #[.int .u8 (b 0 : Nat), .int .u8 (b 1 : Nat), .int .u8 (b 2 : Nat), .int .u8 (b 3 : Nat)]) (.int .i64 (k : Int))).run Try.prog w = .ok (.int .u8 (b k : Nat)) w := by
  rcases (show k = 0 ∨ k = 1 ∨ k = 2 ∨ k = 3 by omega) with rfl | rfl | rfl | rfl
  · kernel_rfl
  · kernel_rfl
  · kernel_rfl
  · kernel_rfl

set_option maxRecDepth 100000 in
theorem number_any (b : Nat → Nat) (w : World) (hb : ∀ i, b i < 256) :
    Calls Try.prog 26 #[.agg #[.int .u8 (b 0 : Nat), .int .u8 (b 1 : Nat), .int .u8 (b 2 : Nat), .int .u8 (b 3 : Nat)]] w fun e w' => e = .returned (.int .u32 (part4 b 4 : Nat)) ∧ Below w.heap.size w w' := by
  have h0 := hb 0
  have h1 := hb 1
  have h2 := hb 2
  have h3 := hb 3
  go_enter Try.func26, Try.ntmps26
  go_wp2
  go_loop [3, 7] (fun x i => ∃ k : Nat, k ≤ 4 ∧ i = .int .i64 k ∧ x = .int .u32 (part4 b k : Nat)) (fun _ i => 4 - (intOf i).toNat)
  case atStart => exact ⟨0, by omega, rfl, rfl⟩
  case round =>
    obtain ⟨k, hk, rfl, rfl⟩ := hrel
    by_cases hlt : k < 4
    · rcases (show k = 0 ∨ k = 1 ∨ k = 2 ∨ k = 3 by omega) with rfl | rfl | rfl | rfl
      · have hix := fun w => at_head b w 0 (by omega)
        rw [show ((0 : Nat) : Int) = 0 from rfl] at hix
        go_wp2
        go_round
        case rel => exact ⟨1, by omega, by go_num, congrArg (Value.int .u32) (by have := or_part b hb 0 (by omega); simpa using this)⟩
        case measure => simp [intOf]
      · have hix := fun w => at_head b w 1 (by omega)
        rw [show ((1 : Nat) : Int) = 1 from rfl] at hix
        go_wp2
        go_round
        case rel => exact ⟨2, by omega, by go_num, congrArg (Value.int .u32) (or_part b hb 1 (by omega))⟩
        case measure => simp [intOf]
      · have hix := fun w => at_head b w 2 (by omega)
        rw [show ((2 : Nat) : Int) = 2 from rfl] at hix
        go_wp2
        go_round
        case rel => exact ⟨3, by omega, by go_num, congrArg (Value.int .u32) (or_part b hb 2 (by omega))⟩
        case measure => simp [intOf]
      · have hix := fun w => at_head b w 3 (by omega)
        rw [show ((3 : Nat) : Int) = 3 from rfl] at hix
        go_wp2
        go_round
        case rel => exact ⟨4, by omega, by go_num, congrArg (Value.int .u32) (or_part b hb 3 (by omega))⟩
        case measure => simp [intOf]
    · obtain rfl : k = 4 := by omega
      go_wp2
      go_ret
      exact ⟨rfl, (Below.refl _ _).alloc (Nat.le_refl _) _⟩
end Go.Proofs.Ytmebffmdfnnbmaa
