/- The walks of the code's table of half bytes: shift, the closure that fills one place, and the whole table. -/
import Derived.Test.YtmebffmdfnnbmaaRef
import Derived.Deep.OwnRows
import Derived.Deep.LoopGhost
import Derived.Laws.CopyOwn
namespace Go.Proofs.Ytmebffmdfnnbmaa
open Go.RowKit Crc

theorem rsum_any (a : Option Addr) (n cap : Nat) (l : List Nat) (w : World) (hl : Bytes w a n cap l) :
    Calls Try.prog 37 #[.slice a n cap] w fun e w' => e = .returned (.int .u32 (inv (feedL 4294967295 l) : Nat)) ∧ w = w' := by
  have H := rmore_any 0 a n cap l w (by omega) hl
  have H0 : (((0 : Nat) : Int)) = 0 := rfl
  have H1 : inv 0 = 4294967295 := rfl
  rw [H0, H1] at H
  have H := Lib.hid H
  clear H0 H1
  rename_i Hx; clear Hx
  go_enter Try.func37, Try.ntmps37
  go_wp2_with ((with_reducible refine H.out.mono ?_); rintro e w' ⟨rfl, rfl⟩)
  go_ret
  exact ⟨rfl, rfl⟩

theorem shift_any (x : Nat) (w : World) (hb : x < 4294967296) :
    Calls Try.prog 44 #[.int .u32 (x : Int)] w fun e w' => e = .returned (.int .u32 (Crc.step x : Nat)) ∧ w = w' := by
  have e1 : bits .and .u32 (x : Int) 1 = ((x % 2 : Nat) : Int) := by rw [← Crc.and1]; exact u32_and_nat x 1 hb (by omega)
  have e2 : bits .xor .u32 ((x : Int) / 2) 2197175160 = (((x / 2) ^^^ 2197175160 : Nat) : Int) := u32_xor_nat (x / 2) 2197175160 (by omega) (by omega)
  by_cases hodd : x % 2 = 1
  · have hodd2 : (((x % 2 : Nat) : Int) != 0) = true := by rw [hodd]; rfl
    go_enter Try.func44, Try.ntmps44
    go_wp2
    go_ret
    exact ⟨ret_u32 (step_odd hodd).symm, rfl⟩
  · have hodd2 : (((x % 2 : Nat) : Int) != 0) = false := by rw [show x % 2 = 0 by omega]; rfl
    go_enter Try.func44, Try.ntmps44
    go_wp2
    go_ret
    exact ⟨ret_u32 (b := Crc.step x) (a := x / 2) (step_even hodd).symm, rfl⟩

set_option maxHeartbeats 400000 in
theorem fill_any (i B : Nat) (f : Nat → Value) (w : World) (hi : i < 16) (hB : w.rowIs B 64 16 f) :
    Calls Try.prog 43 #[.int .i64 (i : Int), .pointer (some ⟨B, 0, none⟩)] w fun e w' => e = .returned (.tuple #[]) ∧ w' = w.setCell ⟨B, i, none⟩ (.int .u32 (steps 4 i : Nat)) := by
  have hc := Lib.hid (hB.cell hi)
  have hf := Lib.hid (hB.frozen i)
  have hi4 : i < 4294967296 := by omega
  go_enter Try.func43, Try.ntmps43
  go_wp2
  go_loop [3, 6] (fun x j => ∃ k : Nat, k ≤ 4 ∧ j = .int .i64 k ∧ x = .int .u32 (steps k i : Nat)) (fun _ j => 4 - (intOf j).toNat)
  case atStart => exact ⟨0, Nat.zero_le _, rfl, rfl⟩
  case round =>
    obtain ⟨k, hk, rfl, rfl⟩ := hrel
    have hs := Lib.hid (Crc.steps_succ' k i)
    have hb : steps k i < 4294967296 := steps_lt hi4
    by_cases hlt : k < 4
    · go_wp2_with ((with_reducible refine (shift_any _ _ hb).mono ?_); rintro e w' ⟨rfl, rfl⟩)
      go_round
      case rel => exact ⟨k + 1, by omega, by go_num, u32_eq hs.out.symm⟩
      case measure => simp [intOf]; omega
    · obtain rfl : k = 4 := by omega
      have hc := hc.out
      have hf := hf.out
      have hi' : (i : Int) < 16 := by omega
      go_wp2
      go_end0
      exact ⟨rfl, rfl⟩

def tabCell (k j : Nat) : Value := if j < k then .int .u32 (steps 4 j : Nat) else .int .u32 0

def tabV : Array Value := ((List.range 16).map fun i => Value.int .u32 (steps 4 i : Nat)).toArray
theorem tabV_size : tabV.size = 16 := by simp [tabV]
theorem tabV_get {i : Nat} (h : i < 16) : tabV[i]? = some (.int .u32 (steps 4 i : Nat)) := by simp [tabV, h]
theorem tabV_one : tabV.all (·.oneCell') = true := by
  rw [Array.all_eq_true]
  intro i h
  simp [tabV, Value.oneCell']
theorem row_tab {w : World} {b : Nat} {t : TypeId} (h : w.rowIs b t 16 (tabCell 16)) : w.heap[b]? = some (.cells tabV t (0, 0)) := by
  obtain ⟨c, hc, hs, hi⟩ := h
  have e : c = tabV := by
    apply Array.ext_getElem?
    intro i
    by_cases h : i < 16
    · rw [hi i h, tabV_get h, tabCell, if_pos h]
    · rw [Array.getElem?_eq_none (by omega), Array.getElem?_eq_none (by rw [tabV_size]; omega)]
  rw [hc, e]

theorem info47 : (Try.prog.info? 64).map (·.size) = some tabV.size := by rw [tabV_size]; kernel_rfl

def TabRel (w : World) (i : Value) (wr : World) : Prop :=
  ∃ k : Nat, k ≤ 16 ∧ i = .int .i64 k ∧ wr.rowIs (w.heap.size + 1) 64 16 (tabCell k) ∧ wr.rowIs w.heap.size 64 16 (fun _ => .int .u32 0) ∧ Below w.heap.size w wr

theorem tabRel_start (w : World) : TabRel w (.int .i64 0) ((w.alloc (.cells #[.int .u32 0, .int .u32 0, .int .u32 0, .int .u32 0, .int .u32 0, .int .u32 0, .int .u32 0, .int .u32 0, .int .u32 0, .int .u32 0, .int .u32 0, .int .u32 0, .int .u32 0, .int .u32 0, .int .u32 0, .int .u32 0] 64)).alloc
    (.cells #[.int .u32 0, .int .u32 0, .int .u32 0, .int .u32 0, .int .u32 0, .int .u32 0, .int .u32 0, .int .u32 0, .int .u32 0, .int .u32 0, .int .u32 0, .int .u32 0, .int .u32 0, .int .u32 0, .int .u32 0, .int .u32 0] 64)) := by
  have hz : ∀ (v : World), (v.alloc (.cells #[.int .u32 0, .int .u32 0, .int .u32 0, .int .u32 0, .int .u32 0, .int .u32 0, .int .u32 0, .int .u32 0, .int .u32 0, .int .u32 0, .int .u32 0, .int .u32 0, .int .u32 0, .int .u32 0, .int .u32 0, .int .u32 0] 64)).rowIs v.heap.size 64 16 (fun _ => .int .u32 0) := fun v =>
    World.rowIs_alloc v _ _ _ (fun i hi => by
      have hi : i < 16 := hi
      rcases i with _ | _ | _ | _ | _ | _ | _ | _ | _ | _ | _ | _ | _ | _ | _ | _ | i
      all_goals first | rfl | omega)
  refine ⟨0, Nat.zero_le _, rfl, ?_, (hz w).alloc _, ((Below.refl _ _).alloc (Nat.le_refl _) _).alloc (by simp) _⟩
  have h := hz (w.alloc (.cells #[.int .u32 0, .int .u32 0, .int .u32 0, .int .u32 0, .int .u32 0, .int .u32 0, .int .u32 0, .int .u32 0, .int .u32 0, .int .u32 0, .int .u32 0, .int .u32 0, .int .u32 0, .int .u32 0, .int .u32 0, .int .u32 0] 64))
  rw [show ∀ o, (w.alloc o).heap.size = w.heap.size + 1 from fun o => by simp] at h
  exact h.congr (fun j _ => by simp [tabCell])

theorem tabRel_step {w wr : World} {k : Nat} (hk : k < 16) (hrow : wr.rowIs (w.heap.size + 1) 64 16 (tabCell k)) (hres : wr.rowIs w.heap.size 64 16 (fun _ => .int .u32 0)) (hbel : Below w.heap.size w wr) :
    TabRel w (.int .i64 ((k : Int) + 1)) (wr.setCell ⟨w.heap.size + 1, k, none⟩ (.int .u32 (steps 4 k : Nat))) := by
  refine ⟨k + 1, by omega, by go_num, (hrow.set k _).congr (fun j _ => ?_), hres.setOther (by simp) _, hbel.setCell (by simp) _⟩
  unfold tabCell
  by_cases h : j = k
  · subst h; simp
  · rw [if_neg h]
    by_cases h2 : j < k
    · rw [if_pos h2, if_pos (by omega)]
    · rw [if_neg h2, if_neg (by omega)]

theorem newTable_any (w : World) :
    Calls Try.prog 42 #[] w fun e w' => e = .returned (.agg tabV) ∧ Below w.heap.size w w' := by
  have hmf : ∀ (fn : Fn) (first cap : Array Value) (w : World), (Instr.makeFunc fn first cap).run Try.prog w = .ok (.func fn first cap) w := fun _ _ _ _ => rfl
  go_enter Try.func42, Try.ntmps42
  go_wp2
  go_loopw [5] (fun i wr => TabRel w i wr) (fun i _ => 16 - (intOf i).toNat)
  case atStart => exact tabRel_start w
  case round =>
    obtain ⟨k, hk, rfl, hrow, hres, hbel⟩ := hrel
    by_cases hlt : k < 16
    · go_wp2_with ((with_reducible refine (fill_any k _ _ _ hlt hrow).mono ?_); rintro e w' ⟨rfl, rfl⟩)
      go_roundw
      case rel => exact tabRel_step hlt hrow hres hbel
      case measure => simp [intOf]; omega
    · obtain rfl : k = 16 := by omega
      have g1 := row_tab hrow
      obtain ⟨old, hg3, hold, _⟩ := hres
      have hg3 := Lib.hid hg3
      clear hrow hlt hk hmf
      rename_i hg30 _; clear hg30
      go_wp2_with (first
        | (refine wpList_load_row rfl 64 _ rfl (w.heap.size + 1) rfl 64 tabV (0, 0) _ g1 Try.underlying64 rfl info47 ?_)
        | (refine wpList_store_row rfl 64 _ _ rfl w.heap.size tabV rfl rfl 64 old hg3.out info47 (by rw [hold]; rfl) tabV_one ?_))
      exact bodyPost_ret (v := .agg tabV) (results_cell_row (p := 0) (ty := 64) rfl _ _ w.heap.size 64 tabV (0, 0) _ rfl (setRow_heap _ _ _ _ _ _ hg3.out) Try.underlying64 rfl info47) rfl
        ⟨rfl, below_setRow hbel (Nat.le_refl _) _⟩
end Go.Proofs.Ytmebffmdfnnbmaa
