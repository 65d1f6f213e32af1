/- The walk of the reference's Uint: it returns the form of the number, in memory of its own. -/
import Derived.Test.YtjkpcpoplpgecaaAppend
import Derived.Test.YtjkpcpoplpgecaaFormM
namespace Go.Proofs.Ytjkpcpoplpgecaa
open Go.RowKit

/-- A new row of one byte. -/
theorem one_bytes (w : World) {z : Int} {x : Nat} (h : z = (x : Int)) (hx : x < 256) : Bytes (w.alloc (.cells #[.int .u8 z] 5)) (some ⟨w.heap.size, 0, none⟩) 1 1 [x] := by
  subst h
  exact bytes_of_own (new_row w [x] (by simp)) (by simpa using hx)

def FormRel (w : World) (x : Nat) (u v : Value) (wr : World) : Prop :=
  ∃ (pre : List Nat) (y : Nat), u = .int .u64 y ∧ y < 18446744073709551616 ∧ form x = pre ++ form y ∧ wr.ownsRow w.heap.size 5 1 v pre.length (u8s pre) ∧ Below w.heap.size w wr

theorem formRel_step {w wr w1 : World} {x y : Nat} {pre : List Nat} {v v' : Value} {u : Value} (hy : 128 ≤ y) (hl : y < 18446744073709551616) (hf : form x = pre ++ form y) (hu : u = .int .u64 ((y / 128 : Nat) : Int))
    (hown : wr.ownsRow w.heap.size 5 1 v pre.length (u8s pre)) (hbel : Below w.heap.size w wr) {o : Obj}
    (g1 : w1.ownsRow w.heap.size 5 1 v' (pre.length + 1) (u8s (pre ++ [y % 128 + 128]))) (g2 : (wr.alloc o).grownBy w1 v.ownBlock) : FormRel w x u v' w1 := by
  refine ⟨pre ++ [y % 128 + 128], y / 128, hu, by omega, by rw [hf, form_big hy]; simp, by rw [List.length_append]; exact g1, ?_⟩
  have hb : Below w.heap.size w (wr.alloc o) := hbel.alloc hbel.size o
  exact hb.grown g2 hb.size (fun x hx => (hown.lt x hx).1)

theorem form_pre_len {x y : Nat} {pre : List Nat} (hx : x < 18446744073709551616) (h : form x = pre ++ form y) : pre.length ≤ 9 := by
  have h1 := form_len hx
  have h2 := form_pos y
  rw [h, List.length_append] at h1
  omega

set_option maxRecDepth 100000 in
set_option maxHeartbeats 800000 in
theorem ruint_any (x : Nat) (w : World) (hx : x < 18446744073709551616) :
    Calls Try.prog 11 #[.int .u64 (x : Int)] w (NewBytes w (form x)) := by
  go_enter Try.func11, Try.ntmps11
  go_wp2
  go_loopw [0, 3] (fun u v wr => FormRel w x u v wr) (fun u _ _ => (intOf u).toNat)
  case atStart => exact ⟨[], x, rfl, hx, rfl, World.ownsRow_nil _ _ _ _, Below.refl _ _⟩
  case round =>
    obtain ⟨pre, y, rfl, hy, hf, hown, hbel⟩ := hrel
    have h9 := form_pre_len hx hf
    have Hf := Lib.hid hf
    clear hf
    have hsz := hbel.size
    have Hx := Lib.hid hx
    clear hx
    by_cases hlt : 128 ≤ y
    · go_wp2_with (at_builtin; refine wpList_append_bytes _ rfl _ _ 23 rfl w.heap.size 5 Try.underlying23 info_u8 _ _ _ rfl (hown.alloc _) _ 1 1 [y % 128 + 128] rfl (one_bytes _ (by omega) (by omega)) (by omega) (by simp; omega) ?_; intro v' w1 g1 g2)
      go_roundw
      case rel => exact formRel_step hlt hy Hf.out (by go_num) hown hbel g1 g2
      case measure => simp [intOf]; omega
    · go_wp2_with (at_builtin; refine wpList_append_bytes _ rfl _ _ 23 rfl w.heap.size 5 Try.underlying23 info_u8 _ _ _ rfl (hown.alloc _) _ 1 1 [y] rfl (one_bytes _ (by omega) (by omega)) (by omega) (by simp; omega) ?_; intro v' w1 g1 g2)
      go_ret
      have hb : Below w.heap.size w (wr.alloc (.cells #[.int .u8 (y : Int)] 5)) := hbel.alloc hbel.size _
      refine ⟨_, rfl, ?_, hb.grown g2 hb.size (fun x hx => (hown.lt x hx).1)⟩
      rw [Hf.out, form_small (by omega), List.length_append]
      exact g1
end Go.Proofs.Ytjkpcpoplpgecaa
