import Derived.Test.YtpnfnmeilhiebaaGreatDoorMP1
import Derived.RangeFuncBox
import Derived.RangeFuncLeaves
import Derived.Shelf.Abstract
import Derived.OwnWalkIn
import Derived.TacticsInMore
import Derived.LoopNIn
import Derived.LoopIn
import Derived.Maps.AppendAt
import Derived.WalkKit
import Derived.Laws.BitsAllLaws
/- The walk of the reference's Uint: it returns the form of the number, in memory of its own. -/
namespace Go.Proofs.YtpnfnmeilhiebaaGreatDoor
open Go.RowKit

/-- A new row of one byte. -/
theorem one_bytes (w : World) {z : Int} {x : Nat} (h : z = (x : Int)) (hx : x < 256) : Bytes (w.alloc (.cells #[.int .u8 z] 5)) (some ⟨w.heap.size, 0, none⟩) 1 1 [x] := by
  subst h
  exact bytes_of_own (new_row w [x] (by simp)) (by simpa using hx)

def FormRel (w : World) (x : Nat) (u v : Value) (wr : World) : Prop :=
  ∃ (pre : List Nat) (y : Nat), u = .int .u64 y ∧ y < 18446744073709551616 ∧ form x = pre ++ form y ∧ wr.ownsRow w.heap.size 5 1 v pre.length (u8s pre) ∧ Below w.heap.size w wr

theorem formRel_step {w wr w1 : World} {x y : Nat} {pre : List Nat} {v v' : Value} {u : Value} (hy : 128 ≤ y) (hl : y < 18446744073709551616) (hf : form x = pre ++ form y) (hu : u = .int .u64 ((y / 128 : Nat) : Int))
    (hown : wr.ownsRow w.heap.size 5 1 v pre.length (u8s pre)) (hbel : Below w.heap.size w wr) {o : Obj}
    (g1 : w1.ownsRow w.heap.size 5 1 v' (pre.length + 1) (u8s (pre ++ [y % 128 + 128]))) (g2 : (wr.alloc o).grownBy w1 v.ownBlock) : FormRel w x u v' w1 := by
  refine ⟨pre ++ [y % 128 + 128], y / 128, hu, by omega, by rw [hf, form_big hy]; simp, by rw [List.length_append]; exact g1, ?_⟩
  have hb : Below w.heap.size w (wr.alloc o) := hbel.alloc hbel.size o
  exact hb.grown g2 hb.size (fun x hx => (hown.lt x hx).1)

theorem form_pre_len {x y : Nat} {pre : List Nat} (hx : x < 18446744073709551616) (h : form x = pre ++ form y) : pre.length ≤ 9 := by
  have h1 := form_len hx
  have h2 := form_pos y
  rw [h, List.length_append] at h1
  omega

set_option maxRecDepth 100000 in
set_option maxHeartbeats 800000 in
theorem ruint_any (x : Nat) (w : World) (hx : x < 18446744073709551616) :
    Calls Tryz.prog 40 #[.int .u64 (x : Int)] w (NewBytes w (form x)) := by
  go_enter Tryz.func40, Tryz.ntmps40
  go_wp2
  go_loopw [0, 3] (fun u v wr => FormRel w x u v wr) (fun u _ _ => (intOf u).toNat)
  case atStart => exact ⟨[], x, rfl, hx, rfl, World.ownsRow_nil _ _ _ _, Below.refl _ _⟩
  case round =>
    obtain ⟨pre, y, rfl, hy, hf, hown, hbel⟩ := hrel
    have h9 := form_pre_len hx hf
    have Hf := Lib.hid hf
    clear hf
    have hsz := hbel.size
    have Hx := Lib.hid hx
    clear hx
    by_cases hlt : 128 ≤ y
    · go_wp2_with (at_builtin; refine wpList_append_bytes _ rfl _ _ 28 rfl w.heap.size 5 Tryz.underlying28 info_u8 _ _ _ rfl (hown.alloc _) _ 1 1 [y % 128 + 128] rfl (one_bytes _ (by omega) (by omega)) (by omega) (by simp; omega) ?_; intro v' w1 g1 g2)
      go_roundw
      case rel => exact formRel_step hlt hy Hf.out (by go_num) hown hbel g1 g2
      case measure => simp [intOf]; omega
    · go_wp2_with (at_builtin; refine wpList_append_bytes _ rfl _ _ 28 rfl w.heap.size 5 Tryz.underlying28 info_u8 _ _ _ rfl (hown.alloc _) _ 1 1 [y] rfl (one_bytes _ (by omega) (by omega)) (by omega) (by simp; omega) ?_; intro v' w1 g1 g2)
      go_ret
      have hb : Below w.heap.size w (wr.alloc (.cells #[.int .u8 (y : Int)] 5)) := hbel.alloc hbel.size _
      refine ⟨_, rfl, ?_, hb.grown g2 hb.size (fun x hx => (hown.lt x hx).1)⟩
      rw [Hf.out, form_small (by omega), List.length_append]
      exact g1
end Go.Proofs.YtpnfnmeilhiebaaGreatDoor

/- The walk of Uint: a loop over a range function that yields the bytes of the form. -/
namespace Go.Proofs.YtpnfnmeilhiebaaGreatDoor
open Go.RowKit Go.Shelf

attribute [local go_sem] Oper.semAt_some

theorem or128 (y : Nat) : bits .or .u8 ((y : Int) % 256) 128 = (y : Int) % 128 + 128 := by
  have h := u8_or_nat (y % 256) 128 (by omega) (by omega)
  have hall : ∀ z : Fin 256, (z.val ||| 128) = z.val % 128 + 128 := by decide +kernel
  have e : y % 256 ||| 128 = y % 128 + 128 := by
    have := hall ⟨y % 256, by omega⟩
    simp only at this
    rw [this]
    omega
  rw [e] at h
  rw [show ((y : Int) % 256) = ((y % 256 : Nat) : Int) by omega, show ((y : Int) % 128 + 128) = ((y % 128 + 128 : Nat) : Int) by omega]
  exact h

set_option maxRecDepth 100000 in
set_option maxHeartbeats 1000000 in
/-- What the range function of a number yields: the bytes of the form, in order; or the first of them, where a round has said 'no more'. -/
theorem digits1_in (F : Fence) (n : Nat) (h6 : F.fn 58) (hro : F.round = none) (hn : 1 ≤ n) (l Bn x : Nat) (hx : x < 18446744073709551616) (J Jx : List Nat → World → Prop)
    (hY : ∀ pre (z : Nat) W, J pre W → pre.length < (form x).length → YieldAt F (n - 1) Tryz.prog l #[.int .u8 (z : Int)] W fun e W' =>
      (e = .returned (.bool true) ∧ J (pre ++ [z]) W' ∧ True) ∨ (e = .returned (.bool false) ∧ Jx (pre ++ [z]) W'))
    (W : World) (hBn : W.cell? ⟨Bn, 0, none⟩ = some (.int .u64 (x : Int))) (h0 : J [] W) :
    CallsIn F n Tryz.prog 58 #[.func (.yield l) #[] #[], .pointer (some ⟨Bn, 0, none⟩)] W fun e W' => (∃ v, e = .returned v) ∧
      ((∃ ys, ys = form x ∧ J ys W') ∨ (∃ pre, pre <+: form x ∧ Jx pre W')) := by
  refine callsIn_of_wp Tryz.func58 rfl h6 ?_ hro
  simp only [Tryz.ntmps58, List.size_toArray, List.length_cons, List.length_nil, Nat.reduceAdd, Nat.reduceSub, Array.replicate_succ, Array.replicate_zero, List.push_toArray, List.append_toArray, List.nil_append, List.cons_append]
  gi_wp2
  gi_loopw [3] (fun u wr => ∃ (pre : List Nat) (y : Nat), u = .int .u64 y ∧ y < 18446744073709551616 ∧ form x = pre ++ form y ∧ J pre wr) (fun u _ => (intOf u).toNat)
  case atStart => exact ⟨[], x, rfl, hx, rfl, h0⟩
  case round =>
    obtain ⟨pre, y, rfl, hy, hf, hJ⟩ := hrel
    have hlen : pre.length < (form x).length := by rw [hf, List.length_append]; have := form_pos y; omega
    have Hf := Lib.hid hf
    clear hf
    by_cases hlt : 128 ≤ y
    · obtain ⟨fn, tmps, assign, body, hy2, hR⟩ := hY pre (y % 128 + 128) wr hJ hlen
      have ho := or128 y
      rw [show ((y % 128 + 128 : Nat) : Int) = (y : Int) % 128 + 128 by omega] at hy2
      gi_wp2
      refine hR.mono ?_
      rintro e W3 (⟨rfl, hJ3, _⟩ | ⟨rfl, hJx3⟩)
      · gi_wp2
        go_roundw
        case rel => exact ⟨pre ++ [y % 128 + 128], y / 128, by go_num, by omega, by rw [Hf.out, form_big hlt]; simp, hJ3⟩
        case measure => simp [intOf]; omega
      · gi_wp2
        refine bodyPost_ret (results_none rfl _ _ _) rfl ?_
        exact ⟨⟨_, rfl⟩, .inr ⟨pre ++ [y % 128 + 128], ⟨form (y / 128), by rw [Hf.out, form_big hlt]; simp⟩, hJx3⟩⟩
    · obtain ⟨fn, tmps, assign, body, hy2, hR⟩ := hY pre y wr hJ hlen
      have hm : (y : Int) % 256 = (y : Int) := by omega
      gi_wp2
      refine hR.mono ?_
      rintro e W3 (⟨rfl, hJ3, _⟩ | ⟨rfl, hJx3⟩)
      · gi_wp2
        go_end0
        exact ⟨⟨_, rfl⟩, .inl ⟨pre ++ [y], by rw [Hf.out, form_small (by omega)], hJ3⟩⟩
      · gi_wp2
        go_end0
        exact ⟨⟨_, rfl⟩, .inr ⟨pre ++ [y], ⟨[], by rw [Hf.out, form_small (by omega)]; simp⟩, hJx3⟩⟩

set_option maxHeartbeats 1000000 in
/-- digits(x): the number is boxed; the function value captures the box. -/
theorem digits_in (F : Fence) (n : Nat) (h5 : F.fn 38) (hro : F.round = none) (x : Nat) (w : World) :
    CallsIn F n Tryz.prog 38 #[.int .u64 (x : Int)] w fun e w' => e = .returned (.func (.func 58) #[] #[.pointer (some ⟨w.heap.size, 0, none⟩)]) ∧ w' = w.alloc (.cells #[.int .u64 (x : Int)] 44) := by
  refine callsIn_of_wp Tryz.func38 rfl h5 ?_ hro
  simp only [Tryz.ntmps38, List.size_toArray, List.length_cons, List.length_nil, Nat.reduceAdd, Nat.reduceSub, Array.replicate_succ, Array.replicate_zero, List.push_toArray, List.append_toArray, List.nil_append, List.cons_append]
  gi_wp2
  go_ret
  exact ⟨rfl, rfl⟩

theorem digits_stops (F : Fence) (n : Nat) (h6 : F.fn 58) (hro : F.round = none) (hn : 1 ≤ n) (Bn x : Nat) (hx : x < 18446744073709551616) (w : World) (hBn : Bn < w.heap.size)
    (hc : w.cell? ⟨Bn, 0, none⟩ = some (.int .u64 (x : Int))) :
    SeqStopsK F n Tryz.prog 58 #[.pointer (some ⟨Bn, 0, none⟩)] (fun z : Nat => #[Value.int .u8 (z : Int)]) (fun _ _ => True) (fun ys => ys = form x) (fun pre => pre <+: form x) (form x).length w := fun l J Jx W hW _ _ hY h0 =>
  digits1_in F n h6 hro hn l Bn x hx J Jx hY W ((hW.cell (p := ⟨Bn, 0, none⟩) hBn).trans hc) h0

set_option maxRecDepth 100000 in
set_option maxHeartbeats 2000000 in
theorem uint_in (F : Fence) (n : Nat) (h3 : F.fn 23) (h4 : F.fn 38) (h5 : F.fn 58) (hro : F.round = none) (hn : 3 ≤ n) (x : Nat) (hx : x < 18446744073709551616) (w : World) :
    CallsIn F n Tryz.prog 23 #[.int .u64 (x : Int)] w (NewBytes w (form x)) := by
  have h1 : 1 ≤ n := by omega
  have hten := form_len hx
  obtain ⟨i0, hi, hz0, hz1, hz2⟩ := info_parts info_u8
  refine callsIn_of_wp_marks Tryz.func23 rfl h3 ?_ hro
  simp only [Tryz.ntmps23, List.size_toArray, List.length_cons, List.length_nil, Nat.reduceAdd, Nat.reduceSub, Array.replicate_succ, Array.replicate_zero, List.push_toArray, List.append_toArray, List.nil_append, List.cons_append]
  gi_wp2_with (gi_at_call 38; refine (digits_in F (n - 1) h4 hro _ _).mono ?_; rintro e w' ⟨rfl, rfl⟩)
  have bO := Boxed.new w 28 (.slice none 0 0)
  have bN := Boxed.new (w.alloc (.cells #[.slice none 0 0] 28)) 44 (.int .u64 (x : Int))
  rw [World.size_alloc] at bN
  have hB0 : Below w.heap.size w ((w.alloc (.cells #[.slice none 0 0] 28)).alloc (.cells #[.int .u64 (x : Int)] 44)) := ((Below.refl _ w).alloc (Nat.le_refl _) _).alloc (by simp) _
  refine wpIn_rangeFunc_ownG hro h1 (gf := 58) (lb := #[.pointer (some ⟨w.heap.size + 1, 0, none⟩)]) rfl h5 (enters_of Tryz.func58 (by kernel_rfl) rfl)
    (digits_stops F (n - 1) h5 hro (by omega) (w.heap.size + 1) x hx _ (by simp) bN.cell) (fun _ _ => trivial) (fun _ _ _ _ _ _ _ _ => trivial) (Below.refl _ _) (fun _ => rfl)
    (fun pre W => (∃ v, Boxed W w.heap.size 28 v ∧ W.ownsRow w.heap.size 5 1 v pre.length (u8s pre) ∧ True) ∧ Below w.heap.size w W)
    (fun _ _ _ => False)
    (OwnFrom.and (Own.from (holdsRow_own w.heap.size w.heap.size 28 5 1 (fun pre => pre.length) (fun pre => u8s pre) (fun _ _ => True)) _) (ownFrom_below (Nat.le_refl _) (by simp; omega)))
    (fun _ _ _ _ _ hs _ _ => hs)
    ⟨⟨_, bO.alloc _, World.ownsRow_nil _ _ _ _, trivial⟩, hB0⟩
    (fun z => { tmps := #[.int .u64 (x : Int), undef, .slice none 0 0, .pointer (some ⟨w.heap.size, 0, none⟩), .int .u8 (z : Int), .int .u64 (x : Int), .func (.func 58) #[] #[.pointer (some ⟨w.heap.size + 1, 0, none⟩)], .int .u8 (z : Int), undef, undef, undef, undef, undef], defers := [] }) ?assign ?body ?done ?stop
  case assign =>
    intro l z W K hK
    gi_wp2
    exact hK
  case body =>
    rintro l pre z W ⟨⟨v, hv, hrow, _⟩, hB⟩ hlt
    have hc := hv.cell
    gi_wp2_with (gi_at_builtin; refine wpListIn_append_own _ rfl _ _ 28 rfl w.heap.size 5 i0 (.int .u8 0) 1 1 Tryz.underlying28 hi hz0 hz1 hz2 rfl (by decide) _ _ _ rfl (hrow.alloc _) ⟨W.heap.size, 0, none⟩ 1 1 [.int .u8 (z : Int)] rfl rfl (cell_one_new _ _ _) (by simp [Value.oneCell']) (by rw [maxLen_nat]; omega) (by omega) (by have := hB.size; simp; omega) ?_; intro v' w1 hown' hgrow _; obtain ⟨g', cap', rfl⟩ := ownsRow_succ hown'; obtain ⟨hv1, hv2, hr2, hk2, hb2⟩ := hv.appended (by decide) hrow hB.size (Nat.le_refl _) hown' hgrow; have hc1 := hv1.cell; have hf1 := hv1.frozen)
    exact ⟨hk2.from _, trivial, ⟨_, hv2, by rw [List.length_append, u8s_append]; exact hr2, trivial⟩, hB.trans hb2⟩
  case done =>
    rintro D ys W hD rfl ⟨⟨v, hv, hrow, _⟩, hB⟩ hK
    have hc := hv.cell
    gi_wp2
    refine ⟨by simp, .inl ⟨_, _, rfl, run_takeDeferred hK, ?_⟩⟩
    exact ⟨_, results_tmp rfl _ _ _, v, rfl, ownsRow_putObj hrow _ hK rfl, hB.trans (belowK_b (w := w) (Nat.le_refl _) W D _ _ (by simp at hD; omega) hK rfl rfl)⟩
  case stop =>
    rintro D c pre W _ _ h _
    exact h.elim

theorem uint_any (x : Nat) (w : World) (hx : x < 18446744073709551616) : Calls Tryz.prog 23 #[.int .u64 (x : Int)] w (NewBytes w (form x)) :=
  (callsIn_wide (n := 3)).1 (uint_in Fence.wide 3 trivial trivial trivial rfl (Nat.le_refl _) x hx w)
end Go.Proofs.YtpnfnmeilhiebaaGreatDoor

/- Words of 64 bits: what is returned, and all bits inverted. -/
namespace Go.Proofs.YtpnfnmeilhiebaaGreatDoor
open Go.RowKit

theorem ret_u64 {a b : Int} (h : a = b) : Ending.returned (.int .u64 a) = Ending.returned (.int .u64 b) := by rw [h]
theorem ret_i64 {a b : Int} (h : a = b) : Ending.returned (.int .i64 a) = Ending.returned (.int .i64 b) := by rw [h]

/-- All bits inverted, of 64 without a sign. -/
theorem not_u64 (r : Nat) (h : r < 18446744073709551616) : bits .xor .u64 IntKind.u64.max (r : Int) = ((18446744073709551615 - r : Nat) : Int) := by
  have e : IntKind.u64.max = ((18446744073709551615 : Nat) : Int) := rfl
  rw [e, u64_xor_nat 18446744073709551615 r (by omega) h]
  congr 1
  have h2 := congrArg BitVec.toNat (BitVec.allOnes_xor (x := BitVec.ofNat 64 r))
  rw [BitVec.toNat_xor, BitVec.toNat_not, BitVec.toNat_allOnes, BitVec.toNat_ofNat, Nat.mod_eq_of_lt (by omega)] at h2
  exact h2

/-- All bits inverted, of 64 with a sign. -/
theorem not_i64 (z : Nat) (h : z < 9223372036854775808) : bits .xor .i64 (-1) (z : Int) = -(z : Int) - 1 := by
  show IntKind.i64.wrap ((BitVec.ofInt 64 (-1) ^^^ BitVec.ofInt 64 (z : Int)).toNat : Int) = _
  have e1 : BitVec.ofInt 64 (-1) = BitVec.allOnes 64 := by decide
  have e2 : (BitVec.ofInt 64 (z : Int)).toNat = z := by
    rw [BitVec.ofInt_natCast, BitVec.toNat_ofNat]; exact Nat.mod_eq_of_lt (by omega)
  rw [e1, BitVec.allOnes_xor, BitVec.toNat_not, e2, IntKind.wrap_i64]
  omega

end Go.Proofs.YtpnfnmeilhiebaaGreatDoor

/- The walks of Int, of the code and of the reference, and of what they call. -/
namespace Go.Proofs.YtpnfnmeilhiebaaGreatDoor
open Go.RowKit

set_option maxRecDepth 100000 in
theorem fold_any (y : Int) (w : World) (h1 : -9223372036854775808 ≤ y) (h2 : y ≤ 9223372036854775807) :
    Calls Tryz.prog 158 #[.int .i64 y] w fun e w' => e = .returned (.int .u64 (foldL y : Nat)) ∧ w = w' := by
  by_cases h : 0 ≤ y
  · go_enter Tryz.func158, Tryz.ntmps158
    go_wp2
    go_ret
    refine ⟨ret_u64 ?_, rfl⟩
    unfold foldL
    rw [if_pos h]
    omega
  · have h' : y < 0 := by omega
    go_enter Tryz.func158, Tryz.ntmps158
    go_wp2
    go_ret
    refine ⟨ret_u64 ?_, rfl⟩
    have e : IntKind.u64.wrap (IntKind.u64.wrap y * 2) = ((18446744073709551616 + 2 * y).toNat : Int) := by
      rw [IntKind.wrap_u64, IntKind.wrap_u64]
      omega
    rw [e, not_u64 _ (by omega)]
    unfold foldL
    rw [if_neg (show ¬ 0 ≤ y by omega)]
    omega

set_option maxRecDepth 100000 in
theorem unfold_any (u : Nat) (w : World) (h1 : u < 18446744073709551616) :
    Calls Tryz.prog 64 #[.int .u64 (u : Int)] w fun e w' => e = .returned (.int .i64 (unfoldL u)) ∧ w = w' := by
  by_cases h : u % 2 = 1
  · have hq : ((u : Int) % 2 == 1) = true := beq_iff_eq.2 (by omega)
    go_enter Tryz.func64, Tryz.ntmps64
    go_wp2
    go_ret
    refine ⟨ret_i64 ?_, rfl⟩
    have e : ((u : Int) / 2) = ((u / 2 : Nat) : Int) := by omega
    rw [e, not_i64 _ (by omega)]
    unfold unfoldL
    rw [if_neg (by omega)]
  · have hq : ((u : Int) % 2 == 1) = false := beq_eq_false_iff_ne.2 (by omega)
    go_enter Tryz.func64, Tryz.ntmps64
    go_wp2
    go_ret
    refine ⟨ret_i64 ?_, rfl⟩
    unfold unfoldL
    rw [if_pos (by omega)]
    omega

theorem int_any (y : Int) (w : World) (h1 : -9223372036854775808 ≤ y) (h2 : y ≤ 9223372036854775807) :
    Calls Tryz.prog 156 #[.int .i64 y] w (NewBytes w (form (foldL y))) := by
  have hl := fold_lt h1 h2
  go_enter Tryz.func156, Tryz.ntmps156
  go_wp2_with fail
  refine (fold_any y w h1 h2).mono ?_
  rintro e w1 ⟨rfl, rfl⟩
  go_wp2_with fail
  refine (uint_any _ w hl).mono ?_
  rintro e w1 ⟨v, rfl, hv⟩
  go_wp2
  go_ret
  exact ⟨v, rfl, hv⟩

set_option maxRecDepth 100000 in
theorem rint_any (y : Int) (w : World) (h1 : -9223372036854775808 ≤ y) (h2 : y ≤ 9223372036854775807) :
    Calls Tryz.prog 41 #[.int .i64 y] w (NewBytes w (form (foldL y))) := by
  have hl := fold_lt h1 h2
  by_cases h : 0 ≤ y
  · obtain ⟨z, rfl⟩ := Int.eq_ofNat_of_zero_le h
    have Hf := Lib.hid (show foldL (z : Int) = 2 * z by unfold foldL; rw [if_pos h]; omega)
    have hz : z < 9223372036854775808 := by omega
    have e := ruint_any (2 * z) w (by omega)
    rw [show ((2 * z : Nat) : Int) = (z : Int) * 2 by omega] at e
    have E := Lib.hid e
    clear e hl
    rw [Hf.out]
    go_enter Tryz.func41, Tryz.ntmps41
    go_wp2_with fail
    refine E.out.mono ?_
    rintro e w1 ⟨v, rfl, hv⟩
    go_wp2
    go_ret
    exact ⟨v, rfl, hv⟩
  · have h' : y < 0 := by omega
    have Hf := Lib.hid (show ((foldL y : Nat) : Int) = -(y + 1) * 2 + 1 by unfold foldL; rw [if_neg h]; omega)
    have e := ruint_any (foldL y) w hl
    rw [Hf.out] at e
    have E := Lib.hid e
    clear e
    go_enter Tryz.func41, Tryz.ntmps41
    go_wp2_with fail
    refine E.out.mono ?_
    rintro e w1 ⟨v, rfl, hv⟩
    go_wp2
    go_ret
    exact ⟨v, rfl, hv⟩
end Go.Proofs.YtpnfnmeilhiebaaGreatDoor

