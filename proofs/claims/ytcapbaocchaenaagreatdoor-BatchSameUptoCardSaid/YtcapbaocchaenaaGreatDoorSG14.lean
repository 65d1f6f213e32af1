import Derived.Test.YtcapbaocchaenaaGreatDoorSG1
import Derived.RangeFuncBox
import Derived.RangeFuncLeaves
import Derived.Shelf.Abstract
import Derived.OwnWalkIn
import Derived.TacticsInMore
import Derived.LoopNIn
import Derived.LoopIn
import Derived.Maps.AppendAt
import Derived.Test.YtcapbaocchaenaaGreatDoorSG3
import Derived.Lib.AppendStr
import Derived.Test.YtcapbaocchaenaaGreatDoorSG12
import Derived.Deep.OwnRows
import Derived.Deep.AppendLies
import Derived.Deep.RegionLaw
/- The forms of numbers and the reading of them, on lists of plain numbers; no program is named. -/
namespace Go.Proofs.YtcapbaocchaenaaGreatDoor

/-- The form of a number. -/
def form (x : Nat) : List Nat := if x < 128 then [x] else (x % 128 + 128) :: form (x / 128)
  termination_by x
  decreasing_by omega

theorem form_small {x : Nat} (h : x < 128) : form x = [x] := by rw [form, if_pos h]
theorem form_big {x : Nat} (h : 128 ≤ x) : form x = (x % 128 + 128) :: form (x / 128) := by rw [form, if_neg (by omega)]

theorem form_ne (x : Nat) : form x ≠ [] := by
  by_cases h : x < 128
  · rw [form_small h]; simp
  · rw [form_big (by omega)]; simp

theorem form_pos (x : Nat) : 0 < (form x).length := List.length_pos_iff.2 (form_ne x)

theorem form_byte (x : Nat) : ∀ y ∈ form x, y < 256 := by
  induction x using Nat.strongRecOn with
  | ind x ih =>
    intro y hy
    by_cases h : x < 128
    · rw [form_small h] at hy
      simp only [List.mem_singleton] at hy
      omega
    · rw [form_big (by omega)] at hy
      rcases List.mem_cons.1 hy with rfl | hy
      · omega
      · exact ih (x / 128) (by omega) y hy

theorem form_le (k : Nat) : ∀ x : Nat, x < 128 ^ (k + 1) → (form x).length ≤ k + 1 := by
  induction k with
  | zero => intro x h; rw [form_small (by simpa using h)]; simp
  | succ k ih =>
    intro x h
    by_cases hx : x < 128
    · rw [form_small hx]; simp
    · rw [form_big (by omega), List.length_cons]
      have := ih (x / 128) (by rw [Nat.div_lt_iff_lt_mul (by omega), ← Nat.pow_succ]; exact h)
      omega

theorem form_len {x : Nat} (h : x < 18446744073709551616) : (form x).length ≤ 10 := form_le 9 x (by omega)

/-- What reading a number yields, from the i-th digit on, x having been read: the number, and how many bytes it has; 0 if there is none. -/
def numL : List Nat → Nat → Nat → Nat × Nat
  | [], _, _ => (0, 0)
  | c :: r, i, x =>
    if i = 10 then (0, 0) else if i = 9 ∧ 1 < c % 128 then (0, 0) else
    if c < 128 then (if 0 < i ∧ c % 128 = 0 then (0, 0) else (x + c % 128 * 128 ^ i, i + 1)) else numL r (i + 1) (x + c % 128 * 128 ^ i)

theorem numL_last {c : Nat} {r : List Nat} {i x : Nat} (hi : i < 10) (h9 : ¬ (i = 9 ∧ 1 < c % 128)) (h : c < 128) (h0 : ¬ (0 < i ∧ c % 128 = 0)) : numL (c :: r) i x = (x + c % 128 * 128 ^ i, i + 1) := by
  rw [numL, if_neg (by omega), if_neg h9, if_pos h, if_neg h0]
theorem numL_more {c : Nat} {r : List Nat} {i x : Nat} (hi : i < 10) (h9 : ¬ (i = 9 ∧ 1 < c % 128)) (h : ¬ c < 128) : numL (c :: r) i x = numL r (i + 1) (x + c % 128 * 128 ^ i) := by
  rw [numL, if_neg (by omega), if_neg h9, if_neg h]

/-- Reading inverts writing. -/
theorem numL_form (y : Nat) : ∀ (i x : Nat) (r : List Nat), i < 10 → y * 128 ^ i < 18446744073709551616 → (0 < i → y ≠ 0) → numL (form y ++ r) i x = (x + y * 128 ^ i, i + (form y).length) := by
  induction y using Nat.strongRecOn with
  | ind y ih =>
    intro i x r hi hy h0
    have h9 : i = 9 → y < 2 := by
      intro e
      subst e
      omega
    by_cases h : y < 128
    · rw [form_small h, List.singleton_append, numL_last hi (by omega) h (by omega), Nat.mod_eq_of_lt h]; rfl
    · have hi9 : i < 9 := by
        rcases Nat.lt_or_ge i 9 with hh | hh
        · exact hh
        · have := h9 (by omega); omega
      rw [form_big (by omega), List.cons_append, numL_more hi (by omega) (by omega)]
      have e1 : (y % 128 + 128) % 128 = y % 128 := by omega
      have e2 : y / 128 * 128 ^ (i + 1) = (y / 128 * 128) * 128 ^ i := by rw [Nat.pow_succ, Nat.mul_assoc, Nat.mul_comm 128]
      have e3 : y % 128 * 128 ^ i + y / 128 * 128 ^ (i + 1) = y * 128 ^ i := by
        rw [e2, ← Nat.add_mul]
        congr 1
        omega
      rw [e1, ih (y / 128) (by omega) (i + 1) _ r (by omega) (by omega) (fun _ => by omega)]
      rw [Nat.add_assoc, e3, List.length_cons, Nat.add_assoc, Nat.add_comm 1]

theorem numL_of_form {y : Nat} (h : y < 18446744073709551616) (r : List Nat) : numL (form y ++ r) 0 0 = (y, (form y).length) := by
  rw [numL_form y 0 0 r (by omega) (by simpa using h) (fun h => absurd h (by omega))]
  simp

/-- The form of a number with a sign. -/
def foldL (y : Int) : Nat := if 0 ≤ y then 2 * y.toNat else (-(2 * y) - 1).toNat
def unfoldL (u : Nat) : Int := if u % 2 = 0 then ((u / 2 : Nat) : Int) else -((u / 2 : Nat) : Int) - 1

theorem unfold_fold (y : Int) : unfoldL (foldL y) = y := by unfold unfoldL foldL; split <;> split <;> omega
theorem fold_lt {y : Int} (h1 : -9223372036854775808 ≤ y) (h2 : y ≤ 9223372036854775807) : foldL y < 18446744073709551616 := by unfold foldL; split <;> omega
end Go.Proofs.YtcapbaocchaenaaGreatDoor

/- The walk of Uint: a loop over a range function that yields the bytes of the form. -/
namespace Go.Proofs.YtcapbaocchaenaaGreatDoor
open Go.RowKit Go.Shelf

attribute [local go_sem] Oper.semAt_some

theorem or128 (y : Nat) : bits .or .u8 ((y : Int) % 256) 128 = (y : Int) % 128 + 128 := by
  have h := u8_or_nat (y % 256) 128 (by omega) (by omega)
  have hall : ∀ z : Fin 256, (z.val ||| 128) = z.val % 128 + 128 := by decide +kernel
  have e : y % 256 ||| 128 = y % 128 + 128 := by
    have := hall ⟨y % 256, by omega⟩
    simp only at this
    rw [this]
    omega
  rw [e] at h
  rw [show ((y : Int) % 256) = ((y % 256 : Nat) : Int) by omega, show ((y : Int) % 128 + 128) = ((y % 128 + 128 : Nat) : Int) by omega]
  exact h

set_option maxRecDepth 100000 in
set_option maxHeartbeats 1000000 in
/-- What the range function of a number yields: the bytes of the form, in order; or the first of them, where a round has said 'no more'. -/
theorem digits1_in (F : Fence) (n : Nat) (h6 : F.fn 84) (hro : F.round = none) (hn : 1 ≤ n) (l Bn x : Nat) (hx : x < 18446744073709551616) (J Jx : List Nat → World → Prop)
    (hY : ∀ pre (z : Nat) W, J pre W → pre.length < (form x).length → YieldAt F (n - 1) Tryz.prog l #[.int .u8 (z : Int)] W fun e W' =>
      (e = .returned (.bool true) ∧ J (pre ++ [z]) W' ∧ True) ∨ (e = .returned (.bool false) ∧ Jx (pre ++ [z]) W'))
    (W : World) (hBn : W.cell? ⟨Bn, 0, none⟩ = some (.int .u64 (x : Int))) (h0 : J [] W) :
    CallsIn F n Tryz.prog 84 #[.func (.yield l) #[] #[], .pointer (some ⟨Bn, 0, none⟩)] W fun e W' => (∃ v, e = .returned v) ∧
      ((∃ ys, ys = form x ∧ J ys W') ∨ (∃ pre, pre <+: form x ∧ Jx pre W')) := by
  refine callsIn_of_wp Tryz.func84 rfl h6 ?_ hro
  simp only [Tryz.ntmps84, List.size_toArray, List.length_cons, List.length_nil, Nat.reduceAdd, Nat.reduceSub, Array.replicate_succ, Array.replicate_zero, List.push_toArray, List.append_toArray, List.nil_append, List.cons_append]
  gi_wp2
  gi_loopw [3] (fun u wr => ∃ (pre : List Nat) (y : Nat), u = .int .u64 y ∧ y < 18446744073709551616 ∧ form x = pre ++ form y ∧ J pre wr) (fun u _ => (intOf u).toNat)
  case atStart => exact ⟨[], x, rfl, hx, rfl, h0⟩
  case round =>
    obtain ⟨pre, y, rfl, hy, hf, hJ⟩ := hrel
    have hlen : pre.length < (form x).length := by rw [hf, List.length_append]; have := form_pos y; omega
    have Hf := Lib.hid hf
    clear hf
    by_cases hlt : 128 ≤ y
    · obtain ⟨fn, tmps, assign, body, hy2, hR⟩ := hY pre (y % 128 + 128) wr hJ hlen
      have ho := or128 y
      rw [show ((y % 128 + 128 : Nat) : Int) = (y : Int) % 128 + 128 by omega] at hy2
      gi_wp2
      refine hR.mono ?_
      rintro e W3 (⟨rfl, hJ3, _⟩ | ⟨rfl, hJx3⟩)
      · gi_wp2
        go_roundw
        case rel => exact ⟨pre ++ [y % 128 + 128], y / 128, by go_num, by omega, by rw [Hf.out, form_big hlt]; simp, hJ3⟩
        case measure => simp [intOf]; omega
      · gi_wp2
        refine bodyPost_ret (results_none rfl _ _ _) rfl ?_
        exact ⟨⟨_, rfl⟩, .inr ⟨pre ++ [y % 128 + 128], ⟨form (y / 128), by rw [Hf.out, form_big hlt]; simp⟩, hJx3⟩⟩
    · obtain ⟨fn, tmps, assign, body, hy2, hR⟩ := hY pre y wr hJ hlen
      have hm : (y : Int) % 256 = (y : Int) := by omega
      gi_wp2
      refine hR.mono ?_
      rintro e W3 (⟨rfl, hJ3, _⟩ | ⟨rfl, hJx3⟩)
      · gi_wp2
        go_end0
        exact ⟨⟨_, rfl⟩, .inl ⟨pre ++ [y], by rw [Hf.out, form_small (by omega)], hJ3⟩⟩
      · gi_wp2
        go_end0
        exact ⟨⟨_, rfl⟩, .inr ⟨pre ++ [y], ⟨[], by rw [Hf.out, form_small (by omega)]; simp⟩, hJx3⟩⟩

set_option maxHeartbeats 1000000 in
/-- digits(x): the number is boxed; the function value captures the box. -/
theorem digits_in (F : Fence) (n : Nat) (h5 : F.fn 52) (hro : F.round = none) (x : Nat) (w : World) :
    CallsIn F n Tryz.prog 52 #[.int .u64 (x : Int)] w fun e w' => e = .returned (.func (.func 84) #[] #[.pointer (some ⟨w.heap.size, 0, none⟩)]) ∧ w' = w.alloc (.cells #[.int .u64 (x : Int)] 22) := by
  refine callsIn_of_wp Tryz.func52 rfl h5 ?_ hro
  simp only [Tryz.ntmps52, List.size_toArray, List.length_cons, List.length_nil, Nat.reduceAdd, Nat.reduceSub, Array.replicate_succ, Array.replicate_zero, List.push_toArray, List.append_toArray, List.nil_append, List.cons_append]
  gi_wp2
  go_ret
  exact ⟨rfl, rfl⟩

theorem digits_stops (F : Fence) (n : Nat) (h6 : F.fn 84) (hro : F.round = none) (hn : 1 ≤ n) (Bn x : Nat) (hx : x < 18446744073709551616) (w : World) (hBn : Bn < w.heap.size)
    (hc : w.cell? ⟨Bn, 0, none⟩ = some (.int .u64 (x : Int))) :
    SeqStopsK F n Tryz.prog 84 #[.pointer (some ⟨Bn, 0, none⟩)] (fun z : Nat => #[Value.int .u8 (z : Int)]) (fun _ _ => True) (fun ys => ys = form x) (fun pre => pre <+: form x) (form x).length w := fun l J Jx W hW _ _ hY h0 =>
  digits1_in F n h6 hro hn l Bn x hx J Jx hY W ((hW.cell (p := ⟨Bn, 0, none⟩) hBn).trans hc) h0

set_option maxRecDepth 100000 in
set_option maxHeartbeats 2000000 in
theorem uint_in (F : Fence) (n : Nat) (h3 : F.fn 22) (h4 : F.fn 52) (h5 : F.fn 84) (hro : F.round = none) (hn : 3 ≤ n) (x : Nat) (hx : x < 18446744073709551616) (w : World) :
    CallsIn F n Tryz.prog 22 #[.int .u64 (x : Int)] w (NewBytes w (form x)) := by
  have h1 : 1 ≤ n := by omega
  have hten := form_len hx
  obtain ⟨i0, hi, hz0, hz1, hz2⟩ := info_parts info_u8
  refine callsIn_of_wp_marks Tryz.func22 rfl h3 ?_ hro
  simp only [Tryz.ntmps22, List.size_toArray, List.length_cons, List.length_nil, Nat.reduceAdd, Nat.reduceSub, Array.replicate_succ, Array.replicate_zero, List.push_toArray, List.append_toArray, List.nil_append, List.cons_append]
  gi_wp2_with (gi_at_call 52; refine (digits_in F (n - 1) h4 hro _ _).mono ?_; rintro e w' ⟨rfl, rfl⟩)
  have bO := Boxed.new w 28 (.slice none 0 0)
  have bN := Boxed.new (w.alloc (.cells #[.slice none 0 0] 28)) 22 (.int .u64 (x : Int))
  rw [World.size_alloc] at bN
  have hB0 : Below w.heap.size w ((w.alloc (.cells #[.slice none 0 0] 28)).alloc (.cells #[.int .u64 (x : Int)] 22)) := ((Below.refl _ w).alloc (Nat.le_refl _) _).alloc (by simp) _
  refine wpIn_rangeFunc_ownG hro h1 (gf := 84) (lb := #[.pointer (some ⟨w.heap.size + 1, 0, none⟩)]) rfl h5 (enters_of Tryz.func84 (by kernel_rfl) rfl)
    (digits_stops F (n - 1) h5 hro (by omega) (w.heap.size + 1) x hx _ (by simp) bN.cell) (fun _ _ => trivial) (fun _ _ _ _ _ _ _ _ => trivial) (Below.refl _ _) (fun _ => rfl)
    (fun pre W => (∃ v, Boxed W w.heap.size 28 v ∧ W.ownsRow w.heap.size 5 1 v pre.length (u8s pre) ∧ True) ∧ Below w.heap.size w W)
    (fun _ _ _ => False)
    (OwnFrom.and (Own.from (holdsRow_own w.heap.size w.heap.size 28 5 1 (fun pre => pre.length) (fun pre => u8s pre) (fun _ _ => True)) _) (ownFrom_below (Nat.le_refl _) (by simp; omega)))
    (fun _ _ _ _ _ hs _ _ => hs)
    ⟨⟨_, bO.alloc _, World.ownsRow_nil _ _ _ _, trivial⟩, hB0⟩
    (fun z => { tmps := #[.int .u64 (x : Int), undef, .slice none 0 0, .pointer (some ⟨w.heap.size, 0, none⟩), .int .u8 (z : Int), .int .u64 (x : Int), .func (.func 84) #[] #[.pointer (some ⟨w.heap.size + 1, 0, none⟩)], .int .u8 (z : Int), undef, undef, undef, undef, undef], defers := [] }) ?assign ?body ?done ?stop
  case assign =>
    intro l z W K hK
    gi_wp2
    exact hK
  case body =>
    rintro l pre z W ⟨⟨v, hv, hrow, _⟩, hB⟩ hlt
    have hc := hv.cell
    gi_wp2_with (gi_at_builtin; refine wpListIn_append_own _ rfl _ _ 28 rfl w.heap.size 5 i0 (.int .u8 0) 1 1 Tryz.underlying28 hi hz0 hz1 hz2 rfl (by decide) _ _ _ rfl (hrow.alloc _) ⟨W.heap.size, 0, none⟩ 1 1 [.int .u8 (z : Int)] rfl rfl (cell_one_new _ _ _) (by simp [Value.oneCell']) (by rw [maxLen_nat]; omega) (by omega) (by have := hB.size; simp; omega) ?_; intro v' w1 hown' hgrow _; obtain ⟨g', cap', rfl⟩ := ownsRow_succ hown'; obtain ⟨hv1, hv2, hr2, hk2, hb2⟩ := hv.appended (by decide) hrow hB.size (Nat.le_refl _) hown' hgrow; have hc1 := hv1.cell; have hf1 := hv1.frozen)
    exact ⟨hk2.from _, trivial, ⟨_, hv2, by rw [List.length_append, u8s_append]; exact hr2, trivial⟩, hB.trans hb2⟩
  case done =>
    rintro D ys W hD rfl ⟨⟨v, hv, hrow, _⟩, hB⟩ hK
    have hc := hv.cell
    gi_wp2
    refine ⟨by simp, .inl ⟨_, _, rfl, run_takeDeferred hK, ?_⟩⟩
    exact ⟨_, results_tmp rfl _ _ _, v, rfl, ownsRow_putObj hrow _ hK rfl, hB.trans (belowK_b (w := w) (Nat.le_refl _) W D _ _ (by simp at hD; omega) hK rfl rfl)⟩
  case stop =>
    rintro D c pre W _ _ h _
    exact h.elim

theorem uint_any (x : Nat) (w : World) (hx : x < 18446744073709551616) : Calls Tryz.prog 22 #[.int .u64 (x : Int)] w (NewBytes w (form x)) :=
  (callsIn_wide (n := 3)).1 (uint_in Fence.wide 3 trivial trivial trivial rfl (Nat.le_refl _) x hx w)
end Go.Proofs.YtcapbaocchaenaaGreatDoor

/- The walks of Int, of the code and of the reference, and of what they call. -/
namespace Go.Proofs.YtcapbaocchaenaaGreatDoor
open Go.RowKit

set_option maxRecDepth 100000 in
theorem fold_any (y : Int) (w : World) (h1 : -9223372036854775808 ≤ y) (h2 : y ≤ 9223372036854775807) :
    Calls Tryz.prog 208 #[.int .i64 y] w fun e w' => e = .returned (.int .u64 (foldL y : Nat)) ∧ w = w' := by
  by_cases h : 0 ≤ y
  · go_enter Tryz.func208, Tryz.ntmps208
    go_wp2
    go_ret
    refine ⟨ret_u64 ?_, rfl⟩
    unfold foldL
    rw [if_pos h]
    omega
  · have h' : y < 0 := by omega
    go_enter Tryz.func208, Tryz.ntmps208
    go_wp2
    go_ret
    refine ⟨ret_u64 ?_, rfl⟩
    have e : IntKind.u64.wrap (IntKind.u64.wrap y * 2) = ((18446744073709551616 + 2 * y).toNat : Int) := by
      rw [IntKind.wrap_u64, IntKind.wrap_u64]
      omega
    rw [e, not_u64 _ (by omega)]
    unfold foldL
    rw [if_neg (show ¬ 0 ≤ y by omega)]
    omega

theorem int_any (y : Int) (w : World) (h1 : -9223372036854775808 ≤ y) (h2 : y ≤ 9223372036854775807) :
    Calls Tryz.prog 206 #[.int .i64 y] w (NewBytes w (form (foldL y))) := by
  have hl := fold_lt h1 h2
  go_enter Tryz.func206, Tryz.ntmps206
  go_wp2_with fail
  refine (fold_any y w h1 h2).mono ?_
  rintro e w1 ⟨rfl, rfl⟩
  go_wp2_with fail
  refine (uint_any _ w hl).mono ?_
  rintro e w1 ⟨v, rfl, hv⟩
  go_wp2
  go_ret
  exact ⟨v, rfl, hv⟩

end Go.Proofs.YtcapbaocchaenaaGreatDoor

/- The walks of Bytes and Text, of the code and of the reference, and of the examples of the chapter. -/
namespace Go.Proofs.YtcapbaocchaenaaGreatDoor
open Go.RowKit

theorem strCells_str {l : List Nat} (h : ∀ x ∈ l, x < 256) : Lib.strCells (str l) = u8s l := by
  unfold Lib.strCells u8s str
  rw [List.map_map]
  refine List.map_congr_left (fun x hx => ?_)
  have := h x hx
  simp [UInt8.toNat_ofNat']
  omega

/-- The form of bytes. -/
def formB (l : List Nat) : List Nat := form l.length ++ l

theorem formB_byte {l : List Nat} (h : ∀ x ∈ l, x < 256) : ∀ x ∈ formB l, x < 256 := by
  intro x hx
  rcases List.mem_append.1 hx with hx | hx
  · exact form_byte _ x hx
  · exact h x hx

theorem textF_any (l : List Nat) (w : World) (hl : ∀ x ∈ l, x < 256) (hn : l.length ≤ 100000000000000) :
    Calls Tryz.prog 21 #[.string (str l)] w (NewBytes w (formB l)) := by
  have h10 := form_len (x := l.length) (by omega)
  obtain ⟨i0, hi, hz0, hz1, hz2⟩ := info_parts info_u8
  have hs := str_size l
  have hsc := Lib.hid (strCells_str hl)
  have hF : NewBytes w (formB l) = NewBytes w (form (str l).size ++ l) := by rw [hs]; rfl
  rw [hF]
  rw [← hs] at h10 hn
  have HS := Lib.hid hs
  clear hF hs
  go_enter Tryz.func21, Tryz.ntmps21
  go_wp2_with fail
  refine (uint_any _ w (by omega)).mono ?_
  rintro e w1 ⟨v, rfl, hown, hb1⟩
  have Hown := Lib.hid hown
  clear hown
  go_wp2_with (at_builtin; refine Lib.wpList_append_own_string _ rfl _ _ 28 9 rfl w.heap.size 5 i0 Tryz.underlying28 Tryz.underlying9 hi hz0 hz1 hz2 _ _ _ rfl Hown.out (str l) rfl (by rw [maxLen_nat]; omega) (by omega) hb1.size ?_; intro v' w2 g1 g2 _)
  go_ret
  refine ⟨_, rfl, ?_, hb1.grown g2 hb1.size (fun k hk => (Hown.out.lt k hk).1)⟩
  rw [List.length_append, ← HS.out, u8s_append, ← hsc.out]
  exact g1
end Go.Proofs.YtcapbaocchaenaaGreatDoor

/- The forms of contents. -/
namespace Go.Proofs.YtcapbaocchaenaaGreatDoor
open Go.RowKit Go.Shelf Fl

/-- The 8 bytes of a number, the highest first. -/
def be8 (x : Nat) : List Nat := (List.range 8).map fun p => x / 2 ^ (8 * (7 - p)) % 256

theorem be8_byte (x : Nat) : ∀ c ∈ be8 x, c < 256 := by
  intro c hc
  unfold be8 at hc
  obtain ⟨p, _, rfl⟩ := List.mem_map.1 hc
  exact Nat.mod_lt _ (by omega)

theorem nilForm_any (w : World) : Calls Tryz.prog 202 #[.agg #[]] w (NewBytes w []) := by
  go_enter Tryz.func202, Tryz.ntmps202
  go_wp2
  go_ret
  exact ⟨_, rfl, World.ownsRow_nil _ _ _ _, (Below.refl _ _).alloc (Nat.le_refl _) _⟩

theorem intForm_any (n : Int) (w : World) (h0 : -9223372036854775808 ≤ n) (h1 : n ≤ 9223372036854775807) :
    Calls Tryz.prog 204 #[.int .i64 n] w (NewBytes w (form (foldL n))) := by
  have H := Lib.hid (int_any n w h0 h1)
  clear h0 h1
  go_enter Tryz.func204, Tryz.ntmps204
  go_wp2_with fail
  refine H.out.mono ?_
  rintro e w' ⟨v, rfl, hv⟩
  have Hv := Lib.hid hv
  clear hv
  go_wp2
  go_ret
  exact ⟨_, rfl, Hv.out⟩

theorem textForm_any (s : List Nat) (w : World) (hs : ∀ c ∈ s, c < 256) (hn : s.length ≤ 1000000) :
    Calls Tryz.prog 221 #[.string (str s)] w (NewBytes w (formB s)) := by
  have H := Lib.hid (textF_any s w hs (by omega))
  clear hs hn
  go_enter Tryz.func221, Tryz.ntmps221
  go_wp2_with fail
  refine H.out.mono ?_
  rintro e w' ⟨v, rfl, hv⟩
  have Hv := Lib.hid hv
  clear hv
  go_wp2
  go_ret
  exact ⟨_, rfl, Hv.out⟩

theorem listForm_any (a : Option Addr) (len cap : Nat) (w : World) (hl : len < 18446744073709551616) :
    Calls Tryz.prog 223 #[.slice a len cap] w (NewBytes w (form len)) := by
  have H := Lib.hid (uint_any len w hl)
  go_enter Tryz.func223, Tryz.ntmps223
  go_wp2_with fail
  refine H.out.mono ?_
  rintro e w' ⟨v, rfl, hv⟩
  have Hv := Lib.hid hv
  clear hv
  go_wp2
  go_ret
  exact ⟨_, rfl, Hv.out⟩

/-- The row of bytes behind j rounds. -/
def bcell (x j p : Nat) : Value := if 8 ≤ p + j then .int .u8 ((x / 2 ^ (8 * (7 - p)) % 256 : Nat) : Int) else .int .u8 0

set_option maxRecDepth 100000 in
theorem floatForm_any (f : Nat) (w : World) (hf : f < 18446744073709551616) :
    Calls Tryz.prog 209 #[.float .f64 f] w (NewBytes w (be8 (bitsB f))) := by
  have HB := Lib.hid (fun w => bits_any f w hf)
  have hx := bitsB_lt hf
  clear hf
  generalize bitsB f = x at *
  have hmk : ∀ w : World, (Instr.makeSlice 28 (.int .i64 8) (.int .i64 8)).run Tryz.prog w = .ok (.slice (some ⟨w.heap.size, 0, none⟩) 8 8) (w.alloc (.cells (madeCells #[.int .u8 0] 8) 5)) := fun w =>
    run_make_row' (P := Tryz.prog) 28 5 (.int .u8 0) 1 Tryz.underlying28 info_u8 rfl .i64 .i64 8 (by omega) (by omega) w
  have H0 := Lib.hid ((World.rowIs_made w (.int .u8 0) 8 5).congr (g := bcell x 0) (fun i hi => by unfold bcell; rw [if_neg (by omega)]))
  have Hb0 := Lib.hid ((Below.refl w.heap.size w).alloc (Nat.le_refl _) (.cells (madeCells #[Value.int .u8 0] 8) 5))
  go_enter Tryz.func209, Tryz.ntmps209
  go_wp2_with fail
  refine (HB.out _).mono ?_
  rintro e w' ⟨rfl, rfl⟩
  go_wp2
  generalize w.alloc (.cells (madeCells #[.int .u8 0] 8) 5) = w1 at *
  go_loopw [11] (fun i wr => ∃ j : Nat, j ≤ 8 ∧ i = .int .i64 (j : Int) ∧ wr.rowIs w.heap.size 5 8 (bcell x j) ∧ Below w.heap.size w wr) (fun i _ => 8 - (intOf i).toNat)
  case atStart => exact ⟨0, by omega, rfl, H0.out, Hb0.out⟩
  case round =>
    obtain ⟨j, hj, rfl, hrow, hbel⟩ := hrel
    have Hrow := Lib.hid hrow
    have Hbel := Lib.hid hbel
    by_cases hlt : j < 8
    · have hcell := hrow.cell (show 7 - j < 8 by omega)
      have hfz := hrow.frozen (7 - j)
      have Hset := Lib.hid (fun (u : Value) (hu : u = .int .u8 ((x / 2 ^ (8 * j) % 256 : Nat) : Int)) => (hrow.set (7 - j) u).congr (g := bcell x (j + 1)) (fun k hk => by
        unfold bcell
        by_cases e : k = 7 - j
        · rw [if_pos e, if_pos (by omega), hu, show 7 - k = j by omega]
        · rw [if_neg e]
          by_cases h2 : 8 ≤ k + j
          · rw [if_pos h2, if_pos (by omega)]
          · rw [if_neg h2, if_neg (by omega)]))
      clear hrow hbel hj
      rcases (show j = 0 ∨ j = 1 ∨ j = 2 ∨ j = 3 ∨ j = 4 ∨ j = 5 ∨ j = 6 ∨ j = 7 by omega) with rfl | rfl | rfl | rfl | rfl | rfl | rfl | rfl
      · go_wp2
        case roundEnd => exact ⟨⟨1, by omega, rfl, Hset.out _ (by simp only [Nat.reduceMul, Nat.reducePow]; congr 1; omega), Hbel.out.setCell (Nat.le_refl _) _⟩, by simp [intOf]⟩
      · go_wp2
        case roundEnd => exact ⟨⟨2, by omega, rfl, Hset.out _ (by simp only [Nat.reduceMul, Nat.reducePow]; congr 1), Hbel.out.setCell (Nat.le_refl _) _⟩, by simp [intOf]⟩
      · go_wp2
        case roundEnd => exact ⟨⟨3, by omega, rfl, Hset.out _ (by simp only [Nat.reduceMul, Nat.reducePow]; congr 1), Hbel.out.setCell (Nat.le_refl _) _⟩, by simp [intOf]⟩
      · go_wp2
        case roundEnd => exact ⟨⟨4, by omega, rfl, Hset.out _ (by simp only [Nat.reduceMul, Nat.reducePow]; congr 1), Hbel.out.setCell (Nat.le_refl _) _⟩, by simp [intOf]⟩
      · go_wp2
        case roundEnd => exact ⟨⟨5, by omega, rfl, Hset.out _ (by simp only [Nat.reduceMul, Nat.reducePow]; congr 1), Hbel.out.setCell (Nat.le_refl _) _⟩, by simp [intOf]⟩
      · go_wp2
        case roundEnd => exact ⟨⟨6, by omega, rfl, Hset.out _ (by simp only [Nat.reduceMul, Nat.reducePow]; congr 1), Hbel.out.setCell (Nat.le_refl _) _⟩, by simp [intOf]⟩
      · go_wp2
        case roundEnd => exact ⟨⟨7, by omega, rfl, Hset.out _ (by simp only [Nat.reduceMul, Nat.reducePow]; congr 1), Hbel.out.setCell (Nat.le_refl _) _⟩, by simp [intOf]⟩
      · go_wp2
        case roundEnd => exact ⟨⟨8, by omega, rfl, Hset.out _ (by simp only [Nat.reduceMul, Nat.reducePow]; congr 1; omega), Hbel.out.setCell (Nat.le_refl _) _⟩, by simp [intOf]⟩
    · obtain rfl : j = 8 := by omega
      have Hown := Lib.hid (show wr.ownsRow w.heap.size 5 1 (.slice (some ⟨w.heap.size, 0, none⟩) 8 8) 8 (u8s (be8 x)) from by
        obtain ⟨c, hb, hn, hc⟩ := hrow
        refine ⟨by simp [u8s, be8], .inr ⟨w.heap.size, 8, c, rfl, Nat.le_refl _, hb, Nat.le_refl _, by rw [maxLen_nat]; omega, by rw [hn], ?_⟩⟩
        apply List.ext_getElem?
        intro k
        rw [List.getElem?_take]
        by_cases hk : k < 8
        · rw [if_pos (by omega), Array.getElem?_toList, hc k hk]
          unfold bcell u8s be8
          rw [if_pos (by omega), List.map_map, List.getElem?_map, List.getElem?_range hk]
          rfl
        · rw [if_neg (by omega), List.getElem?_eq_none (by simp [u8s, be8]; omega)])
      clear hrow hbel hj hlt
      go_wp2
      go_ret
      exact ⟨_, rfl, by rw [show (be8 x).length = 8 by simp [be8]]; exact Hown.out, Hbel.out⟩
end Go.Proofs.YtcapbaocchaenaaGreatDoor

/- How a content answers form; the bytes that one value adds to a form. -/
namespace Go.Proofs.YtcapbaocchaenaaGreatDoor
open Go.RowKit Go.Shelf Fl

theorem fmeth_nil (n : Nat) (w : World) : (method (n + 1) 123 (.agg #[]) "clockwork/value.form").run Tryz.prog w = .ok (202, .agg #[]) w := by kernel_rfl
theorem fmeth_int (n : Nat) (x : Int) (w : World) : (method (n + 1) 124 (.int .i64 x) "clockwork/value.form").run Tryz.prog w = .ok (204, .int .i64 x) w := by kernel_rfl
theorem fmeth_float (n : Nat) (x : Nat) (w : World) : (method (n + 1) 125 (.float .f64 x) "clockwork/value.form").run Tryz.prog w = .ok (209, .float .f64 x) w := by kernel_rfl
theorem fmeth_text (n : Nat) (x : ByteArray) (w : World) : (method (n + 1) 126 (.string x) "clockwork/value.form").run Tryz.prog w = .ok (221, .string x) w := by kernel_rfl
theorem fmeth_list (n : Nat) (a : Option Addr) (len cap : Nat) (w : World) : (method (n + 1) 127 (.slice a len cap) "clockwork/value.form").run Tryz.prog w = .ok (223, .slice a len cap) w := by kernel_rfl

def FormAt (con : Value) (bs : List Nat) : Prop :=
  ∃ (T : TypeId) (v : Value) (f : FuncId), con = .iface T v ∧ (∀ (n : Nat) (w : World), (method (n + 1) T v "clockwork/value.form").run Tryz.prog w = .ok (f, v) w) ∧ (∀ args w, (callFunc f args).run Tryz.prog w = .ok (.enter f args) w) ∧
    ∀ w, Calls Tryz.prog f #[v] w (NewBytes w bs)

/-- What the form of a value has behind the kind, but not the values in it. -/
def contF (k n : Int) (f : Nat) (s : List Nat) (len : Nat) : List Nat :=
  if k = 1 then form (foldL n) else if k = 2 then be8 (bitsB f) else if k = 3 then formB s else if k = 4 then form len else []

def pieceV (v : V) : List Nat := form v.kind.toNat ++ contF v.kind v.n v.f v.s v.l.length

theorem contF_byte {k n : Int} {f : Nat} {s : List Nat} {len : Nat} (hs : ∀ c ∈ s, c < 256) : ∀ c ∈ contF k n f s len, c < 256 := by
  unfold contF
  split
  · exact form_byte _
  split
  · exact be8_byte _
  split
  · exact formB_byte hs
  split
  · exact form_byte _
  · simp

theorem formAt_any {k n : Int} {f : Nat} {s : List Nat} (a : Option Addr) {len cap : Nat} (hk : 0 ≤ k ∧ k ≤ 4) (hn : -9223372036854775808 ≤ n ∧ n ≤ 9223372036854775807) (hf : f < 18446744073709551616) (hs : ∀ c ∈ s, c < 256) (hsn : s.length ≤ 1000000) (hl : len < 18446744073709551616) :
    FormAt (conOf k n f s a len cap) (contF k n f s len) := by
  unfold conOf contF
  by_cases h0 : k = 0
  · subst h0
    rw [if_pos rfl, if_neg (by decide), if_neg (by decide), if_neg (by decide), if_neg (by decide)]
    exact ⟨_, _, _, rfl, fun n w => fmeth_nil n w, enters_of Tryz.func202 (by kernel_rfl) rfl, fun w => nilForm_any w⟩
  rw [if_neg h0]
  by_cases h1 : k = 1
  · rw [if_pos h1, if_pos h1]
    exact ⟨_, _, _, rfl, fun n w => fmeth_int n _ w, enters_of Tryz.func204 (by kernel_rfl) rfl, fun w => intForm_any n w hn.1 hn.2⟩
  rw [if_neg h1, if_neg h1]
  by_cases h2 : k = 2
  · rw [if_pos h2, if_pos h2]
    exact ⟨_, _, _, rfl, fun n w => fmeth_float n _ w, enters_of Tryz.func209 (by kernel_rfl) rfl, fun w => floatForm_any f w hf⟩
  rw [if_neg h2, if_neg h2]
  by_cases h3 : k = 3
  · rw [if_pos h3, if_pos h3]
    exact ⟨_, _, _, rfl, fun n w => fmeth_text n _ w, enters_of Tryz.func221 (by kernel_rfl) rfl, fun w => textForm_any s w hs hsn⟩
  have h4 : k = 4 := by omega
  rw [if_neg h3, if_neg h3, if_pos h4, if_pos h4]
  exact ⟨_, _, _, rfl, fun n w => fmeth_list n _ _ _ w, enters_of Tryz.func223 (by kernel_rfl) rfl, fun w => listForm_any a len cap w hl⟩

/-- The form so far, in its box. -/
def FormJ (B bs : Nat) (acc : List V) (w : World) : Prop := ∃ v, Boxed w bs 28 v ∧ w.ownsRow B 5 1 v (acc.flatMap pieceV).length (u8s (acc.flatMap pieceV))

/-- 'b = append(b, p...)' of bytes as one step of a region that draws. -/
theorem step_append_bytes {ops : Array Oper} {o : Oper} {a : Act} {w : World} {K : Act → World → Prop} {Q : Exit → Act → World → Prop} {E : Prop} (hgd : o.guard = none) (s x : Operand)
    (ho : o.op = .call { callee := .builtin .append, args := #[s, x], argTypes := #[28, 28] })
    (base : Nat) (v : Value) (l : List Nat) (hs : a.eval s = v) (hown : w.ownsRow base 5 1 v l.length (u8s l))
    (p : Option Addr) (m c : Nat) (l' : List Nat) (hx : a.eval x = .slice p m c) (hB : Bytes w p m c l')
    (hbytes : l.length + m ≤ 140737488355328) (hbase : base ≤ w.heap.size) (hpos : 0 < l.length + m)
    (h : ∀ g cap w', w'.ownsRow base 5 1 (.slice (some ⟨g, 0, none⟩) (l ++ l').length cap) (l ++ l').length (u8s (l ++ l')) → w.grownBy w' v.ownBlock → (v.ownBlock = some g ∨ w.heap.size ≤ g) → K (a.put o.dst (.slice (some ⟨g, 0, none⟩) (l ++ l').length cap)) w') :
    if Region.wanted o (yielded ops a.tmps) = true then Oper.wp Tryz.prog o a w K Q else E := by
  obtain ⟨i, hi, hz, hsz, hby⟩ := info_parts info_u8
  have hw : Region.wanted o (yielded ops a.tmps) = true := by simp [Region.wanted, hgd]
  rw [if_pos hw]
  have hlen : (l ++ l').length = l.length + m := by rw [List.length_append, hB.len]
  cases p with
  | none =>
    obtain rfl : c = 0 := hB.nil rfl
    obtain rfl : m = 0 := by have := hB.le; omega
    obtain rfl : l' = [] := List.length_eq_zero_iff.1 hB.len
    have hrun := run_append_owned_none (P := Tryz.prog) (w := w) base 28 o.type 5 i 1 Tryz.underlying28 hi v l.length (u8s l) hown
    obtain ⟨g, cap, rfl, hg1, hg2⟩ := hown.form (by omega)
    unfold Oper.wp
    have hh := h g cap w (by simpa using hown) ⟨rfl, rfl, rfl, Nat.le_refl _, fun _ _ _ => rfl⟩ (.inl rfl)
    simp [execOp, ho, resolve, invoke, builtin, hs, hx, hrun, Result.andThen]
    rw [Oper.upon_value]
    simpa using hh
  | some ad =>
    obtain ⟨v', w', hr, h2, h3, _, h5⟩ := run_append_own_at (P := Tryz.prog) w base 28 o.type 5 i (.int .u8 0) 1 1 Tryz.underlying28 hi hz hsz hby rfl (by omega) v l.length (u8s l) hown ad m c (u8s l') (by simp [u8s, hB.len]) (fun j u hu => by
      obtain ⟨hj, rfl⟩ := u8s_get hu
      have hj' : j < m := by rw [← hB.len]; exact hj
      obtain ⟨b, o', e1, hc⟩ := hB.cell (by omega)
      cases e1
      have hadd : (⟨b, o', none⟩ : Addr).add j = ⟨b, o' + j, none⟩ := by unfold Addr.add; split <;> simp_all
      rw [hadd]
      exact hc j hj') (u8s_one l') (by rw [maxLen_nat]; omega) (by omega) hbase
    rw [← u8s_append, ← hlen] at h2
    obtain ⟨g, cap, rfl, hg1, hg2⟩ := h2.form (by omega)
    unfold Oper.wp execOp
    simp only [ho, resolve, invoke, builtin, Sem.run_bind, Sem.run_pure, Result.andThen_ok, List.map_toArray, List.map_cons, List.map_nil, hs, hx, hr]
    refine h g cap w' h2 h3 ?_
    rcases h5 with h5 | h5
    · exact .inl h5.symm
    · have : g = w.heap.size := by simpa [Value.ownBlock] using h5
      exact .inr (by omega)

theorem neB : 28 ≠ 5 := by decide

/-- The box and the row behind 'form = append(form, ..)'. -/
theorem form_step {B bs g cap n : Nat} {L N : List Nat} {w1 w2 w3 : World} {u : Value} (hbs : B ≤ bs) (hB : B ≤ w1.heap.size) (hb : Boxed w1 bs 28 u) (hrow : w1.ownsRow B 5 1 u L.length (u8s L)) (hbel : Below w1.heap.size w1 w2) (hn : N.length = n)
    (h1 : w3.ownsRow B 5 1 (.slice (some ⟨g, 0, none⟩) N.length cap) N.length (u8s N)) (h2 : w2.grownBy w3 u.ownBlock) (h3 : u.ownBlock = some g ∨ w2.heap.size ≤ g) :
    (w3.cell? ⟨bs, 0, none⟩ = some u ∧ w3.frozen? ⟨bs, 0, none⟩ = false) ∧
    Boxed (w3.setCell ⟨bs, 0, none⟩ (.slice (some ⟨g, 0, none⟩) n cap)) bs 28 (.slice (some ⟨g, 0, none⟩) n cap) ∧
    (w3.setCell ⟨bs, 0, none⟩ (.slice (some ⟨g, 0, none⟩) n cap)).ownsRow B 5 1 (.slice (some ⟨g, 0, none⟩) n cap) n (u8s N) ∧
    Below B w1 (w3.setCell ⟨bs, 0, none⟩ (.slice (some ⟨g, 0, none⟩) n cap)) ∧
    (∀ b, b < w1.heap.size → b ≠ bs → u.ownBlock ≠ some b → (w3.setCell ⟨bs, 0, none⟩ (.slice (some ⟨g, 0, none⟩) n cap)).heap[b]? = w1.heap[b]?) ∧ (u.ownBlock = some g ∨ w1.heap.size ≤ g) := by
  subst hn
  have hlt := hb.lt
  have hne : some bs ≠ u.ownBlock := hb.not_row neB hrow
  have hb2 : Boxed w2 bs 28 u := (hbel.block bs hlt).trans hb
  have hb3 : Boxed w3 bs 28 u := hb2.kept h2 hne
  have hrowb : ∀ k, u.ownBlock = some k → B ≤ k := fun k hk => (hrow.lt k hk).1
  have hgne : bs ≠ g := by
    have := hb3.not_row neB h1
    intro e
    exact this (by rw [e]; rfl)
  refine ⟨⟨hb3.cell, hb3.frozen⟩, hb3.set _, ?_, ?_, fun b hbl hbn hbu => ?_, ?_⟩
  · refine ⟨h1.1, ?_⟩
    rcases h1.2 with hn | ⟨g', cap', cur, e, hbg, hg, rest⟩
    · exact .inl hn
    · have e2 : g = g' := by
        have := congrArg Value.ownBlock e
        simpa [Value.ownBlock] using this
      exact .inr ⟨g', cap', cur, e, hbg, (Below.heap_setCell _ _ _ _ (by rw [← e2]; exact fun h => hgne h.symm)).trans hg, rest⟩
  · exact ((hbel.mono hB).grown h2 (by have := hbel.size; omega) hrowb).setCell hbs _
  · rw [Below.heap_setCell _ _ _ _ hbn, h2.block b (by have := hbel.size; omega) (fun e => hbu e.symm), hbel.block b hbl]
  · exact h3.imp id (fun h => by have := hbel.size; omega)

theorem keep5b {w w' : World} {p : Nat} {a b c d e : Value} (hb : w'.heap[p]? = w.heap[p]?)
    (h : w.cell? ⟨p, 0, none⟩ = some a ∧ w.cell? ⟨p, 1, none⟩ = some b ∧ w.cell? ⟨p, 2, none⟩ = some c ∧ w.cell? ⟨p, 3, none⟩ = some d ∧ w.cell? ⟨p, 4, none⟩ = some e) :
    w'.cell? ⟨p, 0, none⟩ = some a ∧ w'.cell? ⟨p, 1, none⟩ = some b ∧ w'.cell? ⟨p, 2, none⟩ = some c ∧ w'.cell? ⟨p, 3, none⟩ = some d ∧ w'.cell? ⟨p, 4, none⟩ = some e := by
  unfold World.cell? at *
  rw [hb]
  exact h

theorem visit_done {B bs g n4 cap3 n8 : Nat} {w w1 w4 w8 : World} {u v8 : Value} {N N' : List Nat} (hbw : Boxed w bs 28 u) (hB : B ≤ w.heap.size) (hal : Below w.heap.size w w1)
    (s4 : Below B w1 w4) (o4 : ∀ b, b < w1.heap.size → b ≠ bs → u.ownBlock ≠ some b → w4.heap[b]? = w1.heap[b]?) (q4 : u.ownBlock = some g ∨ w1.heap.size ≤ g)
    (b8 : Boxed w8 bs 28 v8) (r8 : w8.ownsRow B 5 1 v8 n8 (u8s N)) (s8 : Below B w4 w8) (o8 : ∀ b, b < w4.heap.size → b ≠ bs → (Value.slice (some ⟨g, 0, none⟩) n4 cap3).ownBlock ≠ some b → w8.heap[b]? = w4.heap[b]?) (hN : N = N') :
    (∃ u, Boxed w8 bs 28 u ∧ w8.ownsRow B 5 1 u N'.length (u8s N')) ∧ Below B w w8 ∧ ∀ b, b < w.heap.size → b ≠ bs → (∀ u, Boxed w bs 28 u → u.ownBlock ≠ some b) → w8.heap[b]? = w.heap[b]? := by
  subst hN
  have hn : n8 = N.length := by have := r8.1; simp [u8s] at this; omega
  subst hn
  refine ⟨⟨v8, b8, r8⟩, (hal.mono hB).trans (s4.trans s8), fun b hb hne hno => ?_⟩
  have h1 := hno u hbw
  have hs1 := hal.size
  have hs4 := s4.size
  rw [o8 b (by omega) hne, o4 b (by omega) hne h1, hal.block b hb]
  intro e
  have e2 : g = b := by simpa [Value.ownBlock] using e
  rcases q4 with h | h
  · exact h1 (by rw [h, e2])
  · omega

set_option maxRecDepth 100000 in
set_option maxHeartbeats 3200000 in
theorem visit_bytes (B bs : Nat) (hbs : B ≤ bs) (acc : List V) (v : V) (x : Array Value) (d : Nat) (w : World) (hJ : FormJ B bs acc w) (hB : B ≤ w.heap.size) (hv : VIn w v x) (hk : 0 ≤ v.kind ∧ v.kind ≤ 4) (hsn : v.s.length ≤ 1000000) (hln : v.l.length < 18446744073709551616)
    (hlen : ((acc ++ [v]).flatMap pieceV).length ≤ 10000000) :
    Calls Tryz.prog 163 #[.agg x, .int .i64 (d : Int), .pointer (some ⟨bs, 0, none⟩)] w fun e w' => e = .returned (.bool true) ∧ FormJ B bs (acc ++ [v]) w' ∧ Below B w w' ∧
      ∀ b, b < w.heap.size → b ≠ bs → (∀ u, Boxed w bs 28 u → u.ownBlock ≠ some b) → w'.heap[b]? = w.heap[b]? := by
  obtain ⟨u, hb, hrow⟩ := hJ
  obtain ⟨_, hn, hf, hs, _, a, cap, rfl, _⟩ := hv.parts
  obtain ⟨kk, hkk⟩ : ∃ kk : Nat, v.kind = (kk : Int) := ⟨v.kind.toNat, by omega⟩
  have hk4 : (kk : Int) ≤ 4 := by omega
  have hwrap : IntKind.u64.wrap (kk : Int) = (kk : Int) := by
    rcases (show kk = 0 ∨ kk = 1 ∨ kk = 2 ∨ kk = 3 ∨ kk = 4 by omega) with rfl | rfl | rfl | rfl | rfl <;> decide
  have Hfa := Lib.hid (formAt_any a (cap := cap) hk hn hf hs hsn hln)
  have HC := Lib.hid (fun w => contentOf_any v.kind v.n v.f v.s a v.l.length cap w)
  have hpiece : pieceV v = form kk ++ contF v.kind v.n v.f v.s v.l.length := by unfold pieceV; rw [hkk]; rfl
  have Hc8 := Lib.hid (contF_byte (k := v.kind) (n := v.n) (f := v.f) (len := v.l.length) hs)
  rw [List.flatMap_append] at hlen
  have Hflat := Lib.hid (show (acc ++ [v]).flatMap pieceV = acc.flatMap pieceV ++ (form kk ++ contF v.kind v.n v.f v.s v.l.length) from by rw [List.flatMap_append, ← hpiece]; simp)
  have Hlen := Lib.hid (show (acc.flatMap pieceV).length + (form kk).length + (contF v.kind v.n v.f v.s v.l.length).length ≤ 10000000 from by
    have h : ([v].flatMap pieceV).length = (form kk).length + (contF v.kind v.n v.f v.s v.l.length).length := by simp [hpiece]
    rw [List.length_append, h] at hlen
    omega)
  have HJ2 : FormJ B bs (acc ++ [v]) = fun w' => ∃ u, Boxed w' bs 28 u ∧ w'.ownsRow B 5 1 u ((acc.flatMap pieceV) ++ (form kk ++ contF v.kind v.n v.f v.s v.l.length)).length (u8s ((acc.flatMap pieceV) ++ (form kk ++ contF v.kind v.n v.f v.s v.l.length))) := by
    funext w'
    unfold FormJ
    rw [Hflat.out]
  rw [HJ2]
  clear HJ2
  generalize acc.flatMap pieceV = L at *
  generalize contF v.kind v.n v.f v.s v.l.length = M at *
  have Hbs2 := Lib.hid hb.lt
  have Hu2 := Lib.hid (fun k hk => (hrow.lt k hk).2)
  have Hbw := Lib.hid hb
  have hb1 := hb.alloc (.cells (cells5 v.kind v.n v.f v.s a v.l.length cap) 43)
  have C0 := Lib.hid (new5 w (.int .i64 v.kind) (.int .i64 v.n) (.float .f64 v.f) (.string (str v.s)) (.slice a v.l.length cap) 43)
  have hal := (Below.refl w.heap.size w).alloc (Nat.le_refl _) (.cells (cells5 v.kind v.n v.f v.s a v.l.length cap) 43)
  have hrow1 := own_below hrow hal
  have Hal := Lib.hid hal
  obtain ⟨T, pv, fm, hci, hm, hen, hcall⟩ := Hfa.out
  rw [hci] at HC
  have HM := Lib.hid hm
  have HK := Lib.hid hcall
  clear hci hm hcall Hfa
  rw [hkk] at *
  clear hv hlen hpiece hrow hb hal hn hf hs hsn hln
  unfold cells5 at *
  go_enter Tryz.func163, Tryz.ntmps163
  go_wp2_with fail
  have hW1 : (w.alloc (.cells #[.int .i64 (kk : Int), .int .i64 v.n, .float .f64 v.f, .string (str v.s), .slice a v.l.length cap] 43)).heap.size = w.heap.size + 1 := by simp
  generalize w.alloc (.cells #[.int .i64 (kk : Int), .int .i64 v.n, .float .f64 v.f, .string (str v.s), .slice a v.l.length cap] 43) = w1 at *
  have HU := Lib.hid (uint_any kk w1.drew (by omega))
  obtain ⟨z0, z1, z2, z3, z4⟩ := C0.out
  have hc := hb1.cell
  have hfz := hb1.frozen
  have Hb1 := Lib.hid hb1
  have Hrow1 := Lib.hid hrow1
  clear hb1 hrow1
  go_region_law
    (first
      | (refine step_append_bytes rfl (.tmp 6) (.tmp 10) rfl B u L (by simp [Act.eval]) Hrow2.out p2 (form kk).length cp2 (form kk) (by simp [Act.eval]) HB2.out (by have := Hlen.out; omega) (by have := Hbe2.out.size; omega) (by have := form_pos kk; omega) ?_
         intro g cap3 w3 g1 g2 g3
         have hst := form_step (n := L.length + (form kk).length) hbs (by omega) Hb1.out Hrow1.out Hbe2.out (List.length_append) g1 g2 g3
         have Hst := Lib.hid hst
         obtain ⟨⟨k0, k1⟩, _⟩ := hst
         clear g1 g2 g3)
      | (go_simp; go_at_call 22; (with_reducible refine HU.out.mono ?_); rintro e w2 ⟨v2, rfl, hv2, hbe2⟩
         obtain ⟨p2, cp2, rfl, hB2⟩ := own_slice hv2 (form_byte kk)
         have HB2 := Lib.hid hB2
         have Hbe2 := Lib.hid (show Below w1.heap.size w1 w2 from ((Below.refl _ _).drew).trans hbe2)
         have Hrow2 := Lib.hid (own_below Hrow1.out Hbe2.out)
         have hc2 := cell_below Hbe2.out hc
         have z02 := cell_below Hbe2.out z0
         clear hv2 hbe2 hB2))
  all_goals obtain ⟨_, b4, r4, s4, o4, q4⟩ := Hst.out
  all_goals clear Hst k0 k1 hc hfz z0 z1 z2 z3 z4 z02 hc2
  all_goals generalize w3.setCell ⟨bs, 0, none⟩ (.slice (some ⟨g, 0, none⟩) (L.length + (form kk).length) cap3) = w4 at *
  all_goals have hxb : w4.heap[w.heap.size]? = w1.heap[w.heap.size]? := o4 _ (by omega) (by have := Hbs2.out; omega) (fun e => absurd (Hu2.out _ e) (Nat.lt_irrefl _))
  all_goals obtain ⟨y0, y1, y2, y3, y4⟩ := keep5b hxb C0.out
  all_goals have hc4 := b4.cell
  all_goals have HB4 := Lib.hid b4
  all_goals have R4 := Lib.hid r4
  all_goals have S4 := Lib.hid s4
  all_goals have O4 := Lib.hid o4
  all_goals have Q4 := Lib.hid q4
  all_goals clear b4 r4 s4 o4 q4 hxb
  all_goals go_wp2_with fail
  all_goals go_region_law
    (first
      | (refine step_append_bytes rfl (.tmp 12) (.tmp 15) rfl B (.slice (some ⟨g, 0, none⟩) (L.length + (form kk).length) cap3) (L ++ form kk) (by simp [Act.eval]) (by rw [List.length_append]; exact Hrow6.out) p6 M.length cp6 M (by simp [Act.eval]) HB6.out (by have := Hlen.out; rw [List.length_append]; omega) (by have := Hbe6.out.size; have := S4.out.size; omega) (by have := form_pos kk; rw [List.length_append]; omega) ?_
         intro g7 cap7 w7 g1 g2 g3
         have hst := form_step (n := L.length + ((form kk).length + M.length)) hbs (by have := S4.out.size; omega) HB4.out (by rw [List.length_append]; exact R4.out) Hbe6.out (by simp) g1 g2 g3
         have Hst := Lib.hid hst
         obtain ⟨⟨k0, k1⟩, _⟩ := hst
         clear g1 g2 g3)
      | (go_simp; go_at_call 59; (with_reducible refine (HC.out _).mono ?_); rintro e w5 ⟨rfl, hbe5⟩
         have Hbe5 := Lib.hid (show Below w4.heap.size w4 w5 from ((Below.refl _ _).drew).trans hbe5)
         have hc5 := cell_below Hbe5.out hc4
         clear hbe5)
      | (go_simp; rw [HM.out]; go_simp; (with_reducible refine (HK.out _).mono ?_); rintro e w6 ⟨v6, rfl, hv6, hbe6⟩
         obtain ⟨p6, cp6, rfl, hB6⟩ := own_slice hv6 Hc8.out
         have HB6 := Lib.hid hB6
         have Hbe6 := Lib.hid (show Below w4.heap.size w4 w6 from Hbe5.out.trans (hbe6.mono Hbe5.out.size))
         have Hrow6 := Lib.hid (own_below R4.out Hbe6.out)
         have hc6 := cell_below Hbe6.out hc4
         clear hv6 hbe6 hB6))
  all_goals obtain ⟨_, b8, r8, s8, o8, _⟩ := Hst.out
  all_goals have HD := Lib.hid (visit_done Hbw.out (by omega) Hal.out S4.out O4.out Q4.out b8 r8 s8 o8 (List.append_assoc L (form kk) M))
  all_goals clear Hst k0 k1 b8 r8 s8 o8 hc4 y0 y1 y2 y3 y4
  all_goals go_wp2
  all_goals go_ret
  all_goals exact ⟨rfl, HD.out⟩
end Go.Proofs.YtcapbaocchaenaaGreatDoor

/- The walk of the reference's Text: it returns the plain text. -/
namespace Go.Proofs.YtcapbaocchaenaaGreatDoor
open Go.RowKit Fl

def hexD (d : Nat) : Nat := if d < 10 then 48 + d else 87 + d
/-- The first j of the 16 digits. -/
def hexs (x : Nat) : Nat → List Nat
  | 0 => []
  | j + 1 => hexs x j ++ [hexD (x / 2 ^ (4 * (15 - j)) % 16)]

def textL (x : Nat) : List Nat :=
  if x = Q then [110, 97, 110] else if x = I then [105, 110, 102] else if x = W + I then [45, 105, 110, 102] else if x = 0 then [48] else if x = W then [45, 48] else 120 :: hexs x 16

theorem and15 {y : Nat} (h : y < 18446744073709551616) : bits .and .u64 (y : Int) 15 = ((y % 16 : Nat) : Int) := by
  have h1 := u64_and_nat y 15 h (by omega)
  have h2 := Nat.and_two_pow_sub_one_eq_mod y 4
  rw [show (2 : Nat) ^ 4 - 1 = 15 by decide, show (2 : Nat) ^ 4 = 16 by decide] at h2
  rw [h2] at h1
  exact h1

theorem hexs_len (x j : Nat) : (hexs x j).length = j := by
  induction j with
  | zero => rfl
  | succ j ih => rw [hexs, List.length_append, ih]; rfl

end Go.Proofs.YtcapbaocchaenaaGreatDoor

/- Decimal forms: the walks of the reference's digits and Decimal. -/
namespace Go.Proofs.YtcapbaocchaenaaGreatDoor
open Go.RowKit

/-- The decimal digits of a number. -/
def decD (n : Nat) : List Nat := if h : n < 10 then [48 + n] else decD (n / 10) ++ [48 + n % 10]
  termination_by n
  decreasing_by omega

theorem decD_low {n : Nat} (h : n < 10) : decD n = [48 + n] := by rw [decD, dif_pos h]
theorem decD_high {n : Nat} (h : ¬ n < 10) : decD n = decD (n / 10) ++ [48 + n % 10] := by rw [decD, dif_neg h]

theorem decD_len : ∀ (k n : Nat), n < 10 ^ (k + 1) → (decD n).length ≤ k + 1
  | 0, n, h => by rw [decD_low (by simpa using h)]; simp
  | k + 1, n, h => by
    by_cases h1 : n < 10
    · rw [decD_low h1]; simp
    · rw [decD_high h1, List.length_append]
      have h2 : n / 10 < 10 ^ (k + 1) := by
        rw [Nat.div_lt_iff_lt_mul (by omega), ← Nat.pow_succ]
        exact h
      have h3 := decD_len k (n / 10) h2
      simp only [List.length_cons, List.length_nil]
      omega

theorem decD_len20 {n : Nat} (h : n < 18446744073709551616) : (decD n).length ≤ 20 := decD_len 19 n (by omega)

theorem decD_byte : ∀ (k n : Nat), n < 10 ^ (k + 1) → ∀ c ∈ decD n, 48 ≤ c ∧ c ≤ 57
  | 0, n, h, c, hc => by
    have h10 : n < 10 := by simpa using h
    rw [decD_low h10] at hc
    have : c = 48 + n := by simpa using hc
    omega
  | k + 1, n, h, c, hc => by
    by_cases h1 : n < 10
    · rw [decD_low h1] at hc
      have : c = 48 + n := by simpa using hc
      omega
    · rw [decD_high h1, List.mem_append] at hc
      have h2 : n / 10 < 10 ^ (k + 1) := by
        rw [Nat.div_lt_iff_lt_mul (by omega), ← Nat.pow_succ]
        exact h
      rcases hc with hc | hc
      · exact decD_byte k (n / 10) h2 c hc
      · have : c = 48 + n % 10 := by simpa using hc
        omega

/-- The decimal form of a number with a sign. -/
def decL (n : Int) : List Nat := if n < 0 then 45 :: decD n.natAbs else decD n.natAbs

end Go.Proofs.YtcapbaocchaenaaGreatDoor

