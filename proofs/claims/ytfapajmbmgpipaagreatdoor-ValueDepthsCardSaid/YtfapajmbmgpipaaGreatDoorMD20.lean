import Derived.Test.YtfapajmbmgpipaaGreatDoorMD19
import Derived.RangeFuncBox
import Derived.RangeFuncLeaves
import Derived.Shelf.Abstract
import Derived.OwnWalkIn
import Derived.TacticsInMore
import Derived.LoopNIn
import Derived.LoopIn
import Derived.Maps.AppendAt
import Derived.Test.YtfapajmbmgpipaaGreatDoorMD1
import Derived.Test.YtfapajmbmgpipaaGreatDoorMD2
import Derived.Lib.AppendStr
import Derived.Test.YtfapajmbmgpipaaGreatDoorMD11
import Derived.Deep.OwnRows
/- The walk of Uint: a loop over a range function that yields the bytes of the form. -/
namespace Go.Proofs.YtfapajmbmgpipaaGreatDoor
open Go.RowKit Go.Shelf

attribute [local go_sem] Oper.semAt_some

theorem or128 (y : Nat) : bits .or .u8 ((y : Int) % 256) 128 = (y : Int) % 128 + 128 := by
  have h := u8_or_nat (y % 256) 128 (by omega) (by omega)
  have hall : ∀ z : Fin 256, (z.val ||| 128) = z.val % 128 + 128 := by decide +kernel
  have e : y % 256 ||| 128 = y % 128 + 128 := by
    have := hall ⟨y % 256, by omega⟩
    simp only at this
    rw [this]
    omega
  rw [e] at h
  rw [show ((y : Int) % 256) = ((y % 256 : Nat) : Int) by omega, show ((y : Int) % 128 + 128) = ((y % 128 + 128 : Nat) : Int) by omega]
  exact h

set_option maxRecDepth 100000 in
set_option maxHeartbeats 1000000 in
/-- What the range function of a number yields: the bytes of the form, in order; or the first of them, where a round has said 'no more'. -/
theorem digits1_in (F : Fence) (n : Nat) (h6 : F.fn 63) (hro : F.round = none) (hn : 1 ≤ n) (l Bn x : Nat) (hx : x < 18446744073709551616) (J Jx : List Nat → World → Prop)
    (hY : ∀ pre (z : Nat) W, J pre W → pre.length < (form x).length → YieldAt F (n - 1) Tryz.prog l #[.int .u8 (z : Int)] W fun e W' =>
      (e = .returned (.bool true) ∧ J (pre ++ [z]) W' ∧ True) ∨ (e = .returned (.bool false) ∧ Jx (pre ++ [z]) W'))
    (W : World) (hBn : W.cell? ⟨Bn, 0, none⟩ = some (.int .u64 (x : Int))) (h0 : J [] W) :
    CallsIn F n Tryz.prog 63 #[.func (.yield l) #[] #[], .pointer (some ⟨Bn, 0, none⟩)] W fun e W' => (∃ v, e = .returned v) ∧
      ((∃ ys, ys = form x ∧ J ys W') ∨ (∃ pre, pre <+: form x ∧ Jx pre W')) := by
  refine callsIn_of_wp Tryz.func63 rfl h6 ?_ hro
  simp only [Tryz.ntmps63, List.size_toArray, List.length_cons, List.length_nil, Nat.reduceAdd, Nat.reduceSub, Array.replicate_succ, Array.replicate_zero, List.push_toArray, List.append_toArray, List.nil_append, List.cons_append]
  gi_wp2
  gi_loopw [3] (fun u wr => ∃ (pre : List Nat) (y : Nat), u = .int .u64 y ∧ y < 18446744073709551616 ∧ form x = pre ++ form y ∧ J pre wr) (fun u _ => (intOf u).toNat)
  case atStart => exact ⟨[], x, rfl, hx, rfl, h0⟩
  case round =>
    obtain ⟨pre, y, rfl, hy, hf, hJ⟩ := hrel
    have hlen : pre.length < (form x).length := by rw [hf, List.length_append]; have := form_pos y; omega
    have Hf := Lib.hid hf
    clear hf
    by_cases hlt : 128 ≤ y
    · obtain ⟨fn, tmps, assign, body, hy2, hR⟩ := hY pre (y % 128 + 128) wr hJ hlen
      have ho := or128 y
      rw [show ((y % 128 + 128 : Nat) : Int) = (y : Int) % 128 + 128 by omega] at hy2
      gi_wp2
      refine hR.mono ?_
      rintro e W3 (⟨rfl, hJ3, _⟩ | ⟨rfl, hJx3⟩)
      · gi_wp2
        go_roundw
        case rel => exact ⟨pre ++ [y % 128 + 128], y / 128, by go_num, by omega, by rw [Hf.out, form_big hlt]; simp, hJ3⟩
        case measure => simp [intOf]; omega
      · gi_wp2
        refine bodyPost_ret (results_none rfl _ _ _) rfl ?_
        exact ⟨⟨_, rfl⟩, .inr ⟨pre ++ [y % 128 + 128], ⟨form (y / 128), by rw [Hf.out, form_big hlt]; simp⟩, hJx3⟩⟩
    · obtain ⟨fn, tmps, assign, body, hy2, hR⟩ := hY pre y wr hJ hlen
      have hm : (y : Int) % 256 = (y : Int) := by omega
      gi_wp2
      refine hR.mono ?_
      rintro e W3 (⟨rfl, hJ3, _⟩ | ⟨rfl, hJx3⟩)
      · gi_wp2
        go_end0
        exact ⟨⟨_, rfl⟩, .inl ⟨pre ++ [y], by rw [Hf.out, form_small (by omega)], hJ3⟩⟩
      · gi_wp2
        go_end0
        exact ⟨⟨_, rfl⟩, .inr ⟨pre ++ [y], ⟨[], by rw [Hf.out, form_small (by omega)]; simp⟩, hJx3⟩⟩

set_option maxHeartbeats 1000000 in
/-- digits(x): the number is boxed; the function value captures the box. -/
theorem digits_in (F : Fence) (n : Nat) (h5 : F.fn 43) (hro : F.round = none) (x : Nat) (w : World) :
    CallsIn F n Tryz.prog 43 #[.int .u64 (x : Int)] w fun e w' => e = .returned (.func (.func 63) #[] #[.pointer (some ⟨w.heap.size, 0, none⟩)]) ∧ w' = w.alloc (.cells #[.int .u64 (x : Int)] 46) := by
  refine callsIn_of_wp Tryz.func43 rfl h5 ?_ hro
  simp only [Tryz.ntmps43, List.size_toArray, List.length_cons, List.length_nil, Nat.reduceAdd, Nat.reduceSub, Array.replicate_succ, Array.replicate_zero, List.push_toArray, List.append_toArray, List.nil_append, List.cons_append]
  gi_wp2
  go_ret
  exact ⟨rfl, rfl⟩

theorem digits_stops (F : Fence) (n : Nat) (h6 : F.fn 63) (hro : F.round = none) (hn : 1 ≤ n) (Bn x : Nat) (hx : x < 18446744073709551616) (w : World) (hBn : Bn < w.heap.size)
    (hc : w.cell? ⟨Bn, 0, none⟩ = some (.int .u64 (x : Int))) :
    SeqStopsK F n Tryz.prog 63 #[.pointer (some ⟨Bn, 0, none⟩)] (fun z : Nat => #[Value.int .u8 (z : Int)]) (fun _ _ => True) (fun ys => ys = form x) (fun pre => pre <+: form x) (form x).length w := fun l J Jx W hW _ _ hY h0 =>
  digits1_in F n h6 hro hn l Bn x hx J Jx hY W ((hW.cell (p := ⟨Bn, 0, none⟩) hBn).trans hc) h0

set_option maxRecDepth 100000 in
set_option maxHeartbeats 2000000 in
theorem uint_in (F : Fence) (n : Nat) (h3 : F.fn 27) (h4 : F.fn 43) (h5 : F.fn 63) (hro : F.round = none) (hn : 3 ≤ n) (x : Nat) (hx : x < 18446744073709551616) (w : World) :
    CallsIn F n Tryz.prog 27 #[.int .u64 (x : Int)] w (NewBytes w (form x)) := by
  have h1 : 1 ≤ n := by omega
  have hten := form_len hx
  obtain ⟨i0, hi, hz0, hz1, hz2⟩ := info_parts info_u8
  refine callsIn_of_wp_marks Tryz.func27 rfl h3 ?_ hro
  simp only [Tryz.ntmps27, List.size_toArray, List.length_cons, List.length_nil, Nat.reduceAdd, Nat.reduceSub, Array.replicate_succ, Array.replicate_zero, List.push_toArray, List.append_toArray, List.nil_append, List.cons_append]
  gi_wp2_with (gi_at_call 43; refine (digits_in F (n - 1) h4 hro _ _).mono ?_; rintro e w' ⟨rfl, rfl⟩)
  have bO := Boxed.new w 28 (.slice none 0 0)
  have bN := Boxed.new (w.alloc (.cells #[.slice none 0 0] 28)) 46 (.int .u64 (x : Int))
  rw [World.size_alloc] at bN
  have hB0 : Below w.heap.size w ((w.alloc (.cells #[.slice none 0 0] 28)).alloc (.cells #[.int .u64 (x : Int)] 46)) := ((Below.refl _ w).alloc (Nat.le_refl _) _).alloc (by simp) _
  refine wpIn_rangeFunc_ownG hro h1 (gf := 63) (lb := #[.pointer (some ⟨w.heap.size + 1, 0, none⟩)]) rfl h5 (enters_of Tryz.func63 (by kernel_rfl) rfl)
    (digits_stops F (n - 1) h5 hro (by omega) (w.heap.size + 1) x hx _ (by simp) bN.cell) (fun _ _ => trivial) (fun _ _ _ _ _ _ _ _ => trivial) (Below.refl _ _) (fun _ => rfl)
    (fun pre W => (∃ v, Boxed W w.heap.size 28 v ∧ W.ownsRow w.heap.size 5 1 v pre.length (u8s pre) ∧ True) ∧ Below w.heap.size w W)
    (fun _ _ _ => False)
    (OwnFrom.and (Own.from (holdsRow_own w.heap.size w.heap.size 28 5 1 (fun pre => pre.length) (fun pre => u8s pre) (fun _ _ => True)) _) (ownFrom_below (Nat.le_refl _) (by simp; omega)))
    (fun _ _ _ _ _ hs _ _ => hs)
    ⟨⟨_, bO.alloc _, World.ownsRow_nil _ _ _ _, trivial⟩, hB0⟩
    (fun z => { tmps := #[.int .u64 (x : Int), undef, .slice none 0 0, .pointer (some ⟨w.heap.size, 0, none⟩), .int .u8 (z : Int), .int .u64 (x : Int), .func (.func 63) #[] #[.pointer (some ⟨w.heap.size + 1, 0, none⟩)], .int .u8 (z : Int), undef, undef, undef, undef, undef], defers := [] }) ?assign ?body ?done ?stop
  case assign =>
    intro l z W K hK
    gi_wp2
    exact hK
  case body =>
    rintro l pre z W ⟨⟨v, hv, hrow, _⟩, hB⟩ hlt
    have hc := hv.cell
    gi_wp2_with (gi_at_builtin; refine wpListIn_append_own _ rfl _ _ 28 rfl w.heap.size 5 i0 (.int .u8 0) 1 1 Tryz.underlying28 hi hz0 hz1 hz2 rfl (by decide) _ _ _ rfl (hrow.alloc _) ⟨W.heap.size, 0, none⟩ 1 1 [.int .u8 (z : Int)] rfl rfl (cell_one_new _ _ _) (by simp [Value.oneCell']) (by rw [maxLen_nat]; omega) (by omega) (by have := hB.size; simp; omega) ?_; intro v' w1 hown' hgrow _; obtain ⟨g', cap', rfl⟩ := ownsRow_succ hown'; obtain ⟨hv1, hv2, hr2, hk2, hb2⟩ := hv.appended (by decide) hrow hB.size (Nat.le_refl _) hown' hgrow; have hc1 := hv1.cell; have hf1 := hv1.frozen)
    exact ⟨hk2.from _, trivial, ⟨_, hv2, by rw [List.length_append, u8s_append]; exact hr2, trivial⟩, hB.trans hb2⟩
  case done =>
    rintro D ys W hD rfl ⟨⟨v, hv, hrow, _⟩, hB⟩ hK
    have hc := hv.cell
    gi_wp2
    refine ⟨by simp, .inl ⟨_, _, rfl, run_takeDeferred hK, ?_⟩⟩
    exact ⟨_, results_tmp rfl _ _ _, v, rfl, ownsRow_putObj hrow _ hK rfl, hB.trans (belowK_b (w := w) (Nat.le_refl _) W D _ _ (by simp at hD; omega) hK rfl rfl)⟩
  case stop =>
    rintro D c pre W _ _ h _
    exact h.elim

theorem uint_any (x : Nat) (w : World) (hx : x < 18446744073709551616) : Calls Tryz.prog 27 #[.int .u64 (x : Int)] w (NewBytes w (form x)) :=
  (callsIn_wide (n := 3)).1 (uint_in Fence.wide 3 trivial trivial trivial rfl (Nat.le_refl _) x hx w)
end Go.Proofs.YtfapajmbmgpipaaGreatDoor

/- The walks of Int, of the code and of the reference, and of what they call. -/
namespace Go.Proofs.YtfapajmbmgpipaaGreatDoor
open Go.RowKit

set_option maxRecDepth 100000 in
theorem fold_any (y : Int) (w : World) (h1 : -9223372036854775808 ≤ y) (h2 : y ≤ 9223372036854775807) :
    Calls Tryz.prog 166 #[.int .i64 y] w fun e w' => e = .returned (.int .u64 (foldL y : Nat)) ∧ w = w' := by
  by_cases h : 0 ≤ y
  · go_enter Tryz.func166, Tryz.ntmps166
    go_wp2
    go_ret
    refine ⟨ret_u64 ?_, rfl⟩
    unfold foldL
    rw [if_pos h]
    omega
  · have h' : y < 0 := by omega
    go_enter Tryz.func166, Tryz.ntmps166
    go_wp2
    go_ret
    refine ⟨ret_u64 ?_, rfl⟩
    have e : IntKind.u64.wrap (IntKind.u64.wrap y * 2) = ((18446744073709551616 + 2 * y).toNat : Int) := by
      rw [IntKind.wrap_u64, IntKind.wrap_u64]
      omega
    rw [e, not_u64 _ (by omega)]
    unfold foldL
    rw [if_neg (show ¬ 0 ≤ y by omega)]
    omega

set_option maxRecDepth 100000 in
theorem unfold_any (u : Nat) (w : World) (h1 : u < 18446744073709551616) :
    Calls Tryz.prog 69 #[.int .u64 (u : Int)] w fun e w' => e = .returned (.int .i64 (unfoldL u)) ∧ w = w' := by
  by_cases h : u % 2 = 1
  · have hq : ((u : Int) % 2 == 1) = true := beq_iff_eq.2 (by omega)
    go_enter Tryz.func69, Tryz.ntmps69
    go_wp2
    go_ret
    refine ⟨ret_i64 ?_, rfl⟩
    have e : ((u : Int) / 2) = ((u / 2 : Nat) : Int) := by omega
    rw [e, not_i64 _ (by omega)]
    unfold unfoldL
    rw [if_neg (by omega)]
  · have hq : ((u : Int) % 2 == 1) = false := beq_eq_false_iff_ne.2 (by omega)
    go_enter Tryz.func69, Tryz.ntmps69
    go_wp2
    go_ret
    refine ⟨ret_i64 ?_, rfl⟩
    unfold unfoldL
    rw [if_pos (by omega)]
    omega

theorem int_any (y : Int) (w : World) (h1 : -9223372036854775808 ≤ y) (h2 : y ≤ 9223372036854775807) :
    Calls Tryz.prog 164 #[.int .i64 y] w (NewBytes w (form (foldL y))) := by
  have hl := fold_lt h1 h2
  go_enter Tryz.func164, Tryz.ntmps164
  go_wp2_with fail
  refine (fold_any y w h1 h2).mono ?_
  rintro e w1 ⟨rfl, rfl⟩
  go_wp2_with fail
  refine (uint_any _ w hl).mono ?_
  rintro e w1 ⟨v, rfl, hv⟩
  go_wp2
  go_ret
  exact ⟨v, rfl, hv⟩

set_option maxRecDepth 100000 in
theorem rint_any (y : Int) (w : World) (h1 : -9223372036854775808 ≤ y) (h2 : y ≤ 9223372036854775807) :
    Calls Tryz.prog 45 #[.int .i64 y] w (NewBytes w (form (foldL y))) := by
  have hl := fold_lt h1 h2
  by_cases h : 0 ≤ y
  · obtain ⟨z, rfl⟩ := Int.eq_ofNat_of_zero_le h
    have Hf := Lib.hid (show foldL (z : Int) = 2 * z by unfold foldL; rw [if_pos h]; omega)
    have hz : z < 9223372036854775808 := by omega
    have e := ruint_any (2 * z) w (by omega)
    rw [show ((2 * z : Nat) : Int) = (z : Int) * 2 by omega] at e
    have E := Lib.hid e
    clear e hl
    rw [Hf.out]
    go_enter Tryz.func45, Tryz.ntmps45
    go_wp2_with fail
    refine E.out.mono ?_
    rintro e w1 ⟨v, rfl, hv⟩
    go_wp2
    go_ret
    exact ⟨v, rfl, hv⟩
  · have h' : y < 0 := by omega
    have Hf := Lib.hid (show ((foldL y : Nat) : Int) = -(y + 1) * 2 + 1 by unfold foldL; rw [if_neg h]; omega)
    have e := ruint_any (foldL y) w hl
    rw [Hf.out] at e
    have E := Lib.hid e
    clear e
    go_enter Tryz.func45, Tryz.ntmps45
    go_wp2_with fail
    refine E.out.mono ?_
    rintro e w1 ⟨v, rfl, hv⟩
    go_wp2
    go_ret
    exact ⟨v, rfl, hv⟩
end Go.Proofs.YtfapajmbmgpipaaGreatDoor

/- The walks of Bytes and Text, of the code and of the reference, and of the examples of the chapter. -/
namespace Go.Proofs.YtfapajmbmgpipaaGreatDoor
open Go.RowKit

theorem strCells_str {l : List Nat} (h : ∀ x ∈ l, x < 256) : Lib.strCells (str l) = u8s l := by
  unfold Lib.strCells u8s str
  rw [List.map_map]
  refine List.map_congr_left (fun x hx => ?_)
  have := h x hx
  simp [UInt8.toNat_ofNat']
  omega

/-- The form of bytes. -/
def formB (l : List Nat) : List Nat := form l.length ++ l

theorem formB_byte {l : List Nat} (h : ∀ x ∈ l, x < 256) : ∀ x ∈ formB l, x < 256 := by
  intro x hx
  rcases List.mem_append.1 hx with hx | hx
  · exact form_byte _ x hx
  · exact h x hx

theorem rbytesF_any (a : Option Addr) (n cap : Nat) (l : List Nat) (w : World) (hl : Bytes w a n cap l) (hn : n ≤ 100000000000000) :
    Calls Tryz.prog 47 #[.slice a n cap] w (NewBytes w (formB l)) := by
  have h10 := form_len (x := n) (by omega)
  have HB := Lib.hid hl
  clear hl
  go_enter Tryz.func47, Tryz.ntmps47
  go_wp2_with fail
  refine (ruint_any n w (by omega)).mono ?_
  rintro e w1 ⟨v, rfl, hown, hb1⟩
  have Hown := Lib.hid hown
  have HB1 := Lib.hid (HB.out.grow hb1)
  clear hown
  go_wp2_with (at_builtin; refine wpList_append_bytes _ rfl _ _ 28 rfl w.heap.size 5 Tryz.underlying28 info_u8 _ _ _ rfl Hown.out a n cap l rfl HB1.out (by omega) hb1.size ?_; intro v' w2 g1 g2)
  go_ret
  refine ⟨_, rfl, ?_, hb1.grown g2 hb1.size (fun k hk => (Hown.out.lt k hk).1)⟩
  unfold formB
  rw [HB.out.len, List.length_append, HB.out.len]
  exact g1

theorem textF_any (l : List Nat) (w : World) (hl : ∀ x ∈ l, x < 256) (hn : l.length ≤ 100000000000000) :
    Calls Tryz.prog 171 #[.string (str l)] w (NewBytes w (formB l)) := by
  have h10 := form_len (x := l.length) (by omega)
  obtain ⟨i0, hi, hz0, hz1, hz2⟩ := info_parts info_u8
  have hs := str_size l
  have hsc := Lib.hid (strCells_str hl)
  have hF : NewBytes w (formB l) = NewBytes w (form (str l).size ++ l) := by rw [hs]; rfl
  rw [hF]
  rw [← hs] at h10 hn
  have HS := Lib.hid hs
  clear hF hs
  go_enter Tryz.func171, Tryz.ntmps171
  go_wp2_with fail
  refine (uint_any _ w (by omega)).mono ?_
  rintro e w1 ⟨v, rfl, hown, hb1⟩
  have Hown := Lib.hid hown
  clear hown
  go_wp2_with (at_builtin; refine Lib.wpList_append_own_string _ rfl _ _ 28 9 rfl w.heap.size 5 i0 Tryz.underlying28 Tryz.underlying9 hi hz0 hz1 hz2 _ _ _ rfl Hown.out (str l) rfl (by rw [maxLen_nat]; omega) (by omega) hb1.size ?_; intro v' w2 g1 g2 _)
  go_ret
  refine ⟨_, rfl, ?_, hb1.grown g2 hb1.size (fun k hk => (Hown.out.lt k hk).1)⟩
  rw [List.length_append, ← HS.out, u8s_append, ← hsc.out]
  exact g1
end Go.Proofs.YtfapajmbmgpipaaGreatDoor

/- The forms of contents. -/
namespace Go.Proofs.YtfapajmbmgpipaaGreatDoor
open Go.RowKit Go.Shelf Fl

/-- The 8 bytes of a number, the highest first. -/
def be8 (x : Nat) : List Nat := (List.range 8).map fun p => x / 2 ^ (8 * (7 - p)) % 256

theorem be8_byte (x : Nat) : ∀ c ∈ be8 x, c < 256 := by
  intro c hc
  unfold be8 at hc
  obtain ⟨p, _, rfl⟩ := List.mem_map.1 hc
  exact Nat.mod_lt _ (by omega)

theorem nilForm_any (w : World) : Calls Tryz.prog 160 #[.agg #[]] w (NewBytes w []) := by
  go_enter Tryz.func160, Tryz.ntmps160
  go_wp2
  go_ret
  exact ⟨_, rfl, World.ownsRow_nil _ _ _ _, (Below.refl _ _).alloc (Nat.le_refl _) _⟩

theorem intForm_any (n : Int) (w : World) (h0 : -9223372036854775808 ≤ n) (h1 : n ≤ 9223372036854775807) :
    Calls Tryz.prog 162 #[.int .i64 n] w (NewBytes w (form (foldL n))) := by
  have H := Lib.hid (int_any n w h0 h1)
  clear h0 h1
  go_enter Tryz.func162, Tryz.ntmps162
  go_wp2_with fail
  refine H.out.mono ?_
  rintro e w' ⟨v, rfl, hv⟩
  have Hv := Lib.hid hv
  clear hv
  go_wp2
  go_ret
  exact ⟨_, rfl, Hv.out⟩

theorem textForm_any (s : List Nat) (w : World) (hs : ∀ c ∈ s, c < 256) (hn : s.length ≤ 1000000) :
    Calls Tryz.prog 169 #[.string (str s)] w (NewBytes w (formB s)) := by
  have H := Lib.hid (textF_any s w hs (by omega))
  clear hs hn
  go_enter Tryz.func169, Tryz.ntmps169
  go_wp2_with fail
  refine H.out.mono ?_
  rintro e w' ⟨v, rfl, hv⟩
  have Hv := Lib.hid hv
  clear hv
  go_wp2
  go_ret
  exact ⟨_, rfl, Hv.out⟩

theorem listForm_any (a : Option Addr) (len cap : Nat) (w : World) (hl : len < 18446744073709551616) :
    Calls Tryz.prog 172 #[.slice a len cap] w (NewBytes w (form len)) := by
  have H := Lib.hid (uint_any len w hl)
  go_enter Tryz.func172, Tryz.ntmps172
  go_wp2_with fail
  refine H.out.mono ?_
  rintro e w' ⟨v, rfl, hv⟩
  have Hv := Lib.hid hv
  clear hv
  go_wp2
  go_ret
  exact ⟨_, rfl, Hv.out⟩

/-- The row of bytes behind j rounds. -/
def bcell (x j p : Nat) : Value := if 8 ≤ p + j then .int .u8 ((x / 2 ^ (8 * (7 - p)) % 256 : Nat) : Int) else .int .u8 0

set_option maxRecDepth 100000 in
theorem floatForm_any (f : Nat) (w : World) (hf : f < 18446744073709551616) :
    Calls Tryz.prog 167 #[.float .f64 f] w (NewBytes w (be8 (bitsB f))) := by
  have HB := Lib.hid (fun w => bits_any f w hf)
  have hx := bitsB_lt hf
  clear hf
  generalize bitsB f = x at *
  have hmk : ∀ w : World, (Instr.makeSlice 28 (.int .i64 8) (.int .i64 8)).run Tryz.prog w = .ok (.slice (some ⟨w.heap.size, 0, none⟩) 8 8) (w.alloc (.cells (madeCells #[.int .u8 0] 8) 5)) := fun w =>
    run_make_row' (P := Tryz.prog) 28 5 (.int .u8 0) 1 Tryz.underlying28 info_u8 rfl .i64 .i64 8 (by omega) (by omega) w
  have H0 := Lib.hid ((World.rowIs_made w (.int .u8 0) 8 5).congr (g := bcell x 0) (fun i hi => by unfold bcell; rw [if_neg (by omega)]))
  have Hb0 := Lib.hid ((Below.refl w.heap.size w).alloc (Nat.le_refl _) (.cells (madeCells #[Value.int .u8 0] 8) 5))
  go_enter Tryz.func167, Tryz.ntmps167
  go_wp2_with fail
  refine (HB.out _).mono ?_
  rintro e w' ⟨rfl, rfl⟩
  go_wp2
  generalize w.alloc (.cells (madeCells #[.int .u8 0] 8) 5) = w1 at *
  go_loopw [11] (fun i wr => ∃ j : Nat, j ≤ 8 ∧ i = .int .i64 (j : Int) ∧ wr.rowIs w.heap.size 5 8 (bcell x j) ∧ Below w.heap.size w wr) (fun i _ => 8 - (intOf i).toNat)
  case atStart => exact ⟨0, by omega, rfl, H0.out, Hb0.out⟩
  case round =>
    obtain ⟨j, hj, rfl, hrow, hbel⟩ := hrel
    have Hrow := Lib.hid hrow
    have Hbel := Lib.hid hbel
    by_cases hlt : j < 8
    · have hcell := hrow.cell (show 7 - j < 8 by omega)
      have hfz := hrow.frozen (7 - j)
      have Hset := Lib.hid (fun (u : Value) (hu : u = .int .u8 ((x / 2 ^ (8 * j) % 256 : Nat) : Int)) => (hrow.set (7 - j) u).congr (g := bcell x (j + 1)) (fun k hk => by
        unfold bcell
        by_cases e : k = 7 - j
        · rw [if_pos e, if_pos (by omega), hu, show 7 - k = j by omega]
        · rw [if_neg e]
          by_cases h2 : 8 ≤ k + j
          · rw [if_pos h2, if_pos (by omega)]
          · rw [if_neg h2, if_neg (by omega)]))
      clear hrow hbel hj
      rcases (show j = 0 ∨ j = 1 ∨ j = 2 ∨ j = 3 ∨ j = 4 ∨ j = 5 ∨ j = 6 ∨ j = 7 by omega) with rfl | rfl | rfl | rfl | rfl | rfl | rfl | rfl
      · go_wp2
        case roundEnd => exact ⟨⟨1, by omega, rfl, Hset.out _ (by simp only [Nat.reduceMul, Nat.reducePow]; congr 1; omega), Hbel.out.setCell (Nat.le_refl _) _⟩, by simp [intOf]⟩
      · go_wp2
        case roundEnd => exact ⟨⟨2, by omega, rfl, Hset.out _ (by simp only [Nat.reduceMul, Nat.reducePow]; congr 1), Hbel.out.setCell (Nat.le_refl _) _⟩, by simp [intOf]⟩
      · go_wp2
        case roundEnd => exact ⟨⟨3, by omega, rfl, Hset.out _ (by simp only [Nat.reduceMul, Nat.reducePow]; congr 1), Hbel.out.setCell (Nat.le_refl _) _⟩, by simp [intOf]⟩
      · go_wp2
        case roundEnd => exact ⟨⟨4, by omega, rfl, Hset.out _ (by simp only [Nat.reduceMul, Nat.reducePow]; congr 1), Hbel.out.setCell (Nat.le_refl _) _⟩, by simp [intOf]⟩
      · go_wp2
        case roundEnd => exact ⟨⟨5, by omega, rfl, Hset.out _ (by simp only [Nat.reduceMul, Nat.reducePow]; congr 1), Hbel.out.setCell (Nat.le_refl _) _⟩, by simp [intOf]⟩
      · go_wp2
        case roundEnd => exact ⟨⟨6, by omega, rfl, Hset.out _ (by simp only [Nat.reduceMul, Nat.reducePow]; congr 1), Hbel.out.setCell (Nat.le_refl _) _⟩, by simp [intOf]⟩
      · go_wp2
        case roundEnd => exact ⟨⟨7, by omega, rfl, Hset.out _ (by simp only [Nat.reduceMul, Nat.reducePow]; congr 1), Hbel.out.setCell (Nat.le_refl _) _⟩, by simp [intOf]⟩
      · go_wp2
        case roundEnd => exact ⟨⟨8, by omega, rfl, Hset.out _ (by simp only [Nat.reduceMul, Nat.reducePow]; congr 1; omega), Hbel.out.setCell (Nat.le_refl _) _⟩, by simp [intOf]⟩
    · obtain rfl : j = 8 := by omega
      have Hown := Lib.hid (show wr.ownsRow w.heap.size 5 1 (.slice (some ⟨w.heap.size, 0, none⟩) 8 8) 8 (u8s (be8 x)) from by
        obtain ⟨c, hb, hn, hc⟩ := hrow
        refine ⟨by simp [u8s, be8], .inr ⟨w.heap.size, 8, c, rfl, Nat.le_refl _, hb, Nat.le_refl _, by rw [maxLen_nat]; omega, by rw [hn], ?_⟩⟩
        apply List.ext_getElem?
        intro k
        rw [List.getElem?_take]
        by_cases hk : k < 8
        · rw [if_pos (by omega), Array.getElem?_toList, hc k hk]
          unfold bcell u8s be8
          rw [if_pos (by omega), List.map_map, List.getElem?_map, List.getElem?_range hk]
          rfl
        · rw [if_neg (by omega), List.getElem?_eq_none (by simp [u8s, be8]; omega)])
      clear hrow hbel hj hlt
      go_wp2
      go_ret
      exact ⟨_, rfl, by rw [show (be8 x).length = 8 by simp [be8]]; exact Hown.out, Hbel.out⟩
end Go.Proofs.YtfapajmbmgpipaaGreatDoor

