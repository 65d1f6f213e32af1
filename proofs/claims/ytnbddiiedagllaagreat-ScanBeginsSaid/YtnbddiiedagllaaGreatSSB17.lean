import Derived.Test.YtnbddiiedagllaaGreatSSB14
import Derived.Deep.Upon
/- The walks of newHead and number: four bytes of a number, and back. -/
namespace Go.Proofs.YtnbddiiedagllaaGreat
open Go.RowKit Crc

def headV (n : Nat) : Array Value := (u8s (little n)).toArray
theorem headV_size (n : Nat) : (headV n).size = 4 := by simp [headV, u8s, little]
theorem headV_one (n : Nat) : (headV n).all (·.oneCell') = true := by simp [headV, u8s, little, Value.oneCell']
theorem head_info : (Tryz.prog.info? 182).map (·.size) = some 4 := by kernel_rfl
theorem head_infoV (n : Nat) : (Tryz.prog.info? 182).map (·.size) = some (headV n).size := by rw [headV_size]; exact head_info

def headCell (n k j : Nat) : Value := if j < k then .int .u8 ((little n).getD j 0 : Nat) else .int .u8 0

theorem row_head {w : World} {b : Nat} {t : TypeId} {n : Nat} (h : w.rowIs b t 4 (headCell n 4)) : w.heap[b]? = some (.cells (headV n) t (0, 0)) := by
 obtain ⟨c, hc, hs, hi⟩ := h
 have e : c = headV n := by
  apply Array.ext_getElem?
  intro i
  by_cases h : i < 4
  ·rw [hi i h, headCell, if_pos h]
   rcases i with _ | _ | _ | _ | i
   all_goals first | rfl | omega
  ·rw [Array.getElem?_eq_none (by omega), Array.getElem?_eq_none (by rw [headV_size]; omega)]
 rw [hc, e]

def HeadRel (w : World) (n : Nat) (i : Value) (wr : World) : Prop :=
 ∃ k : Nat, k ≤ 4 ∧ i = .int .i64 k ∧ wr.rowIs (w.heap.size + 1) 182 4 (headCell n k) ∧ wr.rowIs w.heap.size 182 4 (fun _ => .int .u8 0) ∧ Below w.heap.size w wr

theorem headRel_start (w : World) (n : Nat) : HeadRel w n (.int .i64 0) ((w.alloc (.cells #[.int .u8 0, .int .u8 0, .int .u8 0, .int .u8 0] 182)).alloc (.cells #[.int .u8 0, .int .u8 0, .int .u8 0, .int .u8 0] 182)) := by
 have hz : ∀ (v : World), (v.alloc (.cells #[.int .u8 0, .int .u8 0, .int .u8 0, .int .u8 0] 182)).rowIs v.heap.size 182 4 (fun _ => .int .u8 0) := fun v =>
  World.rowIs_alloc v _ _ _ (fun i hi => by
   have hi : i < 4 := hi
   rcases i with _ | _ | _ | _ | i
   all_goals first | rfl | omega)
 refine ⟨0, Nat.zero_le _, rfl, ?_, (hz w).alloc _, ((Below.refl _ _).alloc (Nat.le_refl _) _).alloc (by simp) _⟩
 have h := hz (w.alloc (.cells #[.int .u8 0, .int .u8 0, .int .u8 0, .int .u8 0] 182))
 rw [show ∀ o, (w.alloc o).heap.size = w.heap.size + 1 from fun o => by simp] at h
 exact h.congr (fun j _ => by simp [headCell])

theorem headRel_step {w wr : World} {k n : Nat} {z : Int} (hk : k < 4) (hz : z = ((little n).getD k 0 : Nat)) (hrow : wr.rowIs (w.heap.size + 1) 182 4 (headCell n k)) (hres : wr.rowIs w.heap.size 182 4 (fun _ => .int .u8 0)) (hbel : Below w.heap.size w wr) :
  HeadRel w n (.int .i64 ((k : Int) + 1)) (wr.setCell ⟨w.heap.size + 1, k, none⟩ (.int .u8 z)) := by
 subst hz
 refine ⟨k + 1, by omega, by go_num, (hrow.set k _).congr (fun j _ => ?_), hres.setOther (by simp) _, hbel.setCell (by simp) _⟩
 unfold headCell
 by_cases h : j = k
 ·subst h; simp
 ·rw [if_neg h]
  by_cases h2 : j < k
  ·rw [if_pos h2, if_pos (by omega)]
  ·rw [if_neg h2, if_neg (by omega)]

set_option maxRecDepth 100000 in
theorem newHead_any (n : Nat) (w : World) (hn : n < 4294967296) :
  Calls Tryz.prog 120 #[.int .i64 (n : Int)] w fun e w' => e = .returned (.agg (headV n)) ∧ Below w.heap.size w w' := by
 go_enter Tryz.func120, Tryz.ntmps120
 go_wp2
 go_loopw [5] (fun i wr => HeadRel w n i wr) (fun i _ => 4 - (intOf i).toNat)
 case atStart => exact headRel_start w n
 case round =>
  obtain ⟨k, hk, rfl, hrow, hres, hbel⟩ := hrel
  by_cases hlt : k < 4
  ·have Hc := Lib.hid (hrow.cell hlt)
   have hf := hrow.frozen k
   have hcell := Hc.out
   generalize headCell n k k = old at hcell
   clear Hc
   rcases (show k = 0 ∨ k = 1 ∨ k = 2 ∨ k = 3 by omega) with rfl | rfl | rfl | rfl
   ·go_wp2
    go_roundw
    case rel => exact headRel_step (k := 0) (by omega) (by simp [little]) hrow hres hbel
    case measure => simp [intOf]
   ·go_wp2
    go_roundw
    case rel => exact headRel_step (k := 1) (by omega) (by simp [little]) hrow hres hbel
    case measure => simp [intOf]
   ·go_wp2
    go_roundw
    case rel => exact headRel_step (k := 2) (by omega) (by simp [little]) hrow hres hbel
    case measure => simp [intOf]
   ·go_wp2
    go_roundw
    case rel => exact headRel_step (k := 3) (by omega) (by simp [little]) hrow hres hbel
    case measure => simp [intOf]
  ·obtain rfl : k = 4 := by omega
   have g1 := row_head hrow
   obtain ⟨old, hg3, hold, _⟩ := hres
   have Hg3 := Lib.hid hg3
   clear hrow hlt hk hg3
   go_wp2_with (first
    | (refine wpList_load_row rfl 182 _ rfl (w.heap.size + 1) rfl 182 (headV n) (0, 0) _ g1 Tryz.underlying182 rfl (head_infoV n) ?_)
    | (refine wpList_store_row rfl 182 _ _ rfl w.heap.size (headV n) rfl rfl 182 old Hg3.out (head_infoV n) (by rw [hold, headV_size]) (headV_one n) ?_))
   exact bodyPost_ret (v := .agg (headV n)) (results_cell_row (p := 2) (ty := 182) rfl _ _ w.heap.size 182 (headV n) (0, 0) _ rfl (setRow_heap _ _ _ _ _ _ Hg3.out) Tryz.underlying182 rfl (head_infoV n)) rfl
    ⟨rfl, below_setRow hbel (Nat.le_refl _) _⟩

def part4 (b : Nat → Nat) : Nat → Nat
 | 0 => 0
 | 1 => b 0
 | 2 => b 0 + 256 * b 1
 | 3 => b 0 + 256 * b 1 + 65536 * b 2
 | _ => b 0 + 256 * b 1 + 65536 * b 2 + 16777216 * b 3

theorem or_up {a x s : Nat} (ha : a < 2 ^ s) (h : a + x * 2 ^ s < 4294967296) : bits .or .u32 (a : Int) ((x * 2 ^ s : Nat) : Int) = ((a + x * 2 ^ s : Nat) : Int) := by
 rw [u32_or_nat a (x * 2 ^ s) (by omega) (by omega)]
 congr 1
 rw [Nat.or_comm, Nat.mul_comm x, ← Nat.two_pow_add_eq_or_of_lt ha]
 omega

theorem or_part (b : Nat → Nat) (hb : ∀ i, b i < 256) : ∀ k, k < 4 → bits .or .u32 (part4 b k : Int) ((b k : Int) * 2 ^ (8 * k)) = (part4 b (k + 1) : Int) := by
 intro k hk
 have h0 := hb 0
 have h1 := hb 1
 have h2 := hb 2
 have h3 := hb 3
 have e : ((b k : Int) * 2 ^ (8 * k)) = ((b k * 2 ^ (8 * k) : Nat) : Int) := by simp
 rw [e]
 rcases (show k = 0 ∨ k = 1 ∨ k = 2 ∨ k = 3 by omega) with rfl | rfl | rfl | rfl
 ·rw [or_up (by show 0 < 2 ^ (8 * 0); decide) (by simp [part4]; omega)]; simp [part4]
 ·rw [or_up (by simp [part4]; omega) (by simp [part4]; omega)]; simp [part4]; omega
 ·rw [or_up (by simp [part4]; omega) (by simp [part4]; omega)]; simp [part4]; omega
 ·rw [or_up (by simp [part4]; omega) (by simp [part4]; omega)]; simp [part4]; omega

theorem at_head (b : Nat → Nat) (w : World) (k : Nat) (hk : k < 4) :
  (Instr.index 182 (.agg #[.int .u8 (b 0 : Nat), .int .u8 (b 1 : Nat), .int .u8 (b 2 : Nat), .int .u8 (b 3 : Nat)]) (.int .i64 (k : Int))).run Tryz.prog w = .ok (.int .u8 (b k : Nat)) w := by
 rcases (show k = 0 ∨ k = 1 ∨ k = 2 ∨ k = 3 by omega) with rfl | rfl | rfl | rfl
 ·kernel_rfl
 ·kernel_rfl
 ·kernel_rfl
 ·kernel_rfl

set_option maxRecDepth 100000 in
theorem number_any (b : Nat → Nat) (w : World) (hb : ∀ i, b i < 256) :
  Calls Tryz.prog 213 #[.agg #[.int .u8 (b 0 : Nat), .int .u8 (b 1 : Nat), .int .u8 (b 2 : Nat), .int .u8 (b 3 : Nat)]] w fun e w' => e = .returned (.int .u32 (part4 b 4 : Nat)) ∧ Below w.heap.size w w' := by
 have h0 := hb 0
 have h1 := hb 1
 have h2 := hb 2
 have h3 := hb 3
 go_enter Tryz.func213, Tryz.ntmps213
 go_wp2
 go_loop [3, 7] (fun x i => ∃ k : Nat, k ≤ 4 ∧ i = .int .i64 k ∧ x = .int .u32 (part4 b k : Nat)) (fun _ i => 4 - (intOf i).toNat)
 case atStart => exact ⟨0, by omega, rfl, rfl⟩
 case round =>
  obtain ⟨k, hk, rfl, rfl⟩ := hrel
  by_cases hlt : k < 4
  ·rcases (show k = 0 ∨ k = 1 ∨ k = 2 ∨ k = 3 by omega) with rfl | rfl | rfl | rfl
   ·have hix := fun w => at_head b w 0 (by omega)
    rw [show ((0 : Nat) : Int) = 0 from rfl] at hix
    go_wp2
    go_round
    case rel => exact ⟨1, by omega, by go_num, congrArg (Value.int .u32) (by have := or_part b hb 0 (by omega); simpa using this)⟩
    case measure => simp [intOf]
   ·have hix := fun w => at_head b w 1 (by omega)
    rw [show ((1 : Nat) : Int) = 1 from rfl] at hix
    go_wp2
    go_round
    case rel => exact ⟨2, by omega, by go_num, congrArg (Value.int .u32) (or_part b hb 1 (by omega))⟩
    case measure => simp [intOf]
   ·have hix := fun w => at_head b w 2 (by omega)
    rw [show ((2 : Nat) : Int) = 2 from rfl] at hix
    go_wp2
    go_round
    case rel => exact ⟨3, by omega, by go_num, congrArg (Value.int .u32) (or_part b hb 2 (by omega))⟩
    case measure => simp [intOf]
   ·have hix := fun w => at_head b w 3 (by omega)
    rw [show ((3 : Nat) : Int) = 3 from rfl] at hix
    go_wp2
    go_round
    case rel => exact ⟨4, by omega, by go_num, congrArg (Value.int .u32) (or_part b hb 3 (by omega))⟩
    case measure => simp [intOf]
  ·obtain rfl : k = 4 := by omega
   go_wp2
   go_ret
   exact ⟨rfl, (Below.refl _ _).alloc (Nat.le_refl _) _⟩
end Go.Proofs.YtnbddiiedagllaaGreat

/- The walks of Make, of the code and of the reference. -/
namespace Go.Proofs.YtnbddiiedagllaaGreat
open Go.RowKit Crc

section
variable {P : Program} (w : World)

theorem wpList_append_full {ops : Array Oper} {rest : List Oper} {o : Oper} {a : Act} {Q : Exit → Act → World → Prop} (hgd : o.guard = none) (s x : Operand) (t : TypeId)
  (ho : o.op = .call { callee := .builtin .append, args := #[s, x], argTypes := #[t, t] })
  (ht : P.underlying t = some (.slice 5)) (hinfo : (P.info? 5).map (fun i => (i.zero, i.size, i.bytes)) = some (some (.int .u8 0), 1, 1))
  (b : Option Addr) (n : Nat) (l : List Nat) (hs : a.eval s = .slice b n n) (hS : Bytes w b n n l)
  (p : Option Addr) (m c : Nat) (l' : List Nat) (hx : a.eval x = .slice p m c) (hB : Bytes w p m c l')
  (hbytes : n + m ≤ 140737488355328)
  (h : ∀ q k w', Bytes w' q (n + m) k (l ++ l') → Below w.heap.size w w' → wpList P ops Q rest (a.put o.dst (.slice q (n + m) k)) w') : wpList P ops Q (o :: rest) a w := by
 rcases Nat.eq_zero_or_pos m with rfl | hm
 ·obtain ⟨i, hi, _, hsz, _⟩ := info_parts hinfo
  have hl' : l' = [] := List.length_eq_zero_iff.1 hB.len
  have hr : (Builtin.append_ #[t, t] o.type #[.slice b n n, .slice p 0 c]).run P w = .ok (.slice b n n) w := by
   refine run_append_nothing w t t o.type 5 i ht hi b n n (Nat.le_refl _) (.slice p 0 c) ?_
   cases p with
   | none => exact Src.ofNil w ht c
   | some ad => exact Src.ofSlice w ht ad 0 c [] (by simp) (fun j u h => by simp at h) (fun u h => by simp at h)
  refine wpList_plain hgd fun K hK => ?_
  unfold Oper.wp execOp
  simp only [ho, resolve, invoke, builtin, Sem.run_bind, Sem.run_pure, Result.andThen_ok, List.map_toArray, List.map_cons, List.map_nil, hs, hx, hr]
  refine hK _ _ (h b n w ?_ (Below.refl _ _))
  rw [hl', List.append_nil]
  exact hS
 ·refine wpList_append_capped w hgd s x t ho 5 ht hinfo b n l hs hS p m c l' hx hB hm hbytes fun v' w' g1 g2 => ?_
  obtain ⟨q, k, rfl, hq⟩ := own_slice (l := l ++ l') g1 (fun y hy => by
   rcases List.mem_append.1 hy with hy | hy
   ·exact hS.byte y hy
   ·exact hB.byte y hy)
  exact h q k w' hq g2
end

theorem slice_headF (B : Nat) (w : World) : (Instr.sliceAt 182 (.pointer (some ⟨B, 0, none⟩)) none none none).run Tryz.prog w = .ok (.slice (some ⟨B, 0, none⟩) 4 4) w := by
 have e := run_sliceAt_array_all (P := Tryz.prog) w 182 ⟨B, 0, none⟩ (by kernel_rfl)
 have es : (sizeOf (Tryz.prog.elem 182)).run Tryz.prog w = .ok 1 w := by kernel_rfl
 rw [e, es, show Tryz.prog.arrayLen 182 = 4 by kernel_rfl]
 show Result.ok (slicedAt ⟨B, 0, none⟩ 0 4 4 1) w = _
 unfold slicedAt
 rw [if_neg (by decide)]
 simp [Addr.add]

theorem head_bytes {w : World} {B n : Nat} {t : TypeId} (hn : n < 4294967296) (h : w.heap[B]? = some (.cells (headV n) t (0, 0))) : Bytes w (some ⟨B, 0, none⟩) 4 4 (little n) := by
 refine ⟨rfl, Nat.le_refl _, by omega, little_lt hn, (fun h => by cases h), fun _ => ⟨B, 0, rfl, fun i hi => ?_⟩⟩
 rw [Nat.zero_add, cell_of_row w B i (headV n) t (0, 0) h]
 rcases i with _ | _ | _ | _ | i
 all_goals first | rfl | omega

def MakeEnd (w : World) (l : List Nat) (e : Ending) (w' : World) : Prop :=
 ∃ v, e = .returned (.tuple #[v, .bool true]) ∧ OwnBytes w w' v (frameL l)

theorem make_no (a : Option Addr) (n cap : Nat) (w : World) (hn : 1048576 < n) :
  Calls Tryz.prog 76 #[.slice a n cap] w fun e w' => e = .returned (.tuple #[.slice none 0 0, .bool false]) ∧ w = w' := by
 go_enter Tryz.func76, Tryz.ntmps76
 go_wp2
 go_ret2
 exact ⟨rfl, rfl⟩

theorem make_yes (a : Option Addr) (n cap : Nat) (l : List Nat) (w : World) (hl : Bytes w a n cap l) (hn : n ≤ 1048576) :
  Calls Tryz.prog 76 #[.slice a n cap] w (MakeEnd w l) := by
 have HB := Lib.hid hl
 clear hl
 have hsl := slice_headF
 go_enter Tryz.func76, Tryz.ntmps76
 go_wp2_with fail
 refine (newHead_any n w (by omega)).mono ?_
 rintro e w1 ⟨rfl, hb1⟩
 have Hn := Lib.hid (head_infoV n)
 have H1 := Lib.hid (headV_one n)
 have Hs := Lib.hid (headV_size n)
 have hba : Below w1.heap.size w1 (w1.alloc (.cells (headV n) 182)) := (Below.refl _ _).alloc (Nat.le_refl _) _
 have Hb2 := Lib.hid (hb1.trans (hba.mono hb1.size))
 have HH := Lib.hid (head_bytes (n := n) (by omega) (heap_alloc_new w1 (.cells (headV n) 182)))
 have HL := Lib.hid (HB.out.grow Hb2.out)
 have hlen : (little n ++ l).length = 4 + n := by rw [List.length_append, little_len, HB.out.len]
 have Hlen := Lib.hid hlen
 clear hba hlen
 go_wp2_with (first
  | (refine wpList_store_row rfl 182 _ _ rfl _ (headV n) rfl rfl 182 _ (heap_alloc_new _ _) Hn.out (by rw [Hs.out]; rfl) H1.out ?_; rw [World.setRow_alloc_new])
  | (at_builtin; refine wpList_append_full _ rfl _ _ 58 rfl Tryz.underlying58 info_u8 _ 4 (little n) rfl HH.out a n cap l rfl HL.out (by omega) ?_; intro q k w2 g1 g2))
 have Hb3 := Lib.hid (Hb2.out.trans (g2.mono Hb2.out.size))
 have HS := Lib.hid (seal_any q (4 + n) k (little n ++ l) w2 g1 (by omega))
 clear g1 g2
 go_wp2_with fail
 refine HS.out.mono ?_
 rintro e w3 ⟨v, rfl, hown, hb4⟩
 have hown : w3.ownsRow w2.heap.size 5 1 v (sealL (little n ++ l)).length (u8s (sealL (little n ++ l))) := hown
 have Hown := Lib.hid hown
 clear hown
 go_wp2
 go_ret2
 refine ⟨v, rfl, ?_, Hb3.out.trans (hb4.mono Hb3.out.size)⟩
 have e : frameL l = sealL (little n ++ l) := by unfold frameL; rw [HB.out.len]
 rw [e]
 exact own_base Hown.out Hb3.out.size

theorem rmake_no (a : Option Addr) (n cap : Nat) (w : World) (hn : 1048576 < n) :
  Calls Tryz.prog 72 #[.slice a n cap] w fun e w' => e = .returned (.tuple #[.slice none 0 0, .bool false]) ∧ w = w' := by
 go_enter Tryz.func72, Tryz.ntmps72
 go_wp2
 go_ret2
 exact ⟨rfl, rfl⟩

theorem rmake_yes (a : Option Addr) (n cap : Nat) (l : List Nat) (w : World) (hl : Bytes w a n cap l) (hn : n ≤ 1048576) :
  Calls Tryz.prog 72 #[.slice a n cap] w (MakeEnd w l) := by
 have HB := Lib.hid hl
 clear hl
 go_enter Tryz.func72, Tryz.ntmps72
 go_wp2_with fail
 refine (little_any n w (by omega)).mono ?_
 rintro e w1 ⟨v, rfl, hown, hb1⟩
 have Hown := Lib.hid hown
 have HL := Lib.hid (HB.out.grow hb1)
 clear hown
 go_wp2_with (at_builtin; refine wpList_append_bytes _ rfl _ _ 58 rfl w.heap.size 5 Tryz.underlying58 info_u8 _ _ _ rfl Hown.out a n cap l rfl HL.out (by rw [little_len]; omega) hb1.size ?_; intro v' w2 g1 g2)
 have Hb2 := Lib.hid (hb1.grown g2 hb1.size (fun k hk => (Hown.out.lt k hk).1))
 obtain ⟨p, cp, rfl, hC⟩ := own_slice g1 (fun y hy => by
   rcases List.mem_append.1 hy with hy | hy
   ·exact little_lt (by omega) y hy
   ·exact HB.out.byte y hy)
 have HS := Lib.hid (rseal_any p _ cp (little n ++ l) w2 hC (by rw [little_len]; omega))
 clear g1 g2 hC
 go_wp2_with fail
 refine HS.out.mono ?_
 rintro e w3 ⟨v, rfl, hown, hb4⟩
 have Hown := Lib.hid hown
 clear hown
 go_wp2
 go_ret2
 refine ⟨v, rfl, ?_, Hb2.out.trans (hb4.mono Hb2.out.size)⟩
 have e : frameL l = sealL (little n ++ l) := by unfold frameL; rw [HB.out.len]
 rw [e]
 exact own_base Hown.out Hb2.out.size
end Go.Proofs.YtnbddiiedagllaaGreat

