import Derived.Test.YtpnfnmeilhiebaaGreatDoorMP5
import Derived.WalkLawsBesides
import Derived.Test.YtpnfnmeilhiebaaGreatDoorMP3
import Derived.Test.YtpnfnmeilhiebaaGreatDoorMP2
import Derived.Deep.OwnRows
import Derived.Deep.RegionHeld
/- What a value has in the field of its kind: contentOf and whole. -/
namespace Go.Proofs.YtpnfnmeilhiebaaGreatDoor
open Go.RowKit Fl

/-- The content of a value with these fields. -/
def conOf (k n : Int) (f : Nat) (s : List Nat) (a : Option Addr) (len cap : Nat) : Value :=
  if k = 0 then .iface 66 (.agg #[]) else if k = 1 then .iface 67 (.int .i64 n) else if k = 2 then .iface 68 (.float .f64 f)
  else if k = 3 then .iface 69 (.string (str s)) else if k = 4 then .iface 70 (.slice a len cap) else .nilIface

theorem contentOf_any (k n : Int) (f : Nat) (s : List Nat) (a : Option Addr) (len cap : Nat) (w : World) :
    Calls Tryz.prog 24 #[.agg (cells5 k n f s a len cap)] w fun e w' => e = .returned (conOf k n f s a len cap) ∧ Below w.heap.size w w' := by
  have hb := (Below.refl w.heap.size w).alloc (Nat.le_refl _) (.cells (cells5 k n f s a len cap) 25)
  unfold cells5 at *
  by_cases h0 : k = 0
  · subst h0
    go_enter Tryz.func24, Tryz.ntmps24
    go_wp2
    go_ret
    exact ⟨rfl, hb⟩
  by_cases h1 : k = 1
  · subst h1
    clear h0
    go_enter Tryz.func24, Tryz.ntmps24
    go_wp2
    go_ret
    exact ⟨rfl, hb⟩
  by_cases h2 : k = 2
  · subst h2
    clear h0 h1
    go_enter Tryz.func24, Tryz.ntmps24
    go_wp2
    go_ret
    exact ⟨rfl, hb⟩
  by_cases h3 : k = 3
  · subst h3
    clear h0 h1 h2
    go_enter Tryz.func24, Tryz.ntmps24
    go_wp2
    go_ret
    exact ⟨rfl, hb⟩
  by_cases h4 : k = 4
  · subst h4
    clear h0 h1 h2 h3
    go_enter Tryz.func24, Tryz.ntmps24
    go_wp2
    go_ret
    exact ⟨rfl, hb⟩
  have Hf := Lib.hid (show conOf k n f s a len cap = .nilIface from by unfold conOf; rw [if_neg h0, if_neg h1, if_neg h2, if_neg h3, if_neg h4])
  have d0 : (k == 0) = false := beq_eq_false_iff_ne.2 h0
  have d1 : (k == 1) = false := beq_eq_false_iff_ne.2 h1
  have d2 : (k == 2) = false := beq_eq_false_iff_ne.2 h2
  have d3 : (k == 3) = false := beq_eq_false_iff_ne.2 h3
  have d4 : (k == 4) = false := beq_eq_false_iff_ne.2 h4
  clear h0 h1 h2 h3 h4
  go_enter Tryz.func24, Tryz.ntmps24
  go_wp2
  go_ret
  exact ⟨by rw [Hf.out]; rfl, hb⟩

theorem as_none_int (w : World) : (Instr.typeAssert .nilIface 46 67 true).run Tryz.prog w = .ok (.tuple #[.int .i64 0, .bool false]) w := by kernel_rfl
theorem as_none_float (w : World) : (Instr.typeAssert .nilIface 46 68 true).run Tryz.prog w = .ok (.tuple #[.float .f64 0, .bool false]) w := by kernel_rfl
theorem as_none_text (w : World) : (Instr.typeAssert .nilIface 46 69 true).run Tryz.prog w = .ok (.tuple #[.string ByteArray.empty, .bool false]) w := by kernel_rfl
theorem as_none_list (w : World) : (Instr.typeAssert .nilIface 46 70 true).run Tryz.prog w = .ok (.tuple #[.slice none 0 0, .bool false]) w := by kernel_rfl

set_option maxRecDepth 100000 in
theorem whole_none  (w : World) :
    Calls Tryz.prog 33 #[.nilIface] w fun e w' => e = .returned (.agg (cells5 0 0 0 [] none 0 0)) ∧ Below w.heap.size w w' := by
  have a_int := as_none_int
  have a_float := as_none_float
  have a_text := as_none_text
  have a_list := as_none_list
  have hfl : ∀ (w : World) (a : Addr) (m : Mode) (b : Nat), (store a (.float .f64 b) m).run Tryz.prog w = stored Tryz.prog w a (.float .f64 b) m := fun w a m b => run_store Tryz.prog w a _ m rfl
  go_enter Tryz.func33, Tryz.ntmps33
  go_wp2
  obtain ⟨z0, z1, z2, z3, z4⟩ := new5 w (.int .i64 0) (.int .i64 0) (.float .f64 0) (.string ⟨#[]⟩) (.slice none 0 0) 25
  refine bodyPost_ret (v := .agg #[.int .i64 0, .int .i64 0, .float .f64 0, .string (str []), .slice none 0 0]) (by simp [results, Tryz.results33, go_sem, *]; try rfl) rfl ⟨rfl, (Below.refl _ _).alloc (Nat.le_refl _) _⟩

theorem as_nil_int (v : Value) (w : World) : (Instr.typeAssert (.iface 66 v) 46 67 true).run Tryz.prog w = .ok (.tuple #[.int .i64 0, .bool false]) w := by kernel_rfl
theorem as_nil_float (v : Value) (w : World) : (Instr.typeAssert (.iface 66 v) 46 68 true).run Tryz.prog w = .ok (.tuple #[.float .f64 0, .bool false]) w := by kernel_rfl
theorem as_nil_text (v : Value) (w : World) : (Instr.typeAssert (.iface 66 v) 46 69 true).run Tryz.prog w = .ok (.tuple #[.string ByteArray.empty, .bool false]) w := by kernel_rfl
theorem as_nil_list (v : Value) (w : World) : (Instr.typeAssert (.iface 66 v) 46 70 true).run Tryz.prog w = .ok (.tuple #[.slice none 0 0, .bool false]) w := by kernel_rfl

set_option maxRecDepth 100000 in
theorem whole_nil  (w : World) :
    Calls Tryz.prog 33 #[.iface 66 (.agg #[])] w fun e w' => e = .returned (.agg (cells5 0 0 0 [] none 0 0)) ∧ Below w.heap.size w w' := by
  have a_int := as_nil_int (.agg #[])
  have a_float := as_nil_float (.agg #[])
  have a_text := as_nil_text (.agg #[])
  have a_list := as_nil_list (.agg #[])
  have hfl : ∀ (w : World) (a : Addr) (m : Mode) (b : Nat), (store a (.float .f64 b) m).run Tryz.prog w = stored Tryz.prog w a (.float .f64 b) m := fun w a m b => run_store Tryz.prog w a _ m rfl
  go_enter Tryz.func33, Tryz.ntmps33
  go_wp2
  obtain ⟨z0, z1, z2, z3, z4⟩ := new5 w (.int .i64 0) (.int .i64 0) (.float .f64 0) (.string ⟨#[]⟩) (.slice none 0 0) 25
  refine bodyPost_ret (v := .agg #[.int .i64 0, .int .i64 0, .float .f64 0, .string (str []), .slice none 0 0]) (by simp [results, Tryz.results33, go_sem, *]; try rfl) rfl ⟨rfl, (Below.refl _ _).alloc (Nat.le_refl _) _⟩

theorem as_int_int (v : Value) (w : World) : (Instr.typeAssert (.iface 67 v) 46 67 true).run Tryz.prog w = .ok (.tuple #[v, .bool true]) w := by kernel_rfl
theorem as_int_float (v : Value) (w : World) : (Instr.typeAssert (.iface 67 v) 46 68 true).run Tryz.prog w = .ok (.tuple #[.float .f64 0, .bool false]) w := by kernel_rfl
theorem as_int_text (v : Value) (w : World) : (Instr.typeAssert (.iface 67 v) 46 69 true).run Tryz.prog w = .ok (.tuple #[.string ByteArray.empty, .bool false]) w := by kernel_rfl
theorem as_int_list (v : Value) (w : World) : (Instr.typeAssert (.iface 67 v) 46 70 true).run Tryz.prog w = .ok (.tuple #[.slice none 0 0, .bool false]) w := by kernel_rfl

set_option maxRecDepth 100000 in
theorem whole_int (n : Int) (w : World) :
    Calls Tryz.prog 33 #[.iface 67 (.int .i64 n)] w fun e w' => e = .returned (.agg (cells5 1 n 0 [] none 0 0)) ∧ Below w.heap.size w w' := by
  have a_int := as_int_int (.int .i64 n)
  have a_float := as_int_float (.int .i64 n)
  have a_text := as_int_text (.int .i64 n)
  have a_list := as_int_list (.int .i64 n)
  have hfl : ∀ (w : World) (a : Addr) (m : Mode) (b : Nat), (store a (.float .f64 b) m).run Tryz.prog w = stored Tryz.prog w a (.float .f64 b) m := fun w a m b => run_store Tryz.prog w a _ m rfl
  go_enter Tryz.func33, Tryz.ntmps33
  go_wp2
  obtain ⟨z0, z1, z2, z3, z4⟩ := new5 w (.int .i64 1) (.int .i64 n) (.float .f64 0) (.string ⟨#[]⟩) (.slice none 0 0) 25
  refine bodyPost_ret (v := .agg #[.int .i64 1, .int .i64 n, .float .f64 0, .string (str []), .slice none 0 0]) (by simp [results, Tryz.results33, go_sem, *]; try rfl) rfl ⟨rfl, (Below.refl _ _).alloc (Nat.le_refl _) _⟩

theorem as_float_int (v : Value) (w : World) : (Instr.typeAssert (.iface 68 v) 46 67 true).run Tryz.prog w = .ok (.tuple #[.int .i64 0, .bool false]) w := by kernel_rfl
theorem as_float_float (v : Value) (w : World) : (Instr.typeAssert (.iface 68 v) 46 68 true).run Tryz.prog w = .ok (.tuple #[v, .bool true]) w := by kernel_rfl
theorem as_float_text (v : Value) (w : World) : (Instr.typeAssert (.iface 68 v) 46 69 true).run Tryz.prog w = .ok (.tuple #[.string ByteArray.empty, .bool false]) w := by kernel_rfl
theorem as_float_list (v : Value) (w : World) : (Instr.typeAssert (.iface 68 v) 46 70 true).run Tryz.prog w = .ok (.tuple #[.slice none 0 0, .bool false]) w := by kernel_rfl

set_option maxRecDepth 100000 in
theorem whole_float (f : Nat) (w : World) :
    Calls Tryz.prog 33 #[.iface 68 (.float .f64 f)] w fun e w' => e = .returned (.agg (cells5 2 0 f [] none 0 0)) ∧ Below w.heap.size w w' := by
  have a_int := as_float_int (.float .f64 f)
  have a_float := as_float_float (.float .f64 f)
  have a_text := as_float_text (.float .f64 f)
  have a_list := as_float_list (.float .f64 f)
  have hfl : ∀ (w : World) (a : Addr) (m : Mode) (b : Nat), (store a (.float .f64 b) m).run Tryz.prog w = stored Tryz.prog w a (.float .f64 b) m := fun w a m b => run_store Tryz.prog w a _ m rfl
  go_enter Tryz.func33, Tryz.ntmps33
  go_wp2
  obtain ⟨z0, z1, z2, z3, z4⟩ := new5 w (.int .i64 2) (.int .i64 0) (.float .f64 f) (.string ⟨#[]⟩) (.slice none 0 0) 25
  refine bodyPost_ret (v := .agg #[.int .i64 2, .int .i64 0, .float .f64 f, .string (str []), .slice none 0 0]) (by simp [results, Tryz.results33, go_sem, *]; try rfl) rfl ⟨rfl, (Below.refl _ _).alloc (Nat.le_refl _) _⟩

theorem as_text_int (v : Value) (w : World) : (Instr.typeAssert (.iface 69 v) 46 67 true).run Tryz.prog w = .ok (.tuple #[.int .i64 0, .bool false]) w := by kernel_rfl
theorem as_text_float (v : Value) (w : World) : (Instr.typeAssert (.iface 69 v) 46 68 true).run Tryz.prog w = .ok (.tuple #[.float .f64 0, .bool false]) w := by kernel_rfl
theorem as_text_text (v : Value) (w : World) : (Instr.typeAssert (.iface 69 v) 46 69 true).run Tryz.prog w = .ok (.tuple #[v, .bool true]) w := by kernel_rfl
theorem as_text_list (v : Value) (w : World) : (Instr.typeAssert (.iface 69 v) 46 70 true).run Tryz.prog w = .ok (.tuple #[.slice none 0 0, .bool false]) w := by kernel_rfl

set_option maxRecDepth 100000 in
theorem whole_text (s : List Nat) (w : World) :
    Calls Tryz.prog 33 #[.iface 69 (.string (str s))] w fun e w' => e = .returned (.agg (cells5 3 0 0 s none 0 0)) ∧ Below w.heap.size w w' := by
  have a_int := as_text_int (.string (str s))
  have a_float := as_text_float (.string (str s))
  have a_text := as_text_text (.string (str s))
  have a_list := as_text_list (.string (str s))
  have hfl : ∀ (w : World) (a : Addr) (m : Mode) (b : Nat), (store a (.float .f64 b) m).run Tryz.prog w = stored Tryz.prog w a (.float .f64 b) m := fun w a m b => run_store Tryz.prog w a _ m rfl
  go_enter Tryz.func33, Tryz.ntmps33
  go_wp2
  obtain ⟨z0, z1, z2, z3, z4⟩ := new5 w (.int .i64 3) (.int .i64 0) (.float .f64 0) (.string (str s)) (.slice none 0 0) 25
  refine bodyPost_ret (v := .agg #[.int .i64 3, .int .i64 0, .float .f64 0, .string (str s), .slice none 0 0]) (by simp [results, Tryz.results33, go_sem, *]; try rfl) rfl ⟨rfl, (Below.refl _ _).alloc (Nat.le_refl _) _⟩

theorem as_list_int (v : Value) (w : World) : (Instr.typeAssert (.iface 70 v) 46 67 true).run Tryz.prog w = .ok (.tuple #[.int .i64 0, .bool false]) w := by kernel_rfl
theorem as_list_float (v : Value) (w : World) : (Instr.typeAssert (.iface 70 v) 46 68 true).run Tryz.prog w = .ok (.tuple #[.float .f64 0, .bool false]) w := by kernel_rfl
theorem as_list_text (v : Value) (w : World) : (Instr.typeAssert (.iface 70 v) 46 69 true).run Tryz.prog w = .ok (.tuple #[.string ByteArray.empty, .bool false]) w := by kernel_rfl
theorem as_list_list (v : Value) (w : World) : (Instr.typeAssert (.iface 70 v) 46 70 true).run Tryz.prog w = .ok (.tuple #[v, .bool true]) w := by kernel_rfl

set_option maxRecDepth 100000 in
theorem whole_list (a : Option Addr) (len cap : Nat) (w : World) :
    Calls Tryz.prog 33 #[.iface 70 (.slice a len cap)] w fun e w' => e = .returned (.agg (cells5 4 0 0 [] a len cap)) ∧ Below w.heap.size w w' := by
  have a_int := as_list_int (.slice a len cap)
  have a_float := as_list_float (.slice a len cap)
  have a_text := as_list_text (.slice a len cap)
  have a_list := as_list_list (.slice a len cap)
  have hfl : ∀ (w : World) (a : Addr) (m : Mode) (b : Nat), (store a (.float .f64 b) m).run Tryz.prog w = stored Tryz.prog w a (.float .f64 b) m := fun w a m b => run_store Tryz.prog w a _ m rfl
  go_enter Tryz.func33, Tryz.ntmps33
  go_wp2
  obtain ⟨z0, z1, z2, z3, z4⟩ := new5 w (.int .i64 4) (.int .i64 0) (.float .f64 0) (.string ⟨#[]⟩) (.slice a len cap) 25
  refine bodyPost_ret (v := .agg #[.int .i64 4, .int .i64 0, .float .f64 0, .string (str []), .slice a len cap]) (by simp [results, Tryz.results33, go_sem, *]; try rfl) rfl ⟨rfl, (Below.refl _ _).alloc (Nat.le_refl _) _⟩

/-- The value with a content and nothing else. -/
def wholeOf (k n : Int) (f : Nat) (s : List Nat) (a : Option Addr) (len cap : Nat) : Array Value :=
  if k = 1 then cells5 1 n 0 [] none 0 0 else if k = 2 then cells5 2 0 f [] none 0 0 else if k = 3 then cells5 3 0 0 s none 0 0 else if k = 4 then cells5 4 0 0 [] a len cap else cells5 0 0 0 [] none 0 0

theorem whole_any (k n : Int) (f : Nat) (s : List Nat) (a : Option Addr) (len cap : Nat) (w : World) :
    Calls Tryz.prog 33 #[conOf k n f s a len cap] w fun e w' => e = .returned (.agg (wholeOf k n f s a len cap)) ∧ Below w.heap.size w w' := by
  unfold conOf wholeOf
  by_cases h0 : k = 0
  · subst h0
    exact whole_nil w
  rw [if_neg h0]
  by_cases h1 : k = 1
  · rw [if_pos h1, if_pos h1]
    exact whole_int n w
  rw [if_neg h1, if_neg h1]
  by_cases h2 : k = 2
  · rw [if_pos h2, if_pos h2]
    exact whole_float f w
  rw [if_neg h2, if_neg h2]
  by_cases h3 : k = 3
  · rw [if_pos h3, if_pos h3]
    exact whole_text s w
  rw [if_neg h3, if_neg h3]
  by_cases h4 : k = 4
  · rw [if_pos h4, if_pos h4]
    exact whole_list a len cap w
  rw [if_neg h4, if_neg h4]
  exact whole_none w
end Go.Proofs.YtpnfnmeilhiebaaGreatDoor

/- The forms of contents. -/
namespace Go.Proofs.YtpnfnmeilhiebaaGreatDoor
open Go.RowKit Go.Shelf Fl

/-- The 8 bytes of a number, the highest first. -/
def be8 (x : Nat) : List Nat := (List.range 8).map fun p => x / 2 ^ (8 * (7 - p)) % 256

theorem be8_byte (x : Nat) : ∀ c ∈ be8 x, c < 256 := by
  intro c hc
  unfold be8 at hc
  obtain ⟨p, _, rfl⟩ := List.mem_map.1 hc
  exact Nat.mod_lt _ (by omega)

theorem nilForm_any (w : World) : Calls Tryz.prog 152 #[.agg #[]] w (NewBytes w []) := by
  go_enter Tryz.func152, Tryz.ntmps152
  go_wp2
  go_ret
  exact ⟨_, rfl, World.ownsRow_nil _ _ _ _, (Below.refl _ _).alloc (Nat.le_refl _) _⟩

theorem intForm_any (n : Int) (w : World) (h0 : -9223372036854775808 ≤ n) (h1 : n ≤ 9223372036854775807) :
    Calls Tryz.prog 154 #[.int .i64 n] w (NewBytes w (form (foldL n))) := by
  have H := Lib.hid (int_any n w h0 h1)
  clear h0 h1
  go_enter Tryz.func154, Tryz.ntmps154
  go_wp2_with fail
  refine H.out.mono ?_
  rintro e w' ⟨v, rfl, hv⟩
  have Hv := Lib.hid hv
  clear hv
  go_wp2
  go_ret
  exact ⟨_, rfl, Hv.out⟩

theorem textForm_any (s : List Nat) (w : World) (hs : ∀ c ∈ s, c < 256) (hn : s.length ≤ 1000000) :
    Calls Tryz.prog 161 #[.string (str s)] w (NewBytes w (formB s)) := by
  have H := Lib.hid (textF_any s w hs (by omega))
  clear hs hn
  go_enter Tryz.func161, Tryz.ntmps161
  go_wp2_with fail
  refine H.out.mono ?_
  rintro e w' ⟨v, rfl, hv⟩
  have Hv := Lib.hid hv
  clear hv
  go_wp2
  go_ret
  exact ⟨_, rfl, Hv.out⟩

theorem listForm_any (a : Option Addr) (len cap : Nat) (w : World) (hl : len < 18446744073709551616) :
    Calls Tryz.prog 164 #[.slice a len cap] w (NewBytes w (form len)) := by
  have H := Lib.hid (uint_any len w hl)
  go_enter Tryz.func164, Tryz.ntmps164
  go_wp2_with fail
  refine H.out.mono ?_
  rintro e w' ⟨v, rfl, hv⟩
  have Hv := Lib.hid hv
  clear hv
  go_wp2
  go_ret
  exact ⟨_, rfl, Hv.out⟩

/-- The row of bytes behind j rounds. -/
def bcell (x j p : Nat) : Value := if 8 ≤ p + j then .int .u8 ((x / 2 ^ (8 * (7 - p)) % 256 : Nat) : Int) else .int .u8 0

set_option maxRecDepth 100000 in
theorem floatForm_any (f : Nat) (w : World) (hf : f < 18446744073709551616) :
    Calls Tryz.prog 159 #[.float .f64 f] w (NewBytes w (be8 (bitsB f))) := by
  have HB := Lib.hid (fun w => bits_any f w hf)
  have hx := bitsB_lt hf
  clear hf
  generalize bitsB f = x at *
  have hmk : ∀ w : World, (Instr.makeSlice 28 (.int .i64 8) (.int .i64 8)).run Tryz.prog w = .ok (.slice (some ⟨w.heap.size, 0, none⟩) 8 8) (w.alloc (.cells (madeCells #[.int .u8 0] 8) 5)) := fun w =>
    run_make_row' (P := Tryz.prog) 28 5 (.int .u8 0) 1 Tryz.underlying28 info_u8 rfl .i64 .i64 8 (by omega) (by omega) w
  have H0 := Lib.hid ((World.rowIs_made w (.int .u8 0) 8 5).congr (g := bcell x 0) (fun i hi => by unfold bcell; rw [if_neg (by omega)]))
  have Hb0 := Lib.hid ((Below.refl w.heap.size w).alloc (Nat.le_refl _) (.cells (madeCells #[Value.int .u8 0] 8) 5))
  go_enter Tryz.func159, Tryz.ntmps159
  go_wp2_with fail
  refine (HB.out _).mono ?_
  rintro e w' ⟨rfl, rfl⟩
  go_wp2
  generalize w.alloc (.cells (madeCells #[.int .u8 0] 8) 5) = w1 at *
  go_loopw [11] (fun i wr => ∃ j : Nat, j ≤ 8 ∧ i = .int .i64 (j : Int) ∧ wr.rowIs w.heap.size 5 8 (bcell x j) ∧ Below w.heap.size w wr) (fun i _ => 8 - (intOf i).toNat)
  case atStart => exact ⟨0, by omega, rfl, H0.out, Hb0.out⟩
  case round =>
    obtain ⟨j, hj, rfl, hrow, hbel⟩ := hrel
    have Hrow := Lib.hid hrow
    have Hbel := Lib.hid hbel
    by_cases hlt : j < 8
    · have hcell := hrow.cell (show 7 - j < 8 by omega)
      have hfz := hrow.frozen (7 - j)
      have Hset := Lib.hid (fun (u : Value) (hu : u = .int .u8 ((x / 2 ^ (8 * j) % 256 : Nat) : Int)) => (hrow.set (7 - j) u).congr (g := bcell x (j + 1)) (fun k hk => by
        unfold bcell
        by_cases e : k = 7 - j
        · rw [if_pos e, if_pos (by omega), hu, show 7 - k = j by omega]
        · rw [if_neg e]
          by_cases h2 : 8 ≤ k + j
          · rw [if_pos h2, if_pos (by omega)]
          · rw [if_neg h2, if_neg (by omega)]))
      clear hrow hbel hj
      rcases (show j = 0 ∨ j = 1 ∨ j = 2 ∨ j = 3 ∨ j = 4 ∨ j = 5 ∨ j = 6 ∨ j = 7 by omega) with rfl | rfl | rfl | rfl | rfl | rfl | rfl | rfl
      · go_wp2
        case roundEnd => exact ⟨⟨1, by omega, rfl, Hset.out _ (by simp only [Nat.reduceMul, Nat.reducePow]; congr 1; omega), Hbel.out.setCell (Nat.le_refl _) _⟩, by simp [intOf]⟩
      · go_wp2
        case roundEnd => exact ⟨⟨2, by omega, rfl, Hset.out _ (by simp only [Nat.reduceMul, Nat.reducePow]; congr 1), Hbel.out.setCell (Nat.le_refl _) _⟩, by simp [intOf]⟩
      · go_wp2
        case roundEnd => exact ⟨⟨3, by omega, rfl, Hset.out _ (by simp only [Nat.reduceMul, Nat.reducePow]; congr 1), Hbel.out.setCell (Nat.le_refl _) _⟩, by simp [intOf]⟩
      · go_wp2
        case roundEnd => exact ⟨⟨4, by omega, rfl, Hset.out _ (by simp only [Nat.reduceMul, Nat.reducePow]; congr 1), Hbel.out.setCell (Nat.le_refl _) _⟩, by simp [intOf]⟩
      · go_wp2
        case roundEnd => exact ⟨⟨5, by omega, rfl, Hset.out _ (by simp only [Nat.reduceMul, Nat.reducePow]; congr 1), Hbel.out.setCell (Nat.le_refl _) _⟩, by simp [intOf]⟩
      · go_wp2
        case roundEnd => exact ⟨⟨6, by omega, rfl, Hset.out _ (by simp only [Nat.reduceMul, Nat.reducePow]; congr 1), Hbel.out.setCell (Nat.le_refl _) _⟩, by simp [intOf]⟩
      · go_wp2
        case roundEnd => exact ⟨⟨7, by omega, rfl, Hset.out _ (by simp only [Nat.reduceMul, Nat.reducePow]; congr 1), Hbel.out.setCell (Nat.le_refl _) _⟩, by simp [intOf]⟩
      · go_wp2
        case roundEnd => exact ⟨⟨8, by omega, rfl, Hset.out _ (by simp only [Nat.reduceMul, Nat.reducePow]; congr 1; omega), Hbel.out.setCell (Nat.le_refl _) _⟩, by simp [intOf]⟩
    · obtain rfl : j = 8 := by omega
      have Hown := Lib.hid (show wr.ownsRow w.heap.size 5 1 (.slice (some ⟨w.heap.size, 0, none⟩) 8 8) 8 (u8s (be8 x)) from by
        obtain ⟨c, hb, hn, hc⟩ := hrow
        refine ⟨by simp [u8s, be8], .inr ⟨w.heap.size, 8, c, rfl, Nat.le_refl _, hb, Nat.le_refl _, by rw [maxLen_nat]; omega, by rw [hn], ?_⟩⟩
        apply List.ext_getElem?
        intro k
        rw [List.getElem?_take]
        by_cases hk : k < 8
        · rw [if_pos (by omega), Array.getElem?_toList, hc k hk]
          unfold bcell u8s be8
          rw [if_pos (by omega), List.map_map, List.getElem?_map, List.getElem?_range hk]
          rfl
        · rw [if_neg (by omega), List.getElem?_eq_none (by simp [u8s, be8]; omega)])
      clear hrow hbel hj hlt
      go_wp2
      go_ret
      exact ⟨_, rfl, by rw [show (be8 x).length = 8 by simp [be8]]; exact Hown.out, Hbel.out⟩
end Go.Proofs.YtpnfnmeilhiebaaGreatDoor

/- Which values have only fields of their kind: bare, and Valid's own test. -/
namespace Go.Proofs.YtpnfnmeilhiebaaGreatDoor
open Go.RowKit Fl

/-- Only fields of a kind that there is. -/
def bareB (v : V) : Bool := decide (FieldsOk v ∧ 0 ≤ v.kind ∧ v.kind ≤ 4)

theorem chain5 {p q r s t u : Prop} [Decidable p] [Decidable q] [Decidable r] [Decidable s] [Decidable t] {_ : Decidable u} (h : u ↔ (p ∧ q ∧ r ∧ s ∧ t)) :
    decide u = (decide p && (decide q && (decide r && (decide s && decide t)))) := by
  rw [Bool.eq_iff_iff]
  simp only [Bool.and_eq_true, decide_eq_true_eq]
  exact h

theorem whole_cells (k n : Int) (f : Nat) (s : List Nat) (a : Option Addr) (l : List V) (cap : Nat) (hf : f < 18446744073709551616) (hs : ∀ c ∈ s, c < 256) :
    ∃ (k2 n2 : Int) (f2 : Nat) (s2 : List Nat) (a2 : Option Addr) (len2 cap2 : Nat), wholeOf k n f s a l.length cap = cells5 k2 n2 f2 s2 a2 len2 cap2 ∧ f2 < 18446744073709551616 ∧ (∀ c ∈ s2, c < 256) ∧
      bareB (.mk k n f s l) = (decide (k2 = k) && (decide (n2 = n) && (decide (bitsB f2 = bitsB f) && (decide (s2 = s) && decide (len2 = l.length))))) := by
  have hb0 : bitsB 0 = 0 := by decide
  have hl : 0 = l.length ↔ l = [] := ⟨fun h => List.length_eq_zero_iff.1 h.symm, fun h => by rw [h]; rfl⟩
  have hss : ([] : List Nat) = s ↔ s = [] := ⟨fun h => h.symm, fun h => h.symm⟩
  have hn0 : 0 = n ↔ n = 0 := ⟨fun h => h.symm, fun h => h.symm⟩
  have hff : 0 = bitsB f ↔ bitsB f = 0 := ⟨fun h => h.symm, fun h => h.symm⟩
  unfold wholeOf bareB FieldsOk
  simp only [V.kind, V.n, V.f, V.s, V.l]
  by_cases h1 : k = 1
  · subst h1
    refine ⟨1, n, 0, [], none, 0, 0, rfl, by omega, (fun c h => by cases h), chain5 ?_⟩
    rw [hb0, hl, hss, hff]
    constructor
    · rintro ⟨⟨_, g2, g3, g4⟩, _⟩
      exact ⟨rfl, rfl, g2.resolve_left (by omega), g3.resolve_left (by omega), g4.resolve_left (by omega)⟩
    · rintro ⟨_, _, g2, g3, g4⟩
      exact ⟨⟨.inl rfl, .inr g2, .inr g3, .inr g4⟩, by omega, by omega⟩
  rw [if_neg h1]
  by_cases h2 : k = 2
  · subst h2
    refine ⟨2, 0, f, [], none, 0, 0, rfl, hf, (fun c h => by cases h), chain5 ?_⟩
    rw [hl, hss, hn0]
    constructor
    · rintro ⟨⟨g1, _, g3, g4⟩, _⟩
      exact ⟨rfl, g1.resolve_left (by omega), rfl, g3.resolve_left (by omega), g4.resolve_left (by omega)⟩
    · rintro ⟨_, g1, _, g3, g4⟩
      exact ⟨⟨.inr g1, .inl rfl, .inr g3, .inr g4⟩, by omega, by omega⟩
  rw [if_neg h2]
  by_cases h3 : k = 3
  · subst h3
    refine ⟨3, 0, 0, s, none, 0, 0, rfl, by omega, hs, chain5 ?_⟩
    rw [hb0, hl, hff, hn0]
    constructor
    · rintro ⟨⟨g1, g2, _, g4⟩, _⟩
      exact ⟨rfl, g1.resolve_left (by omega), g2.resolve_left (by omega), rfl, g4.resolve_left (by omega)⟩
    · rintro ⟨_, g1, g2, _, g4⟩
      exact ⟨⟨.inr g1, .inr g2, .inl rfl, .inr g4⟩, by omega, by omega⟩
  rw [if_neg h3]
  by_cases h4 : k = 4
  · subst h4
    refine ⟨4, 0, 0, [], a, l.length, cap, rfl, by omega, (fun c h => by cases h), chain5 ?_⟩
    rw [hb0, hss, hff, hn0]
    constructor
    · rintro ⟨⟨g1, g2, g3, _⟩, _⟩
      exact ⟨rfl, g1.resolve_left (by omega), g2.resolve_left (by omega), g3.resolve_left (by omega), rfl⟩
    · rintro ⟨_, g1, g2, g3, _⟩
      exact ⟨⟨.inr g1, .inr g2, .inr g3, .inl rfl⟩, by omega, by omega⟩
  rw [if_neg h4]
  refine ⟨0, 0, 0, [], none, 0, 0, rfl, by omega, (fun c h => by cases h), chain5 ?_⟩
  rw [hb0, hl, hss, hff, hn0]
  constructor
  · rintro ⟨⟨g1, g2, g3, g4⟩, g5, g6⟩
    exact ⟨by omega, g1.resolve_left h1, g2.resolve_left h2, g3.resolve_left h3, g4.resolve_left h4⟩
  · rintro ⟨g0, g1, g2, g3, g4⟩
    exact ⟨⟨.inr g1, .inr g2, .inr g3, .inr g4⟩, by omega, by omega⟩

theorem keep5 {w w' : World} {p : Nat} {a b c d e : Value} (hb : Below w.heap.size w w')
    (h : w.cell? ⟨p, 0, none⟩ = some a ∧ w.cell? ⟨p, 1, none⟩ = some b ∧ w.cell? ⟨p, 2, none⟩ = some c ∧ w.cell? ⟨p, 3, none⟩ = some d ∧ w.cell? ⟨p, 4, none⟩ = some e) :
    w'.cell? ⟨p, 0, none⟩ = some a ∧ w'.cell? ⟨p, 1, none⟩ = some b ∧ w'.cell? ⟨p, 2, none⟩ = some c ∧ w'.cell? ⟨p, 3, none⟩ = some d ∧ w'.cell? ⟨p, 4, none⟩ = some e := by
  have g : ∀ {q : Addr} {v : Value}, w.cell? q = some v → w'.cell? q = some v := fun {q v} h => by
    rw [hb.cell (World.block_lt_of_cell? _ _ h)]; exact h
  exact ⟨g h.1, g h.2.1, g h.2.2.1, g h.2.2.2.1, g h.2.2.2.2⟩

set_option maxRecDepth 100000 in
set_option maxHeartbeats 1600000 in
theorem bare_any (k n : Int) (f : Nat) (s : List Nat) (a : Option Addr) (l : List V) (cap : Nat) (w : World) (hf : f < 18446744073709551616) (hs : ∀ c ∈ s, c < 256) :
    Calls Tryz.prog 28 #[.agg (cells5 k n f s a l.length cap)] w fun e w' => e = .returned (.bool (bareB (.mk k n f s l))) ∧ Below w.heap.size w w' := by
  obtain ⟨k2, n2, f2, s2, a2, len2, cap2, hw, hf2, hs2, hB⟩ := whole_cells k n f s a l cap hf hs
  have HC := Lib.hid (fun w => contentOf_any k n f s a l.length cap w)
  have HW := Lib.hid (fun w => whole_any k n f s a l.length cap w)
  rw [hw] at HW
  have hfl : ∀ (w : World) (a : Addr) (m : Mode) (b : Nat), (store a (.float .f64 b) m).run Tryz.prog w = stored Tryz.prog w a (.float .f64 b) m := fun w a m b => run_store Tryz.prog w a _ m rfl
  have HR := Lib.hid (fun w => same_any f2 f w hf2 hf)
  have hB : ∃ b : Bool, bareB (.mk k n f s l) = b ∧ b = (decide (k2 = k) && (decide (n2 = n) && (decide (bitsB f2 = bitsB f) && (decide (s2 = s) && decide (len2 = l.length))))) := ⟨_, rfl, hB⟩
  obtain ⟨bb, hbb, hB⟩ := hB
  rw [hbb]
  generalize l.length = len at *
  have HB := Lib.hid hB
  have C0 := Lib.hid (new5 w (.int .i64 k) (.int .i64 n) (.float .f64 f) (.string (str s)) (.slice a len cap) 25)
  have Hb := Lib.hid ((Below.refl w.heap.size w).alloc (Nat.le_refl _) (.cells (cells5 k n f s a len cap) 25))
  have hwz : (w.alloc (.cells #[.int .i64 k, .int .i64 n, .float .f64 f, .string (str s), .slice a len cap] 25)).heap.size = w.heap.size + 1 := by simp
  clear hw hB hf hf2 hbb
  generalize conOf k n f s a len cap = con at *
  unfold cells5 at *
  go_enter Tryz.func28, Tryz.ntmps28
  go_wp2_with fail
  generalize w.alloc (.cells #[.int .i64 k, .int .i64 n, .float .f64 f, .string (str s), .slice a len cap] 25) = w0 at *
  refine (HC.out _).mono ?_
  rintro e w1 ⟨rfl, hb1⟩
  have Hb1 := Lib.hid hb1
  clear hb1
  go_wp2_with fail
  refine (HW.out _).mono ?_
  rintro e w2 ⟨rfl, hb2⟩
  have Hb2 := Lib.hid (Hb1.out.trans (hb2.mono Hb1.out.size))
  have Hb3 := Lib.hid (Hb2.out.alloc Hb2.out.size (.cells #[.int .i64 k2, .int .i64 n2, .float .f64 f2, .string (str s2), .slice a2 len2 cap2] 25))
  have Hbe := Lib.hid (show Below w.heap.size w _ from Hb.out.trans (Hb3.out.mono (by omega)))
  obtain ⟨c0, c1, c2, c3, c4⟩ := new5 w2 (.int .i64 k2) (.int .i64 n2) (.float .f64 f2) (.string (str s2)) (.slice a2 len2 cap2) 25
  obtain ⟨m0, m1, m2, m3, m4⟩ := keep5 Hb3.out C0.out
  clear hb2
  by_cases q1 : k2 = k
  · rw [decide_eq_true q1] at HB
    have d1 : (k2 == k) = true := beq_iff_eq.2 q1
    by_cases q2 : n2 = n
    · rw [decide_eq_true q2] at HB
      have d2 : (n2 == n) = true := beq_iff_eq.2 q2
      by_cases q3 : bitsB f2 = bitsB f
      · rw [decide_eq_true q3] at HB HR
        by_cases q4 : s2 = s
        · have d4 : ((str s2).toList == (str s).toList) = true := by rw [q4]; exact str_eq s
          rw [decide_eq_true q4] at HB
          have HB5 := Lib.hid (show (decide (len2 = len)) = bb from by rw [HB.out]; simp)
          clear q1 q2 q3 q4 hs hs2
          go_wp2_with ((with_reducible refine (HR.out _).mono ?_); rintro e w' ⟨rfl, rfl⟩)
          go_ret
          exact ⟨ret_bool (by rw [← HB5.out, Bool.eq_iff_iff]; simp; omega), Hbe.out⟩
        · have d4 : ((str s2).toList == (str s).toList) = false := str_ne hs2 hs q4
          rw [decide_eq_false q4] at HB
          have HB5 := Lib.hid (show false = bb from by rw [HB.out]; simp)
          clear q1 q2 q3 q4 hs hs2
          go_wp2_with ((with_reducible refine (HR.out _).mono ?_); rintro e w' ⟨rfl, rfl⟩)
          go_ret
          exact ⟨ret_bool HB5.out, Hbe.out⟩
      · rw [decide_eq_false q3] at HB HR
        have HB5 := Lib.hid (show false = bb from by rw [HB.out]; simp)
        clear q1 q2 q3 hs hs2
        go_wp2_with ((with_reducible refine (HR.out _).mono ?_); rintro e w' ⟨rfl, rfl⟩)
        go_ret
        exact ⟨ret_bool HB5.out, Hbe.out⟩
    · have d2 : (n2 == n) = false := beq_eq_false_iff_ne.2 q2
      rw [decide_eq_false q2] at HB
      have HB5 := Lib.hid (show false = bb from by rw [HB.out]; simp)
      clear q1 q2 hs hs2
      go_wp2
      go_ret
      exact ⟨ret_bool HB5.out, Hbe.out⟩
  · have d1 : (k2 == k) = false := beq_eq_false_iff_ne.2 q1
    rw [decide_eq_false q1] at HB
    have HB5 := Lib.hid (show false = bb from by rw [HB.out]; simp)
    clear q1 hs hs2
    go_wp2
    go_ret
    exact ⟨ret_bool HB5.out, Hbe.out⟩
end Go.Proofs.YtpnfnmeilhiebaaGreatDoor

/- The test of one value by Valid. -/
namespace Go.Proofs.YtpnfnmeilhiebaaGreatDoor
open Go.RowKit Fl

/-- What Valid asks of a value with so many values around it. -/
def testB (v : V) (d : Nat) : Bool := bareB v && (decide (v.kind ≠ 4) || decide (d < 8))

set_option maxRecDepth 100000 in
set_option maxHeartbeats 1600000 in
theorem visit_valid (k n : Int) (f : Nat) (s : List Nat) (a : Option Addr) (l : List V) (cap : Nat) (d : Nat) (w : World) (hf : f < 18446744073709551616) (hs : ∀ c ∈ s, c < 256) :
    Calls Tryz.prog 27 #[.agg (cells5 k n f s a l.length cap), .int .i64 (d : Int)] w fun e w' => e = .returned (.bool (testB (.mk k n f s l) d)) ∧ Below w.heap.size w w' := by
  have HA := Lib.hid (fun w => bare_any k n f s a l cap w hf hs)
  have ht : ∃ b : Bool, testB (.mk k n f s l) d = b ∧ b = (bareB (.mk k n f s l) && (decide (k ≠ 4) || decide (d < 8))) := ⟨_, rfl, rfl⟩
  obtain ⟨bb, hbb, hB⟩ := ht
  rw [hbb]
  have HB := Lib.hid hB
  clear hbb hB hf hs
  generalize bareB (.mk k n f s l) = br at *
  generalize l.length = len at *
  have C0 := Lib.hid (new5 w (.int .i64 k) (.int .i64 n) (.float .f64 f) (.string (str s)) (.slice a len cap) 25)
  have Hb := Lib.hid ((Below.refl w.heap.size w).alloc (Nat.le_refl _) (.cells (cells5 k n f s a len cap) 25))
  have hwz : (w.alloc (.cells #[.int .i64 k, .int .i64 n, .float .f64 f, .string (str s), .slice a len cap] 25)).heap.size = w.heap.size + 1 := by simp
  unfold cells5 at *
  go_enter Tryz.func27, Tryz.ntmps27
  go_wp2_with fail
  generalize w.alloc (.cells #[.int .i64 k, .int .i64 n, .float .f64 f, .string (str s), .slice a len cap] 25) = w0 at *
  refine (HA.out _).mono ?_
  rintro e w1 ⟨rfl, hb1⟩
  have Hbe := Lib.hid (show Below w.heap.size w _ from Hb.out.trans (hb1.mono (by omega)))
  obtain ⟨m0, m1, m2, m3, m4⟩ := keep5 hb1 C0.out
  clear hb1
  cases br
  · have HB5 := Lib.hid (show false = bb from by rw [HB.out]; simp)
    go_wp2
    go_ret
    exact ⟨ret_bool HB5.out, Hbe.out⟩
  · by_cases q : k = 4
    · have d1 : (k != 4) = false := by rw [q]; rfl
      have HB5 := Lib.hid (show decide (d < 8) = bb from by rw [HB.out, q]; simp)
      clear q
      go_wp2
      go_ret
      exact ⟨ret_bool (by rw [← HB5.out, Bool.eq_iff_iff]; simp; omega), Hbe.out⟩
    · have d1 : (k != 4) = true := bne_iff_ne.2 q
      have HB5 := Lib.hid (show true = bb from by rw [HB.out, decide_eq_true q]; simp)
      clear q
      go_wp2
      go_ret
      exact ⟨ret_bool HB5.out, Hbe.out⟩
end Go.Proofs.YtpnfnmeilhiebaaGreatDoor

