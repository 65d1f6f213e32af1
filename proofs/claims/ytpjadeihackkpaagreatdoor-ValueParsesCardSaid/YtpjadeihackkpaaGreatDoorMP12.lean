import Derived.Test.YtpjadeihackkpaaGreatDoorMP4
import Derived.Test.YtpjadeihackkpaaGreatDoorMP3
import Derived.WalkLawsBesides
import Derived.Test.YtpjadeihackkpaaGreatDoorMP5
import Derived.Test.YtpjadeihackkpaaGreatDoorMP10
import Derived.Lib.LaidTab
import Derived.Lib.ItoaNum
import Derived.Test.YtpjadeihackkpaaGreatDoorMP7
import Derived.Lib.SlBytesConst
import Derived.Deep.RegionLawGrows
import Derived.Deep.AppendLies
import Derived.Test.YtpjadeihackkpaaGreatDoorMP11
import Derived.Test.YtpjadeihackkpaaGreatDoorMP8
/- What a value has in the field of its kind: contentOf and whole. -/
namespace Go.Proofs.YtpjadeihackkpaaGreatDoor
open Go.RowKit Fl

/-- The content of a value with these fields. -/
def conOf (k n : Int) (f : Nat) (s : List Nat) (a : Option Addr) (len cap : Nat) : Value :=
  if k = 0 then .iface 69 (.agg #[]) else if k = 1 then .iface 70 (.int .i64 n) else if k = 2 then .iface 71 (.float .f64 f)
  else if k = 3 then .iface 72 (.string (str s)) else if k = 4 then .iface 73 (.slice a len cap) else .nilIface

theorem contentOf_any (k n : Int) (f : Nat) (s : List Nat) (a : Option Addr) (len cap : Nat) (w : World) :
    Calls Tryz.prog 26 #[.agg (cells5 k n f s a len cap)] w fun e w' => e = .returned (conOf k n f s a len cap) ∧ Below w.heap.size w w' := by
  have hb := (Below.refl w.heap.size w).alloc (Nat.le_refl _) (.cells (cells5 k n f s a len cap) 25)
  unfold cells5 at *
  by_cases h0 : k = 0
  · subst h0
    go_enter Tryz.func26, Tryz.ntmps26
    go_wp2
    go_ret
    exact ⟨rfl, hb⟩
  by_cases h1 : k = 1
  · subst h1
    clear h0
    go_enter Tryz.func26, Tryz.ntmps26
    go_wp2
    go_ret
    exact ⟨rfl, hb⟩
  by_cases h2 : k = 2
  · subst h2
    clear h0 h1
    go_enter Tryz.func26, Tryz.ntmps26
    go_wp2
    go_ret
    exact ⟨rfl, hb⟩
  by_cases h3 : k = 3
  · subst h3
    clear h0 h1 h2
    go_enter Tryz.func26, Tryz.ntmps26
    go_wp2
    go_ret
    exact ⟨rfl, hb⟩
  by_cases h4 : k = 4
  · subst h4
    clear h0 h1 h2 h3
    go_enter Tryz.func26, Tryz.ntmps26
    go_wp2
    go_ret
    exact ⟨rfl, hb⟩
  have Hf := Lib.hid (show conOf k n f s a len cap = .nilIface from by unfold conOf; rw [if_neg h0, if_neg h1, if_neg h2, if_neg h3, if_neg h4])
  have d0 : (k == 0) = false := beq_eq_false_iff_ne.2 h0
  have d1 : (k == 1) = false := beq_eq_false_iff_ne.2 h1
  have d2 : (k == 2) = false := beq_eq_false_iff_ne.2 h2
  have d3 : (k == 3) = false := beq_eq_false_iff_ne.2 h3
  have d4 : (k == 4) = false := beq_eq_false_iff_ne.2 h4
  clear h0 h1 h2 h3 h4
  go_enter Tryz.func26, Tryz.ntmps26
  go_wp2
  go_ret
  exact ⟨by rw [Hf.out]; rfl, hb⟩

theorem as_none_int (w : World) : (Instr.typeAssert .nilIface 47 70 true).run Tryz.prog w = .ok (.tuple #[.int .i64 0, .bool false]) w := by kernel_rfl
theorem as_none_float (w : World) : (Instr.typeAssert .nilIface 47 71 true).run Tryz.prog w = .ok (.tuple #[.float .f64 0, .bool false]) w := by kernel_rfl
theorem as_none_text (w : World) : (Instr.typeAssert .nilIface 47 72 true).run Tryz.prog w = .ok (.tuple #[.string ByteArray.empty, .bool false]) w := by kernel_rfl
theorem as_none_list (w : World) : (Instr.typeAssert .nilIface 47 73 true).run Tryz.prog w = .ok (.tuple #[.slice none 0 0, .bool false]) w := by kernel_rfl

set_option maxRecDepth 100000 in
theorem whole_none  (w : World) :
    Calls Tryz.prog 35 #[.nilIface] w fun e w' => e = .returned (.agg (cells5 0 0 0 [] none 0 0)) ∧ Below w.heap.size w w' := by
  have a_int := as_none_int
  have a_float := as_none_float
  have a_text := as_none_text
  have a_list := as_none_list
  have hfl : ∀ (w : World) (a : Addr) (m : Mode) (b : Nat), (store a (.float .f64 b) m).run Tryz.prog w = stored Tryz.prog w a (.float .f64 b) m := fun w a m b => run_store Tryz.prog w a _ m rfl
  go_enter Tryz.func35, Tryz.ntmps35
  go_wp2
  obtain ⟨z0, z1, z2, z3, z4⟩ := new5 w (.int .i64 0) (.int .i64 0) (.float .f64 0) (.string ⟨#[]⟩) (.slice none 0 0) 25
  refine bodyPost_ret (v := .agg #[.int .i64 0, .int .i64 0, .float .f64 0, .string (str []), .slice none 0 0]) (by simp [results, Tryz.results35, go_sem, *]; try rfl) rfl ⟨rfl, (Below.refl _ _).alloc (Nat.le_refl _) _⟩

theorem as_nil_int (v : Value) (w : World) : (Instr.typeAssert (.iface 69 v) 47 70 true).run Tryz.prog w = .ok (.tuple #[.int .i64 0, .bool false]) w := by kernel_rfl
theorem as_nil_float (v : Value) (w : World) : (Instr.typeAssert (.iface 69 v) 47 71 true).run Tryz.prog w = .ok (.tuple #[.float .f64 0, .bool false]) w := by kernel_rfl
theorem as_nil_text (v : Value) (w : World) : (Instr.typeAssert (.iface 69 v) 47 72 true).run Tryz.prog w = .ok (.tuple #[.string ByteArray.empty, .bool false]) w := by kernel_rfl
theorem as_nil_list (v : Value) (w : World) : (Instr.typeAssert (.iface 69 v) 47 73 true).run Tryz.prog w = .ok (.tuple #[.slice none 0 0, .bool false]) w := by kernel_rfl

set_option maxRecDepth 100000 in
theorem whole_nil  (w : World) :
    Calls Tryz.prog 35 #[.iface 69 (.agg #[])] w fun e w' => e = .returned (.agg (cells5 0 0 0 [] none 0 0)) ∧ Below w.heap.size w w' := by
  have a_int := as_nil_int (.agg #[])
  have a_float := as_nil_float (.agg #[])
  have a_text := as_nil_text (.agg #[])
  have a_list := as_nil_list (.agg #[])
  have hfl : ∀ (w : World) (a : Addr) (m : Mode) (b : Nat), (store a (.float .f64 b) m).run Tryz.prog w = stored Tryz.prog w a (.float .f64 b) m := fun w a m b => run_store Tryz.prog w a _ m rfl
  go_enter Tryz.func35, Tryz.ntmps35
  go_wp2
  obtain ⟨z0, z1, z2, z3, z4⟩ := new5 w (.int .i64 0) (.int .i64 0) (.float .f64 0) (.string ⟨#[]⟩) (.slice none 0 0) 25
  refine bodyPost_ret (v := .agg #[.int .i64 0, .int .i64 0, .float .f64 0, .string (str []), .slice none 0 0]) (by simp [results, Tryz.results35, go_sem, *]; try rfl) rfl ⟨rfl, (Below.refl _ _).alloc (Nat.le_refl _) _⟩

theorem as_int_int (v : Value) (w : World) : (Instr.typeAssert (.iface 70 v) 47 70 true).run Tryz.prog w = .ok (.tuple #[v, .bool true]) w := by kernel_rfl
theorem as_int_float (v : Value) (w : World) : (Instr.typeAssert (.iface 70 v) 47 71 true).run Tryz.prog w = .ok (.tuple #[.float .f64 0, .bool false]) w := by kernel_rfl
theorem as_int_text (v : Value) (w : World) : (Instr.typeAssert (.iface 70 v) 47 72 true).run Tryz.prog w = .ok (.tuple #[.string ByteArray.empty, .bool false]) w := by kernel_rfl
theorem as_int_list (v : Value) (w : World) : (Instr.typeAssert (.iface 70 v) 47 73 true).run Tryz.prog w = .ok (.tuple #[.slice none 0 0, .bool false]) w := by kernel_rfl

set_option maxRecDepth 100000 in
theorem whole_int (n : Int) (w : World) :
    Calls Tryz.prog 35 #[.iface 70 (.int .i64 n)] w fun e w' => e = .returned (.agg (cells5 1 n 0 [] none 0 0)) ∧ Below w.heap.size w w' := by
  have a_int := as_int_int (.int .i64 n)
  have a_float := as_int_float (.int .i64 n)
  have a_text := as_int_text (.int .i64 n)
  have a_list := as_int_list (.int .i64 n)
  have hfl : ∀ (w : World) (a : Addr) (m : Mode) (b : Nat), (store a (.float .f64 b) m).run Tryz.prog w = stored Tryz.prog w a (.float .f64 b) m := fun w a m b => run_store Tryz.prog w a _ m rfl
  go_enter Tryz.func35, Tryz.ntmps35
  go_wp2
  obtain ⟨z0, z1, z2, z3, z4⟩ := new5 w (.int .i64 1) (.int .i64 n) (.float .f64 0) (.string ⟨#[]⟩) (.slice none 0 0) 25
  refine bodyPost_ret (v := .agg #[.int .i64 1, .int .i64 n, .float .f64 0, .string (str []), .slice none 0 0]) (by simp [results, Tryz.results35, go_sem, *]; try rfl) rfl ⟨rfl, (Below.refl _ _).alloc (Nat.le_refl _) _⟩

theorem as_float_int (v : Value) (w : World) : (Instr.typeAssert (.iface 71 v) 47 70 true).run Tryz.prog w = .ok (.tuple #[.int .i64 0, .bool false]) w := by kernel_rfl
theorem as_float_float (v : Value) (w : World) : (Instr.typeAssert (.iface 71 v) 47 71 true).run Tryz.prog w = .ok (.tuple #[v, .bool true]) w := by kernel_rfl
theorem as_float_text (v : Value) (w : World) : (Instr.typeAssert (.iface 71 v) 47 72 true).run Tryz.prog w = .ok (.tuple #[.string ByteArray.empty, .bool false]) w := by kernel_rfl
theorem as_float_list (v : Value) (w : World) : (Instr.typeAssert (.iface 71 v) 47 73 true).run Tryz.prog w = .ok (.tuple #[.slice none 0 0, .bool false]) w := by kernel_rfl

set_option maxRecDepth 100000 in
theorem whole_float (f : Nat) (w : World) :
    Calls Tryz.prog 35 #[.iface 71 (.float .f64 f)] w fun e w' => e = .returned (.agg (cells5 2 0 f [] none 0 0)) ∧ Below w.heap.size w w' := by
  have a_int := as_float_int (.float .f64 f)
  have a_float := as_float_float (.float .f64 f)
  have a_text := as_float_text (.float .f64 f)
  have a_list := as_float_list (.float .f64 f)
  have hfl : ∀ (w : World) (a : Addr) (m : Mode) (b : Nat), (store a (.float .f64 b) m).run Tryz.prog w = stored Tryz.prog w a (.float .f64 b) m := fun w a m b => run_store Tryz.prog w a _ m rfl
  go_enter Tryz.func35, Tryz.ntmps35
  go_wp2
  obtain ⟨z0, z1, z2, z3, z4⟩ := new5 w (.int .i64 2) (.int .i64 0) (.float .f64 f) (.string ⟨#[]⟩) (.slice none 0 0) 25
  refine bodyPost_ret (v := .agg #[.int .i64 2, .int .i64 0, .float .f64 f, .string (str []), .slice none 0 0]) (by simp [results, Tryz.results35, go_sem, *]; try rfl) rfl ⟨rfl, (Below.refl _ _).alloc (Nat.le_refl _) _⟩

theorem as_text_int (v : Value) (w : World) : (Instr.typeAssert (.iface 72 v) 47 70 true).run Tryz.prog w = .ok (.tuple #[.int .i64 0, .bool false]) w := by kernel_rfl
theorem as_text_float (v : Value) (w : World) : (Instr.typeAssert (.iface 72 v) 47 71 true).run Tryz.prog w = .ok (.tuple #[.float .f64 0, .bool false]) w := by kernel_rfl
theorem as_text_text (v : Value) (w : World) : (Instr.typeAssert (.iface 72 v) 47 72 true).run Tryz.prog w = .ok (.tuple #[v, .bool true]) w := by kernel_rfl
theorem as_text_list (v : Value) (w : World) : (Instr.typeAssert (.iface 72 v) 47 73 true).run Tryz.prog w = .ok (.tuple #[.slice none 0 0, .bool false]) w := by kernel_rfl

set_option maxRecDepth 100000 in
theorem whole_text (s : List Nat) (w : World) :
    Calls Tryz.prog 35 #[.iface 72 (.string (str s))] w fun e w' => e = .returned (.agg (cells5 3 0 0 s none 0 0)) ∧ Below w.heap.size w w' := by
  have a_int := as_text_int (.string (str s))
  have a_float := as_text_float (.string (str s))
  have a_text := as_text_text (.string (str s))
  have a_list := as_text_list (.string (str s))
  have hfl : ∀ (w : World) (a : Addr) (m : Mode) (b : Nat), (store a (.float .f64 b) m).run Tryz.prog w = stored Tryz.prog w a (.float .f64 b) m := fun w a m b => run_store Tryz.prog w a _ m rfl
  go_enter Tryz.func35, Tryz.ntmps35
  go_wp2
  obtain ⟨z0, z1, z2, z3, z4⟩ := new5 w (.int .i64 3) (.int .i64 0) (.float .f64 0) (.string (str s)) (.slice none 0 0) 25
  refine bodyPost_ret (v := .agg #[.int .i64 3, .int .i64 0, .float .f64 0, .string (str s), .slice none 0 0]) (by simp [results, Tryz.results35, go_sem, *]; try rfl) rfl ⟨rfl, (Below.refl _ _).alloc (Nat.le_refl _) _⟩

theorem as_list_int (v : Value) (w : World) : (Instr.typeAssert (.iface 73 v) 47 70 true).run Tryz.prog w = .ok (.tuple #[.int .i64 0, .bool false]) w := by kernel_rfl
theorem as_list_float (v : Value) (w : World) : (Instr.typeAssert (.iface 73 v) 47 71 true).run Tryz.prog w = .ok (.tuple #[.float .f64 0, .bool false]) w := by kernel_rfl
theorem as_list_text (v : Value) (w : World) : (Instr.typeAssert (.iface 73 v) 47 72 true).run Tryz.prog w = .ok (.tuple #[.string ByteArray.empty, .bool false]) w := by kernel_rfl
theorem as_list_list (v : Value) (w : World) : (Instr.typeAssert (.iface 73 v) 47 73 true).run Tryz.prog w = .ok (.tuple #[v, .bool true]) w := by kernel_rfl

set_option maxRecDepth 100000 in
theorem whole_list (a : Option Addr) (len cap : Nat) (w : World) :
    Calls Tryz.prog 35 #[.iface 73 (.slice a len cap)] w fun e w' => e = .returned (.agg (cells5 4 0 0 [] a len cap)) ∧ Below w.heap.size w w' := by
  have a_int := as_list_int (.slice a len cap)
  have a_float := as_list_float (.slice a len cap)
  have a_text := as_list_text (.slice a len cap)
  have a_list := as_list_list (.slice a len cap)
  have hfl : ∀ (w : World) (a : Addr) (m : Mode) (b : Nat), (store a (.float .f64 b) m).run Tryz.prog w = stored Tryz.prog w a (.float .f64 b) m := fun w a m b => run_store Tryz.prog w a _ m rfl
  go_enter Tryz.func35, Tryz.ntmps35
  go_wp2
  obtain ⟨z0, z1, z2, z3, z4⟩ := new5 w (.int .i64 4) (.int .i64 0) (.float .f64 0) (.string ⟨#[]⟩) (.slice a len cap) 25
  refine bodyPost_ret (v := .agg #[.int .i64 4, .int .i64 0, .float .f64 0, .string (str []), .slice a len cap]) (by simp [results, Tryz.results35, go_sem, *]; try rfl) rfl ⟨rfl, (Below.refl _ _).alloc (Nat.le_refl _) _⟩

/-- The value with a content and nothing else. -/
def wholeOf (k n : Int) (f : Nat) (s : List Nat) (a : Option Addr) (len cap : Nat) : Array Value :=
  if k = 1 then cells5 1 n 0 [] none 0 0 else if k = 2 then cells5 2 0 f [] none 0 0 else if k = 3 then cells5 3 0 0 s none 0 0 else if k = 4 then cells5 4 0 0 [] a len cap else cells5 0 0 0 [] none 0 0

theorem whole_any (k n : Int) (f : Nat) (s : List Nat) (a : Option Addr) (len cap : Nat) (w : World) :
    Calls Tryz.prog 35 #[conOf k n f s a len cap] w fun e w' => e = .returned (.agg (wholeOf k n f s a len cap)) ∧ Below w.heap.size w w' := by
  unfold conOf wholeOf
  by_cases h0 : k = 0
  · subst h0
    exact whole_nil w
  rw [if_neg h0]
  by_cases h1 : k = 1
  · rw [if_pos h1, if_pos h1]
    exact whole_int n w
  rw [if_neg h1, if_neg h1]
  by_cases h2 : k = 2
  · rw [if_pos h2, if_pos h2]
    exact whole_float f w
  rw [if_neg h2, if_neg h2]
  by_cases h3 : k = 3
  · rw [if_pos h3, if_pos h3]
    exact whole_text s w
  rw [if_neg h3, if_neg h3]
  by_cases h4 : k = 4
  · rw [if_pos h4, if_pos h4]
    exact whole_list a len cap w
  rw [if_neg h4, if_neg h4]
  exact whole_none w
end Go.Proofs.YtpjadeihackkpaaGreatDoor

/- The texts of contents that are no lists. -/
namespace Go.Proofs.YtpjadeihackkpaaGreatDoor
open Go.RowKit Go.Shelf Fl

/-- The table of powers of ten that strconv keeps. -/
def Pow10 (w : World) : Prop := Lib.TabIs Tryz.prog w "internal/strconv.uint64pow10" .u64 Lib.pow10Tab

theorem below_growN (B : Nat) (w : World) (hB : B ≤ w.heap.size) (k : Nat) (os : Array Obj) : Below B w (Sort.grow (w.drewN k) os) :=
  ⟨rfl, rfl, rfl, by show w.heap.size ≤ (w.heap ++ os).size; rw [Array.size_append]; omega, fun j hj => by
    show (w.heap ++ os)[j]? = w.heap[j]?
    rw [Array.getElem?_append_left (by omega)]⟩

theorem dec_digits : ∀ (n : Nat), Lib.decDigits n = (decD n).map UInt8.ofNat := by
  intro n
  induction n using Nat.strongRecOn with
  | _ n ih =>
    by_cases h : n < 10
    · rw [Lib.decDigits, dif_pos h, decD_low h]; rfl
    · rw [Lib.decDigits, dif_neg h, decD_high h, List.map_append, ih (n / 10) (by omega)]; rfl

theorem itoa_str (n : Int) : (⟨(Lib.itoa n).toArray⟩ : ByteArray) = str (decL n) := by
  unfold str
  congr 2
  unfold Lib.itoa decL
  split
  · rw [dec_digits]; rfl
  · rw [dec_digits, show n.toNat = n.natAbs by omega]

theorem nilText_any (w : World) : Calls Tryz.prog 160 #[.agg #[]] w fun e w' => e = .returned (.string (str [110, 105, 108])) ∧ Below w.heap.size w w' := by
  go_enter Tryz.func160, Tryz.ntmps160
  go_wp2
  go_ret
  exact ⟨rfl, (Below.refl _ _).alloc (Nat.le_refl _) _⟩

theorem intText_any (n : Int) (w : World) (h0 : -9223372036854775808 ≤ n) (h1 : n ≤ 9223372036854775807) (ht : Pow10 w) :
    Calls Tryz.prog 162 #[.int .i64 n] w fun e w' => e = .returned (.string (str (decL n))) ∧ Below w.heap.size w w' := by
  have H := Lib.hid (Tryz.strconv_FormatInt_10 n h0 h1 w ht)
  rw [itoa_str] at H
  clear h0 h1 ht
  go_enter Tryz.func162, Tryz.ntmps162
  go_wp2_with fail
  refine H.out.mono ?_
  rintro e w' ⟨rfl, k, os, rfl⟩
  go_wp2
  go_ret
  exact ⟨rfl, below_growN _ _ (Nat.le_refl _) _ _⟩

theorem tl_len (b : Nat) : (textL b).length ≤ 17 := by
  unfold textL
  split
  · simp
  split
  · simp
  split
  · simp
  split
  · simp
  split
  · simp
  · rw [List.length_cons, hexs_len]; omega

theorem floatText_any (b : Nat) (w : World) (hb : b < 18446744073709551616) (ht : Tab16 w) :
    Calls Tryz.prog 167 #[.float .f64 b] w fun e w' => e = .returned (.string (str (35 :: textL (bitsB b)))) ∧ Below w.heap.size w w' := by
  have H := Lib.hid (text_any b w hb ht)
  have hs : (⟨#[35]⟩ : ByteArray) ++ str (textL (bitsB b)) = str (35 :: textL (bitsB b)) := str_append [35] (textL (bitsB b))
  have Hs := Lib.hid hs
  have hq := str_size (textL (bitsB b))
  have hl := tl_len (bitsB b)
  clear hb ht hs
  rw [← Hs.out]
  go_enter Tryz.func167, Tryz.ntmps167
  go_wp2_with fail
  refine H.out.mono ?_
  rintro e w' ⟨rfl, hb⟩
  have Hb := Lib.hid hb
  clear hb
  go_wp2
  go_ret
  exact ⟨rfl, Hb.out⟩
end Go.Proofs.YtpjadeihackkpaaGreatDoor

/- The text of a content of bytes. -/

namespace Go.Proofs.YtpjadeihackkpaaGreatDoor
open Go.RowKit Go.Shelf Fl

/-- What is written so far: the first row, which the program lays, or one of the call's own. -/
def TxtRel (w wr : World) (l : List Nat) (v : Value) : Prop :=
  (l = [34] ∧ v = .slice (some ⟨w.heap.size, 0, none⟩) 1 1 ∨ wr.ownsRow (w.heap.size + 1) 5 1 v l.length (u8s l)) ∧ wr.heap[w.heap.size]? = some (.cells #[.int .u8 34] 5 (1, 2)) ∧ Below w.heap.size w wr

theorem TxtRel.keep {w wr W : World} {l : List Nat} {v : Value} (h : TxtRel w wr l v) (hb : Below wr.heap.size wr W) : TxtRel w W l v := by
  obtain ⟨h1, h2, h3⟩ := h
  have hlt : w.heap.size < wr.heap.size := (Array.getElem?_eq_some_iff.1 h2).1
  refine ⟨h1.imp id (fun h => own_below h hb), (hb.block _ hlt).trans h2, h3.trans (hb.mono h3.size)⟩

theorem TxtRel.bytes {w W : World} {l : List Nat} {v : Value} (h : TxtRel w W l v) (hl : ∀ c ∈ l, c < 256) : ∃ a n cap, v = .slice a n cap ∧ Bytes W a n cap l := by
  obtain ⟨h1, h2, _⟩ := h
  rcases h1 with ⟨rfl, rfl⟩ | h1
  · refine ⟨_, _, _, rfl, rfl, Nat.le_refl _, by omega, hl, (fun h => by cases h), fun _ => ⟨w.heap.size, 0, rfl, fun i hi => ?_⟩⟩
    obtain rfl : i = 0 := by omega
    simp [World.cell?, h2]
  · obtain ⟨p, cp, e, hB⟩ := own_slice h1 hl
    exact ⟨p, _, cp, e, hB⟩

theorem TxtRel.form {w W : World} {l : List Nat} {v : Value} (h : TxtRel w W l v) (hl : l ≠ []) : ∃ g cap, v = .slice (some ⟨g, 0, none⟩) l.length cap := by
  rcases h.1 with ⟨rfl, rfl⟩ | h1
  · exact ⟨_, _, rfl⟩
  · obtain ⟨g, cap, e, _⟩ := h1.form (by cases l with | nil => exact absurd rfl hl | cons _ _ => simp)
    exact ⟨g, cap, e⟩

/-- 'b = append(b, x, y)' as one step of a region that draws. -/
theorem step_txt {ops : Array Oper} {o : Oper} {a : Act} {W : World} {K : Act → World → Prop} {Q : Exit → Act → World → Prop} {E : Prop}
    (hg : o.guard = none) (s x : Operand) (hop : o.op = Op.call { callee := Callee.builtin Builtin.append, args := #[s, x], argTypes := #[28, 28] })
    (w : World) (l : List Nat) (v : Value) (hs : a.eval s = v) (hT : TxtRel w W l v) (ad : Addr) (c : Nat) (p q : Nat) (hx : a.eval x = .slice (some ad) 2 c) (hc : ∀ j u, (u8s [p, q])[j]? = some u → W.cell? (ad.add j) = some u)
    (hn : l.length ≤ 10000000)
    (hK : ∀ g cap w', TxtRel w w' (l ++ [p, q]) (.slice (some ⟨g, 0, none⟩) (l.length + 2) cap) → K (a.put o.dst (.slice (some ⟨g, 0, none⟩) (l.length + 2) cap)) w') :
    if Region.wanted o (yielded ops a.tmps) = true then Oper.wp Tryz.prog o a W K Q else E := by
  obtain ⟨i0, hi, hz0, hz1, hz2⟩ := info_parts info_u8
  have hsz : w.heap.size < W.heap.size := (Array.getElem?_eq_some_iff.1 hT.2.1).1
  rcases hT.1 with ⟨rfl, rfl⟩ | hown
  · refine step_append_grows hg s x 28 hop 5 i0 _ 1 1 Tryz.underlying28 hi hz0 hz1 hz2 rfl (by decide) _ 1 1 (u8s [34]) hs (fun h => by cases h) rfl (fun b e j u hj => ?_) ad 2 c (u8s [p, q]) hx rfl hc (u8s_one _) (by omega) (by rw [maxLen_nat]; omega) (by omega) ?_
    · cases e
      obtain ⟨hj', rfl⟩ := u8s_get hj
      obtain rfl : j = 0 := by simp at hj'; omega
      rw [Lib.add_plain]
      simp [World.cell?, hT.2.1]
    · intro v' w' h1 h2
      obtain ⟨g, cap, rfl, _⟩ := h1.form (by omega)
      have e2 : (1 + 2 : Nat) = [34].length + 2 := rfl
      exact hK g cap w' ⟨.inr (own_base (base' := w.heap.size + 1) h1 (by omega)), (h2.block _ hsz (by simp)).trans hT.2.1, hT.2.2.grown h2 (by omega) (fun k hk => by cases hk)⟩
  · refine step_append_lies W hg s x 28 hop (w.heap.size + 1) 5 i0 _ 1 1 Tryz.underlying28 hi hz0 hz1 hz2 rfl (by decide) v l.length (u8s l) hs hown ad 2 c (u8s [p, q]) hx rfl hc (u8s_one _) (by omega) (by rw [maxLen_nat]; omega) (by omega) (by omega) _ rfl ?_
    intro g cap w' h1 h2 _ _
    have hne : ∀ k, v.ownBlock = some k → w.heap.size + 1 ≤ k := by
      intro k hk
      rcases hown.2 with ⟨e, _⟩ | ⟨g', cap', cur, e, hbg, _⟩
      · rw [e] at hk; cases hk
      · rw [e] at hk
        have e2 : g' = k := Option.some.inj hk
        omega
    refine hK g cap w' ⟨.inr ?_, (h2.block _ hsz (fun e => ?_)).trans hT.2.1, hT.2.2.grown h2 (by omega) (fun k hk => by have := hne k hk; omega)⟩
    · rw [List.length_append, u8s_append]; exact h1
    · have := hne _ e.symm; omega

theorem hexc_all : ∀ d : Fin 16, ∀ h : d.val < (ByteArray.mk #[48, 49, 50, 51, 52, 53, 54, 55, 56, 57, 97, 98, 99, 100, 101, 102]).size, (((ByteArray.mk #[48, 49, 50, 51, 52, 53, 54, 55, 56, 57, 97, 98, 99, 100, 101, 102])[d.val]'h).toNat : Int) = ((hexD d.val : Nat) : Int) := by decide +kernel
theorem hexc_at {d : Nat} (hd : d < 16) (h : d < (ByteArray.mk #[48, 49, 50, 51, 52, 53, 54, 55, 56, 57, 97, 98, 99, 100, 101, 102]).size) : (((ByteArray.mk #[48, 49, 50, 51, 52, 53, 54, 55, 56, 57, 97, 98, 99, 100, 101, 102])[d]'h).toNat : Int) = ((hexD d : Nat) : Int) := hexc_all ⟨d, hd⟩ h
theorem and15b : ∀ c : Fin 256, bits .and .u8 (c.val : Int) 15 = ((c.val % 16 : Nat) : Int) := by decide +kernel

theorem hexD_lt : ∀ d : Fin 16, hexD d.val < 256 := by decide +kernel

theorem hex2_byte {l : List Nat} (hl : ∀ c ∈ l, c < 256) : ∀ c ∈ hex2 l, c < 256 := by
  intro c hc
  unfold hex2 at hc
  obtain ⟨x, hx, hc⟩ := List.mem_flatMap.1 hc
  have hx := hl x hx
  have h1 := hexD_lt ⟨x / 16, by omega⟩
  have h2 := hexD_lt ⟨x % 16, by omega⟩
  simp at hc h1 h2
  rcases hc with rfl | rfl
  · exact h1
  · exact h2

set_option maxRecDepth 100000 in
theorem textText_any (s : List Nat) (w : World) (hs : ∀ c ∈ s, c < 256) (hn : s.length ≤ 1000000) :
    Calls Tryz.prog 169 #[.string (str s)] w fun e w' => e = .returned (.string (str (34 :: (hex2 s ++ [34])))) ∧ Below w.heap.size w w' := by
  have hsz := str_size s
  have kc := fun (w : World) (C : Array Value) (n c : Nat) => Lib.run_convert_bytes_const (P := Tryz.prog) w 28 5 C n c Tryz.underlying28 Tryz.underlying5
  have H0 := Lib.hid (show TxtRel w (w.alloc (.cells #[.int .u8 34] 5 (1, 2))) (34 :: hex2 (s.take 0)) (.slice (some ⟨w.heap.size, 0, none⟩) 1 1) from
    ⟨.inl ⟨rfl, rfl⟩, heap_alloc_new w _, (Below.refl w.heap.size w).alloc (Nat.le_refl _) _⟩)
  have HG := Lib.hid (get_str hs)
  have Hs := Lib.hid hs
  clear hs
  go_enter Tryz.func169, Tryz.ntmps169
  go_wp2
  go_loopw [3, 9] (fun v i wr => ∃ j : Nat, j ≤ s.length ∧ i = .int .i64 (j : Int) ∧ TxtRel w wr (34 :: hex2 (s.take j)) v) (fun _ i _ => s.length - (intOf i).toNat)
  case atStart => exact ⟨0, Nat.zero_le _, rfl, H0.out⟩
  case round =>
    obtain ⟨j, hj, rfl, hR⟩ := hrel
    have HR := Lib.hid hR
    obtain ⟨g, cap, rfl⟩ := hR.form (by simp)
    clear hR
    by_cases hlt : j < s.length
    · have hji : (j : Int) < (s.length : Int) := by omega
      have hgl : j < (str s).size := by rw [hsz]; exact hlt
      have hgj := HG.out j hgl
      have hc : s.getD j 0 < 256 := by
        rw [List.getD_eq_getElem?_getD, List.getElem?_eq_getElem hlt]
        exact Hs.out _ (List.getElem_mem _)
      have hxs : 34 :: hex2 (s.take (j + 1)) = (34 :: hex2 (s.take j)) ++ [hexD (s.getD j 0 / 16), hexD (s.getD j 0 % 16)] := by
        rw [hex2_take hlt]; simp
      have Hl := Lib.hid (show (34 :: hex2 (s.take j)).length ≤ 10000000 from by rw [List.length_cons, hex2_len, List.length_take]; omega)
      generalize 34 :: hex2 (s.take j) = L at *
      generalize s.getD j 0 = c at *
      obtain ⟨x, hx⟩ : ∃ x, x = c / 16 := ⟨_, rfl⟩
      obtain ⟨y, hy⟩ : ∃ y, y = c % 16 := ⟨_, rfl⟩
      have h15 := and15b ⟨c, hc⟩
      simp only at h15
      rw [← hx, ← hy] at hxs
      have Hx := Lib.hid hxs
      have Hlt := Lib.hid hlt
      rw [← hy] at h15
      have hx16 : (c : Int) / 16 = (x : Int) := by omega
      have hxl : x < 16 := by omega
      have hyl : y < 16 := by omega
      have hxi : (x : Int) < 16 := by omega
      have hyi : (y : Int) < 16 := by omega
      have hxd := fun h => hexc_at hxl h
      have hyd := fun h => hexc_at hyl h
      have HT := Lib.hid (HR.out.keep (((Below.refl wr.heap.size wr).alloc (Nat.le_refl _) (.cells #[.int .u8 (hexD x : Nat), .int .u8 (hexD y : Nat)] 5)).drew))
      have HC := Lib.hid (World.news_of_block (w := (wr.alloc (.cells #[.int .u8 (hexD x : Nat), .int .u8 (hexD y : Nat)] 5)).drew) (heap_alloc_new wr (.cells #[.int .u8 (hexD x : Nat), .int .u8 (hexD y : Nat)] 5)))
      clear hx hy hc hlt hxs
      go_wp2
      go_region_law (refine step_txt rfl (.tmp 12) (.tmp 23) rfl w L _ (by simp [Act.eval]) HT.out ⟨wr.heap.size, 0, none⟩ 2 (hexD x) (hexD y) (by simp [Act.eval]) HC.out Hl.out ?_; intro g2 cap2 w2 hT2; have HT2 := Lib.hid hT2; clear hT2)
      all_goals go_wp2
      all_goals go_roundw
      all_goals first
        | exact ⟨j + 1, Hlt.out, by go_num, by rw [Hx.out]; exact HT2.out⟩
        | (simp [intOf]; have := Hlt.out; omega)
    · have hji : ¬ ((j : Int) < (s.length : Int)) := by omega
      have he : 34 :: hex2 (s.take j) = 34 :: hex2 s := by rw [List.take_of_length_le (by omega)]
      rw [he] at HR ⊢
      have hl34 : ∀ c ∈ 34 :: hex2 s, c < 256 := by
        intro c hc
        rcases List.mem_cons.1 hc with rfl | hc
        · omega
        · exact hex2_byte Hs.out c hc
      obtain ⟨a', n', cap', e, hB⟩ := HR.out.bytes hl34
      have hcv := convert_bytes (P := Tryz.prog) hB 28 5 9 Tryz.underlying28 Tryz.underlying5 Tryz.underlying9
      rw [← e] at hcv
      have hq := str_size (34 :: hex2 s)
      rw [List.length_cons, hex2_len] at hq
      have Happ := Lib.hid (show str (34 :: hex2 s) ++ (⟨#[34]⟩ : ByteArray) = str (34 :: (hex2 s ++ [34])) from (str_append (34 :: hex2 s) [34]).trans (by simp))
      have Hb := Lib.hid HR.out.2.2
      clear e hB he
      generalize str (34 :: hex2 s) = S at *
      generalize (34 :: hex2 s).length = len at *
      go_wp2
      go_ret
      exact ⟨by rw [← Happ.out]; rfl, Hb.out⟩
end Go.Proofs.YtpjadeihackkpaaGreatDoor

/- The bytes that some hexadecimal digits may have: guessText. -/
namespace Go.Proofs.YtpjadeihackkpaaGreatDoor
open Go.RowKit Go.Shelf Fl

/-- What the first j pairs gave. -/
def GtRel (w : World) (l : List Nat) (d v : Value) (wr : World) : Prop :=
  ∃ (j : Nat) (b : List Nat), 2 * j ≤ l.length ∧ d = .string (str (l.drop (2 * j))) ∧ b.length = j ∧ (∀ c ∈ b, c < 256) ∧ (∀ q : List Nat, (∀ c ∈ q, c < 256) → l = hex2 q → b = q.take j) ∧ wr.ownsRow w.heap.size 5 1 v j (u8s b) ∧ Below w.heap.size w wr

theorem two_take {l : List Nat} {j : Nat} (h : 2 * j + 2 ≤ l.length) : (l.drop (2 * j)).take 2 = [l.getD (2 * j) 0, l.getD (2 * j + 1) 0] := by
  have h1 : 2 * j < l.length := by omega
  have h2 : 2 * j + 1 < l.length := by omega
  rw [List.drop_eq_getElem_cons h1, List.drop_eq_getElem_cons h2]
  rw [List.take_succ_cons, List.take_succ_cons, List.take_zero, List.getD_eq_getElem?_getD, List.getElem?_eq_getElem h1, List.getD_eq_getElem?_getD, List.getElem?_eq_getElem h2]
  rfl

set_option maxRecDepth 100000 in
set_option maxHeartbeats 1600000 in
theorem gtext_any (l : List Nat) (w : World) (hl : ∀ x ∈ l, x < 256) (hn : l.length ≤ 1000000) (he : Errs w) :
    Calls Tryz.prog 78 #[.string (str l)] w fun e w' => ∃ b : List Nat, e = .returned (.iface 72 (.string (str b))) ∧ (∀ c ∈ b, c < 256) ∧ b.length = l.length / 2 ∧ (∀ q : List Nat, (∀ c ∈ q, c < 256) → l = hex2 q → b = q) ∧ Below w.heap.size w w' := by
  have HL := Lib.hid hl
  have HE := Lib.hid he
  obtain ⟨i0, hi, hz0, hz1, hz2⟩ := info_parts info_u8
  clear hl he
  go_enter Tryz.func78, Tryz.ntmps78
  go_wp2

  go_loopw [0, 3] (fun d v wr => GtRel w l d v wr) (fun d _ _ => match d with | .string s => s.size | _ => 0)
  case atStart => exact ⟨0, [], by omega, by simp, rfl, by simp, fun q _ _ => by simp, World.ownsRow_nil _ _ _ _, Below.refl _ _⟩
  case round =>
    obtain ⟨j, b, hj, rfl, hbl, hb8, hq, hown, hbel⟩ := hrel
    have hsz := str_size (l.drop (2 * j))
    rw [List.length_drop] at hsz
    by_cases hlt : 2 * j + 2 ≤ l.length
    · have hji : (2 : Int) ≤ ((str (l.drop (2 * j))).size : Int) := by omega
      have hx1 := str_extract (l.drop (2 * j)) 0 2
      have hx2 : (str (l.drop (2 * j))).extract 2 (str (l.drop (2 * j))).size = str (l.drop (2 * (j + 1))) := by
        rw [str_extract, hsz, List.take_of_length_le (by rw [List.length_drop]; omega), List.drop_drop]
        congr 2
      rw [List.drop_zero, two_take hlt] at hx1
      have HU := Lib.hid (fun w h => uint8_any [l.getD (2 * j) 0, l.getD (2 * j + 1) 0] w (fun x hx => by
        have g : ∀ i, i < l.length → l.getD i 0 < 256 := fun i hi => by
          rw [List.getD_eq_getElem?_getD, List.getElem?_eq_getElem hi]; exact HL.out _ (List.getElem_mem _)
        simp at hx
        rcases hx with rfl | rfl
        · exact g _ (by omega)
        · exact g _ (by omega)) rfl h)
      have Hq := Lib.hid hq
      have Hb8 := Lib.hid hb8
      have Hbl := Lib.hid hbl
      have Hown := Lib.hid hown
      have Hbel := Lib.hid hbel
      have Hlt := Lib.hid hlt
      have hsz2 : 2 ≤ (str (l.drop (2 * j))).size := by omega
      clear hq hb8 hown hbel hlt hj hbl
      have Hpq := Lib.hid (show ∀ q : List Nat, l = hex2 q → j < q.length ∧ [l.getD (2 * j) 0, l.getD (2 * j + 1) 0] = [hexD (q.getD j 0 / 16), hexD (q.getD j 0 % 16)] from by
        intro q e
        have hl2 := Hlt.out
        rw [e, hex2_len] at hl2
        have hj2 : j < q.length := by omega
        obtain ⟨e1, e2⟩ := hex2_get q j hj2
        exact ⟨hj2, by rw [e, e1, e2]⟩)
      have Hx2 := Lib.hid (show (str (l.drop (2 * j))).extract 2 (l.length - 2 * j) = str (l.drop (2 * (j + 1))) from by rw [← hsz]; exact hx2)
      have Hsz := Lib.hid hsz
      have Hsz2 := Lib.hid (str_size (l.drop (2 * (j + 1))))
      generalize [l.getD (2 * j) 0, l.getD (2 * j + 1) 0] = p at *
      generalize str (l.drop (2 * j)) = S at *
      have hjb : j ≤ 1000000 := by have := Hlt.out; omega
      go_wp2_with fail
      refine (HU.out _ (HE.out.below Hbel.out)).mono ?_
      rintro e w1 ⟨hb1, x, er, hx, hxq, rfl⟩
      have Hb1 := Lib.hid hb1
      have Hown1 := Lib.hid (own_below Hown.out hb1)
      have Hbel1 := Lib.hid (Hbel.out.trans (hb1.mono Hbel.out.size))
      have hxm : (x : Int) % 256 = (x : Int) := by omega
      have Hx := Lib.hid hx
      have Hxq := Lib.hid hxq
      have hz0 := Hbel1.out.size
      clear hb1 hxq
      go_wp2_with (at_builtin; refine wpList_append_bytes _ rfl _ _ 28 rfl w.heap.size 5 Tryz.underlying28 info_u8 _ _ _ rfl (Hown1.out.alloc _) _ 1 1 [x] rfl (byte_row _ (by omega) (by omega)) (by omega) (by simp; omega) ?_; intro v' w2 g1 g2)
      case roundEnd =>
        refine ⟨⟨j + 1, b ++ [x], by have := Hlt.out; omega, by rw [Hx2.out], by rw [List.length_append, Hbl.out]; rfl, ?_, fun q hq8 e => ?_, ?_, ?_⟩, ?_⟩
        · intro c hc
          rcases List.mem_append.1 hc with h | h
          · exact Hb8.out c h
          · rw [List.mem_singleton.1 h]; exact Hx.out
        · obtain ⟨hjq, e2⟩ := Hpq.out q e
          have e3 : q.getD j 0 = q[j] := by rw [List.getD_eq_getElem?_getD, List.getElem?_eq_getElem hjq]; rfl
          have h256 := hq8 _ (List.getElem_mem hjq)
          have e4 := Hxq.out (q.getD j 0 / 16) (q.getD j 0 % 16) (by rw [e3]; omega) (by omega) e2
          rw [Hq.out q hq8 e, List.take_succ_eq_append_getElem hjq, e4, ← e3]
          congr 2
          omega
        · exact g1
        · have hb : Below w.heap.size w (w1.alloc (.cells #[.int .u8 (x : Int)] 5)) := Hbel1.out.alloc Hbel1.out.size _
          exact hb.grown g2 hb.size (fun k hk => (Hown1.out.lt k hk).1)
        · rw [Hx2.out]
          show (str (l.drop (2 * (j + 1)))).size < S.size
          rw [Hsz2.out, Hsz.out, List.length_drop]
          have := Hlt.out
          omega
    · have hji : ((str (l.drop (2 * j))).size : Int) < 2 := by omega
      have hszl : (str (l.drop (2 * j))).size < 2 := by omega
      obtain ⟨p, cp, rfl, hB⟩ := own_slice hown hb8
      have hcv := convert_bytes (P := Tryz.prog) hB 28 5 72 Tryz.underlying28 Tryz.underlying5 Tryz.underlying72
      have Hq := Lib.hid hq
      have Hb8 := Lib.hid hb8
      have Hbl := Lib.hid hbl
      have Hbel := Lib.hid hbel
      have Hj := Lib.hid (show j = l.length / 2 by omega)
      clear hq hb8 hown hbel hlt hj hbl hB
      generalize str (l.drop (2 * j)) = S at *
      generalize hS : str b = T at *
      have HS := Lib.hid hS
      clear hS
      go_wp2
      go_ret
      refine ⟨b, by rw [HS.out]; rfl, Hb8.out, by rw [Hbl.out, Hj.out], fun q hq8 e => ?_, Hbel.out⟩
      rw [Hq.out q hq8 e, List.take_of_length_le]
      have h2 := Hj.out
      rw [e, hex2_len] at h2
      omega
end Go.Proofs.YtpjadeihackkpaaGreatDoor

