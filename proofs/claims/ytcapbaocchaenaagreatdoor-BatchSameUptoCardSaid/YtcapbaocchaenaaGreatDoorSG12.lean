import Derived.Test.YtcapbaocchaenaaGreatDoorSG3
import Derived.Test.YtcapbaocchaenaaGreatDoorSG8
import Derived.WalkLawsBesides
import Derived.Deep.RegionHeld
import Derived.Shelf.Abstract
/- The block of a result that is a value. -/
namespace Go.Proofs.YtcapbaocchaenaaGreatDoor
open Go.RowKit Fl

theorem new5 (w : World) (a b c d e : Value) (t : TypeId) : (w.alloc (.cells #[a, b, c, d, e] t)).cell? ⟨w.heap.size, 0, none⟩ = some a ∧ (w.alloc (.cells #[a, b, c, d, e] t)).cell? ⟨w.heap.size, 1, none⟩ = some b ∧ (w.alloc (.cells #[a, b, c, d, e] t)).cell? ⟨w.heap.size, 2, none⟩ = some c ∧
    (w.alloc (.cells #[a, b, c, d, e] t)).cell? ⟨w.heap.size, 3, none⟩ = some d ∧ (w.alloc (.cells #[a, b, c, d, e] t)).cell? ⟨w.heap.size, 4, none⟩ = some e :=
  ⟨box_cell w _ _ 0, box_cell w _ _ 1, box_cell w _ _ 2, box_cell w _ _ 3, box_cell w _ _ 4⟩
end Go.Proofs.YtcapbaocchaenaaGreatDoor

/- What a value has in the field of its kind: contentOf and whole. -/
namespace Go.Proofs.YtcapbaocchaenaaGreatDoor
open Go.RowKit Fl

/-- The content of a value with these fields. -/
def conOf (k n : Int) (f : Nat) (s : List Nat) (a : Option Addr) (len cap : Nat) : Value :=
  if k = 0 then .iface 123 (.agg #[]) else if k = 1 then .iface 124 (.int .i64 n) else if k = 2 then .iface 125 (.float .f64 f)
  else if k = 3 then .iface 126 (.string (str s)) else if k = 4 then .iface 127 (.slice a len cap) else .nilIface

theorem contentOf_any (k n : Int) (f : Nat) (s : List Nat) (a : Option Addr) (len cap : Nat) (w : World) :
    Calls Tryz.prog 59 #[.agg (cells5 k n f s a len cap)] w fun e w' => e = .returned (conOf k n f s a len cap) ∧ Below w.heap.size w w' := by
  have hb := (Below.refl w.heap.size w).alloc (Nat.le_refl _) (.cells (cells5 k n f s a len cap) 43)
  unfold cells5 at *
  by_cases h0 : k = 0
  · subst h0
    go_enter Tryz.func59, Tryz.ntmps59
    go_wp2
    go_ret
    exact ⟨rfl, hb⟩
  by_cases h1 : k = 1
  · subst h1
    clear h0
    go_enter Tryz.func59, Tryz.ntmps59
    go_wp2
    go_ret
    exact ⟨rfl, hb⟩
  by_cases h2 : k = 2
  · subst h2
    clear h0 h1
    go_enter Tryz.func59, Tryz.ntmps59
    go_wp2
    go_ret
    exact ⟨rfl, hb⟩
  by_cases h3 : k = 3
  · subst h3
    clear h0 h1 h2
    go_enter Tryz.func59, Tryz.ntmps59
    go_wp2
    go_ret
    exact ⟨rfl, hb⟩
  by_cases h4 : k = 4
  · subst h4
    clear h0 h1 h2 h3
    go_enter Tryz.func59, Tryz.ntmps59
    go_wp2
    go_ret
    exact ⟨rfl, hb⟩
  have Hf := Lib.hid (show conOf k n f s a len cap = .nilIface from by unfold conOf; rw [if_neg h0, if_neg h1, if_neg h2, if_neg h3, if_neg h4])
  have d0 : (k == 0) = false := beq_eq_false_iff_ne.2 h0
  have d1 : (k == 1) = false := beq_eq_false_iff_ne.2 h1
  have d2 : (k == 2) = false := beq_eq_false_iff_ne.2 h2
  have d3 : (k == 3) = false := beq_eq_false_iff_ne.2 h3
  have d4 : (k == 4) = false := beq_eq_false_iff_ne.2 h4
  clear h0 h1 h2 h3 h4
  go_enter Tryz.func59, Tryz.ntmps59
  go_wp2
  go_ret
  exact ⟨by rw [Hf.out]; rfl, hb⟩

theorem as_none_int (w : World) : (Instr.typeAssert .nilIface 81 124 true).run Tryz.prog w = .ok (.tuple #[.int .i64 0, .bool false]) w := by kernel_rfl
theorem as_none_float (w : World) : (Instr.typeAssert .nilIface 81 125 true).run Tryz.prog w = .ok (.tuple #[.float .f64 0, .bool false]) w := by kernel_rfl
theorem as_none_text (w : World) : (Instr.typeAssert .nilIface 81 126 true).run Tryz.prog w = .ok (.tuple #[.string ByteArray.empty, .bool false]) w := by kernel_rfl
theorem as_none_list (w : World) : (Instr.typeAssert .nilIface 81 127 true).run Tryz.prog w = .ok (.tuple #[.slice none 0 0, .bool false]) w := by kernel_rfl

set_option maxRecDepth 100000 in
theorem whole_none  (w : World) :
    Calls Tryz.prog 145 #[.nilIface] w fun e w' => e = .returned (.agg (cells5 0 0 0 [] none 0 0)) ∧ Below w.heap.size w w' := by
  have a_int := as_none_int
  have a_float := as_none_float
  have a_text := as_none_text
  have a_list := as_none_list
  have hfl : ∀ (w : World) (a : Addr) (m : Mode) (b : Nat), (store a (.float .f64 b) m).run Tryz.prog w = stored Tryz.prog w a (.float .f64 b) m := fun w a m b => run_store Tryz.prog w a _ m rfl
  go_enter Tryz.func145, Tryz.ntmps145
  go_wp2
  obtain ⟨z0, z1, z2, z3, z4⟩ := new5 w (.int .i64 0) (.int .i64 0) (.float .f64 0) (.string ⟨#[]⟩) (.slice none 0 0) 43
  refine bodyPost_ret (v := .agg #[.int .i64 0, .int .i64 0, .float .f64 0, .string (str []), .slice none 0 0]) (by simp [results, Tryz.results145, go_sem, *]; try rfl) rfl ⟨rfl, (Below.refl _ _).alloc (Nat.le_refl _) _⟩

theorem as_nil_int (v : Value) (w : World) : (Instr.typeAssert (.iface 123 v) 81 124 true).run Tryz.prog w = .ok (.tuple #[.int .i64 0, .bool false]) w := by kernel_rfl
theorem as_nil_float (v : Value) (w : World) : (Instr.typeAssert (.iface 123 v) 81 125 true).run Tryz.prog w = .ok (.tuple #[.float .f64 0, .bool false]) w := by kernel_rfl
theorem as_nil_text (v : Value) (w : World) : (Instr.typeAssert (.iface 123 v) 81 126 true).run Tryz.prog w = .ok (.tuple #[.string ByteArray.empty, .bool false]) w := by kernel_rfl
theorem as_nil_list (v : Value) (w : World) : (Instr.typeAssert (.iface 123 v) 81 127 true).run Tryz.prog w = .ok (.tuple #[.slice none 0 0, .bool false]) w := by kernel_rfl

set_option maxRecDepth 100000 in
theorem whole_nil  (w : World) :
    Calls Tryz.prog 145 #[.iface 123 (.agg #[])] w fun e w' => e = .returned (.agg (cells5 0 0 0 [] none 0 0)) ∧ Below w.heap.size w w' := by
  have a_int := as_nil_int (.agg #[])
  have a_float := as_nil_float (.agg #[])
  have a_text := as_nil_text (.agg #[])
  have a_list := as_nil_list (.agg #[])
  have hfl : ∀ (w : World) (a : Addr) (m : Mode) (b : Nat), (store a (.float .f64 b) m).run Tryz.prog w = stored Tryz.prog w a (.float .f64 b) m := fun w a m b => run_store Tryz.prog w a _ m rfl
  go_enter Tryz.func145, Tryz.ntmps145
  go_wp2
  obtain ⟨z0, z1, z2, z3, z4⟩ := new5 w (.int .i64 0) (.int .i64 0) (.float .f64 0) (.string ⟨#[]⟩) (.slice none 0 0) 43
  refine bodyPost_ret (v := .agg #[.int .i64 0, .int .i64 0, .float .f64 0, .string (str []), .slice none 0 0]) (by simp [results, Tryz.results145, go_sem, *]; try rfl) rfl ⟨rfl, (Below.refl _ _).alloc (Nat.le_refl _) _⟩

theorem as_int_int (v : Value) (w : World) : (Instr.typeAssert (.iface 124 v) 81 124 true).run Tryz.prog w = .ok (.tuple #[v, .bool true]) w := by kernel_rfl
theorem as_int_float (v : Value) (w : World) : (Instr.typeAssert (.iface 124 v) 81 125 true).run Tryz.prog w = .ok (.tuple #[.float .f64 0, .bool false]) w := by kernel_rfl
theorem as_int_text (v : Value) (w : World) : (Instr.typeAssert (.iface 124 v) 81 126 true).run Tryz.prog w = .ok (.tuple #[.string ByteArray.empty, .bool false]) w := by kernel_rfl
theorem as_int_list (v : Value) (w : World) : (Instr.typeAssert (.iface 124 v) 81 127 true).run Tryz.prog w = .ok (.tuple #[.slice none 0 0, .bool false]) w := by kernel_rfl

set_option maxRecDepth 100000 in
theorem whole_int (n : Int) (w : World) :
    Calls Tryz.prog 145 #[.iface 124 (.int .i64 n)] w fun e w' => e = .returned (.agg (cells5 1 n 0 [] none 0 0)) ∧ Below w.heap.size w w' := by
  have a_int := as_int_int (.int .i64 n)
  have a_float := as_int_float (.int .i64 n)
  have a_text := as_int_text (.int .i64 n)
  have a_list := as_int_list (.int .i64 n)
  have hfl : ∀ (w : World) (a : Addr) (m : Mode) (b : Nat), (store a (.float .f64 b) m).run Tryz.prog w = stored Tryz.prog w a (.float .f64 b) m := fun w a m b => run_store Tryz.prog w a _ m rfl
  go_enter Tryz.func145, Tryz.ntmps145
  go_wp2
  obtain ⟨z0, z1, z2, z3, z4⟩ := new5 w (.int .i64 1) (.int .i64 n) (.float .f64 0) (.string ⟨#[]⟩) (.slice none 0 0) 43
  refine bodyPost_ret (v := .agg #[.int .i64 1, .int .i64 n, .float .f64 0, .string (str []), .slice none 0 0]) (by simp [results, Tryz.results145, go_sem, *]; try rfl) rfl ⟨rfl, (Below.refl _ _).alloc (Nat.le_refl _) _⟩

theorem as_float_int (v : Value) (w : World) : (Instr.typeAssert (.iface 125 v) 81 124 true).run Tryz.prog w = .ok (.tuple #[.int .i64 0, .bool false]) w := by kernel_rfl
theorem as_float_float (v : Value) (w : World) : (Instr.typeAssert (.iface 125 v) 81 125 true).run Tryz.prog w = .ok (.tuple #[v, .bool true]) w := by kernel_rfl
theorem as_float_text (v : Value) (w : World) : (Instr.typeAssert (.iface 125 v) 81 126 true).run Tryz.prog w = .ok (.tuple #[.string ByteArray.empty, .bool false]) w := by kernel_rfl
theorem as_float_list (v : Value) (w : World) : (Instr.typeAssert (.iface 125 v) 81 127 true).run Tryz.prog w = .ok (.tuple #[.slice none 0 0, .bool false]) w := by kernel_rfl

set_option maxRecDepth 100000 in
theorem whole_float (f : Nat) (w : World) :
    Calls Tryz.prog 145 #[.iface 125 (.float .f64 f)] w fun e w' => e = .returned (.agg (cells5 2 0 f [] none 0 0)) ∧ Below w.heap.size w w' := by
  have a_int := as_float_int (.float .f64 f)
  have a_float := as_float_float (.float .f64 f)
  have a_text := as_float_text (.float .f64 f)
  have a_list := as_float_list (.float .f64 f)
  have hfl : ∀ (w : World) (a : Addr) (m : Mode) (b : Nat), (store a (.float .f64 b) m).run Tryz.prog w = stored Tryz.prog w a (.float .f64 b) m := fun w a m b => run_store Tryz.prog w a _ m rfl
  go_enter Tryz.func145, Tryz.ntmps145
  go_wp2
  obtain ⟨z0, z1, z2, z3, z4⟩ := new5 w (.int .i64 2) (.int .i64 0) (.float .f64 f) (.string ⟨#[]⟩) (.slice none 0 0) 43
  refine bodyPost_ret (v := .agg #[.int .i64 2, .int .i64 0, .float .f64 f, .string (str []), .slice none 0 0]) (by simp [results, Tryz.results145, go_sem, *]; try rfl) rfl ⟨rfl, (Below.refl _ _).alloc (Nat.le_refl _) _⟩

theorem as_text_int (v : Value) (w : World) : (Instr.typeAssert (.iface 126 v) 81 124 true).run Tryz.prog w = .ok (.tuple #[.int .i64 0, .bool false]) w := by kernel_rfl
theorem as_text_float (v : Value) (w : World) : (Instr.typeAssert (.iface 126 v) 81 125 true).run Tryz.prog w = .ok (.tuple #[.float .f64 0, .bool false]) w := by kernel_rfl
theorem as_text_text (v : Value) (w : World) : (Instr.typeAssert (.iface 126 v) 81 126 true).run Tryz.prog w = .ok (.tuple #[v, .bool true]) w := by kernel_rfl
theorem as_text_list (v : Value) (w : World) : (Instr.typeAssert (.iface 126 v) 81 127 true).run Tryz.prog w = .ok (.tuple #[.slice none 0 0, .bool false]) w := by kernel_rfl

set_option maxRecDepth 100000 in
theorem whole_text (s : List Nat) (w : World) :
    Calls Tryz.prog 145 #[.iface 126 (.string (str s))] w fun e w' => e = .returned (.agg (cells5 3 0 0 s none 0 0)) ∧ Below w.heap.size w w' := by
  have a_int := as_text_int (.string (str s))
  have a_float := as_text_float (.string (str s))
  have a_text := as_text_text (.string (str s))
  have a_list := as_text_list (.string (str s))
  have hfl : ∀ (w : World) (a : Addr) (m : Mode) (b : Nat), (store a (.float .f64 b) m).run Tryz.prog w = stored Tryz.prog w a (.float .f64 b) m := fun w a m b => run_store Tryz.prog w a _ m rfl
  go_enter Tryz.func145, Tryz.ntmps145
  go_wp2
  obtain ⟨z0, z1, z2, z3, z4⟩ := new5 w (.int .i64 3) (.int .i64 0) (.float .f64 0) (.string (str s)) (.slice none 0 0) 43
  refine bodyPost_ret (v := .agg #[.int .i64 3, .int .i64 0, .float .f64 0, .string (str s), .slice none 0 0]) (by simp [results, Tryz.results145, go_sem, *]; try rfl) rfl ⟨rfl, (Below.refl _ _).alloc (Nat.le_refl _) _⟩

theorem as_list_int (v : Value) (w : World) : (Instr.typeAssert (.iface 127 v) 81 124 true).run Tryz.prog w = .ok (.tuple #[.int .i64 0, .bool false]) w := by kernel_rfl
theorem as_list_float (v : Value) (w : World) : (Instr.typeAssert (.iface 127 v) 81 125 true).run Tryz.prog w = .ok (.tuple #[.float .f64 0, .bool false]) w := by kernel_rfl
theorem as_list_text (v : Value) (w : World) : (Instr.typeAssert (.iface 127 v) 81 126 true).run Tryz.prog w = .ok (.tuple #[.string ByteArray.empty, .bool false]) w := by kernel_rfl
theorem as_list_list (v : Value) (w : World) : (Instr.typeAssert (.iface 127 v) 81 127 true).run Tryz.prog w = .ok (.tuple #[v, .bool true]) w := by kernel_rfl

set_option maxRecDepth 100000 in
theorem whole_list (a : Option Addr) (len cap : Nat) (w : World) :
    Calls Tryz.prog 145 #[.iface 127 (.slice a len cap)] w fun e w' => e = .returned (.agg (cells5 4 0 0 [] a len cap)) ∧ Below w.heap.size w w' := by
  have a_int := as_list_int (.slice a len cap)
  have a_float := as_list_float (.slice a len cap)
  have a_text := as_list_text (.slice a len cap)
  have a_list := as_list_list (.slice a len cap)
  have hfl : ∀ (w : World) (a : Addr) (m : Mode) (b : Nat), (store a (.float .f64 b) m).run Tryz.prog w = stored Tryz.prog w a (.float .f64 b) m := fun w a m b => run_store Tryz.prog w a _ m rfl
  go_enter Tryz.func145, Tryz.ntmps145
  go_wp2
  obtain ⟨z0, z1, z2, z3, z4⟩ := new5 w (.int .i64 4) (.int .i64 0) (.float .f64 0) (.string ⟨#[]⟩) (.slice a len cap) 43
  refine bodyPost_ret (v := .agg #[.int .i64 4, .int .i64 0, .float .f64 0, .string (str []), .slice a len cap]) (by simp [results, Tryz.results145, go_sem, *]; try rfl) rfl ⟨rfl, (Below.refl _ _).alloc (Nat.le_refl _) _⟩

/-- The value with a content and nothing else. -/
def wholeOf (k n : Int) (f : Nat) (s : List Nat) (a : Option Addr) (len cap : Nat) : Array Value :=
  if k = 1 then cells5 1 n 0 [] none 0 0 else if k = 2 then cells5 2 0 f [] none 0 0 else if k = 3 then cells5 3 0 0 s none 0 0 else if k = 4 then cells5 4 0 0 [] a len cap else cells5 0 0 0 [] none 0 0

theorem whole_any (k n : Int) (f : Nat) (s : List Nat) (a : Option Addr) (len cap : Nat) (w : World) :
    Calls Tryz.prog 145 #[conOf k n f s a len cap] w fun e w' => e = .returned (.agg (wholeOf k n f s a len cap)) ∧ Below w.heap.size w w' := by
  unfold conOf wholeOf
  by_cases h0 : k = 0
  · subst h0
    exact whole_nil w
  rw [if_neg h0]
  by_cases h1 : k = 1
  · rw [if_pos h1, if_pos h1]
    exact whole_int n w
  rw [if_neg h1, if_neg h1]
  by_cases h2 : k = 2
  · rw [if_pos h2, if_pos h2]
    exact whole_float f w
  rw [if_neg h2, if_neg h2]
  by_cases h3 : k = 3
  · rw [if_pos h3, if_pos h3]
    exact whole_text s w
  rw [if_neg h3, if_neg h3]
  by_cases h4 : k = 4
  · rw [if_pos h4, if_pos h4]
    exact whole_list a len cap w
  rw [if_neg h4, if_neg h4]
  exact whole_none w
end Go.Proofs.YtcapbaocchaenaaGreatDoor

/- Which values have only fields of their kind: bare, and Valid's own test. -/
namespace Go.Proofs.YtcapbaocchaenaaGreatDoor
open Go.RowKit Fl

/-- Only fields of a kind that there is. -/
def bareB (v : V) : Bool := decide (FieldsOk v ∧ 0 ≤ v.kind ∧ v.kind ≤ 4)

theorem chain5 {p q r s t u : Prop} [Decidable p] [Decidable q] [Decidable r] [Decidable s] [Decidable t] {_ : Decidable u} (h : u ↔ (p ∧ q ∧ r ∧ s ∧ t)) :
    decide u = (decide p && (decide q && (decide r && (decide s && decide t)))) := by
  rw [Bool.eq_iff_iff]
  simp only [Bool.and_eq_true, decide_eq_true_eq]
  exact h

theorem whole_cells (k n : Int) (f : Nat) (s : List Nat) (a : Option Addr) (l : List V) (cap : Nat) (hf : f < 18446744073709551616) (hs : ∀ c ∈ s, c < 256) :
    ∃ (k2 n2 : Int) (f2 : Nat) (s2 : List Nat) (a2 : Option Addr) (len2 cap2 : Nat), wholeOf k n f s a l.length cap = cells5 k2 n2 f2 s2 a2 len2 cap2 ∧ f2 < 18446744073709551616 ∧ (∀ c ∈ s2, c < 256) ∧
      bareB (.mk k n f s l) = (decide (k2 = k) && (decide (n2 = n) && (decide (bitsB f2 = bitsB f) && (decide (s2 = s) && decide (len2 = l.length))))) := by
  have hb0 : bitsB 0 = 0 := by decide
  have hl : 0 = l.length ↔ l = [] := ⟨fun h => List.length_eq_zero_iff.1 h.symm, fun h => by rw [h]; rfl⟩
  have hss : ([] : List Nat) = s ↔ s = [] := ⟨fun h => h.symm, fun h => h.symm⟩
  have hn0 : 0 = n ↔ n = 0 := ⟨fun h => h.symm, fun h => h.symm⟩
  have hff : 0 = bitsB f ↔ bitsB f = 0 := ⟨fun h => h.symm, fun h => h.symm⟩
  unfold wholeOf bareB FieldsOk
  simp only [V.kind, V.n, V.f, V.s, V.l]
  by_cases h1 : k = 1
  · subst h1
    refine ⟨1, n, 0, [], none, 0, 0, rfl, by omega, (fun c h => by cases h), chain5 ?_⟩
    rw [hb0, hl, hss, hff]
    constructor
    · rintro ⟨⟨_, g2, g3, g4⟩, _⟩
      exact ⟨rfl, rfl, g2.resolve_left (by omega), g3.resolve_left (by omega), g4.resolve_left (by omega)⟩
    · rintro ⟨_, _, g2, g3, g4⟩
      exact ⟨⟨.inl rfl, .inr g2, .inr g3, .inr g4⟩, by omega, by omega⟩
  rw [if_neg h1]
  by_cases h2 : k = 2
  · subst h2
    refine ⟨2, 0, f, [], none, 0, 0, rfl, hf, (fun c h => by cases h), chain5 ?_⟩
    rw [hl, hss, hn0]
    constructor
    · rintro ⟨⟨g1, _, g3, g4⟩, _⟩
      exact ⟨rfl, g1.resolve_left (by omega), rfl, g3.resolve_left (by omega), g4.resolve_left (by omega)⟩
    · rintro ⟨_, g1, _, g3, g4⟩
      exact ⟨⟨.inr g1, .inl rfl, .inr g3, .inr g4⟩, by omega, by omega⟩
  rw [if_neg h2]
  by_cases h3 : k = 3
  · subst h3
    refine ⟨3, 0, 0, s, none, 0, 0, rfl, by omega, hs, chain5 ?_⟩
    rw [hb0, hl, hff, hn0]
    constructor
    · rintro ⟨⟨g1, g2, _, g4⟩, _⟩
      exact ⟨rfl, g1.resolve_left (by omega), g2.resolve_left (by omega), rfl, g4.resolve_left (by omega)⟩
    · rintro ⟨_, g1, g2, _, g4⟩
      exact ⟨⟨.inr g1, .inr g2, .inl rfl, .inr g4⟩, by omega, by omega⟩
  rw [if_neg h3]
  by_cases h4 : k = 4
  · subst h4
    refine ⟨4, 0, 0, [], a, l.length, cap, rfl, by omega, (fun c h => by cases h), chain5 ?_⟩
    rw [hb0, hss, hff, hn0]
    constructor
    · rintro ⟨⟨g1, g2, g3, _⟩, _⟩
      exact ⟨rfl, g1.resolve_left (by omega), g2.resolve_left (by omega), g3.resolve_left (by omega), rfl⟩
    · rintro ⟨_, g1, g2, g3, _⟩
      exact ⟨⟨.inr g1, .inr g2, .inr g3, .inl rfl⟩, by omega, by omega⟩
  rw [if_neg h4]
  refine ⟨0, 0, 0, [], none, 0, 0, rfl, by omega, (fun c h => by cases h), chain5 ?_⟩
  rw [hb0, hl, hss, hff, hn0]
  constructor
  · rintro ⟨⟨g1, g2, g3, g4⟩, g5, g6⟩
    exact ⟨by omega, g1.resolve_left h1, g2.resolve_left h2, g3.resolve_left h3, g4.resolve_left h4⟩
  · rintro ⟨g0, g1, g2, g3, g4⟩
    exact ⟨⟨.inr g1, .inr g2, .inr g3, .inr g4⟩, by omega, by omega⟩

theorem keep5 {w w' : World} {p : Nat} {a b c d e : Value} (hb : Below w.heap.size w w')
    (h : w.cell? ⟨p, 0, none⟩ = some a ∧ w.cell? ⟨p, 1, none⟩ = some b ∧ w.cell? ⟨p, 2, none⟩ = some c ∧ w.cell? ⟨p, 3, none⟩ = some d ∧ w.cell? ⟨p, 4, none⟩ = some e) :
    w'.cell? ⟨p, 0, none⟩ = some a ∧ w'.cell? ⟨p, 1, none⟩ = some b ∧ w'.cell? ⟨p, 2, none⟩ = some c ∧ w'.cell? ⟨p, 3, none⟩ = some d ∧ w'.cell? ⟨p, 4, none⟩ = some e := by
  have g : ∀ {q : Addr} {v : Value}, w.cell? q = some v → w'.cell? q = some v := fun {q v} h => by
    rw [hb.cell (World.block_lt_of_cell? _ _ h)]; exact h
  exact ⟨g h.1, g h.2.1, g h.2.2.1, g h.2.2.2.1, g h.2.2.2.2⟩

set_option maxRecDepth 100000 in
set_option maxHeartbeats 1600000 in
theorem bare_any (k n : Int) (f : Nat) (s : List Nat) (a : Option Addr) (l : List V) (cap : Nat) (w : World) (hf : f < 18446744073709551616) (hs : ∀ c ∈ s, c < 256) :
    Calls Tryz.prog 91 #[.agg (cells5 k n f s a l.length cap)] w fun e w' => e = .returned (.bool (bareB (.mk k n f s l))) ∧ Below w.heap.size w w' := by
  obtain ⟨k2, n2, f2, s2, a2, len2, cap2, hw, hf2, hs2, hB⟩ := whole_cells k n f s a l cap hf hs
  have HC := Lib.hid (fun w => contentOf_any k n f s a l.length cap w)
  have HW := Lib.hid (fun w => whole_any k n f s a l.length cap w)
  rw [hw] at HW
  have hfl : ∀ (w : World) (a : Addr) (m : Mode) (b : Nat), (store a (.float .f64 b) m).run Tryz.prog w = stored Tryz.prog w a (.float .f64 b) m := fun w a m b => run_store Tryz.prog w a _ m rfl
  have HR := Lib.hid (fun w => same_any f2 f w hf2 hf)
  have hB : ∃ b : Bool, bareB (.mk k n f s l) = b ∧ b = (decide (k2 = k) && (decide (n2 = n) && (decide (bitsB f2 = bitsB f) && (decide (s2 = s) && decide (len2 = l.length))))) := ⟨_, rfl, hB⟩
  obtain ⟨bb, hbb, hB⟩ := hB
  rw [hbb]
  generalize l.length = len at *
  have HB := Lib.hid hB
  have C0 := Lib.hid (new5 w (.int .i64 k) (.int .i64 n) (.float .f64 f) (.string (str s)) (.slice a len cap) 43)
  have Hb := Lib.hid ((Below.refl w.heap.size w).alloc (Nat.le_refl _) (.cells (cells5 k n f s a len cap) 43))
  have hwz : (w.alloc (.cells #[.int .i64 k, .int .i64 n, .float .f64 f, .string (str s), .slice a len cap] 43)).heap.size = w.heap.size + 1 := by simp
  clear hw hB hf hf2 hbb
  generalize conOf k n f s a len cap = con at *
  unfold cells5 at *
  go_enter Tryz.func91, Tryz.ntmps91
  go_wp2_with fail
  generalize w.alloc (.cells #[.int .i64 k, .int .i64 n, .float .f64 f, .string (str s), .slice a len cap] 43) = w0 at *
  refine (HC.out _).mono ?_
  rintro e w1 ⟨rfl, hb1⟩
  have Hb1 := Lib.hid hb1
  clear hb1
  go_wp2_with fail
  refine (HW.out _).mono ?_
  rintro e w2 ⟨rfl, hb2⟩
  have Hb2 := Lib.hid (Hb1.out.trans (hb2.mono Hb1.out.size))
  have Hb3 := Lib.hid (Hb2.out.alloc Hb2.out.size (.cells #[.int .i64 k2, .int .i64 n2, .float .f64 f2, .string (str s2), .slice a2 len2 cap2] 43))
  have Hbe := Lib.hid (show Below w.heap.size w _ from Hb.out.trans (Hb3.out.mono (by omega)))
  obtain ⟨c0, c1, c2, c3, c4⟩ := new5 w2 (.int .i64 k2) (.int .i64 n2) (.float .f64 f2) (.string (str s2)) (.slice a2 len2 cap2) 43
  obtain ⟨m0, m1, m2, m3, m4⟩ := keep5 Hb3.out C0.out
  clear hb2
  by_cases q1 : k2 = k
  · rw [decide_eq_true q1] at HB
    have d1 : (k2 == k) = true := beq_iff_eq.2 q1
    by_cases q2 : n2 = n
    · rw [decide_eq_true q2] at HB
      have d2 : (n2 == n) = true := beq_iff_eq.2 q2
      by_cases q3 : bitsB f2 = bitsB f
      · rw [decide_eq_true q3] at HB HR
        by_cases q4 : s2 = s
        · have d4 : ((str s2).toList == (str s).toList) = true := by rw [q4]; exact str_eq s
          rw [decide_eq_true q4] at HB
          have HB5 := Lib.hid (show (decide (len2 = len)) = bb from by rw [HB.out]; simp)
          clear q1 q2 q3 q4 hs hs2
          go_wp2_with ((with_reducible refine (HR.out _).mono ?_); rintro e w' ⟨rfl, rfl⟩)
          go_ret
          exact ⟨ret_bool (by rw [← HB5.out, Bool.eq_iff_iff]; simp; omega), Hbe.out⟩
        · have d4 : ((str s2).toList == (str s).toList) = false := str_ne hs2 hs q4
          rw [decide_eq_false q4] at HB
          have HB5 := Lib.hid (show false = bb from by rw [HB.out]; simp)
          clear q1 q2 q3 q4 hs hs2
          go_wp2_with ((with_reducible refine (HR.out _).mono ?_); rintro e w' ⟨rfl, rfl⟩)
          go_ret
          exact ⟨ret_bool HB5.out, Hbe.out⟩
      · rw [decide_eq_false q3] at HB HR
        have HB5 := Lib.hid (show false = bb from by rw [HB.out]; simp)
        clear q1 q2 q3 hs hs2
        go_wp2_with ((with_reducible refine (HR.out _).mono ?_); rintro e w' ⟨rfl, rfl⟩)
        go_ret
        exact ⟨ret_bool HB5.out, Hbe.out⟩
    · have d2 : (n2 == n) = false := beq_eq_false_iff_ne.2 q2
      rw [decide_eq_false q2] at HB
      have HB5 := Lib.hid (show false = bb from by rw [HB.out]; simp)
      clear q1 q2 hs hs2
      go_wp2
      go_ret
      exact ⟨ret_bool HB5.out, Hbe.out⟩
  · have d1 : (k2 == k) = false := beq_eq_false_iff_ne.2 q1
    rw [decide_eq_false q1] at HB
    have HB5 := Lib.hid (show false = bb from by rw [HB.out]; simp)
    clear q1 hs hs2
    go_wp2
    go_ret
    exact ⟨ret_bool HB5.out, Hbe.out⟩
end Go.Proofs.YtcapbaocchaenaaGreatDoor

/- The test of one value by Valid. -/
namespace Go.Proofs.YtcapbaocchaenaaGreatDoor
open Go.RowKit Fl

/-- What Valid asks of a value with so many values around it. -/
def testB (v : V) (d : Nat) : Bool := bareB v && (decide (v.kind ≠ 4) || decide (d < 8))

set_option maxRecDepth 100000 in
set_option maxHeartbeats 1600000 in
theorem visit_valid (k n : Int) (f : Nat) (s : List Nat) (a : Option Addr) (l : List V) (cap : Nat) (d : Nat) (w : World) (hf : f < 18446744073709551616) (hs : ∀ c ∈ s, c < 256) :
    Calls Tryz.prog 90 #[.agg (cells5 k n f s a l.length cap), .int .i64 (d : Int)] w fun e w' => e = .returned (.bool (testB (.mk k n f s l) d)) ∧ Below w.heap.size w w' := by
  have HA := Lib.hid (fun w => bare_any k n f s a l cap w hf hs)
  have ht : ∃ b : Bool, testB (.mk k n f s l) d = b ∧ b = (bareB (.mk k n f s l) && (decide (k ≠ 4) || decide (d < 8))) := ⟨_, rfl, rfl⟩
  obtain ⟨bb, hbb, hB⟩ := ht
  rw [hbb]
  have HB := Lib.hid hB
  clear hbb hB hf hs
  generalize bareB (.mk k n f s l) = br at *
  generalize l.length = len at *
  have C0 := Lib.hid (new5 w (.int .i64 k) (.int .i64 n) (.float .f64 f) (.string (str s)) (.slice a len cap) 43)
  have Hb := Lib.hid ((Below.refl w.heap.size w).alloc (Nat.le_refl _) (.cells (cells5 k n f s a len cap) 43))
  have hwz : (w.alloc (.cells #[.int .i64 k, .int .i64 n, .float .f64 f, .string (str s), .slice a len cap] 43)).heap.size = w.heap.size + 1 := by simp
  unfold cells5 at *
  go_enter Tryz.func90, Tryz.ntmps90
  go_wp2_with fail
  generalize w.alloc (.cells #[.int .i64 k, .int .i64 n, .float .f64 f, .string (str s), .slice a len cap] 43) = w0 at *
  refine (HA.out _).mono ?_
  rintro e w1 ⟨rfl, hb1⟩
  have Hbe := Lib.hid (show Below w.heap.size w _ from Hb.out.trans (hb1.mono (by omega)))
  obtain ⟨m0, m1, m2, m3, m4⟩ := keep5 hb1 C0.out
  clear hb1
  cases br
  · have HB5 := Lib.hid (show false = bb from by rw [HB.out]; simp)
    go_wp2
    go_ret
    exact ⟨ret_bool HB5.out, Hbe.out⟩
  · by_cases q : k = 4
    · have d1 : (k != 4) = false := by rw [q]; rfl
      have HB5 := Lib.hid (show decide (d < 8) = bb from by rw [HB.out, q]; simp)
      clear q
      go_wp2
      go_ret
      exact ⟨ret_bool (by rw [← HB5.out, Bool.eq_iff_iff]; simp; omega), Hbe.out⟩
    · have d1 : (k != 4) = true := bne_iff_ne.2 q
      have HB5 := Lib.hid (show true = bb from by rw [HB.out, decide_eq_true q]; simp)
      clear q
      go_wp2
      go_ret
      exact ⟨ret_bool HB5.out, Hbe.out⟩
end Go.Proofs.YtcapbaocchaenaaGreatDoor

/- The walk of the reference's small. -/
namespace Go.Proofs.YtcapbaocchaenaaGreatDoor
open Go.RowKit Fl

def smallN : Nat → V → Bool
  | 0, _ => false
  | t + 1, v => v.l.all (smallN t)

set_option maxRecDepth 100000 in
theorem small_any (t : Nat) (ht : t ≤ 1000) : ∀ (v : V) (x : Array Value) (w : World), VIn w v x →
    Calls Tryz.prog 124 #[.agg x, .int .i64 (t : Int)] w fun e w' => e = .returned (.bool (smallN t v)) ∧ Below w.heap.size w w' := by
  induction t with
  | zero =>
    intro v x w h
    obtain ⟨_, _, _, _, _, a, cap, rfl, _, _, _⟩ := h.parts
    have hb := (Below.refl w.heap.size w).alloc (Nat.le_refl _) (.cells (cells5 v.kind v.n v.f v.s a v.l.length cap) 43)
    have hf : smallN 0 v = false := rfl
    rw [hf]
    unfold cells5 at *
    go_enter Tryz.func124, Tryz.ntmps124
    go_wp2
    go_ret
    exact ⟨rfl, hb⟩
  | succ t ih =>
    intro v x w h
    have IH := Lib.hid (ih (by omega))
    obtain ⟨T, hT⟩ : ∃ T : Int, T = ((t + 1 : Nat) : Int) := ⟨_, rfl⟩
    have hT0 : (T == 0) = false := beq_eq_false_iff_ne.2 (by omega)
    have hT1 : T - 1 = (t : Int) := by omega
    have hT2 : 0 < T ∧ T ≤ 1000 := by omega
    rw [← hT]
    clear hT
    obtain ⟨_, _, _, _, _, a, cap, rfl, hcap, hmax, _⟩ := h.parts
    have hb := (Below.refl w.heap.size w).alloc (Nat.le_refl _) (.cells (cells5 v.kind v.n v.f v.s a v.l.length cap) 43)
    have HV := Lib.hid (h.below hb)
    have hc4 := box_cell w (cells5 v.kind v.n v.f v.s a v.l.length cap) 43 4
    have Hb := Lib.hid hb
    have e4 : (cells5 v.kind v.n v.f v.s a v.l.length cap)[4]? = some (.slice a v.l.length cap) := rfl
    rw [e4] at hc4
    clear hb h e4
    unfold cells5 at *
    go_enter Tryz.func124, Tryz.ntmps124
    go_wp2
    have hsz : (w.alloc (.cells #[.int .i64 v.kind, .int .i64 v.n, .float .f64 v.f, .string (str v.s), .slice a v.l.length cap] 43)).heap.size = w.heap.size + 1 := by simp
    generalize w.alloc (.cells #[.int .i64 v.kind, .int .i64 v.n, .float .f64 v.f, .string (str v.s), .slice a v.l.length cap] 43) = w1 at *
    go_loopw [5] (fun i wr => ∃ j : Nat, j ≤ v.l.length ∧ i = .int .i64 (j : Int) ∧ (∀ k u, k < j → v.l[k]? = some u → smallN t u = true) ∧ Below w1.heap.size w1 wr) (fun i _ => v.l.length - (intOf i).toNat)
    case atStart => exact ⟨0, Nat.zero_le _, rfl, fun k u hk _ => absurd hk (by omega), Below.refl _ _⟩
    case round =>
      obtain ⟨j, hj, rfl, hall, hbr⟩ := hrel
      have hcr : wr.cell? ⟨w.heap.size, 4, none⟩ = some (.slice a v.l.length cap) := by
        rw [hbr.cell (show w.heap.size < w1.heap.size by omega)]
        exact hc4
      have Hall := Lib.hid hall
      have Hbr := Lib.hid hbr
      by_cases hlt : j < v.l.length
      · obtain ⟨b, o, rfl, hvs⟩ := (HV.out.below hbr).list (by intro e; rw [e] at hlt; simp at hlt)
        obtain ⟨a', cap', hvy, c0, c1, c2, c3, c4⟩ := hvs.elem hlt
        obtain ⟨hget, _⟩ := get_mem hlt
        have Hvy := Lib.hid hvy
        have Hget := Lib.hid hget
        clear hall hbr hvs hvy hget
        generalize v.l[j] = u at *
        have HI := Lib.hid (IH.out u _ wr Hvy.out)
        have Hlt := Lib.hid hlt
        clear hlt
        have hji : (j : Int) < (v.l.length : Int) := by have := Hlt.out; omega
        go_wp2_with fail
        refine HI.out.mono ?_
        rintro e w2 ⟨rfl, hb2⟩
        have Hb2 := Lib.hid hb2
        clear hb2 c0 c1 c2 c3 c4 hcr hc4
        cases hres : smallN t u with
        | false =>
          have Hres := Lib.hid hres
          have hbw : Below w.heap.size w w2 := (Hb.out.trans (Hbr.out.mono (by omega))).trans (Hb2.out.mono (by have := Hbr.out.size; omega))
          have hf : smallN (t + 1) v = false := by
            rw [smallN, List.all_eq_false]
            exact ⟨u, List.mem_of_getElem? Hget.out, by rw [Hres.out]; simp⟩
          have Hf := Lib.hid hf
          clear hres hf
          go_wp2
          go_ret
          exact ⟨ret_bool Hf.out.symm, hbw⟩
        | true =>
          have Hres := Lib.hid hres
          have hbw : Below w1.heap.size w1 w2 := Hbr.out.trans (Hb2.out.mono Hbr.out.size)
          clear hres
          go_wp2
          go_roundw
          case rel =>
            refine ⟨j + 1, Hlt.out, by go_num, fun k u' hk hu' => ?_, hbw⟩
            rcases Nat.lt_or_eq_of_le (Nat.le_of_lt_succ hk) with h1 | h1
            · exact Hall.out k u' h1 hu'
            · rw [h1, Hget.out] at hu'
              cases hu'
              exact Hres.out
          case measure => simp [intOf]; have := Hlt.out; omega
      · have hbw : Below w.heap.size w wr := Hb.out.trans (hbr.mono (by omega))
        have hf : smallN (t + 1) v = true := by
          rw [smallN, List.all_eq_true]
          intro u hu
          obtain ⟨k, hk, rfl⟩ := List.getElem_of_mem hu
          exact hall k _ (by omega) (List.getElem?_eq_getElem hk)
        have hji : ¬ ((j : Int) < (v.l.length : Int)) := by omega
        have Hf := Lib.hid hf
        clear hf hall hbr hlt
        go_wp2
        go_ret
        exact ⟨ret_bool Hf.out.symm, hbw⟩
end Go.Proofs.YtcapbaocchaenaaGreatDoor

/- The walk through a value and all values in it, whatever the function is that is called for each. -/
namespace Go.Proofs.YtcapbaocchaenaaGreatDoor
open Go.RowKit Go.Shelf Fl

/-- A value and all values in it, each in front of those in itself. -/
def preV : V → List V
  | .mk k n f s l => .mk k n f s l :: preL l
  where
  preL : List V → List V
  | [] => []
  | v :: r => preV v ++ preL r

/-- Whether a test holds for all of them, by the number of values around each. -/
def walkB (p : V → Nat → Bool) : Nat → V → Nat → Bool
  | 0, v, d => p v d
  | t + 1, v, d => p v d && v.l.all (fun u => walkB p t u (d + 1))

theorem preL_snoc : ∀ (a : List V) (u : V), preV.preL (a ++ [u]) = preV.preL a ++ preV u
  | [], u => by simp [preV.preL]
  | v :: r, u => by rw [List.cons_append, preV.preL, preL_snoc r u, preV.preL, List.append_assoc]

theorem preL_append : ∀ (a b : List V), preV.preL (a ++ b) = preV.preL a ++ preV.preL b
  | [], b => by simp [preV.preL]
  | v :: r, b => by rw [List.cons_append, preV.preL, preV.preL, preL_append r b, List.append_assoc]

theorem preL_split {l : List V} {j : Nat} (h : j < l.length) : preV.preL l = preV.preL (l.take j) ++ (preV l[j] ++ preV.preL (l.drop (j + 1))) := by
  have e : l = l.take j ++ (l[j] :: l.drop (j + 1)) := by rw [← List.drop_eq_getElem_cons h, List.take_append_drop]
  calc preV.preL l = preV.preL (l.take j ++ (l[j] :: l.drop (j + 1))) := by rw [← e]
    _ = _ := by rw [preL_append, preV.preL]

set_option maxRecDepth 100000 in
set_option maxHeartbeats 1600000 in
theorem walk_any (w0 : World) (G : Nat) (lb : Array Value) (eg : ∀ args w, (callFunc G args).run Tryz.prog w = .ok (.enter G args) w) (p : V → Nat → Bool) (J : List V → World → Prop) (Own : World → Nat → Prop) (Adm : List V → Prop) (hpre : ∀ a b, Adm (a ++ b) → Adm a)
    (hown : ∀ acc w b, J acc w → Own w b → w0.heap.size ≤ b ∧ b < w.heap.size)
    (hstay : ∀ acc w w', J acc w → Below w.heap.size w w' → J acc w' ∧ ∀ b, Own w' b → Own w b)
    (hvis : ∀ acc (x : V) xs (d : Nat) w, J acc w → Adm (acc ++ [x]) → Below w0.heap.size w0 w → VIn w x xs → d ≤ 1000 → Calls Tryz.prog G (#[.agg xs, .int .i64 (d : Int)] ++ lb) w fun e w' => e = .returned (.bool (p x d)) ∧ J (acc ++ [x]) w' ∧ Below w0.heap.size w w' ∧ ∀ b, b < w.heap.size → ¬ Own w b → w'.heap[b]? = w.heap[b]?) :
    ∀ (t : Nat) (v : V) (d : Nat) (acc : List V) (x : Array Value) (w : World), smallN t v = true → d + t ≤ 1000 → Adm (acc ++ preV v) → J acc w → Below w0.heap.size w0 w → VIn w0 v x →
      Calls Tryz.prog 89 #[.agg x, .int .i64 (d : Int), .func (.func G) #[] lb] w fun e w' => e = .returned (.bool (walkB p t v d)) ∧ (∃ acc', J acc' w' ∧ (walkB p t v d = true → acc' = acc ++ preV v)) ∧ Below w0.heap.size w0 w' := by
  intro t
  induction t with
  | zero => intro v d acc x w h; simp [smallN] at h
  | succ t ih =>
    intro v d acc x w hsm hd hadm hJ hb hv
    have hsm : v.l.all (smallN t) = true := hsm
    rw [List.all_eq_true] at hsm
    obtain ⟨k, n, f, s, l⟩ := v
    change ∀ u ∈ l, smallN t u = true at hsm
    obtain ⟨_, _, _, _, _, a, cap, rfl, hcap, hmax, _⟩ := hv.parts
    change VIn w0 (V.mk k n f s l) (cells5 k n f s a l.length cap) at hv
    change l.length ≤ cap at hcap
    change Calls _ _ #[.agg (cells5 k n f s a l.length cap), _, _] _ _
    have IH := Lib.hid ih
    have HAD := Lib.hid (show Adm (acc ++ [V.mk k n f s l] ++ preV.preL l) from by rw [List.append_assoc]; exact hadm)
    have HPR := Lib.hid hpre
    have HS := Lib.hid hsm
    have HO := Lib.hid hown
    have HT := Lib.hid hstay
    have HX := Lib.hid hvis
    have HV := Lib.hid hv
    have hal := (Below.refl w.heap.size w).alloc (Nat.le_refl _) (.cells (cells5 k n f s a l.length cap) 43)
    have HJ1 := Lib.hid (hstay _ _ _ hJ hal).1
    have hb1 := hb.trans (hal.mono hb.size)
    have HB1 := Lib.hid hb1
    have C0 := Lib.hid (new5 w (.int .i64 k) (.int .i64 n) (.float .f64 f) (.string (str s)) (.slice a l.length cap) 43)
    have hwz : (w.alloc (.cells #[.int .i64 k, .int .i64 n, .float .f64 f, .string (str s), .slice a l.length cap] 43)).heap.size = w.heap.size + 1 := by simp
    have HN := Lib.hid (show ¬ Own (w.alloc (.cells (cells5 k n f s a l.length cap) 43)) w.heap.size from fun h => absurd (hown _ _ _ hJ ((hstay _ _ _ hJ hal).2 _ h)).2 (Nat.lt_irrefl _))
    clear hJ hb hv hal ih hsm hown hstay hvis hadm hpre
    have hfl : ∀ (w : World) (a : Addr) (m : Mode) (b : Nat), (store a (.float .f64 b) m).run Tryz.prog w = stored Tryz.prog w a (.float .f64 b) m := fun w a m b => run_store Tryz.prog w a _ m rfl
    unfold cells5 at *
    go_enter Tryz.func89, Tryz.ntmps89
    go_wp2_with fail
    generalize w.alloc (.cells #[.int .i64 k, .int .i64 n, .float .f64 f, .string (str s), .slice a l.length cap] 43) = w1 at *
    refine (HX.out acc (V.mk k n f s l) _ d _ HJ1.out (HPR.out _ _ HAD.out) HB1.out (HV.out.below HB1.out) (by omega)).mono ?_
    rintro e w2 ⟨rfl, hJ2, hb2, hk2⟩
    have hbw : Below w0.heap.size w0 w2 := HB1.out.trans hb2
    have hbox : w2.heap[w.heap.size]? = w1.heap[w.heap.size]? := hk2 _ (by omega) HN.out
    have c4 : w2.cell? ⟨w.heap.size, 4, none⟩ = some (.slice a l.length cap) := by
      have h := C0.out.2.2.2.2
      unfold World.cell? at h ⊢
      rw [hbox]
      exact h
    have HJ2 := Lib.hid hJ2
    have HB2 := Lib.hid hbw
    have hd1 : (d : Int) ≤ 1000 := by omega
    have Hd := Lib.hid hd
    clear hJ2 hb2 hk2 hbw hbox hwz hd
    cases hp : p (V.mk k n f s l) d with
    | false =>
      have HF := Lib.hid (show walkB p (t + 1) (V.mk k n f s l) d = false from by rw [walkB, hp]; rfl)
      clear hp
      go_wp2
      go_ret
      exact ⟨ret_bool HF.out.symm, ⟨_, HJ2.out, fun h => absurd h (by rw [HF.out]; decide)⟩, HB2.out⟩
    | true =>
      have HP := Lib.hid hp
      clear hp
      go_wp2
      go_loopw [17] (fun i wr => ∃ (j : Nat) (acc' : List V), j ≤ l.length ∧ i = .int .i64 (j : Int) ∧ J acc' wr ∧ acc' = acc ++ [V.mk k n f s l] ++ preV.preL (l.take j) ∧ (∀ (i : Nat) (u : V), i < j → l[i]? = some u → walkB p t u (d + 1) = true) ∧ Below w0.heap.size w0 wr) (fun i _ => l.length - (intOf i).toNat)
      case atStart => exact ⟨0, _, Nat.zero_le _, rfl, HJ2.out, by rw [List.take_zero, preV.preL, List.append_nil], fun i u hi => absurd hi (by omega), HB2.out⟩
      case round =>
        obtain ⟨j, acc', hj, rfl, hJ3, hacc, hall, hbr⟩ := hrel
        have HJ3 := Lib.hid hJ3
        have Hacc := Lib.hid hacc
        have Hall := Lib.hid hall
        have Hbr := Lib.hid hbr
        by_cases hlt : j < l.length
        · have hji : (j : Int) < (l.length : Int) := by omega
          obtain ⟨b, o, rfl, hvs⟩ := HV.out.list (by show l ≠ []; intro e; rw [e] at hlt; simp at hlt)
          change VsIn w0 l b o at hvs
          obtain ⟨a', cap', hvy, c0, c1, c2, c3, c4⟩ := hvs.elem hlt
          have Hvy := Lib.hid hvy
          replace c0 := cell_below hbr c0
          replace c1 := cell_below hbr c1
          replace c2 := cell_below hbr c2
          replace c3 := cell_below hbr c3
          replace c4 := cell_below hbr c4
          obtain ⟨hget, hmem⟩ := get_mem hlt
          have htake := List.take_succ_eq_append_getElem hlt
          have Hget := Lib.hid hget
          have Htake := Lib.hid htake
          have hsu := HS.out _ hmem
          have Hlt := Lib.hid hlt
          have hadm2 : Adm (acc' ++ preV l[j]) := by
            have e : acc ++ [V.mk k n f s l] ++ preV.preL l = (acc' ++ preV l[j]) ++ preV.preL (l.drop (j + 1)) := by
              rw [hacc, preL_split hlt]
              simp only [List.append_assoc]
              rfl
            have h := HAD.out
            rw [e] at h
            exact HPR.out _ _ h
          generalize l[j] = u at *
          have hal := (Below.refl wr.heap.size wr).alloc (Nat.le_refl _) (.cells #[.int .i64 u.kind, .int .i64 u.n, .float .f64 u.f, .string (str u.s), .slice a' u.l.length cap'] 43)
          have HI := Lib.hid (IH.out u (d + 1) acc' _ _ hsu (by have := Hd.out; omega) hadm2 (HT.out _ _ _ hJ3 hal).1 (hbr.trans (hal.mono hbr.size)) hvy)
          obtain ⟨z0, z1, z2, z3, z4⟩ := new5 wr (.int .i64 u.kind) (.int .i64 u.n) (.float .f64 u.f) (.string (str u.s)) (.slice a' u.l.length cap') 43
          have hdr : -9223372036854775808 ≤ (d : Int) + 1 ∧ (d : Int) + 1 ≤ 9223372036854775807 := by have := Hd.out; omega
          rw [show ((d + 1 : Nat) : Int) = (d : Int) + 1 by omega] at HI
          clear hJ3 hacc hall hbr hvs hvy hget hmem htake hsu hal hlt hadm2
          go_wp2_with fail
          refine HI.out.mono ?_
          rintro e w4 ⟨rfl, ⟨acc4, hJ4, ha4⟩, hb4⟩
          have HJ4 := Lib.hid hJ4
          have Ha4 := Lib.hid ha4
          have Hb4 := Lib.hid hb4
          clear hJ4 ha4 hb4 hdr
          cases hp : walkB p t u (d + 1) with
          | false =>
            have HF := Lib.hid (show walkB p (t + 1) (V.mk k n f s l) d = false from by
              rw [walkB, Bool.and_eq_false_iff]
              refine .inr ?_
              rw [List.all_eq_false]
              exact ⟨u, List.mem_of_getElem? Hget.out, by rw [hp]; decide⟩)
            clear hp
            go_wp2
            go_ret
            exact ⟨ret_bool HF.out.symm, ⟨_, HJ4.out, fun h => absurd h (by rw [HF.out]; decide)⟩, Hb4.out⟩
          | true =>
            have HQ := Lib.hid hp
            clear hp
            go_wp2
            go_roundw
            case rel =>
              refine ⟨j + 1, acc4, Hlt.out, by go_num, HJ4.out, ?_, fun i u' hi hu' => ?_, Hb4.out⟩
              · rw [Ha4.out HQ.out, Hacc.out, Htake.out, preL_snoc, List.append_assoc]
              · rcases Nat.lt_or_eq_of_le (Nat.le_of_lt_succ hi) with h1 | h1
                · exact Hall.out i u' h1 hu'
                · rw [h1, Hget.out] at hu'
                  cases hu'
                  exact HQ.out
            case measure => simp [intOf]; have := Hlt.out; omega
        · have hji : ¬ ((j : Int) < (l.length : Int)) := by omega
          have HF := Lib.hid (show walkB p (t + 1) (V.mk k n f s l) d = true from by
            rw [walkB, HP.out, Bool.true_and, List.all_eq_true]
            intro u hu
            obtain ⟨i, hi, rfl⟩ := List.getElem_of_mem hu
            have hi' : i < l.length := hi
            exact hall i _ (by omega) (List.getElem?_eq_getElem hi))
          clear hJ3 hacc hall hbr
          go_wp2
          go_ret
          refine ⟨ret_bool HF.out.symm, ⟨_, HJ3.out, fun _ => ?_⟩, Hbr.out⟩
          rw [Hacc.out, List.take_of_length_le (by omega), List.append_assoc, preV]; rfl
end Go.Proofs.YtcapbaocchaenaaGreatDoor

/- Valid and Count of the code. -/
namespace Go.Proofs.YtcapbaocchaenaaGreatDoor
open Go.RowKit Go.Shelf Fl

theorem test_right : ∀ (t : Nat) (v : V) (d : Nat), smallN t v = true → d ≤ 8 → walkB testB t v d = rightN (8 - d) v
  | 0, v, d, h, _ => by simp [smallN] at h
  | t + 1, .mk k n f s l, d, h, hd => by
    have hl : ∀ u ∈ l, smallN t u = true := by
      have h' : l.all (smallN t) = true := h
      exact List.all_eq_true.1 h'
    rw [walkB]
    change (testB (.mk k n f s l) d && l.all (fun u => walkB testB t u (d + 1))) = _
    by_cases hF : FieldsOk (.mk k n f s l) ∧ 0 ≤ k ∧ k ≤ 4
    · have hb : bareB (.mk k n f s l) = true := decide_eq_true hF
      rw [show testB (.mk k n f s l) d = (decide (k ≠ 4) || decide (d < 8)) from by unfold testB; rw [hb, Bool.true_and]; rfl]
      by_cases h4 : k = 4
      · by_cases h8 : d < 8
        · have e : l.all (fun u => walkB testB t u (d + 1)) = l.all (rightN (8 - (d + 1))) := by
            rw [Bool.eq_iff_iff, List.all_eq_true, List.all_eq_true]
            constructor
            · intro g u hu
              rw [← test_right t u (d + 1) (hl u hu) (by omega)]
              exact g u hu
            · intro g u hu
              rw [test_right t u (d + 1) (hl u hu) (by omega)]
              exact g u hu
          rw [decide_eq_true h8, Bool.or_true, Bool.true_and, e, show 8 - d = (8 - (d + 1)) + 1 by omega]
          exact (rightN_list hF.1 h4).symm
        · have e : 8 - d = 0 := by omega
          rw [decide_eq_false h8, decide_eq_false (fun h => h h4), e]
          unfold rightN
          rw [decide_eq_false (show ¬ (V.mk k n f s l).kind ≠ 4 from fun h => h h4)]
          simp
      · have hnil : l = [] := hF.1.2.2.2.resolve_left h4
        subst hnil
        rw [decide_eq_true h4, rightN_plain hF.1 h4 hF.2]
        rfl
    · have hb : bareB (.mk k n f s l) = false := decide_eq_false hF
      rw [show testB (.mk k n f s l) d = false from by unfold testB; rw [hb, Bool.false_and], Bool.false_and]
      by_cases h1 : FieldsOk (.mk k n f s l)
      · exact (rightN_kind (v := .mk k n f s l) (fun h => hF ⟨h1, h⟩)).symm
      · exact (rightN_fields h1).symm

theorem valid_walk (t : Nat) (ht : t ≤ 1000) (v : V) (x : Array Value) (w : World) (hs : smallN t v = true) (hv : VIn w v x) :
    Calls Tryz.prog 89 #[.agg x, .int .i64 0, .func (.func 90) #[] #[]] w fun e w' => e = .returned (.bool (rightN 8 v)) ∧ Below w.heap.size w w' := by
  have h := walk_any w 90 #[] (enters_of Tryz.func90 (by kernel_rfl) rfl) testB (fun _ _ => True) (fun _ _ => False) (fun _ => True) (fun _ _ _ => trivial) (fun _ _ _ _ h => h.elim) (fun _ _ _ _ _ => ⟨trivial, fun _ h => h⟩)
    (fun acc u xs d w1 _ _ hw1 hu _ => by
      obtain ⟨k, n, f, s, l⟩ := u
      obtain ⟨_, _, hf, hs, _, a, cap, rfl, _⟩ := hu.parts
      refine (visit_valid k n f s a l cap d w1 hf hs).mono ?_
      rintro e w2 ⟨rfl, hb⟩
      exact ⟨rfl, trivial, hb.mono hw1.size, fun b hb' _ => hb.block b hb'⟩)
    t v 0 [] x w hs (by omega) trivial trivial (Below.refl _ _) hv
  rw [test_right t v 0 hs (by omega)] at h
  exact h.mono fun e w' h => ⟨h.1, h.2.2⟩

set_option maxRecDepth 100000 in
set_option maxHeartbeats 1600000 in
theorem valid_any (t : Nat) (ht : t ≤ 1000) (v : V) (x : Array Value) (w : World) (hs : smallN t v = true) (hv : VIn w v x) :
    Calls Tryz.prog 58 #[.agg x] w fun e w' => e = .returned (.bool (rightN 8 v)) ∧ Below w.heap.size w w' := by
  obtain ⟨_, _, _, _, _, a, cap, rfl, _⟩ := hv.parts
  have hal := (Below.refl w.heap.size w).alloc (Nat.le_refl _) (.cells (cells5 v.kind v.n v.f v.s a v.l.length cap) 43)
  have HA := Lib.hid hal
  have HW := Lib.hid (valid_walk t ht v _ _ hs (hv.below hal))
  have HM := Lib.hid hal.size
  clear hv hs ht hal
  unfold cells5 at *
  go_enter Tryz.func58, Tryz.ntmps58
  go_wp2_with fail
  refine HW.out.mono ?_
  rintro e w1 ⟨rfl, hb⟩
  have HB := Lib.hid (HA.out.trans (hb.mono HM.out))
  clear hb
  go_wp2
  go_ret
  exact ⟨rfl, HB.out⟩
end Go.Proofs.YtcapbaocchaenaaGreatDoor

