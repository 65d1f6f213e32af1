import Derived.Test.YtpnfnmeilhiebaaGreatDoorMP4
import Derived.Test.YtpnfnmeilhiebaaGreatDoorMP1
/- Values as trees: what a world holds of them, and how it is kept while only new memory is made. -/
namespace Go.Proofs.YtpnfnmeilhiebaaGreatDoor
open Go.RowKit Fl

/-- A value. -/
inductive V where
  | mk (k n : Int) (f : Nat) (s : List Nat) (l : List V)

def V.kind : V → Int | .mk k _ _ _ _ => k
def V.n : V → Int | .mk _ n _ _ _ => n
def V.f : V → Nat | .mk _ _ f _ _ => f
def V.s : V → List Nat | .mk _ _ _ s _ => s
def V.l : V → List V | .mk _ _ _ _ l => l

/-- The five cells of a value. -/
abbrev cells5 (k n : Int) (f : Nat) (s : List Nat) (a : Option Addr) (len cap : Nat) : Array Value := #[.int .i64 k, .int .i64 n, .float .f64 f, .string (str s), .slice a len cap]

mutual
/-- The cells x hold the value v. -/
def VIn (w : World) : V → Array Value → Prop
  | .mk k n f s l, x => (-9223372036854775808 ≤ k ∧ k ≤ 9223372036854775807) ∧ (-9223372036854775808 ≤ n ∧ n ≤ 9223372036854775807) ∧ f < 18446744073709551616 ∧ (∀ c ∈ s, c < 256) ∧ s.length ≤ 9223372036854775807 ∧
    ∃ a cap, x = cells5 k n f s a l.length cap ∧ l.length ≤ cap ∧ cap ≤ 9223372036854775807 ∧ (l = [] ∨ ∃ b o, a = some ⟨b, o, none⟩ ∧ VsIn w l b o)
/-- The values l lie one behind the other. -/
def VsIn (w : World) : List V → Nat → Nat → Prop
  | [], _, _ => True
  | v :: r, b, o => (∃ x : Array Value, x.size = 5 ∧ (∀ j, j < 5 → w.cell? ⟨b, o + j, none⟩ = x[j]?) ∧ VIn w v x) ∧ VsIn w r b (o + 5)
end

theorem VIn.size {w : World} {v : V} {x : Array Value} (h : VIn w v x) : x.size = 5 := by
  obtain ⟨k, n, f, s, l⟩ := v
  rw [VIn] at h
  obtain ⟨_, _, _, _, _, a, cap, rfl, _⟩ := h
  rfl

mutual
theorem VIn.keep {w w' : World} (hw : ∀ p : Addr, p.block < w.heap.size → w'.cell? p = w.cell? p) : ∀ (v : V) (x : Array Value), VIn w v x → VIn w' v x
  | .mk k n f s l, x, h => by
    rw [VIn] at h ⊢
    obtain ⟨h1, h2, h3, h4, h5, a, cap, h6, h7, h8, h9⟩ := h
    refine ⟨h1, h2, h3, h4, h5, a, cap, h6, h7, h8, ?_⟩
    rcases h9 with h9 | ⟨b, o, ha, hv⟩
    · exact .inl h9
    · exact .inr ⟨b, o, ha, VsIn.keep hw l b o hv⟩
theorem VsIn.keep {w w' : World} (hw : ∀ p : Addr, p.block < w.heap.size → w'.cell? p = w.cell? p) : ∀ (l : List V) (b o : Nat), VsIn w l b o → VsIn w' l b o
  | [], _, _, _ => by rw [VsIn]; trivial
  | v :: r, b, o, h => by
    rw [VsIn] at h ⊢
    obtain ⟨⟨x, hx, hc, hv⟩, hr⟩ := h
    refine ⟨⟨x, hx, fun j hj => ?_, VIn.keep hw v x hv⟩, VsIn.keep hw r b (o + 5) hr⟩
    have h1 := hc j hj
    rw [hw _ (World.block_lt_of_cell? _ _ (h1.trans (Array.getElem?_eq_getElem (by omega))))]
    exact h1
end

theorem VIn.below {w w' : World} {v : V} {x : Array Value} (h : VIn w v x) (hb : Below w.heap.size w w') : VIn w' v x := VIn.keep (fun _ hp => hb.cell hp) v x h

/-- An element of a list of values. -/
theorem VsIn.get {w : World} : ∀ {l : List V} {b o : Nat}, VsIn w l b o → ∀ (i : Nat) (v : V), l[i]? = some v → ∃ x : Array Value, x.size = 5 ∧ (∀ j, j < 5 → w.cell? ⟨b, o + 5 * i + j, none⟩ = x[j]?) ∧ VIn w v x
  | [], _, _, _, i, v, h => by simp at h
  | u :: r, b, o, h, i, v, hi => by
    rw [VsIn] at h
    obtain ⟨⟨x, hx, hc, hv⟩, hr⟩ := h
    cases i with
    | zero =>
      simp at hi
      subst hi
      exact ⟨x, hx, fun j hj => hc j hj, hv⟩
    | succ i =>
      obtain ⟨y, hy, hd, hu⟩ := VsIn.get hr i v (by simpa using hi)
      exact ⟨y, hy, fun j hj => by rw [← hd j hj]; congr 2; omega, hu⟩

mutual
theorem V.ind {p : V → Prop} (h : ∀ v : V, (∀ u ∈ v.l, p u) → p v) : ∀ v : V, p v
  | .mk _ _ _ _ l => h _ (V.inds h l)
theorem V.inds {p : V → Prop} (h : ∀ v : V, (∀ u ∈ v.l, p u) → p v) : ∀ l : List V, ∀ u ∈ l, p u
  | [], u, hu => by cases hu
  | v :: r, u, hu => by
    rcases List.mem_cons.1 hu with e | e
    · rw [e]; exact V.ind h v
    · exact V.inds h r u e
end

/-- A value in its parts. -/
theorem VIn.parts {w : World} {v : V} {x : Array Value} (h : VIn w v x) : (-9223372036854775808 ≤ v.kind ∧ v.kind ≤ 9223372036854775807) ∧ (-9223372036854775808 ≤ v.n ∧ v.n ≤ 9223372036854775807) ∧ v.f < 18446744073709551616 ∧ (∀ c ∈ v.s, c < 256) ∧ v.s.length ≤ 9223372036854775807 ∧
    ∃ a cap, x = cells5 v.kind v.n v.f v.s a v.l.length cap ∧ v.l.length ≤ cap ∧ cap ≤ 9223372036854775807 ∧ (v.l = [] ∨ ∃ b o, a = some ⟨b, o, none⟩ ∧ VsIn w v.l b o) := by
  obtain ⟨k, n, f, s, l⟩ := v
  rw [VIn] at h
  exact h

theorem get_mem {l : List V} {i : Nat} (h : i < l.length) : l[i]? = some l[i] ∧ l[i] ∈ l := ⟨List.getElem?_eq_getElem h, List.getElem_mem h⟩

/-- The box of a value: its cells in new memory. -/
theorem box_cell (w : World) (x : Array Value) (t : TypeId) (j : Nat) : (w.alloc (.cells x t)).cell? ⟨w.heap.size, j, none⟩ = x[j]? := cell_of_row _ _ _ _ _ _ (heap_alloc_new w _)

/-- An element of a list of values, cell by cell. -/
theorem VsIn.elem {w : World} {l : List V} {b o j : Nat} (h : VsIn w l b o) (hj : j < l.length) : ∃ a cap, VIn w l[j] (cells5 l[j].kind l[j].n l[j].f l[j].s a l[j].l.length cap) ∧
    w.cell? ⟨b, o + j * 5, none⟩ = some (.int .i64 l[j].kind) ∧ w.cell? ⟨b, o + j * 5 + 1, none⟩ = some (.int .i64 l[j].n) ∧ w.cell? ⟨b, o + j * 5 + 2, none⟩ = some (.float .f64 l[j].f) ∧
    w.cell? ⟨b, o + j * 5 + 3, none⟩ = some (.string (str l[j].s)) ∧ w.cell? ⟨b, o + j * 5 + 4, none⟩ = some (.slice a l[j].l.length cap) := by
  obtain ⟨x, _, hc, hv⟩ := h.get j _ (get_mem hj).1
  obtain ⟨_, _, _, _, _, a, cap, rfl, _⟩ := hv.parts
  rw [Nat.mul_comm] at hc
  exact ⟨a, cap, hv, hc 0 (by omega), hc 1 (by omega), hc 2 (by omega), hc 3 (by omega), hc 4 (by omega)⟩

/-- Where the list of a value lies. -/
theorem VIn.list {w : World} {v : V} {k n : Int} {f : Nat} {s : List Nat} {a : Option Addr} {len cap : Nat} (h : VIn w v (cells5 k n f s a len cap)) (hn : v.l ≠ []) : ∃ b o, a = some ⟨b, o, none⟩ ∧ VsIn w v.l b o := by
  obtain ⟨_, _, _, _, _, a', cap', e, _, _, hs⟩ := h.parts
  have ea : a = a' := by
    unfold cells5 at e
    simp at e
    exact e.2.2.2.2.1
  subst ea
  exact hs.resolve_left hn
end Go.Proofs.YtpnfnmeilhiebaaGreatDoor

/- The walks of the code's functions on bits and order. -/
namespace Go.Proofs.YtpnfnmeilhiebaaGreatDoor
open Go.RowKit Fl

theorem isnan_is (b : Nat) (w : World) (v : Bool) (hb : b < 18446744073709551616) (hv : decide (I < b % W) = v) :
    Calls Tryz.prog 78 #[.float .f64 b] w fun e w' => e = .returned (.bool v) ∧ w = w' := by
  have e := self_order hb
  rw [hv] at e
  clear hv
  go_enter Tryz.func78, Tryz.ntmps78
  go_wp2
  go_ret
  exact ⟨rfl, rfl⟩

theorem and_high (b : Nat) (h : b < 18446744073709551616) : bits .and .u64 (b : Int) 9223372036854775808 = if W ≤ b then 9223372036854775808 else 0 := by
  have h1 := u64_and_nat b 9223372036854775808 h (by omega)
  have h2 : b &&& 9223372036854775808 = if W ≤ b then 9223372036854775808 else 0 := by
    have h4 : b.testBit 63 = decide (W ≤ b) := by
      rw [Nat.testBit_eq_decide_div_mod_eq, show (2 : Nat) ^ 63 = 9223372036854775808 by decide, decide_eq_decide]
      unfold W
      omega
    rw [show (9223372036854775808 : Nat) = 2 ^ 63 by decide]
    apply Nat.eq_of_testBit_eq
    intro i
    rw [Nat.testBit_and, Nat.testBit_two_pow]
    by_cases hi : i = 63
    · subst hi
      rw [h4]
      by_cases hw : W ≤ b
      · rw [if_pos hw, decide_eq_true hw, Nat.testBit_two_pow]; simp
      · rw [if_neg hw, decide_eq_false hw]; simp
    · rw [decide_eq_false (fun e => hi e.symm)]
      split
      · rw [Nat.testBit_two_pow, decide_eq_false (fun e => hi e.symm)]; simp
      · simp
  rw [h2] at h1
  have h5 : bits .and .u64 (b : Int) 9223372036854775808 = ((if W ≤ b then 9223372036854775808 else 0 : Nat) : Int) := h1
  rw [h5]
  split <;> rfl

theorem or_high (b : Nat) (h : b < W) : bits .or .u64 (b : Int) 9223372036854775808 = ((b + W : Nat) : Int) := by
  have h1 := u64_or_nat b 9223372036854775808 (by unfold W at h; omega) (by omega)
  have h2 := Nat.two_pow_add_eq_or_of_lt (i := 63) (b := b) (by rw [show (2 : Nat) ^ 63 = W by decide]; exact h) 1
  rw [show (2 : Nat) ^ 63 * 1 = 9223372036854775808 by decide, Nat.or_comm] at h2
  rw [← h2] at h1
  have h3 : bits .or .u64 (b : Int) 9223372036854775808 = ((9223372036854775808 + b : Nat) : Int) := h1
  rw [h3, Nat.add_comm]
  rfl

set_option maxRecDepth 100000 in
theorem bits_any (b : Nat) (w : World) (hb : b < 18446744073709551616) :
    Calls Tryz.prog 61 #[.float .f64 b] w fun e w' => e = .returned (.int .u64 (bitsB b : Nat)) ∧ w = w' := by
  have hx := run_bits
  by_cases h : I < b % W
  · have Hv := Lib.hid (isnan_is b w true hb (decide_eq_true h))
    have Hf := Lib.hid (show ((bitsB b : Nat) : Int) = 9221120237041090561 by unfold bitsB; rw [if_pos h]; rfl)
    clear h
    go_enter Tryz.func61, Tryz.ntmps61
    go_wp2_with fail
    refine Hv.out.mono ?_
    rintro e w' ⟨rfl, rfl⟩
    go_wp2
    go_ret
    exact ⟨ret_u64 Hf.out.symm, rfl⟩
  · have Hv := Lib.hid (isnan_is b w false hb (decide_eq_false h))
    have Hf := Lib.hid (show ((bitsB b : Nat) : Int) = (b : Int) by unfold bitsB; rw [if_neg h])
    clear h
    go_enter Tryz.func61, Tryz.ntmps61
    go_wp2_with fail
    refine Hv.out.mono ?_
    rintro e w' ⟨rfl, rfl⟩
    go_wp2
    go_ret
    exact ⟨ret_u64 Hf.out.symm, rfl⟩

theorem ofB_bits {b : Nat} : ofB b = if bitsB b = b then some b else none := by
  unfold ofB bitsB
  by_cases h : I < b % W
  · rw [if_pos h]
    by_cases hq : b = Q
    · rw [if_neg (fun h => h.2 hq), if_pos hq.symm]
    · rw [if_pos ⟨h, hq⟩, if_neg (fun e => hq e.symm)]
  · rw [if_neg h, if_neg (fun h2 => h h2.1), if_pos rfl]

set_option maxRecDepth 100000 in
theorem of_any (b : Nat) (w : World) (hb : b < 18446744073709551616) :
    Calls Tryz.prog 66 #[.int .u64 (b : Int)] w fun e w' => e = .returned (.tuple #[.float .f64 ((ofB b).getD 0), .bool (ofB b).isSome]) ∧ w = w' := by
  have hx := run_frombits b
  have H1 := Lib.hid (bits_any b w hb)
  by_cases h : bitsB b = b
  · have Hf := Lib.hid (show ofB b = some b by rw [ofB_bits, if_pos h])
    have hne : (((bitsB b : Nat) : Int) != (b : Int)) = false := by rw [h]; exact bne_self_eq_false _
    rw [Hf.out]
    clear h hb
    generalize bitsB b = x at *
    go_enter Tryz.func66, Tryz.ntmps66
    go_wp2_with fail
    refine H1.out.mono ?_
    rintro e w' ⟨rfl, rfl⟩
    go_wp2
    go_ret2
    exact ⟨rfl, rfl⟩
  · have Hf := Lib.hid (show ofB b = none by rw [ofB_bits, if_neg h])
    have hne : (((bitsB b : Nat) : Int) != (b : Int)) = true := by rw [bne_iff_ne]; omega
    rw [Hf.out]
    clear h hb
    generalize bitsB b = x at *
    go_enter Tryz.func66, Tryz.ntmps66
    go_wp2_with fail
    refine H1.out.mono ?_
    rintro e w' ⟨rfl, rfl⟩
    go_wp2
    go_ret2
    exact ⟨rfl, rfl⟩

theorem same_any (a b : Nat) (w : World) (ha : a < 18446744073709551616) (hb : b < 18446744073709551616) :
    Calls Tryz.prog 44 #[.float .f64 a, .float .f64 b] w fun e w' => e = .returned (.bool (decide (bitsB a = bitsB b))) ∧ w = w' := by
  have H1 := Lib.hid (bits_any a w ha)
  have H2 := Lib.hid (bits_any b w hb)
  clear ha hb
  generalize bitsB a = x at *
  generalize bitsB b = y at *
  go_enter Tryz.func44, Tryz.ntmps44
  go_wp2_with fail
  refine H1.out.mono ?_
  rintro e w' ⟨rfl, rfl⟩
  go_wp2_with fail
  refine H2.out.mono ?_
  rintro e w' ⟨rfl, rfl⟩
  go_wp2
  go_ret
  refine ⟨ret_bool ?_, rfl⟩
  rw [Bool.eq_iff_iff]
  simp
  omega

end Go.Proofs.YtpnfnmeilhiebaaGreatDoor

/- Which values are valid, as plain functions. -/
namespace Go.Proofs.YtpnfnmeilhiebaaGreatDoor
open Go.RowKit Fl

/-- The fields that a kind does not have are zero. -/
def FieldsOk (v : V) : Prop := (v.kind = 1 ∨ v.n = 0) ∧ (v.kind = 2 ∨ bitsB v.f = 0) ∧ (v.kind = 3 ∨ v.s = []) ∧ (v.kind = 4 ∨ v.l = [])

instance (v : V) : Decidable (v.l = []) := by
  cases h : v.l with
  | nil => exact isTrue rfl
  | cons _ _ => exact isFalse (by simp)

instance (v : V) : Decidable (FieldsOk v) := by
  unfold FieldsOk
  infer_instance

/-- Valid, of a depth of at most t. -/
def rightN : Nat → V → Bool
  | 0, v => decide (FieldsOk v) && decide (v.kind ≠ 4) && decide (0 ≤ v.kind ∧ v.kind ≤ 4)
  | t + 1, v => decide (FieldsOk v) && v.l.all (rightN t) && decide (0 ≤ v.kind ∧ v.kind ≤ 4)

theorem rightN_fields {t : Nat} {v : V} (h : ¬ FieldsOk v) : rightN t v = false := by
  cases t <;> simp [rightN, h]

theorem rightN_kind {t : Nat} {v : V} (h : ¬ (0 ≤ v.kind ∧ v.kind ≤ 4)) : rightN t v = false := by
  cases t <;> (unfold rightN; rw [decide_eq_false h, Bool.and_false])

/-- A value that is no list. -/
theorem rightN_plain {t : Nat} {v : V} (h : FieldsOk v) (h4 : v.kind ≠ 4) (hk : 0 ≤ v.kind ∧ v.kind ≤ 4) : rightN t v = true := by
  have hl : v.l = [] := h.2.2.2.resolve_left h4
  cases t
  · unfold rightN
    rw [decide_eq_true h, decide_eq_true h4, decide_eq_true hk]; rfl
  · unfold rightN
    rw [decide_eq_true h, hl, decide_eq_true hk]; rfl

theorem rightN_list {t : Nat} {v : V} (h : FieldsOk v) (h4 : v.kind = 4) : rightN (t + 1) v = v.l.all (rightN t) := by
  unfold rightN
  rw [decide_eq_true h, decide_eq_true (by omega), Bool.true_and, Bool.and_true]
end Go.Proofs.YtpnfnmeilhiebaaGreatDoor

/- The block of a result that is a value. -/
namespace Go.Proofs.YtpnfnmeilhiebaaGreatDoor
open Go.RowKit Fl

/-- The block of a result: five words, none of them frozen. -/
theorem res_cells {w : World} {g : Nat} {t : TypeId} (h : w.heap[g]? = some (.cells #[.int .i64 0, .int .i64 0, .float .f64 0, .string ⟨#[]⟩, .slice none 0 0] t (0, 0))) :
    (w.cell? ⟨g, 0, none⟩ = some (.int .i64 0) ∧ w.cell? ⟨g, 1, none⟩ = some (.int .i64 0) ∧ w.cell? ⟨g, 2, none⟩ = some (.float .f64 0) ∧ w.cell? ⟨g, 3, none⟩ = some (.string ⟨#[]⟩) ∧ w.cell? ⟨g, 4, none⟩ = some (.slice none 0 0)) ∧
    (w.frozen? ⟨g, 0, none⟩ = false ∧ w.frozen? ⟨g, 1, none⟩ = false ∧ w.frozen? ⟨g, 2, none⟩ = false ∧ w.frozen? ⟨g, 3, none⟩ = false ∧ w.frozen? ⟨g, 4, none⟩ = false) := by
  refine ⟨⟨?_, ?_, ?_, ?_, ?_⟩, ⟨?_, ?_, ?_, ?_, ?_⟩⟩
  · rw [cell_of_row _ _ _ _ _ _ h]; rfl
  · rw [cell_of_row _ _ _ _ _ _ h]; rfl
  · rw [cell_of_row _ _ _ _ _ _ h]; rfl
  · rw [cell_of_row _ _ _ _ _ _ h]; rfl
  · rw [cell_of_row _ _ _ _ _ _ h]; rfl
  · simp [World.frozen?, h]
  · simp [World.frozen?, h]
  · simp [World.frozen?, h]
  · simp [World.frozen?, h]
  · simp [World.frozen?, h]

theorem set5 {w w1 : World} (h : Below w.heap.size w w1) (a b c d e : Value) : Below w.heap.size w (((((w1.setCell ⟨w.heap.size, 0, none⟩ a).setCell ⟨w.heap.size, 1, none⟩ b).setCell ⟨w.heap.size, 2, none⟩ c).setCell ⟨w.heap.size, 3, none⟩ d).setCell ⟨w.heap.size, 4, none⟩ e) :=
  ((((h.setCell (Nat.le_refl _) _).setCell (Nat.le_refl _) _).setCell (Nat.le_refl _) _).setCell (Nat.le_refl _) _).setCell (Nat.le_refl _) _
theorem new5 (w : World) (a b c d e : Value) (t : TypeId) : (w.alloc (.cells #[a, b, c, d, e] t)).cell? ⟨w.heap.size, 0, none⟩ = some a ∧ (w.alloc (.cells #[a, b, c, d, e] t)).cell? ⟨w.heap.size, 1, none⟩ = some b ∧ (w.alloc (.cells #[a, b, c, d, e] t)).cell? ⟨w.heap.size, 2, none⟩ = some c ∧
    (w.alloc (.cells #[a, b, c, d, e] t)).cell? ⟨w.heap.size, 3, none⟩ = some d ∧ (w.alloc (.cells #[a, b, c, d, e] t)).cell? ⟨w.heap.size, 4, none⟩ = some e :=
  ⟨box_cell w _ _ 0, box_cell w _ _ 1, box_cell w _ _ 2, box_cell w _ _ 3, box_cell w _ _ 4⟩
end Go.Proofs.YtpnfnmeilhiebaaGreatDoor

