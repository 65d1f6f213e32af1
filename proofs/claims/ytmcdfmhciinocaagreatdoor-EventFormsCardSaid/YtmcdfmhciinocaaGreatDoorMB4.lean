import Derived.Test.YtmcdfmhciinocaaGreatDoorMB3
import Derived.Test.YtmcdfmhciinocaaGreatDoorMB1
/- The order of numbers by their bits, and how scaling keeps it. -/
namespace Go.Proofs.YtmcdfmhciinocaaGreatDoor
open Go.RowKit Fl

theorem rankB_inj {x y : Nat} (hx : x < 18446744073709551616) (hy : y < 18446744073709551616) (h : rankB x = rankB y) : x = y := by
  unfold rankB W at h
  split at h <;> split at h <;> omega

theorem cmpR_neg (x y : Nat) : cmpR y x = -cmpR x y := by
  unfold cmpR
  split <;> split <;> omega

theorem cmpR_zero {x y : Nat} : cmpR x y = 0 ↔ x = y := by
  unfold cmpR
  split
  · omega
  · split <;> omega

theorem cmpR_le {x y : Nat} : cmpR x y ≤ 0 ↔ x ≤ y := by
  unfold cmpR
  split
  · omega
  · split <;> omega

theorem cmpR_lt {x y : Nat} : cmpR x y < 0 ↔ x < y := by
  unfold cmpR
  split
  · omega
  · split <;> omega

theorem cmpB_neg (a b : Nat) : cmpB b a = -cmpB a b := cmpR_neg _ _

theorem cmpB_zero {a b : Nat} (ha : a < 18446744073709551616) (hb : b < 18446744073709551616) : cmpB a b = 0 ↔ bitsB a = bitsB b := by
  unfold cmpB
  rw [cmpR_zero]
  exact ⟨fun h => rankB_inj (bitsB_lt ha) (bitsB_lt hb) h, fun h => by rw [h]⟩

theorem cmpB_trans {a b c : Nat} (h1 : cmpB a b ≤ 0) (h2 : cmpB b c ≤ 0) : cmpB a c ≤ 0 := by
  unfold cmpB at *
  rw [cmpR_le] at *
  omega

/-- A word: its sign and its rung. -/
theorem read_word {a : Nat} (ha : a < 18446744073709551616) : Ieee.double.read a = datum (decide (W ≤ a)) (a % W) := by
  by_cases h : W ≤ a
  · have e : a = W + a % W := by unfold W at *; omega
    have hr : a % W < W := by unfold W; omega
    rw [decide_eq_true h]
    conv => lhs; rw [e]
    exact read_neg hr
  · have e : a % W = a := Nat.mod_eq_of_lt (by omega)
    rw [decide_eq_false h, e]
    exact read_pos (by omega)

theorem datum_nan {s : Bool} {r : Nat} (h : I < r) : datum s r = .nan s (r - I) := by
  unfold datum
  rw [if_neg (by omega), if_neg (by omega)]

theorem order_none {a b : Nat} (ha : a < 18446744073709551616) (h : I < a % W) : Ieee.double.order a b = none := by
  unfold Ieee.Format.order
  rw [read_word ha, datum_nan h]
  unfold Ieee.Datum.order
  rfl

theorem order_none' {a b : Nat} (hb : b < 18446744073709551616) (h : I < b % W) : Ieee.double.order a b = none := by
  unfold Ieee.Format.order
  rw [read_word hb, datum_nan h]
  generalize Ieee.double.read a = d
  cases d <;> rfl

theorem order_words {a b : Nat} (ha : a < 18446744073709551616) (hb : b < 18446744073709551616) (h : a % W ≤ I) (h' : b % W ≤ I) :
    Ieee.double.order a b = some (compare (sv (decide (W ≤ a)) (a % W)) (sv (decide (W ≤ b)) (b % W))) := by
  unfold Ieee.Format.order
  rw [read_word ha, read_word hb, order_sv _ _ h h']

theorem sv_lt {a b : Nat} (ha : a < 18446744073709551616) (hb : b < 18446744073709551616) (h : sv (decide (W ≤ a)) (a % W) < sv (decide (W ≤ b)) (b % W)) : rankB a < rankB b := by
  have hW : W = 9223372036854775808 := rfl
  by_cases h1 : W ≤ a <;> by_cases h2 : W ≤ b
  · rw [decide_eq_true h1, decide_eq_true h2] at h
    have h3 : val (b % W) < val (a % W) := by
      have h4 : -(val (a % W) : Int) < -(val (b % W) : Int) := h
      omega
    have h5 := val_lt_iff.1 h3
    have ma : a % W = a - W := by unfold W at *; omega
    have mb : b % W = b - W := by unfold W at *; omega
    rw [ma, mb] at h5
    unfold rankB
    rw [if_pos h1, if_pos h2]
    omega
  · unfold rankB
    rw [if_pos h1, if_neg h2]
    omega
  · rw [decide_eq_false h1, decide_eq_true h2] at h
    have h4 : (val (a % W) : Int) < -(val (b % W) : Int) := h
    omega
  · rw [decide_eq_false h1, decide_eq_false h2] at h
    have h3 : val (a % W) < val (b % W) := by
      have h4 : (val (a % W) : Int) < (val (b % W) : Int) := h
      omega
    have h5 := val_lt_iff.1 h3
    rw [Nat.mod_eq_of_lt (by omega), Nat.mod_eq_of_lt (by omega)] at h5
    unfold rankB
    rw [if_neg h1, if_neg h2]
    omega

theorem compare_lt_of {x y : Int} (h : compare x y = .lt) : x < y := by
  rcases Int.lt_trichotomy x y with h1 | h1 | h1
  · exact h1
  · subst h1; rw [cmp_eq] at h; cases h
  · rw [cmp_gt h1] at h; cases h

/-- What is less as a number is less in the order. -/
theorem less_cmp {a b : Nat} (ha : a < 18446744073709551616) (hb : b < 18446744073709551616) (h : Ieee.double.order a b = some .lt) : cmpB a b < 0 := by
  by_cases h1 : I < a % W
  · rw [order_none ha h1] at h; cases h
  by_cases h2 : I < b % W
  · rw [order_none' hb h2] at h; cases h
  rw [order_words ha hb (by omega) (by omega)] at h
  have h3 := sv_lt ha hb (compare_lt_of (Option.some.inj h))
  have e1 : bitsB a = a := if_neg h1
  have e2 : bitsB b = b := if_neg h2
  unfold cmpB
  rw [e1, e2, cmpR_lt]
  exact h3

/-- A number differs from itself just where it is none. -/
theorem self_order {b : Nat} (hb : b < 18446744073709551616) : (FloatKind.f64.format.order b b != some .eq) = decide (I < b % W) := by
  show (Ieee.double.order b b != some .eq) = _
  by_cases h : I < b % W
  · rw [order_none hb h, decide_eq_true h]; rfl
  · rw [order_words hb hb (by omega) (by omega), cmp_eq, decide_eq_false h]; rfl

theorem scaleB_le (n b : Nat) : scaleB n b ≤ 9223372036854775807 := by
  unfold scaleB
  split
  · omega
  · exact scaleR_le _ _

/-- A greater number scales ticks to no fewer ones. -/
theorem scaleB_mono {n x y : Nat} (hy : y < 18446744073709551616) (h : cmpB x y ≤ 0) (hn : ¬ I < y % W) : scaleB n x ≤ scaleB n y := by
  have hW : W = 9223372036854775808 := rfl
  have hI : I = 9218868437227405312 := rfl
  have hQ : Q = 9221120237041090561 := rfl
  unfold cmpB at h
  rw [cmpR_le] at h
  have ey : bitsB y = y := if_neg hn
  by_cases hz : n = 0 ∨ bitsB x = Q ∨ bitsB x = 0 ∨ W ≤ bitsB x
  · have : scaleB n x = 0 := if_pos hz
    rw [this]
    exact Nat.zero_le _
  · have hx : scaleB n x = scaleR n (bitsB x) := if_neg hz
    have c1 : n ≠ 0 := fun h => hz (.inl h)
    have c3 : bitsB x ≠ 0 := fun h => hz (.inr (.inr (.inl h)))
    have c4 : bitsB x < W := Nat.lt_of_not_le fun h => hz (.inr (.inr (.inr h)))
    have r1 : rankB (bitsB x) = bitsB x + W := if_neg (by omega)
    rw [r1, ey] at h
    have hyW : y < W := by
      rcases Nat.lt_or_ge y W with h1 | h1
      · exact h1
      · have r2 : rankB y = 18446744073709551615 - y := if_pos h1
        rw [r2] at h
        omega
    have r2 : rankB y = y + W := if_neg (by omega)
    rw [r2] at h
    have hyI : y ≤ I := by rw [Nat.mod_eq_of_lt hyW] at hn; omega
    have hz' : ¬ (n = 0 ∨ bitsB y = Q ∨ bitsB y = 0 ∨ W ≤ bitsB y) := by
      rw [ey]
      omega
    have hy2 : scaleB n y = scaleR n y := by
      unfold scaleB
      rw [if_neg hz', ey]
    rw [hx, hy2]
    exact scaleR_mono (by omega) hyI

theorem scaleB_one {k : Nat} (h : k < 2 * B) : scaleB k one = k := by
  have e : bitsB one = one := by decide
  by_cases h0 : k = 0
  · have : scaleB k one = 0 := if_pos (.inl h0)
    rw [this, h0]
  · have hz : ¬ (k = 0 ∨ bitsB one = Q ∨ bitsB one = 0 ∨ W ≤ bitsB one) := by
      rw [e]
      have a1 : one ≠ Q := by decide
      have a2 : one ≠ 0 := by decide
      have a3 : ¬ W ≤ one := by decide
      exact fun h => by rcases h with h | h | h | h <;> contradiction
    have : scaleB k one = scaleR k (bitsB one) := if_neg hz
    rw [this, e]
    exact scaleR_one h

theorem addN_comm (a b : Nat) : addN b a = addN a b := by
  unfold addN
  rw [Nat.add_comm]

theorem addN_le (a b : Nat) : addN a b ≤ 9223372036854775807 := by
  unfold addN
  split <;> omega
end Go.Proofs.YtmcdfmhciinocaaGreatDoor

/- Values as trees: what a world holds of them, and how it is kept while only new memory is made. -/
namespace Go.Proofs.YtmcdfmhciinocaaGreatDoor
open Go.RowKit Fl

/-- A value. -/
inductive V where
  | mk (k n : Int) (f : Nat) (s : List Nat) (l : List V)

def V.kind : V → Int | .mk k _ _ _ _ => k
def V.n : V → Int | .mk _ n _ _ _ => n
def V.f : V → Nat | .mk _ _ f _ _ => f
def V.s : V → List Nat | .mk _ _ _ s _ => s
def V.l : V → List V | .mk _ _ _ _ l => l

/-- The five cells of a value. -/
abbrev cells5 (k n : Int) (f : Nat) (s : List Nat) (a : Option Addr) (len cap : Nat) : Array Value := #[.int .i64 k, .int .i64 n, .float .f64 f, .string (str s), .slice a len cap]

mutual
/-- The cells x hold the value v. -/
def VIn (w : World) : V → Array Value → Prop
  | .mk k n f s l, x => (-9223372036854775808 ≤ k ∧ k ≤ 9223372036854775807) ∧ (-9223372036854775808 ≤ n ∧ n ≤ 9223372036854775807) ∧ f < 18446744073709551616 ∧ (∀ c ∈ s, c < 256) ∧ s.length ≤ 9223372036854775807 ∧
    ∃ a cap, x = cells5 k n f s a l.length cap ∧ l.length ≤ cap ∧ cap ≤ 9223372036854775807 ∧ (l = [] ∨ ∃ b o, a = some ⟨b, o, none⟩ ∧ VsIn w l b o)
/-- The values l lie one behind the other. -/
def VsIn (w : World) : List V → Nat → Nat → Prop
  | [], _, _ => True
  | v :: r, b, o => (∃ x : Array Value, x.size = 5 ∧ (∀ j, j < 5 → w.cell? ⟨b, o + j, none⟩ = x[j]?) ∧ VIn w v x) ∧ VsIn w r b (o + 5)
end

theorem VIn.size {w : World} {v : V} {x : Array Value} (h : VIn w v x) : x.size = 5 := by
  obtain ⟨k, n, f, s, l⟩ := v
  rw [VIn] at h
  obtain ⟨_, _, _, _, _, a, cap, rfl, _⟩ := h
  rfl

mutual
theorem VIn.keep {w w' : World} (hw : ∀ p : Addr, p.block < w.heap.size → w'.cell? p = w.cell? p) : ∀ (v : V) (x : Array Value), VIn w v x → VIn w' v x
  | .mk k n f s l, x, h => by
    rw [VIn] at h ⊢
    obtain ⟨h1, h2, h3, h4, h5, a, cap, h6, h7, h8, h9⟩ := h
    refine ⟨h1, h2, h3, h4, h5, a, cap, h6, h7, h8, ?_⟩
    rcases h9 with h9 | ⟨b, o, ha, hv⟩
    · exact .inl h9
    · exact .inr ⟨b, o, ha, VsIn.keep hw l b o hv⟩
theorem VsIn.keep {w w' : World} (hw : ∀ p : Addr, p.block < w.heap.size → w'.cell? p = w.cell? p) : ∀ (l : List V) (b o : Nat), VsIn w l b o → VsIn w' l b o
  | [], _, _, _ => by rw [VsIn]; trivial
  | v :: r, b, o, h => by
    rw [VsIn] at h ⊢
    obtain ⟨⟨x, hx, hc, hv⟩, hr⟩ := h
    refine ⟨⟨x, hx, fun j hj => ?_, VIn.keep hw v x hv⟩, VsIn.keep hw r b (o + 5) hr⟩
    have h1 := hc j hj
    rw [hw _ (World.block_lt_of_cell? _ _ (h1.trans (Array.getElem?_eq_getElem (by omega))))]
    exact h1
end

theorem VIn.below {w w' : World} {v : V} {x : Array Value} (h : VIn w v x) (hb : Below w.heap.size w w') : VIn w' v x := VIn.keep (fun _ hp => hb.cell hp) v x h

/-- An element of a list of values. -/
theorem VsIn.get {w : World} : ∀ {l : List V} {b o : Nat}, VsIn w l b o → ∀ (i : Nat) (v : V), l[i]? = some v → ∃ x : Array Value, x.size = 5 ∧ (∀ j, j < 5 → w.cell? ⟨b, o + 5 * i + j, none⟩ = x[j]?) ∧ VIn w v x
  | [], _, _, _, i, v, h => by simp at h
  | u :: r, b, o, h, i, v, hi => by
    rw [VsIn] at h
    obtain ⟨⟨x, hx, hc, hv⟩, hr⟩ := h
    cases i with
    | zero =>
      simp at hi
      subst hi
      exact ⟨x, hx, fun j hj => hc j hj, hv⟩
    | succ i =>
      obtain ⟨y, hy, hd, hu⟩ := VsIn.get hr i v (by simpa using hi)
      exact ⟨y, hy, fun j hj => by rw [← hd j hj]; congr 2; omega, hu⟩

mutual
theorem V.ind {p : V → Prop} (h : ∀ v : V, (∀ u ∈ v.l, p u) → p v) : ∀ v : V, p v
  | .mk _ _ _ _ l => h _ (V.inds h l)
theorem V.inds {p : V → Prop} (h : ∀ v : V, (∀ u ∈ v.l, p u) → p v) : ∀ l : List V, ∀ u ∈ l, p u
  | [], u, hu => by cases hu
  | v :: r, u, hu => by
    rcases List.mem_cons.1 hu with e | e
    · rw [e]; exact V.ind h v
    · exact V.inds h r u e
end

/-- A value in its parts. -/
theorem VIn.parts {w : World} {v : V} {x : Array Value} (h : VIn w v x) : (-9223372036854775808 ≤ v.kind ∧ v.kind ≤ 9223372036854775807) ∧ (-9223372036854775808 ≤ v.n ∧ v.n ≤ 9223372036854775807) ∧ v.f < 18446744073709551616 ∧ (∀ c ∈ v.s, c < 256) ∧ v.s.length ≤ 9223372036854775807 ∧
    ∃ a cap, x = cells5 v.kind v.n v.f v.s a v.l.length cap ∧ v.l.length ≤ cap ∧ cap ≤ 9223372036854775807 ∧ (v.l = [] ∨ ∃ b o, a = some ⟨b, o, none⟩ ∧ VsIn w v.l b o) := by
  obtain ⟨k, n, f, s, l⟩ := v
  rw [VIn] at h
  exact h

theorem get_mem {l : List V} {i : Nat} (h : i < l.length) : l[i]? = some l[i] ∧ l[i] ∈ l := ⟨List.getElem?_eq_getElem h, List.getElem_mem h⟩

/-- The box of a value: its cells in new memory. -/
theorem box_cell (w : World) (x : Array Value) (t : TypeId) (j : Nat) : (w.alloc (.cells x t)).cell? ⟨w.heap.size, j, none⟩ = x[j]? := cell_of_row _ _ _ _ _ _ (heap_alloc_new w _)

/-- An element of a list of values, cell by cell. -/
theorem VsIn.elem {w : World} {l : List V} {b o j : Nat} (h : VsIn w l b o) (hj : j < l.length) : ∃ a cap, VIn w l[j] (cells5 l[j].kind l[j].n l[j].f l[j].s a l[j].l.length cap) ∧
    w.cell? ⟨b, o + j * 5, none⟩ = some (.int .i64 l[j].kind) ∧ w.cell? ⟨b, o + j * 5 + 1, none⟩ = some (.int .i64 l[j].n) ∧ w.cell? ⟨b, o + j * 5 + 2, none⟩ = some (.float .f64 l[j].f) ∧
    w.cell? ⟨b, o + j * 5 + 3, none⟩ = some (.string (str l[j].s)) ∧ w.cell? ⟨b, o + j * 5 + 4, none⟩ = some (.slice a l[j].l.length cap) := by
  obtain ⟨x, _, hc, hv⟩ := h.get j _ (get_mem hj).1
  obtain ⟨_, _, _, _, _, a, cap, rfl, _⟩ := hv.parts
  rw [Nat.mul_comm] at hc
  exact ⟨a, cap, hv, hc 0 (by omega), hc 1 (by omega), hc 2 (by omega), hc 3 (by omega), hc 4 (by omega)⟩

/-- Where the list of a value lies. -/
theorem VIn.list {w : World} {v : V} {k n : Int} {f : Nat} {s : List Nat} {a : Option Addr} {len cap : Nat} (h : VIn w v (cells5 k n f s a len cap)) (hn : v.l ≠ []) : ∃ b o, a = some ⟨b, o, none⟩ ∧ VsIn w v.l b o := by
  obtain ⟨_, _, _, _, _, a', cap', e, _, _, hs⟩ := h.parts
  have ea : a = a' := by
    unfold cells5 at e
    simp at e
    exact e.2.2.2.2.1
  subst ea
  exact hs.resolve_left hn
end Go.Proofs.YtmcdfmhciinocaaGreatDoor

