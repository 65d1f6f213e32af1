/- Slices of ints as lists of integers: rows of the call's own, and appending to them; slices of strings that came in. -/
import Derived.Test.YtdflfimclgapnaaSgLM
import Derived.Test.YtdflfimclgapnaaAppend
import Derived.Test.YtdflfimclgapnaaLift
import Derived.SliceStrings
import Derived.WalkMore
namespace Go.Proofs.Ytdflfimclgapnaa
open Go.ChangeShapes Go.WideShapes Go.ChangeAt Go.RowKit Go.Deep

def intsE (l : List Int) : List Value := l.map (Value.int .i64)

theorem intsE_get {l : List Int} {i : Nat} {u : Value} (h : (intsE l)[i]? = some u) : i < l.length ∧ u = .int .i64 (l.getD i 0) := by
  unfold intsE at h
  rw [List.getElem?_map] at h
  obtain ⟨x, hx, rfl⟩ := Option.map_eq_some_iff.1 h
  obtain ⟨hi, rfl⟩ := List.getElem?_eq_some_iff.1 hx
  exact ⟨hi, by rw [List.getD_eq_getElem?_getD, hx]; rfl⟩

theorem intsE_one (l : List Int) : ∀ u ∈ intsE l, u.oneCell' = true := by
  intro u hu
  obtain ⟨x, _, rfl⟩ := List.mem_map.1 hu
  rfl

theorem intsE_append (a b : List Int) : intsE (a ++ b) = intsE a ++ intsE b := List.map_append

/-- The ints l lie at the start of a slice's value. -/
structure Ints (w : World) (a : Option Addr) (n cap : Nat) (l : List Int) : Prop where
  len : l.length = n
  le : n ≤ cap
  capmax : cap ≤ 9223372036854775807
  nil : a = none → cap = 0
  cell : 0 < n → ∃ b o, a = some ⟨b, o, none⟩ ∧ ∀ i, i < n → w.cell? ⟨b, o + i, none⟩ = some (.int .i64 (l.getD i 0))

theorem Ints.grow {w w' : World} {a : Option Addr} {n cap : Nat} {l : List Int} (h : Ints w a n cap l) (hw : Below w.heap.size w w') : Ints w' a n cap l := by
  obtain ⟨h1, h2, h3, h4, h6⟩ := h
  refine ⟨h1, h2, h3, h4, fun hn => ?_⟩
  obtain ⟨b, o, rfl, hc⟩ := h6 hn
  exact ⟨b, o, rfl, fun i hi => by rw [hw.cell (p := ⟨b, o + i, none⟩) (World.block_lt_of_cell? _ _ (hc i hi))]; exact hc i hi⟩

theorem ints_of_own {w : World} {base : Nat} {e : TypeId} {a : Option Addr} {n cap m : Nat} {l : List Int} (h : w.ownsRow base e 1 (.slice a n cap) m (intsE l)) : Ints w a n cap l := by
  have hlen : l.length = m := by have := h.1; simpa [intsE] using this
  rcases h.2 with ⟨hv, rfl⟩ | ⟨g, cap', cur, hv, _, hg, hle, hcm, hsz, htake⟩
  · cases hv
    exact ⟨hlen, Nat.le_refl _, Nat.zero_le _, fun _ => rfl, fun h => absurd h (Nat.lt_irrefl _)⟩
  · cases hv
    refine ⟨hlen, hle, hcm, fun h => (by cases h), fun _ => ⟨g, 0, rfl, fun i hi => ?_⟩⟩
    rw [Nat.zero_add, cell_of_row w g i cur e (0, 0) hg]
    have e1 : (intsE l)[i]? = some (.int .i64 (l.getD i 0)) := by
      unfold intsE
      rw [List.getElem?_map, List.getElem?_eq_getElem (by omega), List.getD_eq_getElem?_getD, List.getElem?_eq_getElem (by omega)]; rfl
    rw [← htake, List.getElem?_take, if_pos (by omega)] at e1
    simpa using e1

theorem own_ints {w : World} {base : Nat} {e : TypeId} {v : Value} {m : Nat} {l : List Int} (h : w.ownsRow base e 1 v m (intsE l)) :
    ∃ p cp, v = .slice p m cp ∧ Ints w p m cp l := by
  have h0 := h
  rcases h.2 with ⟨rfl, rfl⟩ | ⟨g, cap', cur, rfl, _⟩
  · exact ⟨none, 0, rfl, ints_of_own h0⟩
  · exact ⟨_, _, rfl, ints_of_own h0⟩

theorem info_int : (Try.prog.info? 3).map (fun i => (i.zero, i.size, i.bytes)) = some (some (.int .i64 0), 1, 8) := by kernel_rfl

section
variable {P : Program} (w : World)

/-- 'append(out, p...)': out the call's own ints, p any slice of ints. -/
theorem wpList_append_ints {ops : Array Oper} {rest : List Oper} {o : Oper} {a : Act} {Q : Exit → Act → World → Prop} (hgd : o.guard = none) (s x : Operand) (t : TypeId)
    (ho : o.op = .call { callee := .builtin .append, args := #[s, x], argTypes := #[t, t] })
    (base : Nat) (e : TypeId) (ht : P.underlying t = some (.slice e)) (hinfo : (P.info? e).map (fun i => (i.zero, i.size, i.bytes)) = some (some (.int .i64 0), 1, 8))
    (v : Value) (n : Nat) (l : List Int) (hs : a.eval s = v) (hown : w.ownsRow base e 1 v n (intsE l))
    (p : Option Addr) (m c : Nat) (l' : List Int) (hx : a.eval x = .slice p m c) (hB : Ints w p m c l')
    (hbytes : (n + m) * 8 ≤ 140737488355328) (hbase : base ≤ w.heap.size)
    (h : ∀ v' w', w'.ownsRow base e 1 v' (n + m) (intsE (l ++ l')) → w.grownBy w' v.ownBlock → wpList P ops Q rest (a.put o.dst v') w') : wpList P ops Q (o :: rest) a w := by
  obtain ⟨i, hi, hz, hsz, hby⟩ := info_parts hinfo
  cases p with
  | none =>
    obtain rfl : c = 0 := hB.nil rfl
    obtain rfl : m = 0 := by have := hB.le; omega
    obtain rfl : l' = [] := List.length_eq_zero_iff.1 hB.len
    refine wpList_append_own_none hgd s x t ho base e i 1 ht hi v n (intsE l) hs hown hx ?_
    have := h v w (by simpa using hown) ⟨rfl, rfl, rfl, Nat.le_refl _, fun _ _ _ => rfl⟩
    exact this
  | some ad =>
    refine wpList_append_own w hgd s x t ho base e i (.int .i64 0) 1 8 ht hi hz hsz hby rfl (by omega) v n (intsE l) hs hown ad m c (intsE l') hx (by simp [intsE, hB.len]) ?_ (intsE_one l') (by rw [maxLen_nat]; omega) (by omega) hbase ?_
    · intro j u hu
      obtain ⟨hj, rfl⟩ := intsE_get hu
      have hj' : j < m := by rw [← hB.len]; exact hj
      obtain ⟨b, o', e1, hc⟩ := hB.cell (by omega)
      cases e1
      have hadd : (⟨b, o', none⟩ : Addr).add j = ⟨b, o' + j, none⟩ := by unfold Addr.add; split <;> simp_all
      rw [hadd]
      exact hc j hj'
    · intro v' w' g1 g2 _
      rw [← intsE_append] at g1
      exact h v' w' g1 g2
end

theorem int_row (w : World) (x : Int) : Ints (w.alloc (.cells #[.int .i64 x] 3)) (some ⟨w.heap.size, 0, none⟩) 1 1 [x] :=
  ⟨rfl, Nat.le_refl _, by omega, fun h => (by cases h), fun _ => ⟨w.heap.size, 0, rfl, fun i hi => by
    obtain rfl : i = 0 := by omega
    rw [Nat.zero_add, cell_of_row _ _ _ _ _ (0, 0) (heap_alloc_new _ _)]; rfl⟩⟩

/-- The strings ls lie at the start of a slice's value. -/
structure Strs (w : World) (a : Option Addr) (n cap : Nat) (ls : List (List Nat)) : Prop where
  len : ls.length = n
  le : n ≤ cap
  capmax : cap ≤ 9223372036854775807
  byte : ∀ l ∈ ls, (∀ x ∈ l, x < 256) ∧ l.length ≤ 9223372036854775807
  cell : 0 < n → ∃ b o, a = some ⟨b, o, none⟩ ∧ ∀ i, i < n → w.cell? ⟨b, o + i, none⟩ = some (.string (str (ls.getD i [])))

theorem Strs.grow {w w' : World} {a : Option Addr} {n cap : Nat} {l : List (List Nat)} (h : Strs w a n cap l) (hw : Below w.heap.size w w') : Strs w' a n cap l := by
  obtain ⟨h1, h2, h3, h4, h6⟩ := h
  refine ⟨h1, h2, h3, h4, fun hn => ?_⟩
  obtain ⟨b, o, rfl, hc⟩ := h6 hn
  exact ⟨b, o, rfl, fun i hi => by rw [hw.cell (p := ⟨b, o + i, none⟩) (World.block_lt_of_cell? _ _ (hc i hi))]; exact hc i hi⟩

/-- A string's bytes. -/
def bytesOf (s : ByteArray) : List Nat := s.data.toList.map UInt8.toNat

theorem bytesOf_str (s : ByteArray) : str (bytesOf s) = s := by
  apply ByteArray.ext
  unfold str bytesOf
  rw [List.map_map]
  have e : (UInt8.ofNat ∘ UInt8.toNat) = id := by funext u; simp
  rw [e, List.map_id]

theorem bytesOf_byte (s : ByteArray) : ∀ x ∈ bytesOf s, x < 256 := by
  intro x hx
  obtain ⟨u, _, rfl⟩ := List.mem_map.1 hx
  exact u.toNat_lt

section
variable {H : Type} {enc : TypeId × Value → H} {P : Program}

/-- A slice of strings that came in. -/
theorem open_strs {W : World} {t e : TypeId} {v : Value} {d : DataW H} {p : List MemPlace} (ht : P.underlying t = some (.slice e)) (he : P.underlying e = some .string) (ce : P.cellsOf e = 1)
    {base : Nat} (hv : Value.okWide P W .any base t v) (h : DataW.Trod enc P W 0 (fun _ => true) true t v d p) : ∃ a n cap l, v = .slice a n cap ∧ Strs W a n cap l := by
  obtain ⟨a0, len, cap, rfl⟩ := okWide_slice ht hv
  obtain ⟨fuel, hf⟩ := h
  rcases open_strings ht he ce hf with ⟨hcs, _⟩ | ⟨a, len', cap', ss, hcs, _, hl, hm, hz, _, hcell, hw⟩
  · simp [Value.cells] at hcs
    obtain ⟨rfl, rfl, rfl⟩ := hcs
    exact ⟨none, 0, 0, [], rfl, rfl, Nat.le_refl _, by omega, by simp, fun h => absurd h (Nat.lt_irrefl _)⟩
  · simp [Value.cells] at hcs
    obtain ⟨rfl, rfl, rfl⟩ := hcs
    simp only [if_true] at hz
    rw [maxLen_nat] at hm
    refine ⟨some a, len, cap, (ss.take len).map bytesOf, rfl, by simp; omega, hl, hm, ?_, fun hn => ?_⟩
    · intro l hlm
      obtain ⟨s, hs, rfl⟩ := List.mem_map.1 hlm
      refine ⟨bytesOf_byte s, ?_⟩
      have h1 := hw s (List.mem_of_mem_take hs)
      rw [maxLen_nat] at h1
      unfold bytesOf
      rw [List.length_map, Array.length_toList]
      exact h1
    · obtain ⟨b, o, spot⟩ := a
      have hspot : spot = none := by simpa [Addr.add] using World.cell?_spot (hcell 0 (by omega))
      subst hspot
      refine ⟨b, o, rfl, fun i hi => ?_⟩
      have hc := hcell i (by omega)
      rw [add_plain] at hc
      have hi' : i < ss.length := by omega
      rw [hc, List.getD_eq_getElem?_getD, List.getD_eq_getElem?_getD, List.getElem?_map, List.getElem?_take, if_pos hi, List.getElem?_eq_getElem hi']
      show some (Value.string ss[i]) = some (.string (str (bytesOf ss[i])))
      rw [bytesOf_str]
end
end Go.Proofs.Ytdflfimclgapnaa
