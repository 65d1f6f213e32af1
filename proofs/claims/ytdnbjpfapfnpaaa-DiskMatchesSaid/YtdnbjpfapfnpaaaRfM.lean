/- The reference's files in memory: a slice of structs of three cells. -/
import Derived.Test.YtdnbjpfapfnpaaaDkOwn
namespace Go.Proofs.Ytdnbjpfapfnpaaa
open Go.RowKit Go.Maps Go.Shelf

/-- A file of the reference: what it is, and where its bytes lie. -/
structure FR where
  f : F
  pa : Option Addr
  k : Nat

def cells3 (x : FR) : List Value := [encStr x.f.n, .slice x.pa x.f.b.length x.k, .int .i64 (x.f.d : Int)]
def flatF (R : List FR) : List Value := R.flatMap cells3
def FR.n (x : FR) : List UInt8 := x.f.n

theorem flatF_append (A B : List FR) : flatF (A ++ B) = flatF A ++ flatF B := List.flatMap_append ..
theorem flatF_cons (x : FR) (R : List FR) : flatF (x :: R) = cells3 x ++ flatF R := List.flatMap_cons ..
theorem flatF_length : ∀ R : List FR, (flatF R).length = R.length * 3
  | [] => rfl
  | x :: R => by rw [flatF_cons, List.length_append, flatF_length R, List.length_cons]; show 3 + _ = _; omega

theorem flatF_get : ∀ (R : List FR) (i : Nat) (hi : i < R.length) (j : Nat), j < 3 → (flatF R)[i * 3 + j]? = (cells3 R[i])[j]?
  | x :: R, 0, _, j, hj => by
    rw [flatF_cons, Nat.zero_mul, Nat.zero_add, List.getElem?_append_left (by show j < 3; exact hj)]
    rfl
  | x :: R, i + 1, hi, j, hj => by
    rw [flatF_cons, List.getElem?_append_right (by show 3 ≤ _; omega)]
    have := flatF_get R i (by simpa using hi) j hj
    rw [show (i + 1) * 3 + j - (cells3 x).length = i * 3 + j by show (i + 1) * 3 + j - 3 = _; omega, this]
    rfl

theorem flatF_one (R : List FR) : ∀ u ∈ flatF R, u.oneCell' = true := by
  intro u hu
  obtain ⟨x, _, hx⟩ := List.mem_flatMap.1 hu
  simp only [cells3, List.mem_cons, List.not_mem_nil, or_false] at hx
  rcases hx with rfl | rfl | rfl <;> rfl

/-- The bytes of a file, in blocks of X. -/
structure FileB (X : Nat → Prop) (w : World) (x : FR) : Prop where
  bytes : Bytes w x.pa x.f.b.length x.k x.f.b
  form : Formed x.pa x.k
  blk : 0 < x.f.b.length → ∀ a, x.pa = some a → X a.block
  dur : x.f.d ≤ x.f.b.length
  name : x.f.n.length ≤ 9223372036854775807

/-- The files R lie at the start of a slice's value. -/
structure RowF (X : Nat → Prop) (w : World) (a : Option Addr) (n c : Nat) (R : List FR) : Prop where
  len : R.length = n
  le : n ≤ c
  max : c ≤ 9223372036854775807
  form : Formed a c
  cell : 0 < n → ∃ b o, a = some ⟨b, o, none⟩ ∧ X b ∧ ∀ j u, (flatF R)[j]? = some u → w.cell? ⟨b, o + j, none⟩ = some u
  files : ∀ x ∈ R, FileB X w x

theorem FileB.mono {X Y : Nat → Prop} {w w' : World} {x : FR} (h : FileB X w x) (hk : ∀ b, X b → w'.heap[b]? = w.heap[b]?) (hXY : ∀ b, X b → Y b) : FileB Y w' x :=
  ⟨by
    rcases Nat.eq_zero_or_pos x.f.b.length with e | hn
    · have hb := h.bytes
      exact ⟨hb.len, hb.le, hb.capmax, hb.byte, hb.nil, fun h => absurd h (by omega)⟩
    · refine h.bytes.keep fun p _ hpa => ?_
      obtain ⟨b, o, e, _⟩ := h.bytes.cell hn
      have e2 := hpa _ e
      exact World.cell?_of_block (hk p.block (by rw [e2]; exact h.blk hn _ e)), h.form, fun hn a ha => hXY _ (h.blk hn a ha), h.dur, h.name⟩

theorem RowF.mono {X Y : Nat → Prop} {w w' : World} {a : Option Addr} {n c : Nat} {R : List FR} (h : RowF X w a n c R) (hk : ∀ b, X b → w'.heap[b]? = w.heap[b]?) (hXY : ∀ b, X b → Y b) : RowF Y w' a n c R := by
  refine ⟨h.len, h.le, h.max, h.form, fun hn => ?_, fun x hx => (h.files x hx).mono hk hXY⟩
  obtain ⟨b, o, e, hX, hc⟩ := h.cell hn
  exact ⟨b, o, e, hXY b hX, fun j u hu => by rw [World.cell?_of_block (hk b hX)]; exact hc j u hu⟩

theorem RowF.below {X : Nat → Prop} {w w' : World} {a : Option Addr} {n c : Nat} {R : List FR} (h : RowF X w a n c R) (hX : ∀ b, X b → b < w.heap.size) (hb : Below w.heap.size w w') : RowF X w' a n c R :=
  h.mono (fun b hx => hb.block b (hX b hx)) (fun _ h => h)

/-- The cells of the i-th file. -/
theorem RowF.at {X : Nat → Prop} {w : World} {b o n c : Nat} {R : List FR} (h : RowF X w (some ⟨b, o, none⟩) n c R) (i : Nat) (hi : i < R.length) :
    w.cell? ⟨b, o + i * 3, none⟩ = some (encStr R[i].f.n) ∧ w.cell? ⟨b, o + i * 3 + 1, none⟩ = some (.slice R[i].pa R[i].f.b.length R[i].k) ∧ w.cell? ⟨b, o + i * 3 + 2, none⟩ = some (.int .i64 (R[i].f.d : Int)) := by
  obtain ⟨b', o', e, _, hc⟩ := h.cell (by rw [← h.len]; omega)
  cases e
  refine ⟨?_, ?_, ?_⟩
  · have := hc (i * 3 + 0) (encStr R[i].f.n) (by rw [flatF_get R i hi 0 (by decide)]; rfl)
    exact this
  · have := hc (i * 3 + 1) (.slice R[i].pa R[i].f.b.length R[i].k) (by rw [flatF_get R i hi 1 (by decide)]; rfl)
    rw [← Nat.add_assoc] at this
    exact this
  · have := hc (i * 3 + 2) (.int .i64 (R[i].f.d : Int)) (by rw [flatF_get R i hi 2 (by decide)]; rfl)
    rw [← Nat.add_assoc] at this
    exact this

theorem rowF_nil (X : Nat → Prop) (w : World) : RowF X w none 0 0 [] := ⟨rfl, Nat.le_refl _, by omega, formed_none 0 rfl, fun h => absurd h (Nat.lt_irrefl _), fun _ h => by cases h⟩

/-- A row of the call's own. -/
theorem rowF_own {X Y : Nat → Prop} {w : World} {base n : Nat} {v : Value} {R : List FR} (h : w.ownsRow base 67 3 v n (flatF R)) (hF : ∀ x ∈ R, FileB X w x) (hXY : ∀ b, X b → Y b) (hY : ∀ b, base ≤ b → b < w.heap.size → Y b) :
    ∃ a c, v = .slice a n c ∧ RowF Y w a n c R := by
  have hlen : R.length = n := by have := h.1; rw [flatF_length] at this; omega
  have hF' : ∀ x ∈ R, FileB Y w x := fun x hx => (hF x hx).mono (fun _ _ => rfl) hXY
  rcases h.2 with ⟨rfl, h0⟩ | ⟨g, cap, cur, rfl, hb, hg, h1, h2, h3, h4⟩
  · have e : R = [] := List.length_eq_zero_iff.1 (by omega)
    subst e
    subst h0
    exact ⟨none, 0, rfl, rowF_nil Y w⟩
  · refine ⟨_, cap, rfl, hlen, h1, by rw [maxLen_nat] at h2; exact h2, formed_at _ _ _, fun hn => ⟨g, 0, rfl, hY g hb (Array.getElem?_eq_some_iff.1 hg).1, fun j u hu => ?_⟩, hF'⟩
    have := h.cells (g := g) rfl j u hu
    rw [addr_add] at this
    exact this
end Go.Proofs.Ytdnbjpfapfnpaaa
