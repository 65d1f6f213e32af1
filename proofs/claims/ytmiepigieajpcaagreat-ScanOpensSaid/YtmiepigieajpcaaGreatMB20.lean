import Derived.Test.YtmiepigieajpcaaGreatMB19
import Derived.Test.YtmiepigieajpcaaGreatMB17
import Derived.Test.YtmiepigieajpcaaGreatMB1
/- The walk of the reference's Cat: it returns the bytes of all parts, in order, in memory of its own. -/
namespace Go.Proofs.YtmiepigieajpcaaGreat
open Go.RowKit Crc

theorem flat_len {ls : List (List Nat)} {k : Nat} : (ls.take k).flatten.length ≤ ls.flatten.length := by
  conv => rhs; rw [← List.take_append_drop k ls, List.flatten_append, List.length_append]
  omega

theorem bytes_get_all {w : World} {a : Option Addr} {n cap : Nat} {ls : List (List Nat)} (h : Parts w a n cap ls) {k : Nat} (hk : k < n) : ∃ b o a' n' c', a = some ⟨b, o, none⟩ ∧ w.cell? ⟨b, o + k, none⟩ = some (.slice a' n' c') ∧ Bytes w a' n' c' (ls.getD k []) := by
  obtain ⟨b, o, e, _, hc⟩ := h.cell (by omega)
  obtain ⟨a', n', c', g1, g2⟩ := hc k hk
  exact ⟨b, o, a', n', c', e, g1, g2⟩

def CatRel (w : World) (ls : List (List Nat)) (v i : Value) (wr : World) : Prop :=
  ∃ k : Nat, k ≤ ls.length ∧ i = .int .i64 k ∧ wr.ownsRow w.heap.size 5 1 v (ls.take k).flatten.length (u8s (ls.take k).flatten) ∧ Below w.heap.size w wr

theorem catRel_step {w wr w1 : World} {ls : List (List Nat)} {v v' : Value} {k n' : Nat} {l : List Nat} (hk : k < ls.length) (hl : ls.getD k [] = l) (hn : l.length = n')
    (hown : wr.ownsRow w.heap.size 5 1 v (ls.take k).flatten.length (u8s (ls.take k).flatten)) (hbel : Below w.heap.size w wr)
    (g1 : w1.ownsRow w.heap.size 5 1 v' ((ls.take k).flatten.length + n') (u8s ((ls.take k).flatten ++ l))) (g2 : wr.grownBy w1 v.ownBlock) : CatRel w ls v' (.int .i64 ((k : Int) + 1)) w1 := by
  subst hl
  subst hn
  refine ⟨k + 1, hk, by go_num, ?_, hbel.grown g2 hbel.size (fun x hx => (hown.lt x hx).1)⟩
  rw [flat_take hk, List.length_append]
  exact g1

def CatEnd (w : World) (ls : List (List Nat)) (e : Ending) (w' : World) : Prop :=
  ∃ v, e = .returned v ∧ w'.ownsRow w.heap.size 5 1 v ls.flatten.length (u8s ls.flatten) ∧ Below w.heap.size w w'

end Go.Proofs.YtmiepigieajpcaaGreat

/- A row of bytes of the call's own, that is written byte by byte. -/
namespace Go.Proofs.YtmiepigieajpcaaGreat
open Go.RowKit

/-- A row of bytes, whatever they are. -/
def U8Row (w : World) (g N : Nat) : Prop := ∃ cur : Array Value, w.heap[g]? = some (.cells cur 5 (0, 0)) ∧ ∀ i, i < N → ∃ z : Int, cur[i]? = some (.int .u8 z)

theorem U8Row.cell {w : World} {g N i : Nat} (h : U8Row w g N) (hi : i < N) : ∃ z : Int, w.cell? ⟨g, i, none⟩ = some (.int .u8 z) := by
  obtain ⟨cur, hg, hc⟩ := h
  obtain ⟨z, hz⟩ := hc i hi
  exact ⟨z, by rw [cell_of_row w g i cur _ _ hg, hz]⟩

theorem U8Row.frozen {w : World} {g N : Nat} (h : U8Row w g N) (i : Nat) : w.frozen? ⟨g, i, none⟩ = false := by
  obtain ⟨cur, hg, _⟩ := h
  simp [World.frozen?, hg]

theorem U8Row.set {w : World} {g N : Nat} (h : U8Row w g N) (i : Nat) (z : Int) : U8Row (w.setCell ⟨g, i, none⟩ (.int .u8 z)) g N := by
  obtain ⟨cur, hg, hc⟩ := h
  refine ⟨cur.setIfInBounds i (.int .u8 z), ?_, fun j hj => ?_⟩
  · simp [World.setCell, Array.getElem?_modify, hg]
  · obtain ⟨z', hz'⟩ := hc j hj
    rw [Array.getElem?_setIfInBounds]
    by_cases e : i = j
    · subst e
      have hlt : i < cur.size := (Array.getElem?_eq_some_iff.1 hz').1
      exact ⟨z, by simp [hlt]⟩
    · exact ⟨z', by rw [if_neg e]; exact hz'⟩

theorem U8Row.below {w w' : World} {g N : Nat} (h : U8Row w g N) (hb : Below w.heap.size w w') : U8Row w' g N := by
  obtain ⟨cur, hg, hc⟩ := h
  exact ⟨cur, (hb.block g (Array.getElem?_eq_some_iff.1 hg).1).trans hg, hc⟩

theorem own_row {w : World} {base : Nat} {v : Value} {m : Nat} {l : List Nat} (h : w.ownsRow base 5 1 v m (u8s l)) (hm : 0 < m) : ∃ g cp, v = .slice (some ⟨g, 0, none⟩) m cp ∧ base ≤ g ∧ m ≤ cp ∧ U8Row w g m := by
  have hlen : l.length = m := by have := h.1; simpa [u8s] using this
  rcases h.2 with ⟨_, h0⟩ | ⟨g, cap', cur, rfl, hbg, hg, hle, _, hsz, htake⟩
  · omega
  · refine ⟨g, cap', rfl, hbg, hle, cur, hg, fun i hi => ?_⟩
    have e1 : (u8s l)[i]? = some (.int .u8 (l.getD i 0 : Nat)) := by
      unfold u8s
      rw [List.getElem?_map, List.getElem?_eq_getElem (by omega), List.getD_eq_getElem?_getD, List.getElem?_eq_getElem (by omega)]; rfl
    rw [← htake, List.getElem?_take, if_pos (by omega)] at e1
    exact ⟨_, by simpa using e1⟩

/-- A byte slice of the call's own: where its row lies. -/
theorem own_place {w : World} {base : Nat} {v : Value} {m : Nat} {l : List Nat} (h : w.ownsRow base 5 1 v m (u8s l)) (hs : base < w.heap.size) :
    ∃ go p cp, v = .slice p m cp ∧ base ≤ go ∧ go < w.heap.size ∧ (0 < m → p = some ⟨go, 0, none⟩ ∧ U8Row w go m) := by
  rcases Nat.eq_zero_or_pos m with rfl | hm
  · rcases h.2 with ⟨rfl, _⟩ | ⟨g, cap', cur, rfl, hbg, hg, _⟩
    · exact ⟨base, none, 0, rfl, Nat.le_refl _, hs, fun h => absurd h (Nat.lt_irrefl _)⟩
    · exact ⟨g, _, _, rfl, hbg, (Array.getElem?_eq_some_iff.1 hg).1, fun h => absurd h (Nat.lt_irrefl _)⟩
  · obtain ⟨g, cp, rfl, hbg, _, hrow⟩ := own_row h hm
    obtain ⟨cur, hg, hc⟩ := hrow
    exact ⟨g, _, cp, rfl, hbg, (Array.getElem?_eq_some_iff.1 hg).1, fun _ => ⟨rfl, cur, hg, hc⟩⟩

/-- What one row's turn leaves of another. -/
theorem own_keep {w w' : World} {base go n : Nat} {e : TypeId} {v : Value} {xs : List Value} (h : w.ownsRow base e 1 v n xs) (hg : w.grownBy w' (some go)) (hlt : go < base) : w'.ownsRow base e 1 v n xs := by
  refine ⟨h.1, ?_⟩
  rcases h.2 with hn | ⟨g, cap, cur, rfl, hbg, hgc, rest⟩
  · exact .inl hn
  · exact .inr ⟨g, cap, cur, rfl, hbg, (hg.block g (Array.getElem?_eq_some_iff.1 hgc).1 (fun e => by cases e; omega)).trans hgc, rest⟩
end Go.Proofs.YtmiepigieajpcaaGreat

/- The walk of the statement SumSeals: it returns true whatever the bytes are. -/
namespace Go.Proofs.YtmiepigieajpcaaGreat
open Go.RowKit Crc

theorem sealL_inj {a b : List Nat} (h : sealL a = sealL b) : a = b := by
  have hl : a.length = b.length := by
    have := congrArg List.length h
    rw [sealL_len, sealL_len] at this
    omega
  have h1 : (sealL a).take a.length = a := List.take_left
  have h2 : (sealL b).take b.length = b := List.take_left
  rw [← h1, ← h2, h, hl]

theorem equal_yes (a a' : Option Addr) (n cap n' cap' : Nat) (l : List Nat) (w : World) (hl : Bytes w a n cap l) (hl' : Bytes w a' n' cap' l) :
    Calls Tryz.prog 64 #[.slice a n cap, .slice a' n' cap'] w fun e w' => e = .returned (.bool true) ∧ Below w.heap.size w w' := by
  refine (equal_any a a' n cap n' cap' l l w hl hl').mono ?_
  rintro e w' ⟨rfl, hb⟩
  exact ⟨ret_bool (decide_eq_true rfl), hb⟩

theorem open_sealed (a : Option Addr) (n cap : Nat) (l : List Nat) (w : World) (hl : Bytes w a n cap (sealL l)) (hm : n ≤ 100000000000000) :
    Calls Tryz.prog 214 #[.slice a n cap] w fun e w' => ∃ p n' cp, e = .returned (.tuple #[.slice p n' cp, .bool true]) ∧ Bytes w' p n' cp l ∧ Below w.heap.size w w' := by
  refine (open_any a n cap _ w hl hm).mono ?_
  rintro e w' ⟨hb, ⟨x, hx, p, n', cp, rfl, hB⟩ | ⟨hno, _⟩⟩
  · rw [sealL_inj hx] at hB
    exact ⟨p, n', cp, rfl, hB, hb⟩
  · exact absurd rfl (hno l)

/-- Open and the reference's Open answer alike. -/
def TwoOpens (w : World) (l : List Nat) (e : Ending) (w' : World) (y : Option Addr × Nat × Nat) (is : Bool) (k : List Nat) : Prop :=
  e = .returned (.tuple #[.slice y.1 y.2.1 y.2.2, .bool is]) ∧ Below w.heap.size w w' ∧ Bytes w' y.1 y.2.1 y.2.2 k ∧ ((is = true ∧ sealL k = l) ∨ (is = false ∧ k = [] ∧ ∀ b, sealL b ≠ l))

theorem two_of_open {w w' : World} {l : List Nat} {e : Ending} (h : OpenEnd w l e w') : ∃ y is k, TwoOpens w l e w' y is k := by
  obtain ⟨hb, ⟨x, hx, p, n', cp, rfl, hB⟩ | ⟨hno, rfl⟩⟩ := h
  · exact ⟨(p, n', cp), true, x, rfl, hb, hB, .inl ⟨rfl, hx⟩⟩
  · exact ⟨(none, 0, 0), false, [], rfl, hb, bytes_nil w', .inr ⟨rfl, rfl, hno⟩⟩

theorem two_same {l k k' : List Nat} {is is' : Bool} (h : (is = true ∧ sealL k = l) ∨ (is = false ∧ k = [] ∧ ∀ b, sealL b ≠ l)) (h' : (is' = true ∧ sealL k' = l) ∨ (is' = false ∧ k' = [] ∧ ∀ b, sealL b ≠ l)) : is = is' ∧ k = k' := by
  rcases h with ⟨rfl, h⟩ | ⟨rfl, rfl, h⟩ <;> rcases h' with ⟨rfl, h'⟩ | ⟨rfl, rfl, h'⟩
  · exact ⟨rfl, sealL_inj (h.trans h'.symm)⟩
  · exact absurd h (h' k)
  · exact absurd h' (h k')
  · exact ⟨rfl, rfl⟩

def IncRel (w2 : World) (g N : Nat) (i : Value) (wr : World) : Prop := ∃ k : Nat, k ≤ N ∧ i = .int .i64 k ∧ U8Row wr g N ∧ Below w2.heap.size w2 wr

end Go.Proofs.YtmiepigieajpcaaGreat

