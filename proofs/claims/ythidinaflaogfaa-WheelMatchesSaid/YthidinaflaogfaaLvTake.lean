/- The walks of Take, First and Count. -/
import Derived.Test.YthidinaflaogfaaLvPut
namespace Go.Proofs.Ythidinaflaogfaa
open Go.RowKit

theorem LvAt.frozen {S : Nat → Prop} {w : World} {d k : Nat} {V : List Value} {F : Nat → List It} (h : LvAt S w d k V F) (o : Nat) : w.frozen? ⟨d, o, none⟩ = false := by simp [World.frozen?, h.head]

/-- What Take returns and leaves. -/
def TakeEnd (S : Nat → Prop) (w : World) (d k : Nat) (F : Nat → List It) (s : Nat) (r : Ending) (w' : World) : Prop := ∃ p n c, r = .returned (.slice p n c) ∧ Items w' p n c (F s) ∧ LvStep S w d k (upd F s []) w'

set_option maxRecDepth 100000 in
set_option maxHeartbeats 3200000 in
theorem take_any {S : Nat → Prop} {w : World} {d k : Nat} {V : List Value} {F : Nat → List It} (h : LvAt S w d k V F) (s : Nat) (hs : s < 64) :
    Calls Try.prog 43 #[.pointer (some ⟨d, 0, none⟩), .int .i64 (s : Int)] w (TakeEnd S w d k F s) := by
  have HI := Lib.hid (fun w => isslot_any (s : Int) w)
  rw [(isSlotB_iff (s : Int)).2 ⟨by omega, by omega⟩] at HI
  obtain ⟨v, hv, hc, p, c, hvp, hIt⟩ := h.cell hs
  have hf := h.frozen (1 + s)
  have Hfin := Lib.hid (h.put hv (w1 := w) ⟨rfl, rfl, rfl, Nat.le_refl _, fun _ _ _ => rfl⟩ (v' := .slice none 0 0) (L' := []) (World.ownsRow_nil _ _ _ _) (fun b hb => by cases hb))
  have Hap := Lib.hid (show ∀ u, Items (w.setCell ⟨d, 1 + s, none⟩ u) p (F s).length c (F s) from fun u => ⟨hIt.len, hIt.le, hIt.max, fun hn => by
    obtain ⟨b, o, e, hx⟩ := hIt.cell hn
    refine ⟨b, o, e, fun i x hi => ?_⟩
    have hbd : b ≠ d := ((h.slot s v hv).2 b (by rw [hvp, e]; rfl)).2
    obtain ⟨g1, g2⟩ := hx i x hi
    exact ⟨by rw [World.cell?_setCell_other _ _ _ _ (fun e => hbd (by have := congrArg Addr.block e; exact this.symm))]; exact g1, by rw [World.cell?_setCell_other _ _ _ _ (fun e => hbd (by have := congrArg Addr.block e; exact this.symm))]; exact g2⟩⟩)
  obtain ⟨n, hn⟩ : ∃ n, n = (F s).length := ⟨_, rfl⟩
  rw [← hn] at hvp Hap
  subst hvp
  have hsi : (s : Int) < 64 := by omega
  clear h hv hIt hn
  go_enter Try.func43, Try.ntmps43
  go_wp2_with fail
  refine (HI.out _).mono ?_
  rintro r w2 ⟨rfl, rfl⟩
  go_wp2
  go_ret
  exact ⟨p, n, c, rfl, Hap.out _, Hfin.out⟩

set_option maxRecDepth 100000 in
theorem take_no (d : Nat) (s : Int) (hs : isSlotB s = false) (w : World) :
    Calls Try.prog 43 #[.pointer (some ⟨d, 0, none⟩), .int .i64 s] w fun r w' => r = .returned (.slice none 0 0) ∧ w' = w := by
  have HI := Lib.hid (fun w => isslot_any s w)
  rw [hs] at HI
  clear hs
  go_enter Try.func43, Try.ntmps43
  go_wp2_with fail
  refine (HI.out _).mono ?_
  rintro r w2 ⟨rfl, rfl⟩
  go_wp2
  go_ret
  exact ⟨rfl, rfl⟩

/-- r is the first slot from m on that has items, or -1. -/
def IsFirst (F : Nat → List It) (m : Nat) (r : Int) : Prop := (r = -1 ∧ ∀ t : Nat, m ≤ t → t < 64 → F t = []) ∨ ∃ t : Nat, r = (t : Int) ∧ m ≤ t ∧ t < 64 ∧ F t ≠ [] ∧ ∀ u : Nat, m ≤ u → u < t → F u = []

theorem IsFirst.uniq {F G : Nat → List It} {m : Nat} {r r' : Int} (hFG : ∀ t, t < 64 → (F t = [] ↔ G t = [])) (h : IsFirst F m r) (h' : IsFirst G m r') : r = r' := by
  rcases h with ⟨rfl, h1⟩ | ⟨t, rfl, h1, h2, h3, h4⟩ <;> rcases h' with ⟨rfl, g1⟩ | ⟨u, rfl, g1, g2, g3, g4⟩
  · rfl
  · exact absurd ((hFG u g2).1 (h1 u g1 g2)) g3
  · exact absurd ((hFG t h2).2 (g1 t h1 h2)) h3
  · rcases Nat.lt_trichotomy t u with h | h | h
    · exact absurd ((hFG t h2).2 (g4 t h1 h)) h3
    · rw [h]
    · exact absurd ((hFG u g2).1 (h4 u g1 h)) g3

set_option maxRecDepth 100000 in
set_option maxHeartbeats 3200000 in
theorem first_any {S : Nat → Prop} {w : World} {d k : Nat} {V : List Value} {F : Nat → List It} (h : LvAt S w d k V F) (f : Int) (m : Nat) (hm : max f 0 = (m : Int)) :
    Calls Try.prog 36 #[.pointer (some ⟨d, 0, none⟩), .int .i64 f] w fun r w' => ∃ x, r = .returned (.int .i64 x) ∧ IsFirst F m x ∧ w' = w := by
  have H := Lib.hid h
  clear h
  go_enter Try.func36, Try.ntmps36
  go_wp2
  go_loopw [5] (fun i wr => ∃ j : Nat, m ≤ j ∧ i = .int .i64 (j : Int) ∧ (∀ t, m ≤ t → t < j → t < 64 → F t = []) ∧ wr = w) (fun i _ => 64 - (intOf i).toNat)
  case atStart => exact ⟨m, Nat.le_refl _, rfl, fun t h1 h2 => absurd h1 (by omega), rfl⟩
  case round =>
    obtain ⟨j, hj, rfl, hall, rfl⟩ := hrel
    have Hall := Lib.hid hall
    clear hall
    by_cases hlt : j < 64
    · have hji : (j : Int) < 64 := by omega
      obtain ⟨v, hv, hc, p, c, hvp, hIt⟩ := H.out.cell hlt
      obtain ⟨n, hn⟩ : ∃ n, n = (F j).length := ⟨_, rfl⟩
      rw [← hn] at hvp
      subst hvp
      have Hn := Lib.hid hn
      clear hIt hv hn
      by_cases h0 : 0 < n
      · have hni : (0 : Int) < (n : Int) := by omega
        go_wp2
        go_ret
        exact ⟨_, rfl, .inr ⟨j, rfl, hj, hlt, fun e => by have := Hn.out; rw [e] at this; simp at this; omega, fun u h1 h2 => Hall.out u h1 h2 (by omega)⟩, rfl⟩
      · have hni : ¬ (0 : Int) < (n : Int) := by omega
        have he : F j = [] := List.length_eq_zero_iff.1 (by have := Hn.out; omega)
        have He := Lib.hid he
        clear he
        go_wp2
        go_roundw
        case rel => exact ⟨j + 1, by omega, by go_num, fun t h1 h2 h3 => by
          by_cases e : t = j
          · rw [e]; exact He.out
          · exact Hall.out t h1 (by omega) h3, trivial⟩
        case measure => simp [intOf]; omega
    · have hji : ¬ (j : Int) < 64 := by omega
      go_wp2
      go_ret
      exact ⟨_, rfl, .inl ⟨rfl, fun t h1 h2 => Hall.out t h1 (by omega) h2⟩, rfl⟩

/-- How many items all slots ahead of j have. -/
def cntF (F : Nat → List It) (j : Nat) : Nat := ((List.range j).map fun t => (F t).length).sum

theorem cntF_succ (F : Nat → List It) (j : Nat) : cntF F (j + 1) = cntF F j + (F j).length := by
  unfold cntF
  rw [List.range_succ, List.map_append, List.sum_append]
  simp

end Go.Proofs.Ythidinaflaogfaa
