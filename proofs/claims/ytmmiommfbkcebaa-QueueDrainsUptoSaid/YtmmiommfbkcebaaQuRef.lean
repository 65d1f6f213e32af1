/- The reference's queue: Place, Push, New, Pop. -/
import Derived.Test.YtmmiommfbkcebaaQuInts
namespace Go.Proofs.Ytmmiommfbkcebaa
open Go.RowKit

/-- The place of x in l. -/
def posQ (l : List Int) (x : Int) : Int := if x ∈ l then (l.idxOf x : Int) else -1
/-- What Push leaves. -/
def pushQ (l : List Int) (x : Int) : List Int := if x ∈ l then l else l ++ [x]
/-- What New makes. -/
def newQ (l : List Int) : List Int := l.foldl pushQ []

theorem posQ_at {l : List Int} {x : Int} {j : Nat} (h : l[j]? = some x) (hno : ∀ k, k < j → l[k]? ≠ some x) : posQ l x = (j : Int) := by
  have hm := List.mem_of_getElem? h
  unfold posQ
  rw [if_pos hm]
  have hlt := List.idxOf_lt_length_of_mem hm
  have h1 : l[l.idxOf x]? = some x := by rw [List.getElem?_eq_getElem hlt, List.getElem_idxOf hlt]
  congr 1
  rcases Nat.lt_trichotomy (l.idxOf x) j with h2 | h2 | h2
  · exact absurd h1 (hno _ h2)
  · exact h2
  · exfalso
    obtain ⟨hj, he⟩ := List.getElem?_eq_some_iff.1 h
    have h3 := List.not_of_lt_findIdx (p := (· == x)) (xs := l) (i := j) h2
    simp [he] at h3
theorem posQ_no {l : List Int} {x : Int} (h : x ∉ l) : posQ l x = -1 := if_neg h
theorem posQ_iff {l : List Int} {x : Int} : 0 ≤ posQ l x ↔ x ∈ l := by
  unfold posQ
  by_cases h : x ∈ l
  · rw [if_pos h]; exact ⟨fun _ => h, fun _ => by omega⟩
  · rw [if_neg h]; exact ⟨fun h => by omega, fun h' => absurd h' h⟩
theorem pushQ_len (l : List Int) (x : Int) : (pushQ l x).length ≤ l.length + 1 := by
  unfold pushQ; split <;> simp
theorem newQ_take_succ {l : List Int} {j : Nat} {x : Int} (h : l[j]? = some x) : newQ (l.take (j + 1)) = pushQ (newQ (l.take j)) x := by
  obtain ⟨hj, he⟩ := List.getElem?_eq_some_iff.1 h
  unfold newQ
  rw [List.take_add_one, h, List.foldl_append]
  rfl
theorem newQ_len (l : List Int) : (newQ l).length ≤ l.length := by
  have h : ∀ (l a : List Int), (l.foldl pushQ a).length ≤ a.length + l.length := by
    intro l
    induction l with
    | nil => intro a; simp
    | cons x l ih =>
      intro a
      have h1 := ih (pushQ a x)
      have h2 := pushQ_len a x
      rw [List.foldl_cons, List.length_cons]
      omega
  have := h l []
  simpa [newQ] using this

set_option maxRecDepth 100000 in
theorem rplace17_any (x : Int) (p : Option Addr) (n c : Nat) (l : List Int) (w : World) (h : Qs w p n c l) :
    Calls Try.prog 22 #[.slice p n c, .int .i64 x] w fun r w' => r = .returned (.int .i64 (posQ l x)) ∧ Below w.heap.size w w' := by
  have hlen := h.len
  have hle := h.le
  have hmx := h.max
  obtain ⟨wo, hwo⟩ : ∃ wo, wo = w := ⟨_, rfl⟩
  subst hwo
  have HI := Lib.hid h
  have Hb1 := Lib.hid (Below.refl wo.heap.size wo)
  clear h
  go_enter Try.func22, Try.ntmps22
  go_wp2_with fail
  go_loopw [5] (fun i wr => ∃ j : Nat, j ≤ n ∧ i = .int .i64 (j : Int) ∧ RowKit.Hid (∀ k, k < j → l[k]? ≠ some x) ∧ wr = wo) (fun i _ => n - (intOf i).toNat)
  case atStart => exact ⟨0, Nat.zero_le _, rfl, Lib.hid (fun k hk => absurd hk (by omega)), rfl⟩
  case round =>
    obtain ⟨j, hj, rfl, Hno, rfl⟩ := hrel
    by_cases hlt : j < n
    · have hji : (j : Int) < (n : Int) := by omega
      obtain ⟨b, o, rfl, hc⟩ := HI.out.cell (by omega)
      obtain ⟨y, hy⟩ : ∃ y, l[j]? = some y := ⟨_, List.getElem?_eq_getElem (by omega)⟩
      have c0 := hc j y hy
      have Hy := Lib.hid hy
      clear hc hy
      by_cases he : y = x
      · subst he
        have Hp := Lib.hid (posQ_at Hy.out Hno.out)
        go_wp2
        go_ret
        exact ⟨by rw [Hp.out]; rfl, Hb1.out⟩
      · have hei2 : (y == x) = false := beq_eq_false_iff_ne.2 he
        have Hn2 := Lib.hid (show ∀ k, k < j + 1 → l[k]? ≠ some x from fun k hk hk2 => by
          rcases Nat.lt_or_eq_of_le (Nat.le_of_lt_succ hk) with h1 | rfl
          · exact Hno.out k h1 hk2
          · rw [Hy.out] at hk2; cases hk2; exact he rfl)
        go_wp2
        go_roundw
        case rel => exact ⟨j + 1, by omega, by go_num, Hn2, trivial⟩
        case measure => simp [intOf]; omega
    · have hji : ¬ (j : Int) < (n : Int) := by omega
      obtain rfl : j = n := by omega
      have Hp := Lib.hid (posQ_no (l := l) (x := x) (fun hm => by
        obtain ⟨k, hk⟩ := List.mem_iff_getElem?.1 hm
        refine Hno.out k ?_ hk
        have := (List.getElem?_eq_some_iff.1 hk).1
        omega))
      go_wp2
      go_ret
      exact ⟨by rw [Hp.out]; rfl, Hb1.out⟩

set_option maxRecDepth 100000 in
theorem rpush17_any (Y : Nat → Prop) (x : Int) (p : Option Addr) (n c : Nat) (l : List Int) (w : World) (h : RowQ Y w p n c l) (hn : n ≤ 90000) :
    Calls Try.prog 12 #[.slice p n c, .int .i64 x] w fun r w' => ∃ q k, r = .returned (.tuple #[.slice q (pushQ l x).length k, .bool (decide (x ∉ l))]) ∧ RowQ (fun b => Y b ∨ w.heap.size ≤ b) w' q (pushQ l x).length k (pushQ l x) ∧ Below w.heap.size w w' := by
  have hlen := h.items.len
  have hle := h.items.le
  have hmx := h.items.max
  have HP := Lib.hid (rplace17_any x p n c l w h.items)
  have HR := Lib.hid (fun W (hW : Below w.heap.size w W) => h.below hW)
  clear h
  go_enter Try.func12, Try.ntmps12
  go_wp2_with fail
  refine HP.out.mono ?_
  rintro r w1 ⟨rfl, hb1⟩
  have Hb1 := Lib.hid hb1
  clear hb1
  by_cases hm : x ∈ l
  · have hpos : (0 : Int) ≤ posQ l x := posQ_iff.2 hm
    have Hm := Lib.hid hm
    clear hm
    go_wp2
    refine bodyPost_ret (results_tmp2 rfl _ _ _) rfl ?_
    refine ⟨p, c, ?_, ?_, Hb1.out⟩
    · rw [show pushQ l x = l from if_pos Hm.out, hlen, decide_eq_false (fun h => h Hm.out)]; rfl
    · rw [show pushQ l x = l from if_pos Hm.out, hlen]
      exact (HR.out _ Hb1.out).mono (fun b hb => .inl hb)
  · have hpos : ¬ (0 : Int) ≤ posQ l x := fun h => hm (posQ_iff.1 h)
    have Hm := Lib.hid hm
    clear hm
    generalize posQ l x = z at *
    obtain ⟨w2, hw2⟩ : ∃ w2, w2 = w1.alloc (.cells #[] 3) := ⟨_, rfl⟩
    have hb2 : Below w.heap.size w w2 := by rw [hw2]; exact Hb1.out.alloc Hb1.out.size _
    have hown : OwnQ w2 w.heap.size (.slice (some ⟨w1.heap.size, 0, none⟩) 0 0) [] := by rw [hw2]; exact ownQ_none w1 _ Hb1.out.size
    have Hb2 := Lib.hid hb2
    have Hown := Lib.hid hown
    have HRw := Lib.hid (HR.out _ hb2).items
    clear hb2 hown
    go_wp2_with (first
      | (at_builtin; rw [← hw2]; refine wpl_appq rfl _ _ rfl (base := w.heap.size) (l := []) rfl Hown.out (p := p) (m := n) (c := c) (ms := l) rfl HRw.out Hb2.out.size (by simp; omega) ?_; intro v3 w3 g1 b3 _ _; have Hb3 := Lib.hid (Hb2.out.trans b3); have Hg1 := Lib.hid g1; clear hw2 g1 b3)
      | (at_builtin; refine wpl_appq rfl _ _ rfl (base := w.heap.size) (l := [] ++ l) rfl (Hg1.out.below ((Below.refl _ _).alloc (Nat.le_refl _) _)) (p := some ⟨w3.heap.size, 0, none⟩) (m := 1) (c := 1) (ms := [x]) rfl (qs_box w3 x) (by have h5 := Hb3.out.size; simp; omega) (by simp; omega) ?_; intro v5 w5 g5 b5 _ _; have Hb5 := Lib.hid ((Hb3.out.trans ((Below.refl _ _).alloc Hb3.out.size _)).trans b5); have Hg5 := Lib.hid g5; clear g5 b5))
    have hpq : pushQ l x = [] ++ l ++ [x] := by rw [show pushQ l x = l ++ [x] from if_neg Hm.out]; rfl
    obtain ⟨q, k, rfl, hrow⟩ := rowQ_own Hg5.out (n := (pushQ l x).length) (by rw [hpq])
    refine bodyPost_ret (results_tmp2 rfl _ _ _) rfl ?_
    exact ⟨q, k, by rw [decide_eq_true (p := x ∉ l) Hm.out]; rfl, by rw [hpq] at hrow ⊢; exact hrow.mono (fun b hb => .inr hb), Hb5.out⟩
end Go.Proofs.Ytmmiommfbkcebaa
