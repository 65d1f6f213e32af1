/- The walks of Pop, Place, Remove. -/
import Derived.Test.YtmmiommfbkcebaaQmTake
namespace Go.Proofs.Ytmmiommfbkcebaa
open Go.RowKit Go.Maps

section
variable {w0 : World} {X : Nat → Prop} {w : World} {m d : Nat} {l : List Int} {v : Value} {T : List (Int × Nat)} {mb k : Nat}

theorem QmE.more {w' : World} (h : QmE w0 X w m d l w') {m' : Nat} (hm : m ≤ m') : QmE w0 X w m' d l w' := by
  obtain ⟨⟨v, T, mb, k, h⟩, h2⟩ := h
  exact ⟨⟨v, T, mb, k, h.more hm⟩, h2⟩

set_option maxRecDepth 100000 in
theorem pop_any (h : QmS w0 X w m d l) (hm : m ≤ 2000000) : Calls Try.prog 13 #[.pointer (some ⟨d, 0, none⟩)] w fun r w' => r = .returned (.tuple #[.int .i64 (l.headD 0), .bool (!l.isEmpty)]) ∧ QmE w0 X w (m + 1) d l.tail w' := by
  obtain ⟨v, T, mb, k, h⟩ := h
  have HP := Lib.hid (peek_any h)
  cases l with
  | nil =>
    have HE := Lib.hid (h.same (Nat.le_succ m) (Below.refl _ _))
    clear h
    go_enter Try.func13, Try.ntmps13
    go_wp2_with fail
    refine HP.out.mono ?_
    rintro r w1 ⟨rfl, rfl⟩
    go_wp2
    go_ret2
    exact ⟨rfl, HE.out⟩
  | cons x l =>
    have HT := Lib.hid (take_any h hm (i := 0) (by simp))
    clear h
    go_enter Try.func13, Try.ntmps13
    go_wp2_with fail
    refine HP.out.mono ?_
    rintro r w1 ⟨rfl, rfl⟩
    go_wp2_with fail
    refine HT.out.mono ?_
    rintro r w2 ⟨rfl, hE⟩
    have HE := Lib.hid (hE.more (Nat.le_succ m))
    clear hE
    go_wp2
    go_ret2
    exact ⟨rfl, HE.out⟩

theorem srt_num {T : List (Int × Nat)} (hs : T.Pairwise (fun a b => a.2 < b.2)) {K : Nat} {t : Int × Nat} (ht : T[K]? = some t) : ∀ i y, T[i]? = some y → (y.2 < t.2 ↔ i < K) := by
  intro i y hy
  obtain ⟨hi, rfl⟩ := List.getElem?_eq_some_iff.1 hy
  obtain ⟨hK, rfl⟩ := List.getElem?_eq_some_iff.1 ht
  rw [List.pairwise_iff_getElem] at hs
  constructor
  · intro h
    rcases Nat.lt_or_ge i K with h1 | h1
    · exact h1
    · rcases Nat.lt_or_ge K i with h2 | h2
      · have := hs K i hK hi h2; omega
      · obtain rfl : i = K := by omega
        omega
  · intro h
    exact hs i K hi hK h

set_option maxRecDepth 100000 in
theorem place_any (h : Qm w0 X w m d l v T mb k) (hm : m ≤ 2000000) (x : Int) (hx : InI x) :
    Calls Try.prog 21 #[.pointer (some ⟨d, 0, none⟩), .int .i64 x] w fun r w' => r = .returned (.int .i64 (posQ l x)) ∧ Below w.heap.size w w' := by
  have HH := Lib.hid (has_any h x hx)
  by_cases hin : x ∈ l
  · rw [decide_eq_true hin] at HH
    obtain ⟨K, hK⟩ : ∃ K, K = l.idxOf x := ⟨_, rfl⟩
    have hp : posQ l x = (K : Int) := by unfold posQ; rw [if_pos hin, hK]
    have hKl : K < l.length := by rw [hK]; exact List.idxOf_lt_length_iff.2 hin
    have hlK : l[K]? = some x := by
      rw [List.getElem?_eq_getElem hKl]
      congr 1
      subst hK
      exact List.getElem_idxOf hKl
    obtain ⟨t, ht, hte⟩ : ∃ t, T[K]? = some t ∧ t.1 = x := by
      rw [h.els, List.getElem?_map] at hlK
      exact Option.map_eq_some_iff.1 hlK
    obtain ⟨y, num⟩ := t
    obtain rfl : y = x := hte
    have q0 := h.c0
    have q1 := h.c1
    have hrun := MapE.at (w := w.drew) (h.map.kept rfl) (y, num) (List.mem_of_getElem? ht) hx
    change (Instr.lookup _ _ (.int .i64 y) false).run _ _ = .ok (.int .u64 (num : Int)) _ at hrun
    obtain ⟨p, c, rfl, hI⟩ := items_of h.row
    have HS := Lib.hid (search_any p T.length c T num K w.drew (hI.below (Below.refl _ _).drew) (Nat.le_trans h.cnt.2 hm) (by have := h.len; omega) (srt_num h.srt ht))
    rw [hp]
    obtain ⟨N, hN⟩ : ∃ N, N = T.length := ⟨_, rfl⟩
    rw [← hN] at HS q0
    clear h hI hN ht hlK hKl hK hp hin
    go_enter Try.func21, Try.ntmps21
    go_wp2_with fail
    refine HH.out.mono ?_
    rintro r w1 ⟨rfl, rfl⟩
    go_wp2_with fail
    go_region_law (first | (go_simp; go_at_call 29; (with_reducible refine HS.out.mono ?_); rintro r w2 ⟨bb, rfl, hb2⟩; have Hb2 := Lib.hid hb2; clear hb2))
    all_goals
      go_wp2
      go_ret
      exact ⟨rfl, (Below.refl _ _).drew.trans (Hb2.out.mono (Nat.le_refl _))⟩
  · rw [decide_eq_false hin] at HH
    have hp : posQ l x = -1 := by unfold posQ; rw [if_neg hin]
    rw [hp]
    clear h hin hp
    go_enter Try.func21, Try.ntmps21
    go_wp2_with fail
    refine HH.out.mono ?_
    rintro r w1 ⟨rfl, rfl⟩
    go_wp2
    go_ret
    exact ⟨rfl, Below.refl _ _⟩

set_option maxRecDepth 100000 in
theorem remove_any (h : QmS w0 X w m d l) (hm : m ≤ 2000000) (x : Int) (hx : InI x) :
    Calls Try.prog 15 #[.pointer (some ⟨d, 0, none⟩), .int .i64 x] w fun r w' => r = .returned (.bool (decide (x ∈ l))) ∧ QmE w0 X w (m + 1) d (remQ l x) w' := by
  obtain ⟨v, T, mb, k, h⟩ := h
  have HP := Lib.hid (place_any h hm x hx)
  unfold remQ
  unfold posQ at HP
  by_cases hin : x ∈ l
  · rw [if_pos hin] at HP
    rw [if_pos hin, decide_eq_true hin]
    have hKl : l.idxOf x < l.length := List.idxOf_lt_length_iff.2 hin
    generalize l.idxOf x = K at *
    have HT := Lib.hid (fun W (hW : Below w.heap.size w W) => take_any (h.below hW) hm hKl)
    have Hx := Lib.hid (And.intro h.xb h.base.size)
    have hneg : ¬ (K : Int) < 0 := by omega
    clear h hin hKl
    go_enter Try.func15, Try.ntmps15
    go_wp2_with fail
    refine HP.out.mono ?_
    rintro r w1 ⟨rfl, hb1⟩
    have Hb1 := Lib.hid hb1
    have HT1 := Lib.hid (HT.out w1 hb1)
    clear hb1
    go_wp2_with fail
    refine HT1.out.mono ?_
    rintro r w2 ⟨rfl, hE⟩
    have HE := Lib.hid (show QmE w0 X w (m + 1) d _ w2 from ⟨(hE.more (Nat.le_succ m)).1, fun b e => (hE.2.1 b e).trans (Hb1.out.block b (Hx.out.1 b e)), (Hb1.out.mono Hx.out.2).trans hE.2.2⟩)
    clear hE
    go_wp2
    go_ret
    exact ⟨rfl, HE.out⟩
  · rw [if_neg hin] at HP
    rw [if_neg hin, decide_eq_false hin]
    have HE := Lib.hid (fun W hW => h.same (w' := W) (Nat.le_succ m) hW)
    clear h hin
    go_enter Try.func15, Try.ntmps15
    go_wp2_with fail
    refine HP.out.mono ?_
    rintro r w1 ⟨rfl, hb1⟩
    have HE1 := Lib.hid (HE.out w1 hb1)
    clear hb1
    go_wp2
    go_ret
    exact ⟨rfl, HE1.out⟩
end
end Go.Proofs.Ytmmiommfbkcebaa
