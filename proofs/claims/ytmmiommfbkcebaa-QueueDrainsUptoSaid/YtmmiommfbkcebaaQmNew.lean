/- The walks of List and New. -/
import Derived.Test.YtmmiommfbkcebaaQmPop
namespace Go.Proofs.Ytmmiommfbkcebaa
open Go.RowKit Go.Maps

section
variable {w0 : World} {X : Nat → Prop} {w : World} {m d : Nat} {l : List Int} {v : Value} {T : List (Int × Nat)} {mb k : Nat}

set_option maxRecDepth 100000 in
set_option maxHeartbeats 1600000 in
theorem list_any (h : Qm w0 X w m d l v T mb k) (hm : m ≤ 2000000) :
    Calls Try.prog 19 #[.pointer (some ⟨d, 0, none⟩)] w fun r w' => ∃ u, r = .returned u ∧ OwnQ w' w.heap.size u l ∧ Below w.heap.size w w' := by
  have q0 := h.c0
  obtain ⟨p, c, rfl, hI⟩ := items_of h.row
  have hle := hI.le
  have hmx := hI.max
  have hlen := h.len
  have hT : T.length ≤ 2000000 := Nat.le_trans h.cnt.2 hm
  have hels := h.els
  obtain ⟨N, hN⟩ : ∃ N, N = T.length := ⟨_, rfl⟩
  rw [← hN] at hI q0 hle hlen hT
  have HI := Lib.hid hI
  have HL := Lib.hid (And.intro hels hN)
  clear h hI hels hN
  go_enter Try.func19, Try.ntmps19
  go_wp2_with fail
  go_loopw [3, 13] (fun u i wr => ∃ j : Nat, j ≤ N ∧ i = .int .i64 (j : Int) ∧ RowKit.Hid (OwnQ wr w.heap.size u (l.take j) ∧ Below w.heap.size w wr)) (fun _ i _ => N - (intOf i).toNat)
  case atStart => exact ⟨0, Nat.zero_le _, rfl, Lib.hid ⟨World.ownsRow_nil _ _ _ _, Below.refl _ _⟩⟩
  case round =>
    obtain ⟨j, hj, rfl, HJ⟩ := hrel
    by_cases hlt : j < N
    · have hji : (j : Int) < (N : Int) := by omega
      obtain ⟨g, o, rfl, hc⟩ := HI.out.cell (by omega)
      obtain ⟨t, ht⟩ : ∃ t, T[j]? = some t := ⟨_, List.getElem?_eq_getElem (by rw [← HL.out.2]; exact hlt)⟩
      obtain ⟨x, num⟩ := t
      obtain ⟨c0, c1⟩ := hc j _ ht
      have g0 : wr.cell? ⟨g, o + j * 2, none⟩ = some (.int .i64 x) := cell_below HJ.out.2 c0
      have g1 : wr.cell? ⟨g, o + j * 2 + 1, none⟩ = some (.int .u64 (num : Int)) := cell_below HJ.out.2 c1
      have He := Lib.hid (show l.take (j + 1) = l.take j ++ [x] from by
        have h5 : l[j]? = some x := by rw [HL.out.1, List.getElem?_map, ht]; rfl
        rw [List.take_add_one, h5]; rfl)
      have Hu3 := Lib.hid ((HJ.out.1.below ((Below.refl _ _).alloc (Nat.le_refl _) (.cells #[.int .i64 x, .int .u64 (num : Int)] 59))).below ((Below.refl _ _).alloc (Nat.le_refl _) (.cells #[.int .i64 x] 3)))
      have Hbx := Lib.hid (((Below.refl wr.heap.size wr).alloc (Nat.le_refl _) (.cells #[.int .i64 x, .int .u64 (num : Int)] 59)).alloc (by simp) (.cells #[.int .i64 x] 3))
      have Hl := Lib.hid (show (l.take j).length + 1 ≤ 4000000 from by rw [List.length_take]; omega)
      have Hsz := Lib.hid HJ.out.2.size
      clear c0 c1 hc ht
      go_wp2_with (at_builtin; refine wpl_appq rfl _ _ rfl (base := w.heap.size) (l := l.take j) rfl Hu3.out (p := some ⟨wr.heap.size + 1, 0, none⟩) (m := 1) (c := 1) (ms := [x]) rfl (qs_box2 wr _ x) (by have h5 := Hsz.out; simp; omega) Hl.out ?_; intro u5 w5 g5 b5 gb5 ob5; have HG := Lib.hid (And.intro g5 (And.intro b5 gb5)); clear g5 b5 gb5 ob5)
      go_roundw
      case rel =>
        refine ⟨j + 1, by omega, by go_num, Lib.hid ⟨by rw [He.out]; exact HG.out.1, ?_⟩⟩
        exact (HJ.out.2.trans (Hbx.out.mono Hsz.out)).trans HG.out.2.1
      case measure => simp [intOf]; omega
    · have hji : ¬ (j : Int) < (N : Int) := by omega
      obtain rfl : j = N := by omega
      have HE := Lib.hid (show OwnQ wr w.heap.size _ l ∧ _ from by have h5 := HJ.out; rw [List.take_of_length_le (by omega)] at h5; exact h5)
      clear HJ
      go_wp2
      go_ret
      exact ⟨_, rfl, HE.out⟩
end

theorem newQ_snoc (l : List Int) (x : Int) : newQ (l ++ [x]) = pushQ (newQ l) x := by unfold newQ; rw [List.foldl_append]; rfl

set_option maxRecDepth 100000 in
set_option maxHeartbeats 1600000 in
theorem new_any (p : Option Addr) (n c : Nat) (l : List Int) (w : World) (h : Qs w p n c l) (hn : n ≤ 1048576) (hr : ∀ x ∈ l, InI x) :
    Calls Try.prog 8 #[.slice p n c] w fun r w' => ∃ d, r = .returned (.pointer (some ⟨d, 0, none⟩)) ∧ QmS w (fun _ => False) w' n d (newQ l) := by
  have hle := h.le
  have hmx := h.max
  have hlen := h.len
  have HI := Lib.hid (And.intro h hr)
  obtain ⟨d, hd⟩ : ∃ d, d = w.heap.size + 1 := ⟨_, rfl⟩
  obtain ⟨w1, hw1⟩ : ∃ w1, w1 = (w.alloc (.map #[] 0)).alloc (.cells #[.slice none 0 0, .map (some w.heap.size), .int .u64 0] 57) := ⟨_, rfl⟩
  have HS0 := Lib.hid (show QmS w (fun _ => False) w1 0 d (newQ (l.take 0)) from by
    refine ⟨.slice none 0 0, [], w.heap.size, 0, ?_, itR_nil, ?_, by simp [newQ], by simp [newQ], by simp [newQ], by simp, by simp, ⟨Nat.le_refl _, Nat.le_refl _⟩, ⟨by omega, id⟩, ⟨Nat.le_refl _, id⟩, fun b e => (by cases e), by omega, fun b e => e.elim, ?_⟩
    · rw [hw1, hd, show w.heap.size + 1 = (w.alloc (.map #[] 0)).heap.size by simp]; exact heap_alloc_new _ _
    · rw [hw1]; exact (MapE.made w).below (by simp) _
    · rw [hw1]; exact ((Below.refl _ _).alloc (Nat.le_refl _) _).alloc (by simp) _)
  clear h
  have hmm := @run_makeMap Try.prog
  go_enter Try.func8, Try.ntmps8
  go_upto_region 2 with fail
  rw [← hw1, ← hd]
  clear hw1 hd
  go_wp2_with fail
  go_loopw [11] (fun i wr => ∃ j : Nat, j ≤ n ∧ i = .int .i64 (j : Int) ∧ RowKit.Hid (QmS w (fun _ => False) wr j d (newQ (l.take j)))) (fun i _ => n - (intOf i).toNat)
  case atStart => exact ⟨0, Nat.zero_le _, rfl, HS0⟩
  case round =>
    obtain ⟨j, hj, rfl, HJ⟩ := hrel
    by_cases hlt : j < n
    · have hji : (j : Int) < (n : Int) := by omega
      obtain ⟨g, o, rfl, hc⟩ := HI.out.1.cell (by omega)
      obtain ⟨x, hx⟩ : ∃ x, l[j]? = some x := ⟨_, List.getElem?_eq_getElem (by omega)⟩
      have hbw : Below w.heap.size w wr := by obtain ⟨_, _, _, _, h5⟩ := HJ.out; exact h5.base
      have g0 := cell_below hbw (hc j x hx)
      have HP := Lib.hid (push_any HJ.out (by omega) x (HI.out.2 x (List.mem_of_getElem? hx)))
      have He := Lib.hid (show newQ (l.take (j + 1)) = pushQ (newQ (l.take j)) x from by rw [List.take_add_one, hx]; exact newQ_snoc _ _)
      clear hc hx hbw
      go_wp2_with fail
      refine HP.out.mono ?_
      rintro r w2 ⟨rfl, hE⟩
      have HE := Lib.hid hE.1
      clear hE
      go_wp2
      go_roundw
      case rel => exact ⟨j + 1, by omega, by go_num, Lib.hid (by rw [He.out]; exact HE.out)⟩
      case measure => simp [intOf]; omega
    · have hji : ¬ (j : Int) < (n : Int) := by omega
      obtain rfl : j = n := by omega
      have HE := Lib.hid (show QmS w (fun _ => False) wr j d (newQ l) from by have h5 := HJ.out; rw [List.take_of_length_le (by omega)] at h5; exact h5)
      clear HJ
      go_wp2
      go_ret
      exact ⟨d, rfl, HE.out⟩
end Go.Proofs.Ytmmiommfbkcebaa
