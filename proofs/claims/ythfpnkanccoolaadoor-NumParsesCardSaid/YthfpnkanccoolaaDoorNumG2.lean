/- The walk of the code's guess: the only number that may have a text. -/
import Derived.Test.YthfpnkanccoolaaDoorNumG
namespace Go.Proofs.YthfpnkanccoolaaDoor
open Go.RowKit Go.Maps Fl

/-- Whatever key is no longer to come has another word than l. -/
def Lefts (left : Lit → Bool) (l : List Nat) : Prop := ∀ x w, WordAt x w → left (.int .u64 x) = false → w ≠ l

theorem lefts_start (l : List Nat) : Lefts (Maps.has wordsD) l := by
  intro x w h h0
  rcases h with ⟨rfl, _⟩ | ⟨rfl, _⟩ | ⟨rfl, _⟩ <;> exact absurd h0 (by decide)

theorem lefts_next {left : Lit → Bool} {x : Int} {w l : List Nat} (h : Lefts left l) (hw : WordAt x w) (hne : w ≠ l) : Lefts (fun z => left z && !z.sameKey (.int .u64 x)) l := by
  intro x' w' hw' h0
  simp only [Bool.and_eq_false_iff, Bool.not_eq_false'] at h0
  rcases h0 with h0 | h0
  · exact h x' w' hw' h0
  · have e : x' = x := by simpa [Lit.sameKey] using h0
    subst e
    have e2 : w' = w := by
      rcases hw with ⟨a, b⟩ | ⟨a, b⟩ | ⟨a, b⟩ <;> rcases hw' with ⟨a', b'⟩ | ⟨a', b'⟩ | ⟨a', b'⟩ <;> first | (rw [b, b']; done) | (exfalso; omega)
    rw [e2]
    exact hne

theorem lefts_end {left : Lit → Bool} {l : List Nat} (h : Lefts left l) (h0 : ∀ kl, left kl = false) : l ≠ [110, 97, 110] ∧ l ≠ [105, 110, 102] ∧ l ≠ [48] :=
  ⟨fun e => h _ _ (.inl ⟨rfl, rfl⟩) (h0 _) e.symm, fun e => h _ _ (.inr (.inl ⟨rfl, rfl⟩)) (h0 _) e.symm, fun e => h _ _ (.inr (.inr ⟨rfl, rfl⟩)) (h0 _) e.symm⟩

theorem word_byte {x : Int} {w : List Nat} (h : WordAt x w) : ∀ c ∈ w, c < 256 := by
  rcases h with ⟨_, rfl⟩ | ⟨_, rfl⟩ | ⟨_, rfl⟩ <;> decide

theorem no_text_neg {r : List Nat} (h : r ≠ [110, 97, 110] ∧ r ≠ [105, 110, 102] ∧ r ≠ [48]) : ∀ x, x < 18446744073709551616 → textL x = 45 :: r → 0 = x := by
  intro x _ e
  exfalso
  rcases text_word e (by intro d e2; cases e2) with ⟨_, t⟩ | ⟨_, t⟩ | ⟨_, t⟩ | ⟨_, t⟩ | ⟨_, t⟩
  · cases t
  · cases t
  · exact h.2.1 (List.cons.inj t).2
  · cases t
  · exact h.2.2 (List.cons.inj t).2

theorem no_text_pos {r : List Nat} (hd : (∀ d, r ≠ 120 :: d) ∧ ∀ d, r ≠ 45 :: d) (h : r ≠ [110, 97, 110] ∧ r ≠ [105, 110, 102] ∧ r ≠ [48]) : ∀ x, x < 18446744073709551616 → textL x = r → 0 = x := by
  intro x _ e
  exfalso
  rcases text_word e hd.1 with ⟨_, t⟩ | ⟨_, t⟩ | ⟨_, t⟩ | ⟨_, t⟩ | ⟨_, t⟩
  · exact h.1 t
  · exact h.2.1 t
  · exact hd.2 _ t
  · exact h.2.2 t
  · exact hd.2 _ t

theorem found_neg {x : Int} {r : List Nat} (h : WordAt x r) : ∃ key : Nat, x = (key : Int) ∧ key < W ∧ ∀ y, y < 18446744073709551616 → textL y = 45 :: r → key + W = y := by
  rcases h with ⟨rfl, rfl⟩ | ⟨rfl, rfl⟩ | ⟨rfl, rfl⟩
  · refine ⟨Q, rfl, by decide, fun y _ e => ?_⟩
    rcases text_word e (by intro d e2; cases e2) with ⟨_, t⟩ | ⟨_, t⟩ | ⟨_, t⟩ | ⟨_, t⟩ | ⟨_, t⟩ <;> simp at t
  · refine ⟨I, rfl, by decide, fun y _ e => ?_⟩
    rcases text_word e (by intro d e2; cases e2) with ⟨_, t⟩ | ⟨_, t⟩ | ⟨t0, t⟩ | ⟨_, t⟩ | ⟨_, t⟩
    · simp at t
    · simp at t
    · rw [t0, Nat.add_comm]
    · simp at t
    · simp at t
  · refine ⟨0, rfl, by decide, fun y _ e => ?_⟩
    rcases text_word e (by intro d e2; cases e2) with ⟨_, t⟩ | ⟨_, t⟩ | ⟨_, t⟩ | ⟨_, t⟩ | ⟨t0, t⟩
    · simp at t
    · simp at t
    · simp at t
    · simp at t
    · rw [t0, Nat.zero_add]

theorem found_pos {x : Int} {r : List Nat} (hd : (∀ d, r ≠ 120 :: d) ∧ ∀ d, r ≠ 45 :: d) (h : WordAt x r) : ∃ key : Nat, x = (key : Int) ∧ key < W ∧ ∀ y, y < 18446744073709551616 → textL y = r → key = y := by
  rcases h with ⟨rfl, rfl⟩ | ⟨rfl, rfl⟩ | ⟨rfl, rfl⟩
  · refine ⟨Q, rfl, by decide, fun y _ e => ?_⟩
    rcases text_word e hd.1 with ⟨t0, t⟩ | ⟨_, t⟩ | ⟨_, t⟩ | ⟨_, t⟩ | ⟨_, t⟩
    · exact t0.symm
    all_goals simp at t
  · refine ⟨I, rfl, by decide, fun y _ e => ?_⟩
    rcases text_word e hd.1 with ⟨_, t⟩ | ⟨t0, t⟩ | ⟨_, t⟩ | ⟨_, t⟩ | ⟨_, t⟩
    · simp at t
    · exact t0.symm
    all_goals simp at t
  · refine ⟨0, rfl, by decide, fun y _ e => ?_⟩
    rcases text_word e hd.1 with ⟨_, t⟩ | ⟨_, t⟩ | ⟨_, t⟩ | ⟨t0, t⟩ | ⟨_, t⟩
    · simp at t
    · simp at t
    · simp at t
    · exact t0.symm
    · simp at t

theorem or_zero (b : Nat) (h : b < W) : bits .or .u64 (b : Int) 0 = (b : Int) := by
  have h1 := u64_or_nat b 0 (by unfold W at h; omega) (by omega)
  rw [Nat.or_zero] at h1
  exact h1

set_option maxRecDepth 100000 in
set_option maxHeartbeats 3200000 in
theorem guess_any (l : List Nat) (w : World) (hl : ∀ x ∈ l, x < 256) (hn : l.length ≤ 1000000) (he : Errs w) :
    Calls Tryd.prog 39 #[.string (str l)] w fun e w' => Below w.heap.size w w' ∧ ∃ g : Nat, g < 18446744073709551616 ∧ e = .returned (.int .u64 (g : Int)) ∧ ∀ x, x < 18446744073709551616 → textL x = l → g = x := by
  by_cases hx : ∃ d, l = 120 :: d
  · obtain ⟨d, rfl⟩ := hx
    have HC := Lib.hid (cut_yes 120 d w)
    have HU := Lib.hid (uint_any d w (fun x hx => hl x (by simp [hx])) (by simp at hn; omega) he)
    have Hx := Lib.hid (show ∀ (v : Nat), (∀ x, x < 18446744073709551616 → d = hexs x 16 → v = x) → ∀ x, x < 18446744073709551616 → textL x = 120 :: d → v = x from by
      intro v hv x hx e
      by_cases hs : x ∈ special
      · rcases textL_special hs with ⟨_, t⟩ | ⟨_, t⟩ | ⟨_, t⟩ | ⟨_, t⟩ | ⟨_, t⟩ <;> (rw [t] at e; cases e)
      · rw [textL_hex hs] at e
        exact hv x hx (List.cons.inj e).2.symm)
    clear hl hn he
    go_enter Tryd.func39, Tryd.ntmps39
    go_wp2_with fail
    refine HC.out.mono ?_
    rintro e w' ⟨rfl, rfl⟩
    go_wp2_with fail
    refine HU.out.mono ?_
    rintro e w1 ⟨hb1, v, er, hv, hg, rfl⟩
    have Hv := Lib.hid hv
    have Hg := Lib.hid hg
    clear hv hg
    go_wp2
    go_ret
    exact ⟨hb1, v, Hv.out, rfl, Hx.out v Hg.out⟩
  · have hd1 : ∀ d, l ≠ 120 :: d := fun d e => hx ⟨d, e⟩
    have HC := Lib.hid (cut_no 120 l w (by omega) hl hd1)
    have HW := Lib.hid (fun w => words_any w)
    by_cases hm : ∃ d, l = 45 :: d
    · obtain ⟨rest, rfl⟩ := hm
      have HC2 := Lib.hid (cut_yes 45 rest w)
      have Hrest := Lib.hid (show ∀ x ∈ rest, x < 256 from fun x hx => hl x (by simp [hx]))
      clear hl hn he hd1 hx
      generalize str (45 :: rest) = s0 at *
      go_enter Tryd.func39, Tryd.ntmps39
      go_wp2_with fail
      refine HC.out.mono ?_
      rintro e w' ⟨rfl, rfl⟩
      go_wp2_with fail
      refine HC2.out.mono ?_
      rintro e w' ⟨rfl, rfl⟩
      go_wp2_with fail
      refine (HW.out _).mono ?_
      rintro e w1 ⟨⟨b, rfl, hown, _⟩, hb1⟩
      unfold OwnsWords at hown
      go_wp2_with (first
        | (at_range; refine wpList_range_own _ rfl _ 50 rfl 22 9 mapKey Tryd.underlying50 _ b 3 _ rfl hown ?_; intro w0 hrg0 hg0 hs0)
        | go_in)
      go_frame
      go_loopw [10, 11] (fun _ _ wr => ∃ (left : Lit → Bool) (cnt : Nat), wr.ranges Tryd.prog 22 (plainElem (H := Unit) Tryd.prog 9) b w1.heap.size 3 wordsD left cnt ∧ Below w.heap.size w wr ∧ Lefts left rest)
        (fun _ _ wr => wr.rangeLeft b w1.heap.size)
      case atStart => exact ⟨_, _, hrg0, hb1.grown (hg0.but none) hb1.size (fun j hj => by cases hj), lefts_start rest⟩
      case round =>
        obtain ⟨left, cnt, hrg, hgw, hlf⟩ := hrel
        have Hgw := Lib.hid hgw
        have Hlf := Lib.hid hlf
        clear hgw hlf
        go_wp2_with (first
          | (at_next; refine wpList_next_ranges_is _ rfl _ rfl 22 9 .u64 mapKey Tryd.underlying22 Tryd.underlying9 b w1.heap.size 3 _ _ _ rfl hrg ?_ ?_)
          | go_in)
        · intro _ hl0
          have Hend := Lib.hid (no_text_neg (lefts_end Hlf.out hl0))
          clear hl0
          go_wp2
          go_ret
          exact ⟨Hgw.out, 0, by omega, rfl, Hend.out⟩
        · intro x c w2 cnt1 hwx hwc hlx hat hrg1 hlt hg1 hs1 hen
          obtain ⟨word, rfl, hword⟩ := words_entry hat
          have Hgw2 := Lib.hid (Hgw.out.grown hg1 Hgw.out.size (fun j hj => by cases hj; exact hb1.size))
          by_cases hsame : word = rest
          · subst hsame
            have hq := str_eq word
            obtain ⟨key, rfl, hkey, hf⟩ := found_neg hword
            have Hf := Lib.hid hf
            have Hk := Lib.hid hkey
            have hor := or_high key Hk.out
            clear hword hat hwx hwc hlx hf hkey
            go_wp2
            go_ret
            exact ⟨Hgw2.out, (key + W), by have := Hk.out; unfold W at this ⊢; omega, rfl, Hf.out⟩
          · have hq : ((str word).toList == (str rest).toList) = false := str_ne (word_byte hword) Hrest.out hsame
            have Hlf2 := Lib.hid (lefts_next Hlf.out hword hsame)
            clear hword hat hwx hwc hsame
            go_wp2
            go_roundw
            case rel => exact ⟨_, cnt1, hrg1, Hgw2.out, Hlf2.out⟩
            case measure => rw [hrg1.left_eq, hrg.left_eq]; exact hlt
    · have hd : (∀ d, l ≠ 120 :: d) ∧ ∀ d, l ≠ 45 :: d := ⟨hd1, fun d e => hm ⟨d, e⟩⟩
      have HC2 := Lib.hid (cut_no 45 l w (by omega) hl hd.2)
      have Hl := Lib.hid hl
      clear hl hn he hd1 hx hm
      go_enter Tryd.func39, Tryd.ntmps39
      go_wp2_with fail
      refine HC.out.mono ?_
      rintro e w' ⟨rfl, rfl⟩
      go_wp2_with fail
      refine HC2.out.mono ?_
      rintro e w' ⟨rfl, rfl⟩
      go_wp2_with fail
      refine (HW.out _).mono ?_
      rintro e w1 ⟨⟨b, rfl, hown, _⟩, hb1⟩
      unfold OwnsWords at hown
      go_wp2_with (first
        | (at_range; refine wpList_range_own _ rfl _ 50 rfl 22 9 mapKey Tryd.underlying50 _ b 3 _ rfl hown ?_; intro w0 hrg0 hg0 hs0)
        | go_in)
      go_frame
      go_loopw [10, 11] (fun _ _ wr => ∃ (left : Lit → Bool) (cnt : Nat), wr.ranges Tryd.prog 22 (plainElem (H := Unit) Tryd.prog 9) b w1.heap.size 3 wordsD left cnt ∧ Below w.heap.size w wr ∧ Lefts left l)
        (fun _ _ wr => wr.rangeLeft b w1.heap.size)
      case atStart => exact ⟨_, _, hrg0, hb1.grown (hg0.but none) hb1.size (fun j hj => by cases hj), lefts_start l⟩
      case round =>
        obtain ⟨left, cnt, hrg, hgw, hlf⟩ := hrel
        have Hgw := Lib.hid hgw
        have Hlf := Lib.hid hlf
        clear hgw hlf
        go_wp2_with (first
          | (at_next; refine wpList_next_ranges_is _ rfl _ rfl 22 9 .u64 mapKey Tryd.underlying22 Tryd.underlying9 b w1.heap.size 3 _ _ _ rfl hrg ?_ ?_)
          | go_in)
        · intro _ hl0
          have Hend := Lib.hid (no_text_pos hd (lefts_end Hlf.out hl0))
          clear hl0
          go_wp2
          go_ret
          exact ⟨Hgw.out, 0, by omega, rfl, Hend.out⟩
        · intro x c w2 cnt1 hwx hwc hlx hat hrg1 hlt hg1 hs1 hen
          obtain ⟨word, rfl, hword⟩ := words_entry hat
          have Hgw2 := Lib.hid (Hgw.out.grown hg1 Hgw.out.size (fun j hj => by cases hj; exact hb1.size))
          by_cases hsame : word = l
          · subst hsame
            have hq := str_eq word
            obtain ⟨key, rfl, hkey, hf⟩ := found_pos hd hword
            have Hf := Lib.hid hf
            have Hk := Lib.hid hkey
            have hor := or_zero key Hk.out
            clear hword hat hwx hwc hlx hf hkey
            go_wp2
            go_ret
            exact ⟨Hgw2.out, key, by have := Hk.out; unfold W at this; omega, rfl, Hf.out⟩
          · have hq : ((str word).toList == (str l).toList) = false := str_ne (word_byte hword) Hl.out hsame
            have Hlf2 := Lib.hid (lefts_next Hlf.out hword hsame)
            clear hword hat hwx hwc hsame
            go_wp2
            go_roundw
            case rel => exact ⟨_, cnt1, hrg1, Hgw2.out, Hlf2.out⟩
            case measure => rw [hrg1.left_eq, hrg.left_eq]; exact hlt
end Go.Proofs.YthfpnkanccoolaaDoor
