import Derived.Test.YtfapajmbmgpipaaGreatDoorMD12
import Derived.Test.YtfapajmbmgpipaaGreatDoorMD9
import Derived.Deep.OwnRows
import Derived.Lib.SmallJoins
import Derived.Test.YtfapajmbmgpipaaGreatDoorMD11
import Derived.Deep.RegionHeld
/- The walk of the code's guess: the only number that may have a text. -/
namespace Go.Proofs.YtfapajmbmgpipaaGreatDoor
open Go.RowKit Go.Maps Fl

/-- Whatever key is no longer to come has another word than l. -/
def Lefts (left : Lit → Bool) (l : List Nat) : Prop := ∀ x w, WordAt x w → left (.int .u64 x) = false → w ≠ l

theorem lefts_start (l : List Nat) : Lefts (Maps.has wordsD) l := by
  intro x w h h0
  rcases h with ⟨rfl, _⟩ | ⟨rfl, _⟩ | ⟨rfl, _⟩ <;> exact absurd h0 (by decide)

theorem lefts_next {left : Lit → Bool} {x : Int} {w l : List Nat} (h : Lefts left l) (hw : WordAt x w) (hne : w ≠ l) : Lefts (fun z => left z && !z.sameKey (.int .u64 x)) l := by
  intro x' w' hw' h0
  simp only [Bool.and_eq_false_iff, Bool.not_eq_false'] at h0
  rcases h0 with h0 | h0
  · exact h x' w' hw' h0
  · have e : x' = x := by simpa [Lit.sameKey] using h0
    subst e
    have e2 : w' = w := by
      rcases hw with ⟨a, b⟩ | ⟨a, b⟩ | ⟨a, b⟩ <;> rcases hw' with ⟨a', b'⟩ | ⟨a', b'⟩ | ⟨a', b'⟩ <;> first | (rw [b, b']; done) | (exfalso; omega)
    rw [e2]
    exact hne

theorem lefts_end {left : Lit → Bool} {l : List Nat} (h : Lefts left l) (h0 : ∀ kl, left kl = false) : l ≠ [110, 97, 110] ∧ l ≠ [105, 110, 102] ∧ l ≠ [48] :=
  ⟨fun e => h _ _ (.inl ⟨rfl, rfl⟩) (h0 _) e.symm, fun e => h _ _ (.inr (.inl ⟨rfl, rfl⟩)) (h0 _) e.symm, fun e => h _ _ (.inr (.inr ⟨rfl, rfl⟩)) (h0 _) e.symm⟩

theorem word_byte {x : Int} {w : List Nat} (h : WordAt x w) : ∀ c ∈ w, c < 256 := by
  rcases h with ⟨_, rfl⟩ | ⟨_, rfl⟩ | ⟨_, rfl⟩ <;> decide

theorem no_text_neg {r : List Nat} (h : r ≠ [110, 97, 110] ∧ r ≠ [105, 110, 102] ∧ r ≠ [48]) : ∀ x, x < 18446744073709551616 → textL x = 45 :: r → 0 = x := by
  intro x _ e
  exfalso
  rcases text_word e (by intro d e2; cases e2) with ⟨_, t⟩ | ⟨_, t⟩ | ⟨_, t⟩ | ⟨_, t⟩ | ⟨_, t⟩
  · cases t
  · cases t
  · exact h.2.1 (List.cons.inj t).2
  · cases t
  · exact h.2.2 (List.cons.inj t).2

theorem no_text_pos {r : List Nat} (hd : (∀ d, r ≠ 120 :: d) ∧ ∀ d, r ≠ 45 :: d) (h : r ≠ [110, 97, 110] ∧ r ≠ [105, 110, 102] ∧ r ≠ [48]) : ∀ x, x < 18446744073709551616 → textL x = r → 0 = x := by
  intro x _ e
  exfalso
  rcases text_word e hd.1 with ⟨_, t⟩ | ⟨_, t⟩ | ⟨_, t⟩ | ⟨_, t⟩ | ⟨_, t⟩
  · exact h.1 t
  · exact h.2.1 t
  · exact hd.2 _ t
  · exact h.2.2 t
  · exact hd.2 _ t

theorem found_neg {x : Int} {r : List Nat} (h : WordAt x r) : ∃ key : Nat, x = (key : Int) ∧ key < W ∧ ∀ y, y < 18446744073709551616 → textL y = 45 :: r → key + W = y := by
  rcases h with ⟨rfl, rfl⟩ | ⟨rfl, rfl⟩ | ⟨rfl, rfl⟩
  · refine ⟨Q, rfl, by decide, fun y _ e => ?_⟩
    rcases text_word e (by intro d e2; cases e2) with ⟨_, t⟩ | ⟨_, t⟩ | ⟨_, t⟩ | ⟨_, t⟩ | ⟨_, t⟩ <;> simp at t
  · refine ⟨I, rfl, by decide, fun y _ e => ?_⟩
    rcases text_word e (by intro d e2; cases e2) with ⟨_, t⟩ | ⟨_, t⟩ | ⟨t0, t⟩ | ⟨_, t⟩ | ⟨_, t⟩
    · simp at t
    · simp at t
    · rw [t0, Nat.add_comm]
    · simp at t
    · simp at t
  · refine ⟨0, rfl, by decide, fun y _ e => ?_⟩
    rcases text_word e (by intro d e2; cases e2) with ⟨_, t⟩ | ⟨_, t⟩ | ⟨_, t⟩ | ⟨_, t⟩ | ⟨t0, t⟩
    · simp at t
    · simp at t
    · simp at t
    · simp at t
    · rw [t0, Nat.zero_add]

theorem found_pos {x : Int} {r : List Nat} (hd : (∀ d, r ≠ 120 :: d) ∧ ∀ d, r ≠ 45 :: d) (h : WordAt x r) : ∃ key : Nat, x = (key : Int) ∧ key < W ∧ ∀ y, y < 18446744073709551616 → textL y = r → key = y := by
  rcases h with ⟨rfl, rfl⟩ | ⟨rfl, rfl⟩ | ⟨rfl, rfl⟩
  · refine ⟨Q, rfl, by decide, fun y _ e => ?_⟩
    rcases text_word e hd.1 with ⟨t0, t⟩ | ⟨_, t⟩ | ⟨_, t⟩ | ⟨_, t⟩ | ⟨_, t⟩
    · exact t0.symm
    all_goals simp at t
  · refine ⟨I, rfl, by decide, fun y _ e => ?_⟩
    rcases text_word e hd.1 with ⟨_, t⟩ | ⟨t0, t⟩ | ⟨_, t⟩ | ⟨_, t⟩ | ⟨_, t⟩
    · simp at t
    · exact t0.symm
    all_goals simp at t
  · refine ⟨0, rfl, by decide, fun y _ e => ?_⟩
    rcases text_word e hd.1 with ⟨_, t⟩ | ⟨_, t⟩ | ⟨_, t⟩ | ⟨t0, t⟩ | ⟨_, t⟩
    · simp at t
    · simp at t
    · simp at t
    · exact t0.symm
    · simp at t

theorem or_zero (b : Nat) (h : b < W) : bits .or .u64 (b : Int) 0 = (b : Int) := by
  have h1 := u64_or_nat b 0 (by unfold W at h; omega) (by omega)
  rw [Nat.or_zero] at h1
  exact h1

set_option maxRecDepth 100000 in
set_option maxHeartbeats 3200000 in
theorem guess_any (l : List Nat) (w : World) (hl : ∀ x ∈ l, x < 256) (hn : l.length ≤ 1000000) (he : Errs w) :
    Calls Tryz.prog 98 #[.string (str l)] w fun e w' => Below w.heap.size w w' ∧ ∃ g : Nat, g < 18446744073709551616 ∧ e = .returned (.int .u64 (g : Int)) ∧ ∀ x, x < 18446744073709551616 → textL x = l → g = x := by
  by_cases hx : ∃ d, l = 120 :: d
  · obtain ⟨d, rfl⟩ := hx
    have HC := Lib.hid (cut_yes 120 d w)
    have HU := Lib.hid (puint_any d w (fun x hx => hl x (by simp [hx])) (by simp at hn; omega) he)
    have Hx := Lib.hid (show ∀ (v : Nat), (∀ x, x < 18446744073709551616 → d = hexs x 16 → v = x) → ∀ x, x < 18446744073709551616 → textL x = 120 :: d → v = x from by
      intro v hv x hx e
      by_cases hs : x ∈ special
      · rcases textL_special hs with ⟨_, t⟩ | ⟨_, t⟩ | ⟨_, t⟩ | ⟨_, t⟩ | ⟨_, t⟩ <;> (rw [t] at e; cases e)
      · rw [textL_hex hs] at e
        exact hv x hx (List.cons.inj e).2.symm)
    clear hl hn he
    go_enter Tryz.func98, Tryz.ntmps98
    go_wp2_with fail
    refine HC.out.mono ?_
    rintro e w' ⟨rfl, rfl⟩
    go_wp2_with fail
    refine HU.out.mono ?_
    rintro e w1 ⟨hb1, v, er, hv, hg, rfl⟩
    have Hv := Lib.hid hv
    have Hg := Lib.hid hg
    clear hv hg
    go_wp2
    go_ret
    exact ⟨hb1, v, Hv.out, rfl, Hx.out v Hg.out⟩
  · have hd1 : ∀ d, l ≠ 120 :: d := fun d e => hx ⟨d, e⟩
    have HC := Lib.hid (cut_no 120 l w (by omega) hl hd1)
    have HW := Lib.hid (fun w => words_any w)
    by_cases hm : ∃ d, l = 45 :: d
    · obtain ⟨rest, rfl⟩ := hm
      have HC2 := Lib.hid (cut_yes 45 rest w)
      have Hrest := Lib.hid (show ∀ x ∈ rest, x < 256 from fun x hx => hl x (by simp [hx]))
      clear hl hn he hd1 hx
      generalize str (45 :: rest) = s0 at *
      go_enter Tryz.func98, Tryz.ntmps98
      go_wp2_with fail
      refine HC.out.mono ?_
      rintro e w' ⟨rfl, rfl⟩
      go_wp2_with fail
      refine HC2.out.mono ?_
      rintro e w' ⟨rfl, rfl⟩
      go_wp2_with fail
      refine (HW.out _).mono ?_
      rintro e w1 ⟨⟨b, rfl, hown, _⟩, hb1⟩
      unfold OwnsWords at hown
      go_wp2_with (first
        | (at_range; refine wpList_range_own _ rfl _ 126 rfl 46 9 mapKey Tryz.underlying126 _ b 3 _ rfl hown ?_; intro w0 hrg0 hg0 hs0)
        | go_in)
      go_frame
      go_loopw [10, 11] (fun _ _ wr => ∃ (left : Lit → Bool) (cnt : Nat), wr.ranges Tryz.prog 46 (plainElem (H := Unit) Tryz.prog 9) b w1.heap.size 3 wordsD left cnt ∧ Below w.heap.size w wr ∧ Lefts left rest)
        (fun _ _ wr => wr.rangeLeft b w1.heap.size)
      case atStart => exact ⟨_, _, hrg0, hb1.grown (hg0.but none) hb1.size (fun j hj => by cases hj), lefts_start rest⟩
      case round =>
        obtain ⟨left, cnt, hrg, hgw, hlf⟩ := hrel
        have Hgw := Lib.hid hgw
        have Hlf := Lib.hid hlf
        clear hgw hlf
        go_wp2_with (first
          | (at_next; refine wpList_next_ranges_is _ rfl _ rfl 46 9 .u64 mapKey Tryz.underlying46 Tryz.underlying9 b w1.heap.size 3 _ _ _ rfl hrg ?_ ?_)
          | go_in)
        · intro _ hl0
          have Hend := Lib.hid (no_text_neg (lefts_end Hlf.out hl0))
          clear hl0
          go_wp2
          go_ret
          exact ⟨Hgw.out, 0, by omega, rfl, Hend.out⟩
        · intro x c w2 cnt1 hwx hwc hlx hat hrg1 hlt hg1 hs1 hen
          obtain ⟨word, rfl, hword⟩ := words_entry hat
          have Hgw2 := Lib.hid (Hgw.out.grown hg1 Hgw.out.size (fun j hj => by cases hj; exact hb1.size))
          by_cases hsame : word = rest
          · subst hsame
            have hq := str_eq word
            obtain ⟨key, rfl, hkey, hf⟩ := found_neg hword
            have Hf := Lib.hid hf
            have Hk := Lib.hid hkey
            have hor := or_high key Hk.out
            clear hword hat hwx hwc hlx hf hkey
            go_wp2
            go_ret
            exact ⟨Hgw2.out, (key + W), by have := Hk.out; unfold W at this ⊢; omega, rfl, Hf.out⟩
          · have hq : ((str word).toList == (str rest).toList) = false := str_ne (word_byte hword) Hrest.out hsame
            have Hlf2 := Lib.hid (lefts_next Hlf.out hword hsame)
            clear hword hat hwx hwc hsame
            go_wp2
            go_roundw
            case rel => exact ⟨_, cnt1, hrg1, Hgw2.out, Hlf2.out⟩
            case measure => rw [hrg1.left_eq, hrg.left_eq]; exact hlt
    · have hd : (∀ d, l ≠ 120 :: d) ∧ ∀ d, l ≠ 45 :: d := ⟨hd1, fun d e => hm ⟨d, e⟩⟩
      have HC2 := Lib.hid (cut_no 45 l w (by omega) hl hd.2)
      have Hl := Lib.hid hl
      clear hl hn he hd1 hx hm
      go_enter Tryz.func98, Tryz.ntmps98
      go_wp2_with fail
      refine HC.out.mono ?_
      rintro e w' ⟨rfl, rfl⟩
      go_wp2_with fail
      refine HC2.out.mono ?_
      rintro e w' ⟨rfl, rfl⟩
      go_wp2_with fail
      refine (HW.out _).mono ?_
      rintro e w1 ⟨⟨b, rfl, hown, _⟩, hb1⟩
      unfold OwnsWords at hown
      go_wp2_with (first
        | (at_range; refine wpList_range_own _ rfl _ 126 rfl 46 9 mapKey Tryz.underlying126 _ b 3 _ rfl hown ?_; intro w0 hrg0 hg0 hs0)
        | go_in)
      go_frame
      go_loopw [10, 11] (fun _ _ wr => ∃ (left : Lit → Bool) (cnt : Nat), wr.ranges Tryz.prog 46 (plainElem (H := Unit) Tryz.prog 9) b w1.heap.size 3 wordsD left cnt ∧ Below w.heap.size w wr ∧ Lefts left l)
        (fun _ _ wr => wr.rangeLeft b w1.heap.size)
      case atStart => exact ⟨_, _, hrg0, hb1.grown (hg0.but none) hb1.size (fun j hj => by cases hj), lefts_start l⟩
      case round =>
        obtain ⟨left, cnt, hrg, hgw, hlf⟩ := hrel
        have Hgw := Lib.hid hgw
        have Hlf := Lib.hid hlf
        clear hgw hlf
        go_wp2_with (first
          | (at_next; refine wpList_next_ranges_is _ rfl _ rfl 46 9 .u64 mapKey Tryz.underlying46 Tryz.underlying9 b w1.heap.size 3 _ _ _ rfl hrg ?_ ?_)
          | go_in)
        · intro _ hl0
          have Hend := Lib.hid (no_text_pos hd (lefts_end Hlf.out hl0))
          clear hl0
          go_wp2
          go_ret
          exact ⟨Hgw.out, 0, by omega, rfl, Hend.out⟩
        · intro x c w2 cnt1 hwx hwc hlx hat hrg1 hlt hg1 hs1 hen
          obtain ⟨word, rfl, hword⟩ := words_entry hat
          have Hgw2 := Lib.hid (Hgw.out.grown hg1 Hgw.out.size (fun j hj => by cases hj; exact hb1.size))
          by_cases hsame : word = l
          · subst hsame
            have hq := str_eq word
            obtain ⟨key, rfl, hkey, hf⟩ := found_pos hd hword
            have Hf := Lib.hid hf
            have Hk := Lib.hid hkey
            have hor := or_zero key Hk.out
            clear hword hat hwx hwc hlx hf hkey
            go_wp2
            go_ret
            exact ⟨Hgw2.out, key, by have := Hk.out; unfold W at this; omega, rfl, Hf.out⟩
          · have hq : ((str word).toList == (str l).toList) = false := str_ne (word_byte hword) Hl.out hsame
            have Hlf2 := Lib.hid (lefts_next Hlf.out hword hsame)
            clear hword hat hwx hwc hsame
            go_wp2
            go_roundw
            case rel => exact ⟨_, cnt1, hrg1, Hgw2.out, Hlf2.out⟩
            case measure => rw [hrg1.left_eq, hrg.left_eq]; exact hlt
end Go.Proofs.YtfapajmbmgpipaaGreatDoor

/- The walk of the code's Parse. -/
namespace Go.Proofs.YtfapajmbmgpipaaGreatDoor
open Go.RowKit Fl

/-- Every string is a list of bytes. -/
theorem str_of (s : ByteArray) : ∃ l, (∀ x ∈ l, x < 256) ∧ s = str l := by
  refine ⟨s.data.toList.map UInt8.toNat, fun x hx => ?_, ?_⟩
  · obtain ⟨u, _, rfl⟩ := List.mem_map.1 hx
    exact u.toNat_lt
  · apply ByteArray.ext
    unfold str
    rw [List.map_map]
    have e : (UInt8.ofNat ∘ UInt8.toNat) = id := by funext u; simp
    rw [e, List.map_id]

theorem bitsB_ofB {g : Nat} (h : bitsB g = g) : ofB g = some g := by rw [ofB_bits, if_pos h]

set_option maxRecDepth 100000 in
set_option maxHeartbeats 800000 in
theorem nparse_any (l : List Nat) (w : World) (hl : ∀ x ∈ l, x < 256) (hn : l.length ≤ 1000000) (he : Errs w) (ht : Tab16 w) :
    Calls Tryz.prog 81 #[.string (str l)] w (ParseEnd w l) := by
  have HG := Lib.hid (guess_any l w hl hn he)
  have Hl := Lib.hid hl
  have Ht := Lib.hid ht
  clear hl hn he ht
  generalize hs : str l = s at *
  have Hs := Lib.hid hs
  clear hs
  go_enter Tryz.func81, Tryz.ntmps81
  go_wp2_with fail
  refine HG.out.mono ?_
  rintro e w1 ⟨hb1, g, hg, rfl, hx⟩
  have HO := Lib.hid (of_any g w1 hg)
  have Hg := Lib.hid hg
  have Hx := Lib.hid hx
  clear hg hx
  by_cases h : bitsB g = g
  · have HT := Lib.hid (text_any g w1 Hg.out (by
      have h := Ht.out
      unfold Tab16 at h ⊢
      rw [hb1.cell (World.block_lt_of_cell? _ _ h)]
      exact h))
    rw [bitsB_ofB h] at HO
    by_cases htx : textL (bitsB g) = l
    · have hq : ((str (textL (bitsB g))).toList == s.toList) = true := by rw [htx, Hs.out]; exact beq_self_eq_true _
      have Htx := Lib.hid htx
      clear h htx
      generalize hS : str (textL (bitsB g)) = S at *
      clear hS
      go_wp2_with fail
      refine HO.out.mono ?_
      rintro e w' ⟨rfl, rfl⟩
      go_wp2_with fail
      refine HT.out.mono ?_
      rintro e w2 ⟨rfl, hb2⟩
      go_wp2
      go_ret2
      exact ⟨hb1.trans (hb2.mono hb1.size), .inl ⟨g, Hg.out, Htx.out, rfl⟩⟩
    · have hq : ((str (textL (bitsB g))).toList == s.toList) = false := by rw [← Hs.out]; exact str_ne (textL_byte _) Hl.out htx
      have Hno := Lib.hid (show ∀ b, b < 18446744073709551616 → textL (bitsB b) ≠ l from by
        intro b hb e
        have e2 := Hx.out (bitsB b) (bitsB_lt hb) e
        rw [← e2, ← h] at e
        exact htx e)
      clear h htx
      generalize hS : str (textL (bitsB g)) = S at *
      clear hS
      go_wp2_with fail
      refine HO.out.mono ?_
      rintro e w' ⟨rfl, rfl⟩
      go_wp2_with fail
      refine HT.out.mono ?_
      rintro e w2 ⟨rfl, hb2⟩
      go_wp2
      go_ret2
      exact ⟨hb1.trans (hb2.mono hb1.size), .inr ⟨Hno.out, rfl⟩⟩
  · have hO : ofB g = none := by rw [ofB_bits, if_neg h]
    rw [hO] at HO
    have Hno := Lib.hid (show ∀ b, b < 18446744073709551616 → textL (bitsB b) ≠ l from by
      intro b hb e
      have e2 := Hx.out (bitsB b) (bitsB_lt hb) e
      rw [e2, bitsB_idem] at h
      exact h rfl)
    clear h hO
    go_wp2_with fail
    refine HO.out.mono ?_
    rintro e w' ⟨rfl, rfl⟩
    go_wp2
    go_ret2
    exact ⟨hb1, .inr ⟨Hno.out, rfl⟩⟩
end Go.Proofs.YtfapajmbmgpipaaGreatDoor

/- The text of a list of values. -/
namespace Go.Proofs.YtfapajmbmgpipaaGreatDoor
open Go.RowKit Go.Shelf Fl

theorem info_string : (Tryz.prog.info? 9).map (fun i => (i.zero, i.size, i.bytes)) = some (some (.string ByteArray.empty), 1, 16) := by kernel_rfl

/-- The array of texts when the first j of them are written. -/
def textRow (l : List V) (j : Nat) : Array Value := ((l.take j).map (fun u => Value.string (str (textV u))) ++ List.replicate (l.length - j) (Value.string ⟨#[]⟩)).toArray

theorem textRow_size {l : List V} {j : Nat} (h : j ≤ l.length) : (textRow l j).size = l.length := by
  unfold textRow
  simp
  omega

theorem textRow_zero (l : List V) : (madeCells #[Value.string ByteArray.empty] l.length) = textRow l 0 := by
  apply Array.ext
  · rw [size_madeCells, textRow_size (Nat.zero_le _)]
  · intro i h1 h2
    simp [madeCells, textRow, Nat.mod_one]
    rfl

theorem textRow_set {l : List V} {j : Nat} (h : j < l.length) : (textRow l j).setIfInBounds j (.string (str (textV l[j]))) = textRow l (j + 1) := by
  apply Array.ext
  · rw [Array.size_setIfInBounds, textRow_size (by omega), textRow_size (by omega)]
  · intro i h1 h2
    rw [textRow_size (by omega)] at h2
    rw [Array.getElem_setIfInBounds (by rw [textRow_size (by omega)]; exact h2)]
    by_cases e : j = i
    · subst e
      rw [if_pos rfl]
      simp [textRow, List.length_take, Nat.min_eq_left (show j + 1 ≤ l.length by omega)]
    · rw [if_neg e]
      by_cases e2 : i < j
      · simp [textRow, List.length_take, Nat.min_eq_left (show j + 1 ≤ l.length by omega), Nat.min_eq_left (show j ≤ l.length by omega), e2, show i < j + 1 by omega]
      · simp [textRow, List.getElem_append, List.length_take, Nat.min_eq_left (show j + 1 ≤ l.length by omega), Nat.min_eq_left (show j ≤ l.length by omega), e2, show ¬ i < j + 1 by omega]

theorem join_len : ∀ a : List (List Nat), a.length ≤ (joinS a).length + 1
  | [] => by simp
  | [y] => by simp [joinS]
  | y :: z :: r => by
    have := join_len (z :: r)
    rw [joinS, List.length_append, List.length_cons]
    simp only [List.length_cons] at this ⊢
    omega

theorem lib_join : ∀ a : List (List Nat), Lib.join (a.map (fun l => l.map UInt8.ofNat)) [32] = (joinS a).map UInt8.ofNat
  | [] => rfl
  | [y] => by simp [Lib.join, List.intercalate, joinS]
  | y :: z :: r => by
    have ih := lib_join (z :: r)
    unfold Lib.join at ih ⊢
    rw [joinS, List.map_append, show (32 :: joinS (z :: r)).map UInt8.ofNat = 32 :: (joinS (z :: r)).map UInt8.ofNat from rfl, ← ih]
    simp [List.intercalate]

/-- How a content answers text. -/
def TextAt (w : World) (con : Value) (txt : List Nat) : Prop :=
  ∃ (T : TypeId) (v : Value) (f : FuncId), con = .iface T v ∧ (∀ (n : Nat) (w : World), (method (n + 1) T v "clockwork/value.text").run Tryz.prog w = .ok (f, v) w) ∧ (∀ args w, (callFunc f args).run Tryz.prog w = .ok (.enter f args) w) ∧
    ∀ w', Below w.heap.size w w' → Calls Tryz.prog f #[v] w' fun e w'' => e = .returned (.string (str txt)) ∧ Below w'.heap.size w' w''

set_option maxRecDepth 100000 in
theorem listText_any (l : List V) (a : Option Addr) (cap : Nat) (w : World) (hn : (textV (.mk 4 0 0 [] l)).length ≤ 1000000) (hl : l = [] ∨ ∃ b o, a = some ⟨b, o, none⟩ ∧ VsIn w l b o)
    (ht : ∀ u ∈ l, ∀ a cap, VIn w u (cells5 u.kind u.n u.f u.s a u.l.length cap) → TextAt w (conOf u.kind u.n u.f u.s a u.l.length cap) (textV u)) :
    Calls Tryz.prog 173 #[.slice a l.length cap] w fun e w' => e = .returned (.string (str (textV (.mk 4 0 0 [] l)))) ∧ Below w.heap.size w w' := by
  have hll : l.length ≤ 1000000 := by
    have h := join_len (textVs l)
    rw [textVs_map, List.length_map] at h
    rw [textV, if_neg (by decide), if_neg (by decide), if_neg (by decide), if_pos rfl, List.length_cons, List.length_append, textVs_map] at hn
    simp only [List.length_cons, List.length_nil] at hn
    omega
  have hmk := run_make_row' (P := Tryz.prog) 185 9 (.string ByteArray.empty) 16 Tryz.underlying185 info_string rfl .i64 .i64 l.length (by omega) (by omega)
  have hfl : ∀ (w : World) (a : Addr) (m : Mode) (b : Nat), (store a (.float .f64 b) m).run Tryz.prog w = stored Tryz.prog w a (.float .f64 b) m := fun w a m b => run_store Tryz.prog w a _ m rfl
  have HC := Lib.hid (fun k n f s a len cap w => contentOf_any k n f s a len cap w)
  have H0 := Lib.hid (show (w.alloc (.cells (madeCells #[Value.string ByteArray.empty] l.length) 9)).heap[w.heap.size]? = some (.cells (textRow l 0) 9 (0, 0)) from by
    rw [textRow_zero]; exact heap_alloc_new w _)
  have HL := Lib.hid hl
  have HT := Lib.hid ht
  have HN := Lib.hid hn
  have hb0 := (Below.refl w.heap.size w).alloc (Nat.le_refl _) (.cells (madeCells #[Value.string ByteArray.empty] l.length) 9)
  have Hb0 := Lib.hid hb0
  have hj1 := Tryz.strings_Join
  clear hl hb0 ht hn
  go_enter Tryz.func173, Tryz.ntmps173
  go_wp2_with fail
  generalize w.alloc (.cells (madeCells #[Value.string ByteArray.empty] l.length) 9) = w1 at *
  go_loopw [11] (fun i wr => ∃ j : Nat, j ≤ l.length ∧ i = .int .i64 (j : Int) ∧ wr.heap[w.heap.size]? = some (.cells (textRow l j) 9 (0, 0)) ∧ Below w.heap.size w wr) (fun i _ => l.length - (intOf i).toNat)
  case atStart => exact ⟨0, Nat.zero_le _, rfl, H0.out, Hb0.out⟩
  case round =>
    obtain ⟨j, hj, rfl, hR, hbr⟩ := hrel
    have HR := Lib.hid hR
    have Hbr := Lib.hid hbr
    by_cases hlt : j < l.length
    · have hji : (j : Int) < (l.length : Int) := by omega
      obtain ⟨b, o, rfl, hvs⟩ := HL.out.resolve_left (by intro e; rw [e] at hlt; simp at hlt)
      obtain ⟨a', cap', hvy, c0, c1, c2, c3, c4⟩ := hvs.elem hlt
      replace c0 := cell_below hbr c0
      replace c1 := cell_below hbr c1
      replace c2 := cell_below hbr c2
      replace c3 := cell_below hbr c3
      replace c4 := cell_below hbr c4
      obtain ⟨hget, hmem⟩ := get_mem hlt
      have Hset := Lib.hid (textRow_set hlt)
      have Hlt := Lib.hid hlt
      obtain ⟨T, v, f, hc, hm, he, hcall⟩ := HT.out _ hmem _ _ hvy
      generalize l[j] = u at *
      obtain ⟨z0, z1, z2, z3, z4⟩ := new5 wr (.int .i64 u.kind) (.int .i64 u.n) (.float .f64 u.f) (.string (str u.s)) (.slice a' u.l.length cap') 25
      have HM := Lib.hid hm
      have HK := Lib.hid hcall
      have hal := (Below.refl wr.heap.size wr).alloc (Nat.le_refl _) (.cells #[.int .i64 u.kind, .int .i64 u.n, .float .f64 u.f, .string (str u.s), .slice a' u.l.length cap'] 25)
      have Hal := Lib.hid hal
      clear hlt hbr hR hvs hvy hget hmem hm hcall hal
      go_wp2_with fail
      refine (HC.out u.kind u.n u.f u.s a' u.l.length cap' _).mono ?_
      rintro e w3 ⟨rfl, hb3⟩
      rw [hc]
      have Hb3 := Lib.hid (Hal.out.trans (hb3.mono Hal.out.size))
      clear hb3 hc
      go_wp2_with fail
      rw [HM.out]
      go_wp2_with fail
      refine (HK.out _ (Hbr.out.trans (Hb3.out.mono Hbr.out.size))).mono ?_
      rintro e w4 ⟨rfl, hb4⟩
      have hblk : w4.heap[w.heap.size]? = some (.cells (textRow l j) 9 (0, 0)) := by
        have hlt2 : w.heap.size < wr.heap.size := (Array.getElem?_eq_some_iff.1 HR.out).1
        rw [hb4.block _ (by have := Hb3.out.size; omega), Hb3.out.block _ hlt2]
        exact HR.out
      have Hblk := Lib.hid hblk
      have hcell : ∃ y, w4.cell? ⟨w.heap.size, j, none⟩ = some y := by
        rw [cell_of_row _ _ _ _ _ _ hblk]
        exact ⟨_, Array.getElem?_eq_getElem (by rw [textRow_size (by have := Hlt.out; omega)]; exact Hlt.out)⟩
      obtain ⟨y, hy⟩ := hcell
      have hfr : w4.frozen? ⟨w.heap.size, j, none⟩ = false := by simp [World.frozen?, hblk]
      have Hb4 := Lib.hid (show Below w.heap.size w w4 from Hbr.out.trans ((Hb3.out.trans (hb4.mono Hb3.out.size)).mono Hbr.out.size))
      clear hb4 hblk c0 c1 c2 c3 c4 z0 z1 z2 z3 z4
      go_wp2
      go_roundw
      case rel =>
        refine ⟨j + 1, Hlt.out, by go_num, ?_, Hb4.out.setCell (Nat.le_refl _) _⟩
        rw [← Hset.out]
        exact Joins.block_setCell Hblk.out _
      case measure => simp [intOf]; have := Hlt.out; omega
    · have hji : ¬ ((j : Int) < (l.length : Int)) := by omega
      obtain rfl : j = l.length := by omega
      have hxl : (l.map (fun u => str (textV u))).length = l.length := List.length_map _
      have hmm : (l.map (fun u => str (textV u))).map (·.data.toList) = (textVs l).map (fun x => x.map UInt8.ofNat) := by
        rw [textVs_map, List.map_map, List.map_map]
        exact List.map_congr_left (fun u _ => by simp [str])
      have hjn := hj1 w.heap.size 0 l.length (l.map (fun u => str (textV u))) ⟨#[32]⟩ wr (fun i x hx => by
          rw [List.getElem?_map] at hx
          obtain ⟨u, hu, rfl⟩ := Option.map_eq_some_iff.1 hx
          obtain ⟨hi, rfl⟩ := List.getElem?_eq_some_iff.1 hu
          rw [Nat.zero_add, cell_of_row _ _ _ _ _ _ hR]
          simp [textRow, hi])
        (Array.getElem?_eq_some_iff.1 hR).1 (by rw [hxl]; omega) (by rw [hxl]; exact Nat.le_refl _) (by
          rw [hmm, show ((⟨#[32]⟩ : ByteArray).data.toList) = [32] from rfl, lib_join, List.length_map]
          have h := HN.out
          rw [textV, if_neg (by decide), if_neg (by decide), if_neg (by decide), if_pos rfl, List.length_cons, List.length_append] at h
          omega)
      rw [hxl, hmm, show ((⟨#[32]⟩ : ByteArray).data.toList) = [32] from rfl, lib_join] at hjn
      have Hjn := Lib.hid (show Calls Tryz.prog 174 #[.slice (some ⟨w.heap.size, 0, none⟩) l.length l.length, .string ⟨#[32]⟩] wr (fun e w' => e = .returned (.string (str (joinS (textVs l)))) ∧ Below wr.heap.size wr w') from hjn)
      have hq := str_size (joinS (textVs l))
      have Hsum := Lib.hid (show (⟨#[91]⟩ : ByteArray) ++ str (joinS (textVs l)) ++ (⟨#[93]⟩ : ByteArray) = str (textV (.mk 4 0 0 [] l)) from by
        rw [textV, if_neg (by decide), if_neg (by decide), if_neg (by decide), if_pos rfl]
        exact (congrArg (· ++ (⟨#[93]⟩ : ByteArray)) (str_append [91] (joinS (textVs l)))).trans ((str_append (91 :: joinS (textVs l)) [93]).trans (by simp)))
      have hqn : (joinS (textVs l)).length ≤ 1000000 := by
        have h := HN.out
        rw [textV, if_neg (by decide), if_neg (by decide), if_neg (by decide), if_pos rfl, List.length_cons, List.length_append] at h
        omega
      clear hR hbr hlt hxl hmm hjn hj1
      generalize str (joinS (textVs l)) = S at *
      generalize (joinS (textVs l)).length = q at *
      go_wp2_with fail
      refine Hjn.out.mono ?_
      rintro e w5 ⟨rfl, hb5⟩
      have Hb5 := Lib.hid (Hbr.out.trans (hb5.mono Hbr.out.size))
      clear hb5
      go_wp2
      go_ret
      exact ⟨by rw [← Hsum.out]; rfl, Hb5.out⟩
end Go.Proofs.YtfapajmbmgpipaaGreatDoor

/- Which values have only fields of their kind: bare, and Valid's own test. -/
namespace Go.Proofs.YtfapajmbmgpipaaGreatDoor
open Go.RowKit Fl

/-- Only fields of a kind that there is. -/
def bareB (v : V) : Bool := decide (FieldsOk v ∧ 0 ≤ v.kind ∧ v.kind ≤ 4)

theorem chain5 {p q r s t u : Prop} [Decidable p] [Decidable q] [Decidable r] [Decidable s] [Decidable t] {_ : Decidable u} (h : u ↔ (p ∧ q ∧ r ∧ s ∧ t)) :
    decide u = (decide p && (decide q && (decide r && (decide s && decide t)))) := by
  rw [Bool.eq_iff_iff]
  simp only [Bool.and_eq_true, decide_eq_true_eq]
  exact h

theorem whole_cells (k n : Int) (f : Nat) (s : List Nat) (a : Option Addr) (l : List V) (cap : Nat) (hf : f < 18446744073709551616) (hs : ∀ c ∈ s, c < 256) :
    ∃ (k2 n2 : Int) (f2 : Nat) (s2 : List Nat) (a2 : Option Addr) (len2 cap2 : Nat), wholeOf k n f s a l.length cap = cells5 k2 n2 f2 s2 a2 len2 cap2 ∧ f2 < 18446744073709551616 ∧ (∀ c ∈ s2, c < 256) ∧
      bareB (.mk k n f s l) = (decide (k2 = k) && (decide (n2 = n) && (decide (bitsB f2 = bitsB f) && (decide (s2 = s) && decide (len2 = l.length))))) := by
  have hb0 : bitsB 0 = 0 := by decide
  have hl : 0 = l.length ↔ l = [] := ⟨fun h => List.length_eq_zero_iff.1 h.symm, fun h => by rw [h]; rfl⟩
  have hss : ([] : List Nat) = s ↔ s = [] := ⟨fun h => h.symm, fun h => h.symm⟩
  have hn0 : 0 = n ↔ n = 0 := ⟨fun h => h.symm, fun h => h.symm⟩
  have hff : 0 = bitsB f ↔ bitsB f = 0 := ⟨fun h => h.symm, fun h => h.symm⟩
  unfold wholeOf bareB FieldsOk
  simp only [V.kind, V.n, V.f, V.s, V.l]
  by_cases h1 : k = 1
  · subst h1
    refine ⟨1, n, 0, [], none, 0, 0, rfl, by omega, (fun c h => by cases h), chain5 ?_⟩
    rw [hb0, hl, hss, hff]
    constructor
    · rintro ⟨⟨_, g2, g3, g4⟩, _⟩
      exact ⟨rfl, rfl, g2.resolve_left (by omega), g3.resolve_left (by omega), g4.resolve_left (by omega)⟩
    · rintro ⟨_, _, g2, g3, g4⟩
      exact ⟨⟨.inl rfl, .inr g2, .inr g3, .inr g4⟩, by omega, by omega⟩
  rw [if_neg h1]
  by_cases h2 : k = 2
  · subst h2
    refine ⟨2, 0, f, [], none, 0, 0, rfl, hf, (fun c h => by cases h), chain5 ?_⟩
    rw [hl, hss, hn0]
    constructor
    · rintro ⟨⟨g1, _, g3, g4⟩, _⟩
      exact ⟨rfl, g1.resolve_left (by omega), rfl, g3.resolve_left (by omega), g4.resolve_left (by omega)⟩
    · rintro ⟨_, g1, _, g3, g4⟩
      exact ⟨⟨.inr g1, .inl rfl, .inr g3, .inr g4⟩, by omega, by omega⟩
  rw [if_neg h2]
  by_cases h3 : k = 3
  · subst h3
    refine ⟨3, 0, 0, s, none, 0, 0, rfl, by omega, hs, chain5 ?_⟩
    rw [hb0, hl, hff, hn0]
    constructor
    · rintro ⟨⟨g1, g2, _, g4⟩, _⟩
      exact ⟨rfl, g1.resolve_left (by omega), g2.resolve_left (by omega), rfl, g4.resolve_left (by omega)⟩
    · rintro ⟨_, g1, g2, _, g4⟩
      exact ⟨⟨.inr g1, .inr g2, .inl rfl, .inr g4⟩, by omega, by omega⟩
  rw [if_neg h3]
  by_cases h4 : k = 4
  · subst h4
    refine ⟨4, 0, 0, [], a, l.length, cap, rfl, by omega, (fun c h => by cases h), chain5 ?_⟩
    rw [hb0, hss, hff, hn0]
    constructor
    · rintro ⟨⟨g1, g2, g3, _⟩, _⟩
      exact ⟨rfl, g1.resolve_left (by omega), g2.resolve_left (by omega), g3.resolve_left (by omega), rfl⟩
    · rintro ⟨_, g1, g2, g3, _⟩
      exact ⟨⟨.inr g1, .inr g2, .inr g3, .inl rfl⟩, by omega, by omega⟩
  rw [if_neg h4]
  refine ⟨0, 0, 0, [], none, 0, 0, rfl, by omega, (fun c h => by cases h), chain5 ?_⟩
  rw [hb0, hl, hss, hff, hn0]
  constructor
  · rintro ⟨⟨g1, g2, g3, g4⟩, g5, g6⟩
    exact ⟨by omega, g1.resolve_left h1, g2.resolve_left h2, g3.resolve_left h3, g4.resolve_left h4⟩
  · rintro ⟨g0, g1, g2, g3, g4⟩
    exact ⟨⟨.inr g1, .inr g2, .inr g3, .inr g4⟩, by omega, by omega⟩

theorem keep5 {w w' : World} {p : Nat} {a b c d e : Value} (hb : Below w.heap.size w w')
    (h : w.cell? ⟨p, 0, none⟩ = some a ∧ w.cell? ⟨p, 1, none⟩ = some b ∧ w.cell? ⟨p, 2, none⟩ = some c ∧ w.cell? ⟨p, 3, none⟩ = some d ∧ w.cell? ⟨p, 4, none⟩ = some e) :
    w'.cell? ⟨p, 0, none⟩ = some a ∧ w'.cell? ⟨p, 1, none⟩ = some b ∧ w'.cell? ⟨p, 2, none⟩ = some c ∧ w'.cell? ⟨p, 3, none⟩ = some d ∧ w'.cell? ⟨p, 4, none⟩ = some e := by
  have g : ∀ {q : Addr} {v : Value}, w.cell? q = some v → w'.cell? q = some v := fun {q v} h => by
    rw [hb.cell (World.block_lt_of_cell? _ _ h)]; exact h
  exact ⟨g h.1, g h.2.1, g h.2.2.1, g h.2.2.2.1, g h.2.2.2.2⟩

set_option maxRecDepth 100000 in
set_option maxHeartbeats 1600000 in
theorem bare_any (k n : Int) (f : Nat) (s : List Nat) (a : Option Addr) (l : List V) (cap : Nat) (w : World) (hf : f < 18446744073709551616) (hs : ∀ c ∈ s, c < 256) :
    Calls Tryz.prog 31 #[.agg (cells5 k n f s a l.length cap)] w fun e w' => e = .returned (.bool (bareB (.mk k n f s l))) ∧ Below w.heap.size w w' := by
  obtain ⟨k2, n2, f2, s2, a2, len2, cap2, hw, hf2, hs2, hB⟩ := whole_cells k n f s a l cap hf hs
  have HC := Lib.hid (fun w => contentOf_any k n f s a l.length cap w)
  have HW := Lib.hid (fun w => whole_any k n f s a l.length cap w)
  rw [hw] at HW
  have hfl : ∀ (w : World) (a : Addr) (m : Mode) (b : Nat), (store a (.float .f64 b) m).run Tryz.prog w = stored Tryz.prog w a (.float .f64 b) m := fun w a m b => run_store Tryz.prog w a _ m rfl
  have HR := Lib.hid (fun w => same_any f2 f w hf2 hf)
  have hB : ∃ b : Bool, bareB (.mk k n f s l) = b ∧ b = (decide (k2 = k) && (decide (n2 = n) && (decide (bitsB f2 = bitsB f) && (decide (s2 = s) && decide (len2 = l.length))))) := ⟨_, rfl, hB⟩
  obtain ⟨bb, hbb, hB⟩ := hB
  rw [hbb]
  generalize l.length = len at *
  have HB := Lib.hid hB
  have C0 := Lib.hid (new5 w (.int .i64 k) (.int .i64 n) (.float .f64 f) (.string (str s)) (.slice a len cap) 25)
  have Hb := Lib.hid ((Below.refl w.heap.size w).alloc (Nat.le_refl _) (.cells (cells5 k n f s a len cap) 25))
  have hwz : (w.alloc (.cells #[.int .i64 k, .int .i64 n, .float .f64 f, .string (str s), .slice a len cap] 25)).heap.size = w.heap.size + 1 := by simp
  clear hw hB hf hf2 hbb
  generalize conOf k n f s a len cap = con at *
  unfold cells5 at *
  go_enter Tryz.func31, Tryz.ntmps31
  go_wp2_with fail
  generalize w.alloc (.cells #[.int .i64 k, .int .i64 n, .float .f64 f, .string (str s), .slice a len cap] 25) = w0 at *
  refine (HC.out _).mono ?_
  rintro e w1 ⟨rfl, hb1⟩
  have Hb1 := Lib.hid hb1
  clear hb1
  go_wp2_with fail
  refine (HW.out _).mono ?_
  rintro e w2 ⟨rfl, hb2⟩
  have Hb2 := Lib.hid (Hb1.out.trans (hb2.mono Hb1.out.size))
  have Hb3 := Lib.hid (Hb2.out.alloc Hb2.out.size (.cells #[.int .i64 k2, .int .i64 n2, .float .f64 f2, .string (str s2), .slice a2 len2 cap2] 25))
  have Hbe := Lib.hid (show Below w.heap.size w _ from Hb.out.trans (Hb3.out.mono (by omega)))
  obtain ⟨c0, c1, c2, c3, c4⟩ := new5 w2 (.int .i64 k2) (.int .i64 n2) (.float .f64 f2) (.string (str s2)) (.slice a2 len2 cap2) 25
  obtain ⟨m0, m1, m2, m3, m4⟩ := keep5 Hb3.out C0.out
  clear hb2
  by_cases q1 : k2 = k
  · rw [decide_eq_true q1] at HB
    have d1 : (k2 == k) = true := beq_iff_eq.2 q1
    by_cases q2 : n2 = n
    · rw [decide_eq_true q2] at HB
      have d2 : (n2 == n) = true := beq_iff_eq.2 q2
      by_cases q3 : bitsB f2 = bitsB f
      · rw [decide_eq_true q3] at HB HR
        by_cases q4 : s2 = s
        · have d4 : ((str s2).toList == (str s).toList) = true := by rw [q4]; exact str_eq s
          rw [decide_eq_true q4] at HB
          have HB5 := Lib.hid (show (decide (len2 = len)) = bb from by rw [HB.out]; simp)
          clear q1 q2 q3 q4 hs hs2
          go_wp2_with ((with_reducible refine (HR.out _).mono ?_); rintro e w' ⟨rfl, rfl⟩)
          go_ret
          exact ⟨ret_bool (by rw [← HB5.out, Bool.eq_iff_iff]; simp; omega), Hbe.out⟩
        · have d4 : ((str s2).toList == (str s).toList) = false := str_ne hs2 hs q4
          rw [decide_eq_false q4] at HB
          have HB5 := Lib.hid (show false = bb from by rw [HB.out]; simp)
          clear q1 q2 q3 q4 hs hs2
          go_wp2_with ((with_reducible refine (HR.out _).mono ?_); rintro e w' ⟨rfl, rfl⟩)
          go_ret
          exact ⟨ret_bool HB5.out, Hbe.out⟩
      · rw [decide_eq_false q3] at HB HR
        have HB5 := Lib.hid (show false = bb from by rw [HB.out]; simp)
        clear q1 q2 q3 hs hs2
        go_wp2_with ((with_reducible refine (HR.out _).mono ?_); rintro e w' ⟨rfl, rfl⟩)
        go_ret
        exact ⟨ret_bool HB5.out, Hbe.out⟩
    · have d2 : (n2 == n) = false := beq_eq_false_iff_ne.2 q2
      rw [decide_eq_false q2] at HB
      have HB5 := Lib.hid (show false = bb from by rw [HB.out]; simp)
      clear q1 q2 hs hs2
      go_wp2
      go_ret
      exact ⟨ret_bool HB5.out, Hbe.out⟩
  · have d1 : (k2 == k) = false := beq_eq_false_iff_ne.2 q1
    rw [decide_eq_false q1] at HB
    have HB5 := Lib.hid (show false = bb from by rw [HB.out]; simp)
    clear q1 hs hs2
    go_wp2
    go_ret
    exact ⟨ret_bool HB5.out, Hbe.out⟩
end Go.Proofs.YtfapajmbmgpipaaGreatDoor

