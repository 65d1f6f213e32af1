import Derived.Test.YtpnfnmeilhiebaaGreatDoorMP16
/- The walk of strconv.ParseUint at base 16, where the errors' variables hold errors. -/
namespace Go.Proofs.YtpnfnmeilhiebaaGreatDoor
open Go.RowKit Fl

/-- The two variables of the library's errors hold errors. -/
def Errs (w : World) : Prop := (∃ t p, w.cell? ⟨2, 0, none⟩ = some (.iface t p)) ∧ (∃ t p, w.cell? ⟨3, 0, none⟩ = some (.iface t p))

theorem Errs.below {w w' : World} (h : Errs w) (hb : Below w.heap.size w w') : Errs w' := by
  obtain ⟨⟨t, p, h1⟩, ⟨t', p', h2⟩⟩ := h
  exact ⟨⟨t, p, by rw [hb.cell (World.block_lt_of_cell? _ _ h1)]; exact h1⟩, ⟨t', p', by rw [hb.cell (World.block_lt_of_cell? _ _ h2)]; exact h2⟩⟩

set_option maxRecDepth 100000 in
theorem puint_any (l : List Nat) (w : World) (hl : ∀ x ∈ l, x < 256) (hn : l.length ≤ 1000000) (he : Errs w) :
    Calls Tryz.prog 88 #[.string (str l), .int .i64 16, .int .i64 64] w fun e w' => Below w.heap.size w w' ∧ ∃ (v : Nat) (er : Value), v < 18446744073709551616 ∧ (∀ x, x < 18446744073709551616 → l = hexs x 16 → v = x) ∧ e = .returned (.tuple #[.int .u64 (v : Int), er]) := by
  have H := Lib.hid (iuint_any l w hl hn)
  have Hsz := Lib.hid (show (str l).size ≤ 281474976710656 by rw [str_size]; omega)
  have He := Lib.hid he
  clear hl hn he
  generalize hs : str l = s at *
  clear hs
  go_enter Tryz.func88, Tryz.ntmps88
  go_wp2_with fail
  refine H.out.mono ?_
  rintro e w1 ⟨hb, v, hv, hg, rfl | rfl | rfl⟩
  · have Hg := Lib.hid hg
    have Hv := Lib.hid hv
    clear hg hv
    go_wp2
    go_ret2
    exact ⟨hb, v, .nilIface, Hv.out, Hg.out, rfl⟩
  · have Hg := Lib.hid hg
    have Hv := Lib.hid hv
    clear hg hv
    obtain ⟨_, ⟨t, p, hc⟩⟩ := He.out.below hb
    have HT := Lib.hid (Tryz.strconv_toError_range ⟨#[80, 97, 114, 115, 101, 85, 105, 110, 116]⟩ s 16 64 (.iface t p) w1 Hsz.out hc (.inr ⟨t, p, rfl⟩))
    clear hc
    go_wp2_with fail
    refine HT.out.mono ?_
    rintro e w2 ⟨M, rfl, _, _, hb2⟩
    go_wp2
    go_ret2
    exact ⟨hb.trans (hb2.mono hb.size), v, _, Hv.out, Hg.out, rfl⟩
  · have Hg := Lib.hid hg
    have Hv := Lib.hid hv
    clear hg hv
    obtain ⟨⟨t, p, hc⟩, _⟩ := He.out.below hb
    have HT := Lib.hid (Tryz.strconv_toError_syntax ⟨#[80, 97, 114, 115, 101, 85, 105, 110, 116]⟩ s 16 64 (.iface t p) w1 Hsz.out hc (.inr ⟨t, p, rfl⟩))
    clear hc
    go_wp2_with fail
    refine HT.out.mono ?_
    rintro e w2 ⟨M, rfl, _, _, hb2⟩
    go_wp2
    go_ret2
    exact ⟨hb.trans (hb2.mono hb.size), v, _, Hv.out, Hg.out, rfl⟩
end Go.Proofs.YtpnfnmeilhiebaaGreatDoor

/- What the walk of the code's guess wants: prefixes, the map's entries, texts that are words. -/
namespace Go.Proofs.YtpnfnmeilhiebaaGreatDoor
open Go.RowKit Go.Maps Fl

theorem cut_yes (c : Nat) (d : List Nat) (w : World) :
    Calls Tryz.prog 53 #[.string (str (c :: d)), .string (str [c])] w fun e w' => e = .returned (.tuple #[.string (str d), .bool true]) ∧ w = w' := by
  have h := Tryz.strings_CutPrefix (str (c :: d)) (str [c]) w
  have h1 : (str (c :: d)).data.toList = UInt8.ofNat c :: d.map UInt8.ofNat := rfl
  have h2 : (str [c]).data.toList = [UInt8.ofNat c] := rfl
  have h3 : Lib.hasPrefix (str (c :: d)).data.toList (str [c]).data.toList = true := by
    rw [h1, h2]
    unfold Lib.hasPrefix
    simp
  have h4 : Lib.trimPrefix (str (c :: d)).data.toList (str [c]).data.toList = d.map UInt8.ofNat := by
    unfold Lib.trimPrefix
    rw [if_pos h3, h1, h2]
    rfl
  rw [h3, h4] at h
  refine h.mono ?_
  rintro e w' ⟨rfl, rfl⟩
  exact ⟨rfl, rfl⟩

theorem cut_no (c : Nat) (l : List Nat) (w : World) (hc : c < 256) (hl : ∀ x ∈ l, x < 256) (hd : ∀ d, l ≠ c :: d) :
    Calls Tryz.prog 53 #[.string (str l), .string (str [c])] w fun e w' => e = .returned (.tuple #[.string (str l), .bool false]) ∧ w = w' := by
  have h := Tryz.strings_CutPrefix (str l) (str [c]) w
  have h1 : (str l).data.toList = l.map UInt8.ofNat := rfl
  have h2 : (str [c]).data.toList = [UInt8.ofNat c] := rfl
  have h3 : Lib.hasPrefix (str l).data.toList (str [c]).data.toList = false := by
    rw [h1, h2]
    unfold Lib.hasPrefix
    cases l with
    | nil => rfl
    | cons a d =>
      have hne : a ≠ c := fun e => hd d (by rw [e])
      have ha : a < 256 := hl a (by simp)
      have hne2 : UInt8.ofNat c ≠ UInt8.ofNat a := by
        intro e
        have e2 := congrArg UInt8.toNat e
        rw [UInt8.toNat_ofNat', UInt8.toNat_ofNat'] at e2
        omega
      rw [List.map_cons, List.isPrefixOf_cons_cons, beq_eq_false_iff_ne.2 hne2, Bool.false_and]
  have h4 : Lib.trimPrefix (str l).data.toList (str [c]).data.toList = l.map UInt8.ofNat := by
    unfold Lib.trimPrefix
    rw [h3]
    rfl
  rw [h3, h4] at h
  refine h.mono ?_
  rintro e w' ⟨rfl, rfl⟩
  exact ⟨rfl, rfl⟩

/-- What word lies at a key. -/
def WordAt (x : Int) (l : List Nat) : Prop := (x = 9221120237041090561 ∧ l = [110, 97, 110]) ∨ (x = 9218868437227405312 ∧ l = [105, 110, 102]) ∨ (x = 0 ∧ l = [48])

theorem words_entry {x : Int} {c : ByteArray} (h : ∀ zd, wordsD.atKey (.int .u64 x) zd = .lit (.string c.data.toList)) : ∃ l, c = str l ∧ WordAt x l := by
  have hs : ∀ l : List Nat, c.data.toList = l.map UInt8.ofNat → c = str l := by
    intro l e
    apply ByteArray.ext
    have h2 : c.data = (l.map UInt8.ofNat).toArray := by rw [← e]
    exact h2
  have h1 := h (.lit (.string [1]))
  have h2 := h (.lit (.string [2]))
  by_cases e1 : x = 9221120237041090561
  · subst e1
    have e : wordsD.atKey (.int .u64 9221120237041090561) (.lit (.string [1])) = .lit (.string [110, 97, 110]) := rfl
    have h3 := Lit.string.inj (DataW.lit.inj (e.symm.trans h1))
    exact ⟨[110, 97, 110], hs _ h3.symm, .inl ⟨rfl, rfl⟩⟩
  by_cases e2 : x = 9218868437227405312
  · subst e2
    have e : wordsD.atKey (.int .u64 9218868437227405312) (.lit (.string [1])) = .lit (.string [105, 110, 102]) := rfl
    have h3 := Lit.string.inj (DataW.lit.inj (e.symm.trans h1))
    exact ⟨[105, 110, 102], hs _ h3.symm, .inr (.inl ⟨rfl, rfl⟩)⟩
  by_cases e3 : x = 0
  · subst e3
    have e : wordsD.atKey (.int .u64 0) (.lit (.string [1])) = .lit (.string [48]) := rfl
    have h3 := Lit.string.inj (DataW.lit.inj (e.symm.trans h1))
    exact ⟨[48], hs _ h3.symm, .inr (.inr ⟨rfl, rfl⟩)⟩
  · exfalso
    have hk : ∀ zd : DataW Unit, wordsD.atKey (.int .u64 x) zd = zd := by
      intro zd
      have e : wordsD = .map [(.int .u64 0, .lit (.string [48])), (.int .u64 9218868437227405312, .lit (.string [105, 110, 102])), (.int .u64 9221120237041090561, .lit (.string [110, 97, 110]))] := rfl
      rw [e]
      have n1 : ¬ (9221120237041090561 = x) := fun h => e1 h.symm
      have n2 : ¬ (9218868437227405312 = x) := fun h => e2 h.symm
      have n3 : ¬ (0 = x) := fun h => e3 h.symm
      simp [DataW.atKey, List.find?, Lit.sameKey, n1, n2, n3]
    rw [hk] at h1 h2
    have h3 := h1.trans h2.symm
    have h4 := Lit.string.inj (DataW.lit.inj h3)
    exact absurd h4 (by decide)

theorem text_word {x : Nat} {l : List Nat} (h : textL x = l) (hd : ∀ d, l ≠ 120 :: d) :
    (x = Q ∧ l = [110, 97, 110]) ∨ (x = I ∧ l = [105, 110, 102]) ∨ (x = W + I ∧ l = [45, 105, 110, 102]) ∨ (x = 0 ∧ l = [48]) ∨ (x = W ∧ l = [45, 48]) := by
  by_cases hs : x ∈ special
  · rcases textL_special hs with ⟨e, t⟩ | ⟨e, t⟩ | ⟨e, t⟩ | ⟨e, t⟩ | ⟨e, t⟩ <;> (rw [t] at h; subst h; simp [e])
  · rw [textL_hex hs] at h
    exact absurd h.symm (hd _)
end Go.Proofs.YtpnfnmeilhiebaaGreatDoor

/- The walk of the code's guess: the only number that may have a text. -/
namespace Go.Proofs.YtpnfnmeilhiebaaGreatDoor
open Go.RowKit Go.Maps Fl

/-- Whatever key is no longer to come has another word than l. -/
def Lefts (left : Lit → Bool) (l : List Nat) : Prop := ∀ x w, WordAt x w → left (.int .u64 x) = false → w ≠ l

theorem lefts_start (l : List Nat) : Lefts (Maps.has wordsD) l := by
  intro x w h h0
  rcases h with ⟨rfl, _⟩ | ⟨rfl, _⟩ | ⟨rfl, _⟩ <;> exact absurd h0 (by decide)

theorem lefts_next {left : Lit → Bool} {x : Int} {w l : List Nat} (h : Lefts left l) (hw : WordAt x w) (hne : w ≠ l) : Lefts (fun z => left z && !z.sameKey (.int .u64 x)) l := by
  intro x' w' hw' h0
  simp only [Bool.and_eq_false_iff, Bool.not_eq_false'] at h0
  rcases h0 with h0 | h0
  · exact h x' w' hw' h0
  · have e : x' = x := by simpa [Lit.sameKey] using h0
    subst e
    have e2 : w' = w := by
      rcases hw with ⟨a, b⟩ | ⟨a, b⟩ | ⟨a, b⟩ <;> rcases hw' with ⟨a', b'⟩ | ⟨a', b'⟩ | ⟨a', b'⟩ <;> first | (rw [b, b']; done) | (exfalso; omega)
    rw [e2]
    exact hne

theorem lefts_end {left : Lit → Bool} {l : List Nat} (h : Lefts left l) (h0 : ∀ kl, left kl = false) : l ≠ [110, 97, 110] ∧ l ≠ [105, 110, 102] ∧ l ≠ [48] :=
  ⟨fun e => h _ _ (.inl ⟨rfl, rfl⟩) (h0 _) e.symm, fun e => h _ _ (.inr (.inl ⟨rfl, rfl⟩)) (h0 _) e.symm, fun e => h _ _ (.inr (.inr ⟨rfl, rfl⟩)) (h0 _) e.symm⟩

theorem word_byte {x : Int} {w : List Nat} (h : WordAt x w) : ∀ c ∈ w, c < 256 := by
  rcases h with ⟨_, rfl⟩ | ⟨_, rfl⟩ | ⟨_, rfl⟩ <;> decide

theorem no_text_neg {r : List Nat} (h : r ≠ [110, 97, 110] ∧ r ≠ [105, 110, 102] ∧ r ≠ [48]) : ∀ x, x < 18446744073709551616 → textL x = 45 :: r → 0 = x := by
  intro x _ e
  exfalso
  rcases text_word e (by intro d e2; cases e2) with ⟨_, t⟩ | ⟨_, t⟩ | ⟨_, t⟩ | ⟨_, t⟩ | ⟨_, t⟩
  · cases t
  · cases t
  · exact h.2.1 (List.cons.inj t).2
  · cases t
  · exact h.2.2 (List.cons.inj t).2

theorem no_text_pos {r : List Nat} (hd : (∀ d, r ≠ 120 :: d) ∧ ∀ d, r ≠ 45 :: d) (h : r ≠ [110, 97, 110] ∧ r ≠ [105, 110, 102] ∧ r ≠ [48]) : ∀ x, x < 18446744073709551616 → textL x = r → 0 = x := by
  intro x _ e
  exfalso
  rcases text_word e hd.1 with ⟨_, t⟩ | ⟨_, t⟩ | ⟨_, t⟩ | ⟨_, t⟩ | ⟨_, t⟩
  · exact h.1 t
  · exact h.2.1 t
  · exact hd.2 _ t
  · exact h.2.2 t
  · exact hd.2 _ t

theorem found_neg {x : Int} {r : List Nat} (h : WordAt x r) : ∃ key : Nat, x = (key : Int) ∧ key < W ∧ ∀ y, y < 18446744073709551616 → textL y = 45 :: r → key + W = y := by
  rcases h with ⟨rfl, rfl⟩ | ⟨rfl, rfl⟩ | ⟨rfl, rfl⟩
  · refine ⟨Q, rfl, by decide, fun y _ e => ?_⟩
    rcases text_word e (by intro d e2; cases e2) with ⟨_, t⟩ | ⟨_, t⟩ | ⟨_, t⟩ | ⟨_, t⟩ | ⟨_, t⟩ <;> simp at t
  · refine ⟨I, rfl, by decide, fun y _ e => ?_⟩
    rcases text_word e (by intro d e2; cases e2) with ⟨_, t⟩ | ⟨_, t⟩ | ⟨t0, t⟩ | ⟨_, t⟩ | ⟨_, t⟩
    · simp at t
    · simp at t
    · rw [t0, Nat.add_comm]
    · simp at t
    · simp at t
  · refine ⟨0, rfl, by decide, fun y _ e => ?_⟩
    rcases text_word e (by intro d e2; cases e2) with ⟨_, t⟩ | ⟨_, t⟩ | ⟨_, t⟩ | ⟨_, t⟩ | ⟨t0, t⟩
    · simp at t
    · simp at t
    · simp at t
    · simp at t
    · rw [t0, Nat.zero_add]

theorem found_pos {x : Int} {r : List Nat} (hd : (∀ d, r ≠ 120 :: d) ∧ ∀ d, r ≠ 45 :: d) (h : WordAt x r) : ∃ key : Nat, x = (key : Int) ∧ key < W ∧ ∀ y, y < 18446744073709551616 → textL y = r → key = y := by
  rcases h with ⟨rfl, rfl⟩ | ⟨rfl, rfl⟩ | ⟨rfl, rfl⟩
  · refine ⟨Q, rfl, by decide, fun y _ e => ?_⟩
    rcases text_word e hd.1 with ⟨t0, t⟩ | ⟨_, t⟩ | ⟨_, t⟩ | ⟨_, t⟩ | ⟨_, t⟩
    · exact t0.symm
    all_goals simp at t
  · refine ⟨I, rfl, by decide, fun y _ e => ?_⟩
    rcases text_word e hd.1 with ⟨_, t⟩ | ⟨t0, t⟩ | ⟨_, t⟩ | ⟨_, t⟩ | ⟨_, t⟩
    · simp at t
    · exact t0.symm
    all_goals simp at t
  · refine ⟨0, rfl, by decide, fun y _ e => ?_⟩
    rcases text_word e hd.1 with ⟨_, t⟩ | ⟨_, t⟩ | ⟨_, t⟩ | ⟨t0, t⟩ | ⟨_, t⟩
    · simp at t
    · simp at t
    · simp at t
    · exact t0.symm
    · simp at t

theorem or_zero (b : Nat) (h : b < W) : bits .or .u64 (b : Int) 0 = (b : Int) := by
  have h1 := u64_or_nat b 0 (by unfold W at h; omega) (by omega)
  rw [Nat.or_zero] at h1
  exact h1

set_option maxRecDepth 100000 in
set_option maxHeartbeats 3200000 in
theorem guess_any (l : List Nat) (w : World) (hl : ∀ x ∈ l, x < 256) (hn : l.length ≤ 1000000) (he : Errs w) :
    Calls Tryz.prog 90 #[.string (str l)] w fun e w' => Below w.heap.size w w' ∧ ∃ g : Nat, g < 18446744073709551616 ∧ e = .returned (.int .u64 (g : Int)) ∧ ∀ x, x < 18446744073709551616 → textL x = l → g = x := by
  by_cases hx : ∃ d, l = 120 :: d
  · obtain ⟨d, rfl⟩ := hx
    have HC := Lib.hid (cut_yes 120 d w)
    have HU := Lib.hid (puint_any d w (fun x hx => hl x (by simp [hx])) (by simp at hn; omega) he)
    have Hx := Lib.hid (show ∀ (v : Nat), (∀ x, x < 18446744073709551616 → d = hexs x 16 → v = x) → ∀ x, x < 18446744073709551616 → textL x = 120 :: d → v = x from by
      intro v hv x hx e
      by_cases hs : x ∈ special
      · rcases textL_special hs with ⟨_, t⟩ | ⟨_, t⟩ | ⟨_, t⟩ | ⟨_, t⟩ | ⟨_, t⟩ <;> (rw [t] at e; cases e)
      · rw [textL_hex hs] at e
        exact hv x hx (List.cons.inj e).2.symm)
    clear hl hn he
    go_enter Tryz.func90, Tryz.ntmps90
    go_wp2_with fail
    refine HC.out.mono ?_
    rintro e w' ⟨rfl, rfl⟩
    go_wp2_with fail
    refine HU.out.mono ?_
    rintro e w1 ⟨hb1, v, er, hv, hg, rfl⟩
    have Hv := Lib.hid hv
    have Hg := Lib.hid hg
    clear hv hg
    go_wp2
    go_ret
    exact ⟨hb1, v, Hv.out, rfl, Hx.out v Hg.out⟩
  · have hd1 : ∀ d, l ≠ 120 :: d := fun d e => hx ⟨d, e⟩
    have HC := Lib.hid (cut_no 120 l w (by omega) hl hd1)
    have HW := Lib.hid (fun w => words_any w)
    by_cases hm : ∃ d, l = 45 :: d
    · obtain ⟨rest, rfl⟩ := hm
      have HC2 := Lib.hid (cut_yes 45 rest w)
      have Hrest := Lib.hid (show ∀ x ∈ rest, x < 256 from fun x hx => hl x (by simp [hx]))
      clear hl hn he hd1 hx
      generalize str (45 :: rest) = s0 at *
      go_enter Tryz.func90, Tryz.ntmps90
      go_wp2_with fail
      refine HC.out.mono ?_
      rintro e w' ⟨rfl, rfl⟩
      go_wp2_with fail
      refine HC2.out.mono ?_
      rintro e w' ⟨rfl, rfl⟩
      go_wp2_with fail
      refine (HW.out _).mono ?_
      rintro e w1 ⟨⟨b, rfl, hown, _⟩, hb1⟩
      unfold OwnsWords at hown
      go_wp2_with (first
        | (at_range; refine wpList_range_own _ rfl _ 118 rfl 44 9 mapKey Tryz.underlying118 _ b 3 _ rfl hown ?_; intro w0 hrg0 hg0 hs0)
        | go_in)
      go_frame
      go_loopw [10, 11] (fun _ _ wr => ∃ (left : Lit → Bool) (cnt : Nat), wr.ranges Tryz.prog 44 (plainElem (H := Unit) Tryz.prog 9) b w1.heap.size 3 wordsD left cnt ∧ Below w.heap.size w wr ∧ Lefts left rest)
        (fun _ _ wr => wr.rangeLeft b w1.heap.size)
      case atStart => exact ⟨_, _, hrg0, hb1.grown (hg0.but none) hb1.size (fun j hj => by cases hj), lefts_start rest⟩
      case round =>
        obtain ⟨left, cnt, hrg, hgw, hlf⟩ := hrel
        have Hgw := Lib.hid hgw
        have Hlf := Lib.hid hlf
        clear hgw hlf
        go_wp2_with (first
          | (at_next; refine wpList_next_ranges_is _ rfl _ rfl 44 9 .u64 mapKey Tryz.underlying44 Tryz.underlying9 b w1.heap.size 3 _ _ _ rfl hrg ?_ ?_)
          | go_in)
        · intro _ hl0
          have Hend := Lib.hid (no_text_neg (lefts_end Hlf.out hl0))
          clear hl0
          go_wp2
          go_ret
          exact ⟨Hgw.out, 0, by omega, rfl, Hend.out⟩
        · intro x c w2 cnt1 hwx hwc hlx hat hrg1 hlt hg1 hs1 hen
          obtain ⟨word, rfl, hword⟩ := words_entry hat
          have Hgw2 := Lib.hid (Hgw.out.grown hg1 Hgw.out.size (fun j hj => by cases hj; exact hb1.size))
          by_cases hsame : word = rest
          · subst hsame
            have hq := str_eq word
            obtain ⟨key, rfl, hkey, hf⟩ := found_neg hword
            have Hf := Lib.hid hf
            have Hk := Lib.hid hkey
            have hor := or_high key Hk.out
            clear hword hat hwx hwc hlx hf hkey
            go_wp2
            go_ret
            exact ⟨Hgw2.out, (key + W), by have := Hk.out; unfold W at this ⊢; omega, rfl, Hf.out⟩
          · have hq : ((str word).toList == (str rest).toList) = false := str_ne (word_byte hword) Hrest.out hsame
            have Hlf2 := Lib.hid (lefts_next Hlf.out hword hsame)
            clear hword hat hwx hwc hsame
            go_wp2
            go_roundw
            case rel => exact ⟨_, cnt1, hrg1, Hgw2.out, Hlf2.out⟩
            case measure => rw [hrg1.left_eq, hrg.left_eq]; exact hlt
    · have hd : (∀ d, l ≠ 120 :: d) ∧ ∀ d, l ≠ 45 :: d := ⟨hd1, fun d e => hm ⟨d, e⟩⟩
      have HC2 := Lib.hid (cut_no 45 l w (by omega) hl hd.2)
      have Hl := Lib.hid hl
      clear hl hn he hd1 hx hm
      go_enter Tryz.func90, Tryz.ntmps90
      go_wp2_with fail
      refine HC.out.mono ?_
      rintro e w' ⟨rfl, rfl⟩
      go_wp2_with fail
      refine HC2.out.mono ?_
      rintro e w' ⟨rfl, rfl⟩
      go_wp2_with fail
      refine (HW.out _).mono ?_
      rintro e w1 ⟨⟨b, rfl, hown, _⟩, hb1⟩
      unfold OwnsWords at hown
      go_wp2_with (first
        | (at_range; refine wpList_range_own _ rfl _ 118 rfl 44 9 mapKey Tryz.underlying118 _ b 3 _ rfl hown ?_; intro w0 hrg0 hg0 hs0)
        | go_in)
      go_frame
      go_loopw [10, 11] (fun _ _ wr => ∃ (left : Lit → Bool) (cnt : Nat), wr.ranges Tryz.prog 44 (plainElem (H := Unit) Tryz.prog 9) b w1.heap.size 3 wordsD left cnt ∧ Below w.heap.size w wr ∧ Lefts left l)
        (fun _ _ wr => wr.rangeLeft b w1.heap.size)
      case atStart => exact ⟨_, _, hrg0, hb1.grown (hg0.but none) hb1.size (fun j hj => by cases hj), lefts_start l⟩
      case round =>
        obtain ⟨left, cnt, hrg, hgw, hlf⟩ := hrel
        have Hgw := Lib.hid hgw
        have Hlf := Lib.hid hlf
        clear hgw hlf
        go_wp2_with (first
          | (at_next; refine wpList_next_ranges_is _ rfl _ rfl 44 9 .u64 mapKey Tryz.underlying44 Tryz.underlying9 b w1.heap.size 3 _ _ _ rfl hrg ?_ ?_)
          | go_in)
        · intro _ hl0
          have Hend := Lib.hid (no_text_pos hd (lefts_end Hlf.out hl0))
          clear hl0
          go_wp2
          go_ret
          exact ⟨Hgw.out, 0, by omega, rfl, Hend.out⟩
        · intro x c w2 cnt1 hwx hwc hlx hat hrg1 hlt hg1 hs1 hen
          obtain ⟨word, rfl, hword⟩ := words_entry hat
          have Hgw2 := Lib.hid (Hgw.out.grown hg1 Hgw.out.size (fun j hj => by cases hj; exact hb1.size))
          by_cases hsame : word = l
          · subst hsame
            have hq := str_eq word
            obtain ⟨key, rfl, hkey, hf⟩ := found_pos hd hword
            have Hf := Lib.hid hf
            have Hk := Lib.hid hkey
            have hor := or_zero key Hk.out
            clear hword hat hwx hwc hlx hf hkey
            go_wp2
            go_ret
            exact ⟨Hgw2.out, key, by have := Hk.out; unfold W at this; omega, rfl, Hf.out⟩
          · have hq : ((str word).toList == (str l).toList) = false := str_ne (word_byte hword) Hl.out hsame
            have Hlf2 := Lib.hid (lefts_next Hlf.out hword hsame)
            clear hword hat hwx hwc hsame
            go_wp2
            go_roundw
            case rel => exact ⟨_, cnt1, hrg1, Hgw2.out, Hlf2.out⟩
            case measure => rw [hrg1.left_eq, hrg.left_eq]; exact hlt
end Go.Proofs.YtpnfnmeilhiebaaGreatDoor

/- The walk of the code's Parse. -/
namespace Go.Proofs.YtpnfnmeilhiebaaGreatDoor
open Go.RowKit Fl

/-- Every string is a list of bytes. -/
theorem str_of (s : ByteArray) : ∃ l, (∀ x ∈ l, x < 256) ∧ s = str l := by
  refine ⟨s.data.toList.map UInt8.toNat, fun x hx => ?_, ?_⟩
  · obtain ⟨u, _, rfl⟩ := List.mem_map.1 hx
    exact u.toNat_lt
  · apply ByteArray.ext
    unfold str
    rw [List.map_map]
    have e : (UInt8.ofNat ∘ UInt8.toNat) = id := by funext u; simp
    rw [e, List.map_id]

theorem bitsB_ofB {g : Nat} (h : bitsB g = g) : ofB g = some g := by rw [ofB_bits, if_pos h]

set_option maxRecDepth 100000 in
set_option maxHeartbeats 800000 in
theorem nparse_any (l : List Nat) (w : World) (hl : ∀ x ∈ l, x < 256) (hn : l.length ≤ 1000000) (he : Errs w) (ht : Tab16 w) :
    Calls Tryz.prog 76 #[.string (str l)] w (ParseEnd w l) := by
  have HG := Lib.hid (guess_any l w hl hn he)
  have Hl := Lib.hid hl
  have Ht := Lib.hid ht
  clear hl hn he ht
  generalize hs : str l = s at *
  have Hs := Lib.hid hs
  clear hs
  go_enter Tryz.func76, Tryz.ntmps76
  go_wp2_with fail
  refine HG.out.mono ?_
  rintro e w1 ⟨hb1, g, hg, rfl, hx⟩
  have HO := Lib.hid (of_any g w1 hg)
  have Hg := Lib.hid hg
  have Hx := Lib.hid hx
  clear hg hx
  by_cases h : bitsB g = g
  · have HT := Lib.hid (text_any g w1 Hg.out (by
      have h := Ht.out
      unfold Tab16 at h ⊢
      rw [hb1.cell (World.block_lt_of_cell? _ _ h)]
      exact h))
    rw [bitsB_ofB h] at HO
    by_cases htx : textL (bitsB g) = l
    · have hq : ((str (textL (bitsB g))).toList == s.toList) = true := by rw [htx, Hs.out]; exact beq_self_eq_true _
      have Htx := Lib.hid htx
      clear h htx
      generalize hS : str (textL (bitsB g)) = S at *
      clear hS
      go_wp2_with fail
      refine HO.out.mono ?_
      rintro e w' ⟨rfl, rfl⟩
      go_wp2_with fail
      refine HT.out.mono ?_
      rintro e w2 ⟨rfl, hb2⟩
      go_wp2
      go_ret2
      exact ⟨hb1.trans (hb2.mono hb1.size), .inl ⟨g, Hg.out, Htx.out, rfl⟩⟩
    · have hq : ((str (textL (bitsB g))).toList == s.toList) = false := by rw [← Hs.out]; exact str_ne (textL_byte _) Hl.out htx
      have Hno := Lib.hid (show ∀ b, b < 18446744073709551616 → textL (bitsB b) ≠ l from by
        intro b hb e
        have e2 := Hx.out (bitsB b) (bitsB_lt hb) e
        rw [← e2, ← h] at e
        exact htx e)
      clear h htx
      generalize hS : str (textL (bitsB g)) = S at *
      clear hS
      go_wp2_with fail
      refine HO.out.mono ?_
      rintro e w' ⟨rfl, rfl⟩
      go_wp2_with fail
      refine HT.out.mono ?_
      rintro e w2 ⟨rfl, hb2⟩
      go_wp2
      go_ret2
      exact ⟨hb1.trans (hb2.mono hb1.size), .inr ⟨Hno.out, rfl⟩⟩
  · have hO : ofB g = none := by rw [ofB_bits, if_neg h]
    rw [hO] at HO
    have Hno := Lib.hid (show ∀ b, b < 18446744073709551616 → textL (bitsB b) ≠ l from by
      intro b hb e
      have e2 := Hx.out (bitsB b) (bitsB_lt hb) e
      rw [e2, bitsB_idem] at h
      exact h rfl)
    clear h hO
    go_wp2_with fail
    refine HO.out.mono ?_
    rintro e w' ⟨rfl, rfl⟩
    go_wp2
    go_ret2
    exact ⟨hb1, .inr ⟨Hno.out, rfl⟩⟩
end Go.Proofs.YtpnfnmeilhiebaaGreatDoor

