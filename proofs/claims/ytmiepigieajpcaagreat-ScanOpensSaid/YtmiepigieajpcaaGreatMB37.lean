import Derived.Lib.MapLaws
import Derived.Lib.IndexAny
import Derived.Laws.Runes
import Derived.Test.YtmiepigieajpcaaGreatMB30
import Derived.Test.YtmiepigieajpcaaGreatShelf
import Derived.Laws.RangeString
import Derived.Laws.RangeAny
import Derived.Deep.LoopGhost
import Derived.Test.YtmiepigieajpcaaGreatMB36
import Derived.Sort.OwnSortedInts
/- How a string's range steps over bytes above 127: the rune is valid, and none of its bytes is below 128. -/
namespace Go.Proofs.YtmiepigieajpcaaGreat

theorem high_bytes (s : List UInt8) (i n : Nat) (hn : n ≤ 4) (h : ∀ k, k < n → i + k < s.length ∧ 128 ≤ (s.getD (i + k) 0).toNat) : i + n ≤ s.length ∨ n = 0 := by
  rcases Nat.eq_zero_or_pos n with h0 | h0
  · exact .inr h0
  · have := (h (n - 1) (by omega)).1
    exact .inl (by omega)

theorem high_step (s : ByteArray) (i : Nat) (hi : i < s.size) (h : 128 ≤ (s.data.toList.getD i 0).toNat) :
    128 ≤ (Utf8.decode s i).1 ∧ Utf8.valid ((Utf8.decode s i).1 : Int) = true ∧ 1 ≤ (Utf8.decode s i).2 ∧ i + (Utf8.decode s i).2 ≤ s.size ∧
      ∀ j b, i ≤ j → j < i + (Utf8.decode s i).2 → s.data.toList[j]? = some b → 128 ≤ b.toNat := by
  have hsz : s.data.toList.length = s.size := (Lib.size_eq s).symm
  have hget : ∀ j b, s.data.toList[j]? = some b → s.data.toList.getD j 0 = b := fun j b hb => by rw [List.getD, hb]; rfl
  rw [Lib.decode_N]
  have hv : ∀ r : Nat, (r < 55296 ∨ 57344 ≤ r) → r ≤ 1114111 → Utf8.valid (r : Int) = true := by
    intro r h1 h2
    unfold Utf8.valid
    rcases h1 with h1 | h1
    · rw [show decide ((0 : Int) ≤ (r : Int)) = true from decide_eq_true (by omega), show decide ((r : Int) < 0xD800) = true from decide_eq_true (by omega)]; rfl
    · rw [show decide ((0xE000 : Int) ≤ (r : Int)) = true from decide_eq_true (by omega), show decide ((r : Int) ≤ 0x10FFFF) = true from decide_eq_true (by omega)]; simp
  have l0 := (s.data.toList.getD i 0).toNat_lt
  have l1 := (s.data.toList.getD (i + 1) 0).toNat_lt
  have l2 := (s.data.toList.getD (i + 2) 0).toNat_lt
  have l3 := (s.data.toList.getD (i + 3) 0).toNat_lt
  rcases Lib.decodeN_shape (s.data.toList.length - i) (s.data.toList.getD i 0).toNat (s.data.toList.getD (i + 1) 0).toNat (s.data.toList.getD (i + 2) 0).toNat (s.data.toList.getD (i + 3) 0).toNat with
    ⟨a, e⟩ | ⟨a, b, c, d, e⟩ | ⟨a, b, c, d, f, g, e⟩ | ⟨a, b, c, d, f, g, k, e⟩ | e
  · omega
  · rw [e]
    refine ⟨d, hv _ (by omega) (by omega), by show 1 ≤ 2; omega, by show i + 2 ≤ _; omega, fun j x h1 h2 hx => ?_⟩
    have h2 : j < i + 2 := h2
    rcases (show j = i ∨ j = i + 1 by omega) with rfl | rfl
    · rw [← hget _ _ hx]; exact h
    · rw [← hget _ _ hx]; omega
  · rw [e]
    refine ⟨by show 128 ≤ _; omega, hv _ (by omega) (by omega), by show 1 ≤ 3; omega, by show i + 3 ≤ _; omega, fun j x h1 h2 hx => ?_⟩
    have h2 : j < i + 3 := h2
    rcases (show j = i ∨ j = i + 1 ∨ j = i + 2 by omega) with rfl | rfl | rfl
    · rw [← hget _ _ hx]; exact h
    · rw [← hget _ _ hx]; omega
    · rw [← hget _ _ hx]; omega
  · rw [e]
    refine ⟨by show 128 ≤ _; omega, hv _ (by omega) (by omega), by show 1 ≤ 4; omega, by show i + 4 ≤ _; omega, fun j x h1 h2 hx => ?_⟩
    have h2 : j < i + 4 := h2
    rcases (show j = i ∨ j = i + 1 ∨ j = i + 2 ∨ j = i + 3 by omega) with rfl | rfl | rfl | rfl
    · rw [← hget _ _ hx]; exact h
    · rw [← hget _ _ hx]; omega
    · rw [← hget _ _ hx]; omega
    · rw [← hget _ _ hx]; omega
  · rw [e]
    refine ⟨by show 128 ≤ 65533; omega, hv _ (by omega) (by omega), by show 1 ≤ 1; omega, by show i + 1 ≤ _; omega, fun j x h1 h2 hx => ?_⟩
    have h2 : j < i + 1 := h2
    obtain rfl : j = i := by omega
    rw [← hget _ _ hx]; exact h
end Go.Proofs.YtmiepigieajpcaaGreat

/- The walk of the code's Number of segments. -/
namespace Go.Proofs.YtmiepigieajpcaaGreat
open Go.RowKit

theorem segname_no (n : Int) (w : World) (h : ¬ (1 ≤ n ∧ n ≤ 99999999)) :
    Calls Tryz.prog 48 #[.int .i64 n] w fun e w' => e = .returned (.tuple #[.string (str []), .bool false]) ∧ Below w.heap.size w w' := by
  have he : str [] = ⟨#[]⟩ := rfl
  rw [he]
  have HI := Lib.hid (seginrange_any n w)
  rw [decide_eq_false h] at HI
  clear h he
  go_enter Tryz.func48, Tryz.ntmps48
  go_wp2_with fail
  refine HI.out.mono ?_
  rintro e w' ⟨rfl, rfl⟩
  go_wp2
  go_ret2
  exact ⟨rfl, Below.refl _ _⟩

theorem segname_any (n : Int) (w : World) : Calls Tryz.prog 48 #[.int .i64 n] w fun e w' => NameEnd n e ∧ Below w.heap.size w w' := by
  by_cases h : 1 ≤ n ∧ n ≤ 99999999
  · obtain ⟨N, rfl⟩ : ∃ N : Nat, n = (N : Int) := ⟨n.toNat, by omega⟩
    refine (segname_yes N w (by omega) (by omega)).mono ?_
    rintro e w' ⟨rfl, hb⟩
    exact ⟨.inl ⟨h.1, h.2, rfl⟩, hb⟩
  · refine (segname_no n w h).mono ?_
    rintro e w' ⟨rfl, hb⟩
    exact ⟨.inr ⟨h, rfl⟩, hb⟩

theorem sg_map_inj {a b : List Nat} (ha : ∀ x ∈ a, x < 256) (hb : ∀ x ∈ b, x < 256) : (a.map UInt8.ofNat = b.map UInt8.ofNat) ↔ a = b := ⟨ofNat_inj ha hb, fun h => by rw [h]⟩

theorem logL_byte : ∀ x ∈ logL, x < 256 := by decide

theorem cut_log_yes {l : List Nat} (w : World) (h : l.take 4 = logL) :
    Calls Tryz.prog 139 #[.string (str l), .string (str logL)] w fun e w' => e = .returned (.tuple #[.string (str (l.drop 4)), .bool true]) ∧ w = w' := by
  have hc := Tryz.strings_CutPrefix (str l) (str logL) w
  have h1 : (str l).data.toList = l.map UInt8.ofNat := rfl
  have h2 : (str logL).data.toList = logL.map UInt8.ofNat := rfl
  have h3 : Lib.hasPrefix (str l).data.toList (str logL).data.toList = true := by
    rw [h1, h2]
    unfold Lib.hasPrefix
    rw [List.isPrefixOf_iff_prefix]
    refine ⟨(l.drop 4).map UInt8.ofNat, ?_⟩
    rw [← List.map_append, ← h, List.take_append_drop]
  have h4 : Lib.trimPrefix (str l).data.toList (str logL).data.toList = (l.drop 4).map UInt8.ofNat := by
    unfold Lib.trimPrefix
    rw [if_pos h3, h1, h2, List.map_drop]
    rfl
  rw [h3, h4] at hc
  refine hc.mono ?_
  rintro e w' ⟨rfl, rfl⟩
  exact ⟨rfl, rfl⟩

theorem cut_log_no {l : List Nat} (w : World) (hl : ∀ x ∈ l, x < 256) (h : l.take 4 ≠ logL) :
    Calls Tryz.prog 139 #[.string (str l), .string (str logL)] w fun e w' => (∃ s, e = .returned (.tuple #[.string s, .bool false])) ∧ w = w' := by
  have hc := Tryz.strings_CutPrefix (str l) (str logL) w
  have h1 : (str l).data.toList = l.map UInt8.ofNat := rfl
  have h2 : (str logL).data.toList = logL.map UInt8.ofNat := rfl
  have h3 : Lib.hasPrefix (str l).data.toList (str logL).data.toList = false := by
    rw [h1, h2]
    unfold Lib.hasPrefix
    rw [Bool.eq_false_iff]
    intro e
    rw [List.isPrefixOf_iff_prefix] at e
    obtain ⟨r, hr⟩ := e
    have e2 := congrArg (List.take 4) hr
    rw [List.take_left' (by rfl), ← List.map_take] at e2
    exact h (ofNat_inj (fun x hx => hl x (List.mem_of_mem_take hx)) logL_byte e2.symm)
  rw [h3] at hc
  refine hc.mono ?_
  rintro e w' ⟨rfl, rfl⟩
  exact ⟨⟨_, rfl⟩, rfl⟩

theorem sg_byte {l : List Nat} (hl : ∀ x ∈ l, x < 256) (k : Nat) (hk : k < l.length) : (str l).data.toList.getD k 0 = UInt8.ofNat (l.getD k 0) ∧ (UInt8.ofNat (l.getD k 0)).toNat = l.getD k 0 := by
  have h0 : (str l).data.toList = l.map UInt8.ofNat := rfl
  constructor
  · rw [h0, List.getD_eq_getElem?_getD, List.getElem?_map, List.getElem?_eq_getElem hk, List.getD_eq_getElem?_getD, List.getElem?_eq_getElem hk]; rfl
  · have h4 : l.getD k 0 < 256 := by
      rw [List.getD_eq_getElem?_getD, List.getElem?_eq_getElem hk]
      exact hl _ (List.getElem_mem _)
    rw [UInt8.toNat_ofNat']
    omega

def SuRel (t : List Nat) (w : World) (n : Value) (wr : World) : Prop := ∃ k : Nat, k ≤ 8 ∧ n = .int .i64 ((valD (t.take k) 0 : Nat) : Int) ∧ Digits (t.take k) ∧ wr = w.iter (str t) k

theorem take_val {t : List Nat} {k : Nat} (ht : t.length = 8) (hk : k ≤ 8) (hd : Digits (t.take k)) : valD (t.take k) 0 < 100000000 := by
  have h1 := (dig_valD k (t.take k) (by rw [List.length_take]; omega) hd).2
  have h2 : 10 ^ k ≤ 10 ^ 8 := Nat.pow_le_pow_right (by omega) hk
  omega

theorem take_snocS {t : List Nat} {k : Nat} (hk : k < t.length) : t.take (k + 1) = t.take k ++ [t.getD k 0] := by
  rw [List.take_succ_eq_append_getElem hk, List.getD_eq_getElem?_getD, List.getElem?_eq_getElem hk]
  rfl

set_option maxRecDepth 100000 in
set_option maxHeartbeats 3200000 in
theorem segnum_8 (l : List Nat) (w : World) (hl : ∀ x ∈ l, x < 256) (h4 : l.take 4 = logL) (h8 : (l.drop 4).length = 8) :
    Calls Tryz.prog 92 #[.string (str l)] w fun e w' => NumEnd l e ∧ Below w.heap.size w w' := by
  have HC := Lib.hid (cut_log_yes w h4)
  have Hno := Lib.hid (fun k (hk : k < 8) (hc : (l.drop 4).getD k 0 < 48 ∨ 57 < (l.drop 4).getD k 0) => no_digit (l := l) (k := k + 4) (by omega) (by rw [List.length_drop] at h8; omega) (by
    have e : l.getD (k + 4) 0 = (l.drop 4).getD k 0 := by
      rw [List.getD_eq_getElem?_getD, List.getD_eq_getElem?_getD, List.getElem?_drop, Nat.add_comm]
    rw [e]; exact hc))
  have Hyes := Lib.hid (show Digits (l.drop 4) → segNum l = valD (l.drop 4) 0 from fun h => by
    unfold segNum
    rw [if_pos ⟨h4, h8, h⟩])
  have hlt : ∀ x ∈ l.drop 4, x < 256 := fun x hx => hl x (List.mem_of_mem_drop hx)
  clear hl h4
  generalize l.drop 4 = t at *
  have hsz : (str t).size = 8 := by rw [str_size]; exact h8
  have hb8 := fun k (hk : k < 8) => sg_byte hlt k (by rw [h8]; exact hk)
  have HL := Lib.hid (show str logL = ⟨#[108, 111, 103, 45]⟩ from rfl)
  rw [HL.out] at HC
  have Hb0 := Lib.hid (fun k => (Below.refl w.heap.size w).alloc (Nat.le_refl _) (.stringIter (str t) k))
  have H8 := Lib.hid h8
  have Hb8 := Lib.hid hb8
  clear HL h8 hb8 hlt
  generalize str l = s at *
  go_enter Tryz.func92, Tryz.ntmps92
  go_wp2_with fail
  refine HC.out.mono ?_
  rintro e w' ⟨rfl, rfl⟩
  go_wp2
  go_loopg [6] 8 (fun g n wr => ∃ k : Nat, k ≤ 8 ∧ 8 - k ≤ g ∧ n = .int .i64 ((valD (t.take k) 0 : Nat) : Int) ∧ Digits (t.take k) ∧ wr = w.iter (str t) k)
  case atStart => exact ⟨0, by omega, by omega, by simp [valD], by simp [Digits], rfl⟩
  case round =>
    obtain ⟨k, hk, hg, rfl, hd, rfl⟩ := hrel
    have hv := take_val H8.out hk hd
    have Hd := Lib.hid hd
    clear hd
    by_cases hlt : k < 8
    · obtain ⟨hx1, hx2⟩ := Hb8.out k hlt
      have hks : k < (str t).size := by rw [hsz]; exact hlt
      have hget : (((str t)[k]'hks).toNat) = t.getD k 0 := by
        have e1 : (str t)[k]'hks = (str t).data.toList.getD k 0 := by
          rw [List.getD_eq_getElem?_getD, Lib.data_getElem? (str t) k hks]; rfl
        rw [e1, hx1, hx2]
      have HNo := Lib.hid (Hno.out k hlt)
      have Htk := Lib.hid (take_snocS (t := t) (k := k) (by rw [H8.out]; exact hlt))
      by_cases hc : t.getD k 0 < 128
      · have hnx := fun ty => run_next_ascii (P := Tryz.prog) w (str t) k ty hks (by rw [hget]; exact hc)
        rw [hget] at hnx
        have HB1 := Lib.hid (Hb0.out (k + 1))
        generalize hV : valD (t.take k) 0 = v at *
        have HV := Lib.hid hV
        have Hlt := Lib.hid hlt
        have Hg := Lib.hid hg
        clear hx1 hx2 hget hV hg
        generalize t.getD k 0 = c at *
        by_cases c1 : c < 48
        · go_wp2
          go_ret2
          exact ⟨numEnd_no (HNo.out (.inl c1)), HB1.out⟩
        · by_cases c2 : 57 < c
          · go_wp2
            go_ret2
            exact ⟨numEnd_no (HNo.out (.inr c2)), HB1.out⟩
          · have Hv := Lib.hid (show (((10 * v + (c - 48) : Nat)) : Int) = 10 * (v : Int) + ((c : Int) - 48) by omega)
            have Hc1 := Lib.hid c1
            have Hc2 := Lib.hid c2
            have hc3 : (48 : Int) ≤ c := by omega
            have hc4 : (c : Int) ≤ 57 := by omega
            go_wp2
            go_roundg (8 - (k + 1))
            case measure => have := Hg.out; have := Hlt.out; omega
            case rel =>
              refine ⟨k + 1, Hlt.out, Nat.le_refl _, ?_, ?_, rfl⟩
              · rw [Htk.out, valD_snoc, HV.out, Hv.out]
              · rw [Htk.out]; exact digits_snoc Hd.out (by have := Hc1.out; omega) (by have := Hc2.out; omega)
      · have hnx := fun ty => run_next_any (P := Tryz.prog) w (str t) k ty hks
        obtain ⟨d1, d2, d3, d4, _⟩ := high_step (str t) k hks (by rw [hx1, hx2]; omega)
        have HB1 := Lib.hid (Hb0.out (k + (Utf8.decode (str t) k).2))
        obtain ⟨r, n, hdec⟩ : ∃ r n, Utf8.decode (str t) k = (r, n) := ⟨_, _, rfl⟩
        rw [hdec] at hnx d1 d2 HB1
        have hr1 : ¬ ((r : Int) < 48) := by have : 128 ≤ r := d1; omega
        have hr2 : (57 : Int) < (r : Int) := by have : 128 ≤ r := d1; omega
        clear hx1 hx2 hget d1 d2 d3 d4 hdec hg
        generalize valD (t.take k) 0 = v at *
        have HNo2 := Lib.hid (HNo.out (.inr (by omega)))
        clear hc
        go_wp2
        go_ret2
        exact ⟨numEnd_no HNo2.out, HB1.out⟩
    · obtain rfl : k = 8 := by omega
      have hte : t.take 8 = t := List.take_of_length_le (by rw [H8.out]; omega)
      have hnx := fun ty => run_next_end (P := Tryz.prog) w (str t) 8 ty (by rw [hsz]; omega)
      have HB1 := Lib.hid (Hb0.out 8)
      have Hseg := Lib.hid (Hyes.out (by have := Hd.out; rwa [hte] at this))
      rw [hte] at hv ⊢
      clear hte hg
      generalize valD t 0 = v at *
      have HI := Lib.hid (seginrange_any (v : Int) (w.iter (str t) 8))
      rw [show decide (1 ≤ (v : Int) ∧ (v : Int) ≤ 99999999) = decide (0 < v) by rw [decide_eq_decide]; omega] at HI
      have HE := Lib.hid (show NumEnd l (.returned (.tuple #[.int .i64 (v : Int), .bool (decide (0 < v))])) by unfold NumEnd; rw [Hseg.out])
      generalize decide (0 < v) = b at *
      go_wp2_with fail
      refine HI.out.mono ?_
      rintro e w' ⟨rfl, rfl⟩
      go_wp2
      go_ret2
      exact ⟨HE.out, HB1.out⟩

theorem segnum_any (l : List Nat) (w : World) (hl : ∀ x ∈ l, x < 256) (hmax : l.length ≤ 9223372036854775807) :
    Calls Tryz.prog 92 #[.string (str l)] w fun e w' => NumEnd l e ∧ Below w.heap.size w w' := by
  by_cases h4 : l.take 4 = logL
  · by_cases h8 : (l.drop 4).length = 8
    · exact segnum_8 l w hl h4 h8
    · have HC := Lib.hid (cut_log_yes w h4)
      have HL := Lib.hid (show str logL = ⟨#[108, 111, 103, 45]⟩ from rfl)
      rw [HL.out] at HC
      have Hf := Lib.hid (numEnd_no (l := l) (by
        unfold segNum
        rw [if_neg]
        rintro ⟨_, h2, _⟩
        exact h8 h2))
      have hsz : (str (l.drop 4)).size = (l.drop 4).length := str_size _
      have hne : (((str (l.drop 4)).size : Int) != 8) = true := by rw [bne_iff_ne]; omega
      have hm : (str (l.drop 4)).size ≤ 9223372036854775807 := by rw [hsz, List.length_drop]; omega
      clear hl h4 h8 hsz HL hmax
      generalize str (l.drop 4) = t at *
      generalize str l = s at *
      go_enter Tryz.func92, Tryz.ntmps92
      go_wp2_with fail
      refine HC.out.mono ?_
      rintro e w' ⟨rfl, rfl⟩
      go_wp2
      go_ret2
      exact ⟨Hf.out, Below.refl _ _⟩
  · have HC := Lib.hid (cut_log_no w hl h4)
    have HL := Lib.hid (show str logL = ⟨#[108, 111, 103, 45]⟩ from rfl)
    rw [HL.out] at HC
    have Hf := Lib.hid (numEnd_no (l := l) (by
      unfold segNum
      rw [if_neg]
      rintro ⟨h1, _⟩
      exact h4 h1))
    clear hl h4 HL hmax
    generalize str l = s at *
    go_enter Tryz.func92, Tryz.ntmps92
    go_wp2_with fail
    refine HC.out.mono ?_
    rintro e w' ⟨⟨t, rfl⟩, rfl⟩
    go_wp2
    go_ret2
    exact ⟨Hf.out, Below.refl _ _⟩
end Go.Proofs.YtmiepigieajpcaaGreat

/- The walk of the code's List of segments. -/
namespace Go.Proofs.YtmiepigieajpcaaGreat
open Go.RowKit

theorem numsOf_next {ls : List (List Nat)} {k : Nat} (hk : k < ls.length) {x : Int} : NumsOf (ls.take (k + 1)) x ↔ NumsOf (ls.take k) x ∨ (0 < segNum (ls.getD k []) ∧ x = ((segNum (ls.getD k []) : Nat) : Int)) := by
  have e : ls.take (k + 1) = ls.take k ++ [ls.getD k []] := by
    rw [List.take_succ_eq_append_getElem hk, List.getD_eq_getElem?_getD, List.getElem?_eq_getElem hk]; rfl
  unfold NumsOf
  rw [e]
  constructor
  · rintro ⟨l, hl, h1, h2⟩
    rcases List.mem_append.1 hl with h | h
    · exact .inl ⟨l, h, h1, h2⟩
    · obtain rfl : l = ls.getD k [] := by simpa using h
      exact .inr ⟨h1, h2⟩
  · rintro (⟨l, hl, h1, h2⟩ | ⟨h1, h2⟩)
    · exact ⟨l, List.mem_append.2 (.inl hl), h1, h2⟩
    · exact ⟨_, List.mem_append.2 (.inr (by simp)), h1, h2⟩

/-- A list of the call's own: the numbers of all segments among some names, in ascending order, each once. -/
def ListEnd (w : World) (ls : List (List Nat)) (e : Ending) (w' : World) : Prop :=
  ∃ (v : Value) (out : List Int), e = .returned v ∧ Asc out ∧ (∀ x, x ∈ out ↔ NumsOf ls x) ∧ out.length ≤ ls.length ∧ w'.ownsRow w.heap.size 3 1 v out.length (intsE out) ∧ Below w.heap.size w w'

def SlRel (w : World) (n : Nat) (ls : List (List Nat)) (v i : Value) (wr : World) : Prop :=
  ∃ (k : Nat) (zs : List Int), k ≤ n ∧ i = .int .i64 (k : Int) ∧ zs.length ≤ k ∧ (∀ x, x ∈ zs ↔ NumsOf (ls.take k) x) ∧ wr.ownsRow w.heap.size 3 1 v zs.length (intsE zs) ∧ Below w.heap.size w wr

set_option maxRecDepth 100000 in
set_option maxHeartbeats 3200000 in
theorem seglist_any (a : Option Addr) (n cap : Nat) (ls : List (List Nat)) (w : World) (hS : Strs w a n cap ls) (hn : n ≤ 1000) :
    Calls Tryz.prog 47 #[.slice a n cap] w (ListEnd w ls) := by
  have HS := Lib.hid hS
  clear hS
  go_enter Tryz.func47, Tryz.ntmps47
  go_wp2
  go_loopw [3, 10] (fun v i wr => SlRel w n ls v i wr) (fun _ i _ => n - (intOf i).toNat)
  case atStart => exact ⟨0, [], Nat.zero_le _, rfl, Nat.le_refl _, fun x => ⟨fun h => (by cases h), fun ⟨l, hl, _⟩ => (by rw [List.take_zero] at hl; cases hl)⟩, World.ownsRow_nil _ _ _ _, Below.refl _ _⟩
  case round =>
    obtain ⟨k, zs, hk, rfl, hzl, hmem, hown, hbel⟩ := hrel
    have Hmem := Lib.hid hmem
    have Hzl := Lib.hid hzl
    have Hown := Lib.hid hown
    have Hbel := Lib.hid hbel
    clear hmem hzl hown hbel
    by_cases hlt : k < n
    · obtain ⟨b, o, rfl, hc0⟩ := (HS.out.grow Hbel.out).cell (by omega)
      have hc := hc0 k hlt
      have Hnx := Lib.hid (fun x => numsOf_next (ls := ls) (k := k) (by rw [HS.out.len]; exact hlt) (x := x))
      obtain ⟨hby, hlen⟩ : (∀ x ∈ ls.getD k [], x < 256) ∧ (ls.getD k []).length ≤ 9223372036854775807 := by
        rw [List.getD_eq_getElem?_getD, List.getElem?_eq_getElem (by rw [HS.out.len]; exact hlt)]
        exact HS.out.byte _ (List.getElem_mem _)
      have HC := Lib.hid (segnum_any (ls.getD k []) wr hby hlen)
      unfold NumEnd at HC
      clear hc0 hby hlen
      generalize ls.getD k [] = l at *
      have Hlt := Lib.hid hlt
      generalize str l = s at *
      by_cases h0 : 0 < segNum l
      · have H0 := Lib.hid h0
        rw [decide_eq_true h0] at HC
        generalize segNum l = m at *
        clear h0
        go_wp2_with fail
        refine HC.out.mono ?_
        rintro e w1 ⟨rfl, hb1⟩
        have Hb1 := Lib.hid hb1
        have Hbw := Lib.hid (Hbel.out.trans (hb1.mono Hbel.out.size))
        clear hb1
        have Hrow := Lib.hid (int_row w1 (m : Int))
        have Hown1 := Lib.hid ((own_below Hown.out Hb1.out).alloc (.cells #[.int .i64 (m : Int)] 3))
        go_wp2_with (at_builtin; refine wpList_append_ints _ rfl _ _ 33 rfl w.heap.size 3 Tryz.underlying33 info_int _ _ _ rfl Hown1.out _ 1 1 [(m : Int)] rfl Hrow.out (by have := Hzl.out; omega) (by simp; have := Hbw.out.size; omega) ?_; intro v' w2 g1 g2)
        go_roundw
        case rel =>
          refine ⟨k + 1, zs ++ [(m : Int)], Hlt.out, by go_num, by have := Hzl.out; simp; omega, fun x => ?_, by simpa using g1, ?_⟩
          · rw [Hnx.out x, List.mem_append, Hmem.out x, List.mem_singleton]
            constructor
            · rintro (h | h)
              · exact .inl h
              · exact .inr ⟨H0.out, h⟩
            · rintro (h | ⟨_, h⟩)
              · exact .inl h
              · exact .inr h
          · have hb : Below w.heap.size w (w1.alloc (.cells #[.int .i64 (m : Int)] 3)) := Hbw.out.alloc Hbw.out.size _
            exact hb.grown g2 hb.size (fun x hx => (Hown.out.lt x hx).1)
        case measure => simp [intOf]; have := Hlt.out; omega
      · have H0 := Lib.hid h0
        rw [decide_eq_false h0] at HC
        generalize segNum l = m at *
        clear h0
        go_wp2_with fail
        refine HC.out.mono ?_
        rintro e w1 ⟨rfl, hb1⟩
        have Hb1 := Lib.hid hb1
        have Hbw := Lib.hid (Hbel.out.trans (hb1.mono Hbel.out.size))
        clear hb1
        go_wp2
        go_roundw
        case rel =>
          refine ⟨k + 1, zs, Hlt.out, by go_num, by have := Hzl.out; omega, fun x => ?_, own_below Hown.out Hb1.out, Hbw.out⟩
          rw [Hnx.out x, Hmem.out x]
          constructor
          · exact .inl
          · rintro (h | ⟨h, _⟩)
            · exact h
            · exact absurd h H0.out
        case measure => simp [intOf]; have := Hlt.out; omega
    · obtain rfl : k = n := by omega
      have Hfull := Lib.hid (show ls.take k = ls from List.take_of_length_le (by rw [HS.out.len]; omega))
      by_cases hz : zs.length = 0
      · obtain rfl : zs = [] := List.length_eq_zero_iff.1 hz
        obtain ⟨p, cp, rfl, _⟩ := own_ints Hown.out
        have H1 := Lib.hid (Tryz.slices_Sort_int_none p cp wr)
        have H2 := Lib.hid (Tryz.slices_Compact_int_empty p cp wr)
        clear hz hlt
        go_wp2_with fail
        refine H1.out.mono ?_
        rintro e w1 ⟨rfl, rfl⟩
        go_wp2_with fail
        refine H2.out.mono ?_
        rintro e w2 ⟨rfl, rfl⟩
        go_wp2
        go_ret
        exact ⟨_, [], rfl, List.Pairwise.nil, fun x => by rw [Hmem.out x, Hfull.out], Nat.zero_le _, Hown.out, Hbel.out⟩
      · obtain ⟨g, cp, rfl, hbg, hgl, hnc, hcm, _, hH⟩ := Lib.holds_of_ownsRow (enc := Value.int .i64) Hown.out (by
          intro e
          have h := Hown.out
          rw [e] at h
          rcases h.2 with ⟨_, h0⟩ | ⟨_, _, _, e2, _⟩
          · omega
          · cases e2)
        obtain ⟨cur, hcur, hcs⟩ : ∃ cur, wr.heap[g]? = some (.cells cur 3 (0, 0)) ∧ cur.size = cp * 1 := by
          rcases Hown.out.2 with ⟨e, _⟩ | ⟨g', cp', cur, e, _, hg, _, _, hs, _⟩
          · cases e
          · cases e; exact ⟨cur, hg, hs⟩
        have H1 := Lib.hid (Tryz.slices_Sort_int g 0 cp zs wr hH hgl (by have := Hzl.out; omega))
        have hml : (zs.mergeSort fun x y => decide (x ≤ y)).length = zs.length := List.length_mergeSort zs
        have Hs := Lib.hid (fun (q : Nat) (os : Array Obj) => ownsRow_sortedI (w := wr) (base := w.heap.size) (n := q) (os := os) hml hbg hcur hnc (by rw [maxLen_nat] at hcm ⊢; exact hcm) hcs)
        have Hg := Lib.hid (fun (q : Nat) (os : Array Obj) => Hbel.out.grown (grownBy_sortedI (w := wr) (g := g) (n := q) (os := os) (zs.mergeSort fun x y => decide (x ≤ y)).toArray) Hbel.out.size (fun x hx => by cases hx; exact hbg))
        obtain ⟨hasc, hmm⟩ := compact_sorted zs
        have Hasc := Lib.hid hasc
        have Hmm := Lib.hid hmm
        clear hasc hmm hH hcur hcs
        generalize hso : zs.mergeSort (fun x y => decide (x ≤ y)) = so at *
        clear hso
        have Hml := Lib.hid hml
        have hz2 : zs.length ≤ 1000 := by have := Hzl.out; omega
        have Hcl := Lib.hid (show (Lib.compact so).length ≤ so.length from by
          unfold Lib.compact Lib.compactUpTo
          rw [List.length_map]
          exact Nat.le_trans (List.length_filter_le _ _) (by rw [List.length_range]; exact Nat.le_refl _))
        have hcap : zs.length ≤ cp := hnc
        clear hml hz hlt
        go_wp2_with fail
        refine H1.out.mono ?_
        rintro e w1 ⟨rfl, q, os, hw1⟩
        have ho := Hs.out q os
        have hb1 := Hg.out q os
        rw [← hw1] at ho hb1
        have Ho := Lib.hid ho
        have Hb1 := Lib.hid hb1
        obtain ⟨g2, cp2, e2, hbg2, _, _, _, _, hH2⟩ := Lib.holds_of_ownsRow (enc := Value.int .i64) (zs := so) ho (by intro e; cases e)
        cases e2
        have H2 := Tryz.slices_Compact_int g 0 cp so w1 hH2 (by rw [Hml.out]; omega) (by rw [Hml.out]; exact hcap)
        rw [Hml.out] at H2
        have H2 := Lib.hid H2
        have Hup := Lib.hid (fun q2 => Lib.ownsRow_putRow (q := q2) (k := (Lib.compact so).length) (ys := Lib.compact so ++ List.replicate (zs.length - (Lib.compact so).length) 0) ho (by have := Hcl.out; have := Hml.out; simp; omega) (by have := Hcl.out; have := Hml.out; omega))
        have Hbl := Lib.hid (fun q2 => Lib.below_putRow (q := q2) (enc := Value.int .i64) (d := (Lib.compact so ++ List.replicate (zs.length - (Lib.compact so).length) 0).toArray) hb1 hbg)
        rw [List.take_left' rfl] at Hup
        clear ho hb1 hw1 hH2
        rename_i H20
        clear H20
        go_wp2_with fail
        refine H2.out.mono ?_
        rintro e w2 ⟨rfl, q2, rfl⟩
        have hu := Lib.hid (Hup.out q2)
        have hb := Lib.hid (Hbl.out q2)
        generalize Go.Sort.putRow (Value.int .i64) (Go.Sort.ahead w1 q2) g 0 (Lib.compact so ++ List.replicate (zs.length - (Lib.compact so).length) 0).toArray = w2 at *
        go_wp2
        go_ret
        exact ⟨_, _, rfl, Hasc.out, fun x => by rw [Hmm.out x, Hmem.out x, Hfull.out], by have := Hcl.out; have := Hml.out; have := HS.out.len; have := Hzl.out; omega, hu.out, hb.out⟩
end Go.Proofs.YtmiepigieajpcaaGreat

