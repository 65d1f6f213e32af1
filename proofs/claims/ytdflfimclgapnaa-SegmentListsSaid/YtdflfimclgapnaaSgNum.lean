/- The walk of the code's Number of segments. -/
import Derived.Test.YtdflfimclgapnaaSgName
import Derived.Test.YtdflfimclgapnaaShelf
import Derived.Test.YtdflfimclgapnaaIdxM
import Derived.Laws.RangeString
import Derived.Laws.RangeAny
import Derived.Deep.LoopGhost
namespace Go.Proofs.Ytdflfimclgapnaa
open Go.RowKit

theorem segname_no (n : Int) (w : World) (h : ¬ (1 ≤ n ∧ n ≤ 99999999)) :
    Calls Try.prog 7 #[.int .i64 n] w fun e w' => e = .returned (.tuple #[.string (str []), .bool false]) ∧ Below w.heap.size w w' := by
  have he : str [] = ⟨#[]⟩ := rfl
  rw [he]
  have HI := Lib.hid (seginrange_any n w)
  rw [decide_eq_false h] at HI
  clear h he
  go_enter Try.func7, Try.ntmps7
  go_wp2_with fail
  refine HI.out.mono ?_
  rintro e w' ⟨rfl, rfl⟩
  go_wp2
  go_ret2
  exact ⟨rfl, Below.refl _ _⟩

theorem segname_any (n : Int) (w : World) : Calls Try.prog 7 #[.int .i64 n] w fun e w' => NameEnd n e ∧ Below w.heap.size w w' := by
  by_cases h : 1 ≤ n ∧ n ≤ 99999999
  · obtain ⟨N, rfl⟩ : ∃ N : Nat, n = (N : Int) := ⟨n.toNat, by omega⟩
    refine (segname_yes N w (by omega) (by omega)).mono ?_
    rintro e w' ⟨rfl, hb⟩
    exact ⟨.inl ⟨h.1, h.2, rfl⟩, hb⟩
  · refine (segname_no n w h).mono ?_
    rintro e w' ⟨rfl, hb⟩
    exact ⟨.inr ⟨h, rfl⟩, hb⟩

theorem sg_map_inj {a b : List Nat} (ha : ∀ x ∈ a, x < 256) (hb : ∀ x ∈ b, x < 256) : (a.map UInt8.ofNat = b.map UInt8.ofNat) ↔ a = b := ⟨ofNat_inj ha hb, fun h => by rw [h]⟩

theorem logL_byte : ∀ x ∈ logL, x < 256 := by decide

theorem cut_log_yes {l : List Nat} (w : World) (h : l.take 4 = logL) :
    Calls Try.prog 18 #[.string (str l), .string (str logL)] w fun e w' => e = .returned (.tuple #[.string (str (l.drop 4)), .bool true]) ∧ w = w' := by
  have hc := Try.strings_CutPrefix (str l) (str logL) w
  have h1 : (str l).data.toList = l.map UInt8.ofNat := rfl
  have h2 : (str logL).data.toList = logL.map UInt8.ofNat := rfl
  have h3 : Lib.hasPrefix (str l).data.toList (str logL).data.toList = true := by
    rw [h1, h2]
    unfold Lib.hasPrefix
    rw [List.isPrefixOf_iff_prefix]
    refine ⟨(l.drop 4).map UInt8.ofNat, ?_⟩
    rw [← List.map_append, ← h, List.take_append_drop]
  have h4 : Lib.trimPrefix (str l).data.toList (str logL).data.toList = (l.drop 4).map UInt8.ofNat := by
    unfold Lib.trimPrefix
    rw [if_pos h3, h1, h2, List.map_drop]
    rfl
  rw [h3, h4] at hc
  refine hc.mono ?_
  rintro e w' ⟨rfl, rfl⟩
  exact ⟨rfl, rfl⟩

theorem cut_log_no {l : List Nat} (w : World) (hl : ∀ x ∈ l, x < 256) (h : l.take 4 ≠ logL) :
    Calls Try.prog 18 #[.string (str l), .string (str logL)] w fun e w' => (∃ s, e = .returned (.tuple #[.string s, .bool false])) ∧ w = w' := by
  have hc := Try.strings_CutPrefix (str l) (str logL) w
  have h1 : (str l).data.toList = l.map UInt8.ofNat := rfl
  have h2 : (str logL).data.toList = logL.map UInt8.ofNat := rfl
  have h3 : Lib.hasPrefix (str l).data.toList (str logL).data.toList = false := by
    rw [h1, h2]
    unfold Lib.hasPrefix
    rw [Bool.eq_false_iff]
    intro e
    rw [List.isPrefixOf_iff_prefix] at e
    obtain ⟨r, hr⟩ := e
    have e2 := congrArg (List.take 4) hr
    rw [List.take_left' (by rfl), ← List.map_take] at e2
    exact h (ofNat_inj (fun x hx => hl x (List.mem_of_mem_take hx)) logL_byte e2.symm)
  rw [h3] at hc
  refine hc.mono ?_
  rintro e w' ⟨rfl, rfl⟩
  exact ⟨⟨_, rfl⟩, rfl⟩

theorem sg_byte {l : List Nat} (hl : ∀ x ∈ l, x < 256) (k : Nat) (hk : k < l.length) : (str l).data.toList.getD k 0 = UInt8.ofNat (l.getD k 0) ∧ (UInt8.ofNat (l.getD k 0)).toNat = l.getD k 0 := by
  have h0 : (str l).data.toList = l.map UInt8.ofNat := rfl
  constructor
  · rw [h0, List.getD_eq_getElem?_getD, List.getElem?_map, List.getElem?_eq_getElem hk, List.getD_eq_getElem?_getD, List.getElem?_eq_getElem hk]; rfl
  · have h4 : l.getD k 0 < 256 := by
      rw [List.getD_eq_getElem?_getD, List.getElem?_eq_getElem hk]
      exact hl _ (List.getElem_mem _)
    rw [UInt8.toNat_ofNat']
    omega

def SuRel (t : List Nat) (w : World) (n : Value) (wr : World) : Prop := ∃ k : Nat, k ≤ 8 ∧ n = .int .i64 ((valD (t.take k) 0 : Nat) : Int) ∧ Digits (t.take k) ∧ wr = w.iter (str t) k

theorem take_val {t : List Nat} {k : Nat} (ht : t.length = 8) (hk : k ≤ 8) (hd : Digits (t.take k)) : valD (t.take k) 0 < 100000000 := by
  have h1 := (dig_valD k (t.take k) (by rw [List.length_take]; omega) hd).2
  have h2 : 10 ^ k ≤ 10 ^ 8 := Nat.pow_le_pow_right (by omega) hk
  omega

theorem take_snoc {t : List Nat} {k : Nat} (hk : k < t.length) : t.take (k + 1) = t.take k ++ [t.getD k 0] := by
  rw [List.take_succ_eq_append_getElem hk, List.getD_eq_getElem?_getD, List.getElem?_eq_getElem hk]
  rfl

set_option maxRecDepth 100000 in
set_option maxHeartbeats 3200000 in
theorem segnum_8 (l : List Nat) (w : World) (hl : ∀ x ∈ l, x < 256) (h4 : l.take 4 = logL) (h8 : (l.drop 4).length = 8) :
    Calls Try.prog 9 #[.string (str l)] w fun e w' => NumEnd l e ∧ Below w.heap.size w w' := by
  have HC := Lib.hid (cut_log_yes w h4)
  have Hno := Lib.hid (fun k (hk : k < 8) (hc : (l.drop 4).getD k 0 < 48 ∨ 57 < (l.drop 4).getD k 0) => no_digit (l := l) (k := k + 4) (by omega) (by rw [List.length_drop] at h8; omega) (by
    have e : l.getD (k + 4) 0 = (l.drop 4).getD k 0 := by
      rw [List.getD_eq_getElem?_getD, List.getD_eq_getElem?_getD, List.getElem?_drop, Nat.add_comm]
    rw [e]; exact hc))
  have Hyes := Lib.hid (show Digits (l.drop 4) → segNum l = valD (l.drop 4) 0 from fun h => by
    unfold segNum
    rw [if_pos ⟨h4, h8, h⟩])
  have hlt : ∀ x ∈ l.drop 4, x < 256 := fun x hx => hl x (List.mem_of_mem_drop hx)
  clear hl h4
  generalize l.drop 4 = t at *
  have hsz : (str t).size = 8 := by rw [str_size]; exact h8
  have hb8 := fun k (hk : k < 8) => sg_byte hlt k (by rw [h8]; exact hk)
  have HL := Lib.hid (show str logL = ⟨#[108, 111, 103, 45]⟩ from rfl)
  rw [HL.out] at HC
  have Hb0 := Lib.hid (fun k => (Below.refl w.heap.size w).alloc (Nat.le_refl _) (.stringIter (str t) k))
  have H8 := Lib.hid h8
  have Hb8 := Lib.hid hb8
  clear HL h8 hb8 hlt
  generalize str l = s at *
  go_enter Try.func9, Try.ntmps9
  go_wp2_with fail
  refine HC.out.mono ?_
  rintro e w' ⟨rfl, rfl⟩
  go_wp2
  go_loopg [6] 8 (fun g n wr => ∃ k : Nat, k ≤ 8 ∧ 8 - k ≤ g ∧ n = .int .i64 ((valD (t.take k) 0 : Nat) : Int) ∧ Digits (t.take k) ∧ wr = w.iter (str t) k)
  case atStart => exact ⟨0, by omega, by omega, by simp [valD], by simp [Digits], rfl⟩
  case round =>
    obtain ⟨k, hk, hg, rfl, hd, rfl⟩ := hrel
    have hv := take_val H8.out hk hd
    have Hd := Lib.hid hd
    clear hd
    by_cases hlt : k < 8
    · obtain ⟨hx1, hx2⟩ := Hb8.out k hlt
      have hks : k < (str t).size := by rw [hsz]; exact hlt
      have hget : (((str t)[k]'hks).toNat) = t.getD k 0 := by
        have e1 : (str t)[k]'hks = (str t).data.toList.getD k 0 := by
          rw [List.getD_eq_getElem?_getD, Lib.data_getElem? (str t) k hks]; rfl
        rw [e1, hx1, hx2]
      have HNo := Lib.hid (Hno.out k hlt)
      have Htk := Lib.hid (take_snoc (t := t) (k := k) (by rw [H8.out]; exact hlt))
      by_cases hc : t.getD k 0 < 128
      · have hnx := fun ty => run_next_ascii (P := Try.prog) w (str t) k ty hks (by rw [hget]; exact hc)
        rw [hget] at hnx
        have HB1 := Lib.hid (Hb0.out (k + 1))
        generalize hV : valD (t.take k) 0 = v at *
        have HV := Lib.hid hV
        have Hlt := Lib.hid hlt
        have Hg := Lib.hid hg
        clear hx1 hx2 hget hV hg
        generalize t.getD k 0 = c at *
        by_cases c1 : c < 48
        · go_wp2
          go_ret2
          exact ⟨numEnd_no (HNo.out (.inl c1)), HB1.out⟩
        · by_cases c2 : 57 < c
          · go_wp2
            go_ret2
            exact ⟨numEnd_no (HNo.out (.inr c2)), HB1.out⟩
          · have Hv := Lib.hid (show (((10 * v + (c - 48) : Nat)) : Int) = 10 * (v : Int) + ((c : Int) - 48) by omega)
            have Hc1 := Lib.hid c1
            have Hc2 := Lib.hid c2
            have hc3 : (48 : Int) ≤ c := by omega
            have hc4 : (c : Int) ≤ 57 := by omega
            go_wp2
            go_roundg (8 - (k + 1))
            case measure => have := Hg.out; have := Hlt.out; omega
            case rel =>
              refine ⟨k + 1, Hlt.out, Nat.le_refl _, ?_, ?_, rfl⟩
              · rw [Htk.out, valD_snoc, HV.out, Hv.out]
              · rw [Htk.out]; exact digits_snoc Hd.out (by have := Hc1.out; omega) (by have := Hc2.out; omega)
      · have hnx := fun ty => run_next_any (P := Try.prog) w (str t) k ty hks
        obtain ⟨d1, d2, d3, d4, _⟩ := high_step (str t) k hks (by rw [hx1, hx2]; omega)
        have HB1 := Lib.hid (Hb0.out (k + (Utf8.decode (str t) k).2))
        obtain ⟨r, n, hdec⟩ : ∃ r n, Utf8.decode (str t) k = (r, n) := ⟨_, _, rfl⟩
        rw [hdec] at hnx d1 d2 HB1
        have hr1 : ¬ ((r : Int) < 48) := by have : 128 ≤ r := d1; omega
        have hr2 : (57 : Int) < (r : Int) := by have : 128 ≤ r := d1; omega
        clear hx1 hx2 hget d1 d2 d3 d4 hdec hg
        generalize valD (t.take k) 0 = v at *
        have HNo2 := Lib.hid (HNo.out (.inr (by omega)))
        clear hc
        go_wp2
        go_ret2
        exact ⟨numEnd_no HNo2.out, HB1.out⟩
    · obtain rfl : k = 8 := by omega
      have hte : t.take 8 = t := List.take_of_length_le (by rw [H8.out]; omega)
      have hnx := fun ty => run_next_end (P := Try.prog) w (str t) 8 ty (by rw [hsz]; omega)
      have HB1 := Lib.hid (Hb0.out 8)
      have Hseg := Lib.hid (Hyes.out (by have := Hd.out; rwa [hte] at this))
      rw [hte] at hv ⊢
      clear hte hg
      generalize valD t 0 = v at *
      have HI := Lib.hid (seginrange_any (v : Int) (w.iter (str t) 8))
      rw [show decide (1 ≤ (v : Int) ∧ (v : Int) ≤ 99999999) = decide (0 < v) by rw [decide_eq_decide]; omega] at HI
      have HE := Lib.hid (show NumEnd l (.returned (.tuple #[.int .i64 (v : Int), .bool (decide (0 < v))])) by unfold NumEnd; rw [Hseg.out])
      generalize decide (0 < v) = b at *
      go_wp2_with fail
      refine HI.out.mono ?_
      rintro e w' ⟨rfl, rfl⟩
      go_wp2
      go_ret2
      exact ⟨HE.out, HB1.out⟩

theorem segnum_any (l : List Nat) (w : World) (hl : ∀ x ∈ l, x < 256) (hmax : l.length ≤ 9223372036854775807) :
    Calls Try.prog 9 #[.string (str l)] w fun e w' => NumEnd l e ∧ Below w.heap.size w w' := by
  by_cases h4 : l.take 4 = logL
  · by_cases h8 : (l.drop 4).length = 8
    · exact segnum_8 l w hl h4 h8
    · have HC := Lib.hid (cut_log_yes w h4)
      have HL := Lib.hid (show str logL = ⟨#[108, 111, 103, 45]⟩ from rfl)
      rw [HL.out] at HC
      have Hf := Lib.hid (numEnd_no (l := l) (by
        unfold segNum
        rw [if_neg]
        rintro ⟨_, h2, _⟩
        exact h8 h2))
      have hsz : (str (l.drop 4)).size = (l.drop 4).length := str_size _
      have hne : (((str (l.drop 4)).size : Int) != 8) = true := by rw [bne_iff_ne]; omega
      have hm : (str (l.drop 4)).size ≤ 9223372036854775807 := by rw [hsz, List.length_drop]; omega
      clear hl h4 h8 hsz HL hmax
      generalize str (l.drop 4) = t at *
      generalize str l = s at *
      go_enter Try.func9, Try.ntmps9
      go_wp2_with fail
      refine HC.out.mono ?_
      rintro e w' ⟨rfl, rfl⟩
      go_wp2
      go_ret2
      exact ⟨Hf.out, Below.refl _ _⟩
  · have HC := Lib.hid (cut_log_no w hl h4)
    have HL := Lib.hid (show str logL = ⟨#[108, 111, 103, 45]⟩ from rfl)
    rw [HL.out] at HC
    have Hf := Lib.hid (numEnd_no (l := l) (by
      unfold segNum
      rw [if_neg]
      rintro ⟨h1, _⟩
      exact h4 h1))
    clear hl h4 HL hmax
    generalize str l = s at *
    go_enter Try.func9, Try.ntmps9
    go_wp2_with fail
    refine HC.out.mono ?_
    rintro e w' ⟨⟨t, rfl⟩, rfl⟩
    go_wp2
    go_ret2
    exact ⟨Hf.out, Below.refl _ _⟩
end Go.Proofs.Ytdflfimclgapnaa
