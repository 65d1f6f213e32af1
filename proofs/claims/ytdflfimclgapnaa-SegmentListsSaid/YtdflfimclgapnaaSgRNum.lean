/- The walk of the reference's Number of segments. -/
import Derived.Test.YtdflfimclgapnaaSgRName
namespace Go.Proofs.Ytdflfimclgapnaa
open Go.RowKit

theorem sg_get {l : List Nat} (hl : ∀ x ∈ l, x < 256) : ∀ (k : Nat) (h : k < (str l).size), ((((str l)[k]'h).toNat : Nat) : Int) = ((l.getD k 0 : Nat) : Int) := by
  intro k h
  have hk : k < l.length := by rw [str_size] at h; exact h
  have h5 : k < (l.map UInt8.ofNat).length := by rw [List.length_map]; exact hk
  have e : (str l)[k]'h = UInt8.ofNat (l.getD k 0) := by
    rw [List.getD_eq_getElem?_getD, List.getElem?_eq_getElem hk]
    show ((l.map UInt8.ofNat).toArray)[k]'(by simpa using h5) = _
    rw [List.getElem_toArray]
    exact List.getElem_map _
  rw [e]
  have h4 : l.getD k 0 < 256 := by
    rw [List.getD_eq_getElem?_getD, List.getElem?_eq_getElem hk]
    exact hl _ (List.getElem_mem _)
  simp [UInt8.toNat_ofNat']
  simp at h4
  omega

/-- What Number answers. -/
def NumEnd (l : List Nat) (e : Ending) : Prop := e = .returned (.tuple #[.int .i64 ((segNum l : Nat) : Int), .bool (decide (0 < segNum l))])

theorem numEnd_no {l : List Nat} (h : segNum l = 0) : NumEnd l (.returned (.tuple #[.int .i64 0, .bool false])) := by
  unfold NumEnd
  rw [h]; rfl
theorem numEnd_yes {l : List Nat} {n : Nat} (h : segNum l = n) (hn : 0 < n) : NumEnd l (.returned (.tuple #[.int .i64 (n : Int), .bool true])) := by
  unfold NumEnd
  rw [h, decide_eq_true hn]

/-- The digits between the fourth byte and the k-th. -/
def midL (l : List Nat) (k : Nat) : List Nat := (l.take k).drop 4

theorem mid_next {l : List Nat} {k : Nat} (h4 : 4 ≤ k) (hk : k < l.length) : midL l (k + 1) = midL l k ++ [l.getD k 0] := by
  unfold midL
  rw [List.take_succ_eq_append_getElem hk, List.drop_append_of_le_length (by rw [List.length_take]; omega), List.getD_eq_getElem?_getD, List.getElem?_eq_getElem hk]
  rfl

theorem mid_len {l : List Nat} {k : Nat} (h4 : 4 ≤ k) (hk : k ≤ l.length) : (midL l k).length = k - 4 := by
  unfold midL
  rw [List.length_drop, List.length_take]; omega

theorem mid_val {l : List Nat} {k : Nat} (h4 : 4 ≤ k) (hk : k ≤ 12) (hl : l.length = 12) (hd : Digits (midL l k)) : valD (midL l k) 0 < 100000000 := by
  have h1 := (dig_valD (k - 4) (midL l k) (mid_len h4 (by omega)) hd).2
  have h2 : 10 ^ (k - 4) ≤ 10 ^ 8 := Nat.pow_le_pow_right (by omega) (by omega)
  omega

theorem digits_snoc {l : List Nat} {c : Nat} (h : Digits l) (h1 : 48 ≤ c) (h2 : c ≤ 57) : Digits (l ++ [c]) := by
  intro x hx
  rcases List.mem_append.1 hx with h3 | h3
  · exact h x h3
  · have : x = c := by simpa using h3
    omega

theorem no_digit {l : List Nat} {k : Nat} (h4 : 4 ≤ k) (hk : k < l.length) (hc : l.getD k 0 < 48 ∨ 57 < l.getD k 0) : segNum l = 0 := by
  unfold segNum
  rw [if_neg]
  rintro ⟨_, _, h3⟩
  have hm : l.getD k 0 ∈ l.drop 4 := by
    rw [List.getD_eq_getElem?_getD, List.getElem?_eq_getElem hk]
    refine List.mem_iff_getElem.2 ⟨k - 4, by rw [List.length_drop]; omega, ?_⟩
    rw [List.getElem_drop]
    congr 1
    omega
  have := h3 _ hm
  omega

def RnRel (l : List Nat) (n i : Value) : Prop := ∃ k : Nat, 4 ≤ k ∧ k ≤ 12 ∧ i = .int .i64 (k : Int) ∧ n = .int .i64 ((valD (midL l k) 0 : Nat) : Int) ∧ Digits (midL l k)

set_option maxRecDepth 100000 in
set_option maxHeartbeats 1600000 in
theorem rsegnum_12 (l : List Nat) (w : World) (hl : ∀ x ∈ l, x < 256) (hn : l.length = 12) :
    Calls Try.prog 11 #[.string (str l)] w fun e w' => NumEnd l e ∧ w = w' := by
  have hsz : (str l).size = 12 := by rw [str_size]; exact hn
  have hg := sg_get hl
  have HL := Lib.hid hl
  have HN := Lib.hid hn
  clear hl hn
  have Hst := Lib.hid (show RnRel l (.int .i64 0) (.int .i64 4) from ⟨4, by omega, by omega, rfl, by unfold midL; simp [valD], by unfold midL; intro c hc; simp at hc⟩)
  generalize hS : str l = S at *
  have HS := Lib.hid hS
  clear hS
  go_enter Try.func11, Try.ntmps11
  go_wp2
  go_loop [4, 5] (fun n i => RnRel l n i) (fun _ i => 12 - (intOf i).toNat)
  case atStart => exact Hst.out
  case round =>
    obtain ⟨k, h4, hk, rfl, rfl, hdg⟩ := hrel
    have hv := mid_val h4 hk HN.out hdg
    have Hdg := Lib.hid hdg
    clear hdg
    by_cases hlt : k < 12
    · have hgk := hg k (by rw [hsz]; exact hlt)
      have hji : (k : Int) < (S.size : Int) := by omega
      have Hnx := Lib.hid (mid_next (l := l) h4 (by rw [HN.out]; exact hlt))
      have Hno := Lib.hid (no_digit (l := l) h4 (by rw [HN.out]; exact hlt))
      have hc8 : l.getD k 0 < 256 := by
        rw [List.getD_eq_getElem?_getD, List.getElem?_eq_getElem (by rw [HN.out]; exact hlt)]
        exact HL.out _ (List.getElem_mem _)
      have Hlt := Lib.hid hlt
      have H4 := Lib.hid h4
      generalize l.getD k 0 = c at *
      generalize hV : valD (midL l k) 0 = v at *
      have HV := Lib.hid hV
      clear hV hg
      by_cases c1 : c < 48
      · go_wp2
        go_ret2
        exact ⟨numEnd_no (Hno.out (.inl c1)), rfl⟩
      · by_cases c2 : 57 < c
        · go_wp2
          go_ret2
          exact ⟨numEnd_no (Hno.out (.inr c2)), rfl⟩
        · have Hv := Lib.hid (show (((10 * v + (c - 48) : Nat)) : Int) = 10 * (v : Int) + ((c : Int) - 48) by omega)
          have Hc1 := Lib.hid c1
          have Hc2 := Lib.hid c2
          go_wp2
          go_round
          case rel =>
            refine ⟨k + 1, by omega, Hlt.out, by go_num, ?_, ?_⟩
            · rw [Hnx.out, valD_snoc, HV.out, Hv.out]
            · rw [Hnx.out]; exact digits_snoc Hdg.out (by have := Hc1.out; omega) (by have := Hc2.out; omega)
          case measure => simp [intOf]; have := Hlt.out; omega
    · obtain rfl : k = 12 := by omega
      have HM := Lib.hid (show midL l 12 = l.drop 4 by unfold midL; rw [List.take_of_length_le (by have := HN.out; omega)])
      have HC := Lib.hid (rsegname_any ((valD (midL l 12) 0 : Nat) : Int) w)
      have Hx : ∀ n, valD (midL l 12) 0 = n → nameL n ≠ l → segNum l = 0 := by
        intro n hn hne
        unfold segNum
        rw [if_neg]
        intro hi
        have := name_segNum hi
        rw [← HM.out, hn] at this
        exact hne this
      have HX := Lib.hid Hx
      clear Hx hg
      generalize hV : valD (midL l 12) 0 = v at *
      have HV := Lib.hid hV
      clear hV
      go_wp2_with fail
      refine HC.out.mono ?_
      rintro e w' ⟨he, rfl⟩
      rcases he with ⟨g1, g2, rfl⟩ | ⟨g, rfl⟩
      · rw [show ((v : Int)).toNat = v from by omega]
        by_cases heq : nameL v = l
        · have Hf := Lib.hid (numEnd_yes (l := l) (n := v) (by rw [← heq]; exact segNum_name (by omega)) (by omega))
          have hq : ((str (nameL v)).toList == S.toList) = true := by rw [heq, HS.out]; exact beq_self_eq_true _
          generalize str (nameL v) = S2 at *
          clear heq
          go_wp2
          go_ret2
          exact ⟨Hf.out, rfl⟩
        · have Hf := Lib.hid (numEnd_no (HX.out v rfl heq))
          have hq : ((str (nameL v)).toList == S.toList) = false := by rw [← HS.out]; exact str_ne (nameL_byte v) HL.out heq
          generalize str (nameL v) = S2 at *
          clear heq
          go_wp2
          go_ret2
          exact ⟨Hf.out, rfl⟩
      · have hv0 : v = 0 := by omega
        have Hf := Lib.hid (numEnd_no (l := l) (by
          unfold segNum
          split
          · rw [← HM.out, HV.out, hv0]
          · rfl))
        clear g
        go_wp2
        go_ret2
        exact ⟨Hf.out, rfl⟩

theorem rsegnum_any (l : List Nat) (w : World) (hl : ∀ x ∈ l, x < 256) :
    Calls Try.prog 11 #[.string (str l)] w fun e w' => NumEnd l e ∧ w = w' := by
  by_cases hn : l.length = 12
  · exact rsegnum_12 l w hl hn
  · have Hf := Lib.hid (numEnd_no (l := l) (by
      unfold segNum
      rw [if_neg]
      rintro ⟨h1, h2, _⟩
      rw [List.length_drop] at h2
      omega))
    have hsz : (str l).size = l.length := str_size l
    have hne : (((str l).size : Int) != 12) = true := by rw [bne_iff_ne]; omega
    clear hl
    generalize str l = S at *
    go_enter Try.func11, Try.ntmps11
    go_wp2
    go_ret2
    exact ⟨Hf.out, rfl⟩
end Go.Proofs.Ytdflfimclgapnaa
