/- Records and their frames as plain lists: what a frame is, and that bytes fall apart into frames in one way alone. -/
import Derived.Test.YtmebffmdfnnbmaaSeals
namespace Go.Proofs.Ytmebffmdfnnbmaa
open Go.RowKit Crc

/-- The frame of a record. -/
def frameL (r : List Nat) : List Nat := sealL (little r.length ++ r)

theorem frameL_len (r : List Nat) : (frameL r).length = r.length + 8 := by
  unfold frameL
  rw [sealL_len, List.length_append, little_len]
  omega

theorem frameL_byte {r : List Nat} (h : ∀ x ∈ r, x < 256) (hr : r.length < 4294967296) : ∀ x ∈ frameL r, x < 256 := by
  refine sealL_byte fun x hx => ?_
  rcases List.mem_append.1 hx with hx | hx
  · exact little_lt hr x hx
  · exact h x hx

/-- The number that four bytes stand for. -/
def num4 (b : List Nat) : Nat := b.getD 0 0 + 256 * b.getD 1 0 + 65536 * b.getD 2 0 + 16777216 * b.getD 3 0

theorem frameL_cons (r : List Nat) (t : List Nat) : ∃ s, frameL r ++ t = r.length % 256 :: r.length / 256 % 256 :: r.length / 65536 % 256 :: r.length / 16777216 :: s :=
  ⟨_, rfl⟩

theorem num4_frame (r t : List Nat) : num4 (frameL r ++ t) = r.length := by
  obtain ⟨s, e⟩ := frameL_cons r t
  rw [e]
  show r.length % 256 + 256 * (r.length / 256 % 256) + 65536 * (r.length / 65536 % 256) + 16777216 * (r.length / 16777216) = r.length
  omega

/-- Bytes that begin with no frame. -/
def NoFrame (b : List Nat) : Prop := ∀ r t : List Nat, r.length ≤ 1048576 → b ≠ frameL r ++ t

theorem frame_uniq {r r' t t' : List Nat} (h : frameL r ++ t = frameL r' ++ t') : r = r' ∧ t = t' := by
  have hl : r.length = r'.length := by
    have := congrArg num4 h
    rwa [num4_frame, num4_frame] at this
  have h1 : frameL r = frameL r' := by
    have e1 : (frameL r ++ t).take (r.length + 8) = frameL r := by rw [← frameL_len]; exact List.take_left
    have e2 : (frameL r' ++ t').take (r.length + 8) = frameL r' := by rw [hl, ← frameL_len]; exact List.take_left
    rw [← e1, ← e2, h]
  have h2 := sealL_inj h1
  rw [hl] at h2
  refine ⟨List.append_cancel_left h2, ?_⟩
  rw [h1] at h
  exact List.append_cancel_left h

theorem noFrame_short {b : List Nat} (h : b.length < 8) : NoFrame b := by
  intro r t _ e
  have := congrArg List.length e
  rw [List.length_append, frameL_len] at this
  omega

theorem noFrame_nil : NoFrame [] := noFrame_short (by decide)

theorem noFrame_most {b : List Nat} (h : 1048576 < num4 b) : NoFrame b := by
  intro r t hr e
  have := congrArg num4 e
  rw [num4_frame] at this
  omega

theorem noFrame_len {b : List Nat} (h : b.length < num4 b + 8) : NoFrame b := by
  intro r t hr e
  have h1 := congrArg num4 e
  have h2 := congrArg List.length e
  rw [num4_frame] at h1
  rw [List.length_append, frameL_len] at h2
  omega

theorem noFrame_take {r t : List Nat} {k : Nat} (h : k < r.length + 8) : NoFrame ((frameL r ++ t).take k) := by
  intro r' t' hr e
  have e2 : frameL r ++ t = frameL r' ++ (t' ++ (frameL r ++ t).drop k) := by
    conv => lhs; rw [← List.take_append_drop k (frameL r ++ t), e]
    rw [List.append_assoc]
  obtain ⟨rfl, _⟩ := frame_uniq e2
  have := congrArg List.length e
  rw [List.length_append, frameL_len, List.length_take] at this
  omega

/-- What Open answers of the bytes in front says whether there is a frame. -/
theorem frame_of_seal {b x : List Nat} {n : Nat} (hn : n = num4 b) (hb : n + 8 ≤ b.length) (hx : sealL x = b.take (n + 8)) (h256 : ∀ y ∈ b, y < 256) : b = frameL (x.drop 4) ++ b.drop (n + 8) ∧ (x.drop 4).length = n := by
  have hl : x.length = n + 4 := by
    have := congrArg List.length hx
    rw [sealL_len, List.length_take] at this
    omega
  have e4 : x.take 4 = b.take 4 := by
    have e1 : (sealL x).take 4 = x.take 4 := by unfold sealL; rw [List.take_append_of_le_length (by omega)]
    rw [← e1, hx, List.take_take, Nat.min_eq_left (by omega)]
  have hd : (x.drop 4).length = n := by rw [List.length_drop]; omega
  have eb : ∃ b0 b1 b2 b3 s, b = b0 :: b1 :: b2 :: b3 :: s := by
    rcases b with _ | ⟨b0, _ | ⟨b1, _ | ⟨b2, _ | ⟨b3, s⟩⟩⟩⟩
    all_goals first | (simp at hb; done) | exact ⟨_, _, _, _, _, rfl⟩
  have el : little n = b.take 4 := by
    obtain ⟨b0, b1, b2, b3, s, rfl⟩ := eb
    have h0 := h256 b0 (by simp)
    have h1 := h256 b1 (by simp)
    have h2 := h256 b2 (by simp)
    have h3 := h256 b3 (by simp)
    have hn2 : n = b0 + 256 * b1 + 65536 * b2 + 16777216 * b3 := hn
    show [n % 256, n / 256 % 256, n / 65536 % 256, n / 16777216] = [b0, b1, b2, b3]
    simp only [List.cons.injEq, and_true]
    omega
  refine ⟨?_, hd⟩
  have e5 : frameL (x.drop 4) = b.take (n + 8) := by
    unfold frameL
    rw [hd, el, ← e4, List.take_append_drop, hx]
  rw [e5, List.take_append_drop]

theorem noFrame_seal {b : List Nat} {n : Nat} (hn : n = num4 b) (hx : ∀ x, sealL x ≠ b.take (n + 8)) : NoFrame b := by
  intro r t hr e
  have h1 : n = r.length := by rw [hn, e, num4_frame]
  refine hx (little r.length ++ r) ?_
  rw [e, h1, ← frameL_len]
  exact List.take_left.symm

/-- The frames of records, one after the other. -/
def joinL (ls : List (List Nat)) : List Nat := (ls.map frameL).flatten
def sizeL (ls : List (List Nat)) : Nat := (ls.map fun r => r.length + 8).sum

theorem joinL_nil : joinL [] = [] := rfl
theorem joinL_cons (r : List Nat) (ls : List (List Nat)) : joinL (r :: ls) = frameL r ++ joinL ls := rfl
theorem joinL_append (a b : List (List Nat)) : joinL (a ++ b) = joinL a ++ joinL b := by unfold joinL; rw [List.map_append, List.flatten_append]
theorem joinL_snoc (a : List (List Nat)) (r : List Nat) : joinL (a ++ [r]) = joinL a ++ frameL r := by rw [joinL_append, joinL_cons, joinL_nil, List.append_nil]
theorem sizeL_nil : sizeL [] = 0 := rfl
theorem sizeL_cons (r : List Nat) (ls : List (List Nat)) : sizeL (r :: ls) = r.length + 8 + sizeL ls := by simp [sizeL]
theorem sizeL_append (a b : List (List Nat)) : sizeL (a ++ b) = sizeL a + sizeL b := by simp [sizeL]

theorem joinL_len (ls : List (List Nat)) : (joinL ls).length = sizeL ls := by
  induction ls with
  | nil => rfl
  | cons r ls ih => rw [joinL_cons, sizeL_cons, List.length_append, frameL_len, ih]

theorem joinL_byte {ls : List (List Nat)} (h : ∀ r ∈ ls, ∀ x ∈ r, x < 256) (hr : ∀ r ∈ ls, r.length ≤ 1048576) : ∀ x ∈ joinL ls, x < 256 := by
  intro x hx
  obtain ⟨f, hf, hx⟩ := List.mem_flatten.1 hx
  obtain ⟨r, hr1, rfl⟩ := List.mem_map.1 hf
  have := hr r hr1
  exact frameL_byte (h r hr1) (by omega) x hx

/-- Bytes as frames and a rest that begins with none. -/
structure Splits (b : List Nat) (ls : List (List Nat)) (t : List Nat) : Prop where
  eq : b = joinL ls ++ t
  recs : ∀ r ∈ ls, r.length ≤ 1048576
  no : NoFrame t

theorem splits_uniq : ∀ {ls ls' : List (List Nat)} {b t t' : List Nat}, Splits b ls t → Splits b ls' t' → ls = ls' ∧ t = t'
  | [], [], b, t, t', h, h' => ⟨rfl, by have := h.eq.symm.trans h'.eq; simpa [joinL_nil] using this⟩
  | [], r :: ls', b, t, t', h, h' => by
    have e := h.eq.symm.trans h'.eq
    rw [joinL_nil, List.nil_append, joinL_cons, List.append_assoc] at e
    exact absurd e (h.no r _ (h'.recs r (by simp)))
  | r :: ls, [], b, t, t', h, h' => by
    have e := h'.eq.symm.trans h.eq
    rw [joinL_nil, List.nil_append, joinL_cons, List.append_assoc] at e
    exact absurd e (h'.no r _ (h.recs r (by simp)))
  | r :: ls, r' :: ls', b, t, t', h, h' => by
    have e := h.eq.symm.trans h'.eq
    rw [joinL_cons, joinL_cons, List.append_assoc, List.append_assoc] at e
    obtain ⟨rfl, e2⟩ := frame_uniq e
    have h1 : Splits (joinL ls ++ t) ls t := ⟨rfl, fun r hr => h.recs r (by simp [hr]), h.no⟩
    have h2 : Splits (joinL ls ++ t) ls' t' := ⟨e2, fun r hr => h'.recs r (by simp [hr]), h'.no⟩
    obtain ⟨rfl, rfl⟩ := splits_uniq h1 h2
    exact ⟨rfl, rfl⟩

theorem splits_all (ls : List (List Nat)) (h : ∀ r ∈ ls, r.length ≤ 1048576) : Splits (joinL ls) ls [] :=
  ⟨(List.append_nil _).symm, h, noFrame_nil⟩

/-- Of a beginning of frames: those that are complete. -/
theorem splits_cut (ls : List (List Nat)) (h : ∀ r ∈ ls, r.length ≤ 1048576) (i k : Nat) (hi : i ≤ ls.length) (hk : sizeL (ls.take i) ≤ k) (hno : i < ls.length → k < sizeL (ls.take (i + 1))) :
    ∃ t, Splits ((joinL ls).take k) (ls.take i) t := by
  have e : joinL ls = joinL (ls.take i) ++ joinL (ls.drop i) := by rw [← joinL_append, List.take_append_drop]
  have hl := joinL_len (ls.take i)
  refine ⟨(joinL (ls.drop i)).take (k - sizeL (ls.take i)), ?_, fun r hr => h r (List.mem_of_mem_take hr), ?_⟩
  · rw [e, List.take_append, hl, List.take_of_length_le (by omega)]
  · by_cases hlt : i < ls.length
    · have hd : ls.drop i = ls[i] :: ls.drop (i + 1) := List.drop_eq_getElem_cons hlt
      have h1 := hno hlt
      rw [List.take_succ_eq_append_getElem hlt, sizeL_append, sizeL_cons, sizeL_nil] at h1
      rw [hd, joinL_cons]
      exact noFrame_take (by omega)
    · rw [List.drop_eq_nil_of_le (by omega), joinL_nil, List.take_nil]
      exact noFrame_nil

theorem splits_follow (ls : List (List Nat)) (h : ∀ r ∈ ls, r.length ≤ 1048576) {more : List Nat} {ys : List (List Nat)} {t : List Nat} (hy : Splits more ys t) : Splits (joinL ls ++ more) (ls ++ ys) t := by
  refine ⟨by rw [hy.eq, joinL_append, List.append_assoc], fun r hr => ?_, hy.no⟩
  rcases List.mem_append.1 hr with hr | hr
  · exact h r hr
  · exact hy.recs r hr

theorem splits_step {b : List Nat} {ls : List (List Nat)} {r t : List Nat} {rest : List Nat} (hb : b = joinL ls ++ rest) (hr : rest = frameL r ++ t) : b = joinL (ls ++ [r]) ++ t := by
  rw [hb, hr, joinL_snoc, List.append_assoc]
end Go.Proofs.Ytmebffmdfnnbmaa
