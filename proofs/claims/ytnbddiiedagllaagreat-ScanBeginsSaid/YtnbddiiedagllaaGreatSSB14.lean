import Derived.Test.YtnbddiiedagllaaGreatSSB1
import Derived.Test.YtnbddiiedagllaaGreatSSB13
import Derived.Lib.SlicesCompact
/- A row of bytes of the call's own, that is written byte by byte. -/
namespace Go.Proofs.YtnbddiiedagllaaGreat
open Go.RowKit

def U8Row (w : World) (g N : Nat) : Prop := ∃ cur : Array Value, w.heap[g]? = some (.cells cur 5 (0, 0)) ∧ ∀ i, i < N → ∃ z : Int, cur[i]? = some (.int .u8 z)

theorem U8Row.cell {w : World} {g N i : Nat} (h : U8Row w g N) (hi : i < N) : ∃ z : Int, w.cell? ⟨g, i, none⟩ = some (.int .u8 z) := by
 obtain ⟨cur, hg, hc⟩ := h
 obtain ⟨z, hz⟩ := hc i hi
 exact ⟨z, by rw [cell_of_row w g i cur _ _ hg, hz]⟩

theorem U8Row.set {w : World} {g N : Nat} (h : U8Row w g N) (i : Nat) (z : Int) : U8Row (w.setCell ⟨g, i, none⟩ (.int .u8 z)) g N := by
 obtain ⟨cur, hg, hc⟩ := h
 refine ⟨cur.setIfInBounds i (.int .u8 z), ?_, fun j hj => ?_⟩
 ·simp [World.setCell, Array.getElem?_modify, hg]
 ·obtain ⟨z', hz'⟩ := hc j hj
  rw [Array.getElem?_setIfInBounds]
  by_cases e : i = j
  ·subst e
   have hlt : i < cur.size := (Array.getElem?_eq_some_iff.1 hz').1
   exact ⟨z, by simp [hlt]⟩
  ·exact ⟨z', by rw [if_neg e]; exact hz'⟩

theorem U8Row.below {w w' : World} {g N : Nat} (h : U8Row w g N) (hb : Below w.heap.size w w') : U8Row w' g N := by
 obtain ⟨cur, hg, hc⟩ := h
 exact ⟨cur, (hb.block g (Array.getElem?_eq_some_iff.1 hg).1).trans hg, hc⟩

theorem own_row {w : World} {base : Nat} {v : Value} {m : Nat} {l : List Nat} (h : w.ownsRow base 5 1 v m (u8s l)) (hm : 0 < m) : ∃ g cp, v = .slice (some ⟨g, 0, none⟩) m cp ∧ base ≤ g ∧ m ≤ cp ∧ U8Row w g m := by
 have hlen : l.length = m := by have := h.1; simpa [u8s] using this
 rcases h.2 with ⟨_, h0⟩ | ⟨g, cap', cur, rfl, hbg, hg, hle, _, hsz, htake⟩
 ·omega
 ·refine ⟨g, cap', rfl, hbg, hle, cur, hg, fun i hi => ?_⟩
  have e1 : (u8s l)[i]? = some (.int .u8 (l.getD i 0 : Nat)) := by
   unfold u8s
   rw [List.getElem?_map, List.getElem?_eq_getElem (by omega), List.getD_eq_getElem?_getD, List.getElem?_eq_getElem (by omega)]; rfl
  rw [← htake, List.getElem?_take, if_pos (by omega)] at e1
  exact ⟨_, by simpa using e1⟩

end Go.Proofs.YtnbddiiedagllaaGreat

/- The walk of the statement SumSeals: it returns true whatever the bytes are. -/
namespace Go.Proofs.YtnbddiiedagllaaGreat
open Go.RowKit Crc

theorem sealL_inj {a b : List Nat} (h : sealL a = sealL b) : a = b := by
 have hl : a.length = b.length := by
  have := congrArg List.length h
  rw [sealL_len, sealL_len] at this
  omega
 have h1 : (sealL a).take a.length = a := List.take_left
 have h2 : (sealL b).take b.length = b := List.take_left
 rw [← h1, ← h2, h, hl]

end Go.Proofs.YtnbddiiedagllaaGreat

/- Records and their frames as plain lists: what a frame is, and that bytes fall apart into frames in one way alone. -/
namespace Go.Proofs.YtnbddiiedagllaaGreat
open Go.RowKit Crc

def frameL (r : List Nat) : List Nat := sealL (little r.length ++ r)

theorem frameL_len (r : List Nat) : (frameL r).length = r.length + 8 := by
 unfold frameL
 rw [sealL_len, List.length_append, little_len]
 omega

theorem frameL_byte {r : List Nat} (h : ∀ x ∈ r, x < 256) (hr : r.length < 4294967296) : ∀ x ∈ frameL r, x < 256 := by
 refine sealL_byte fun x hx => ?_
 rcases List.mem_append.1 hx with hx | hx
 ·exact little_lt hr x hx
 ·exact h x hx

def num4 (b : List Nat) : Nat := b.getD 0 0 + 256 * b.getD 1 0 + 65536 * b.getD 2 0 + 16777216 * b.getD 3 0

theorem frameL_cons (r : List Nat) (t : List Nat) : ∃ s, frameL r ++ t = r.length % 256 :: r.length / 256 % 256 :: r.length / 65536 % 256 :: r.length / 16777216 :: s :=
 ⟨_, rfl⟩

theorem num4_frame (r t : List Nat) : num4 (frameL r ++ t) = r.length := by
 obtain ⟨s, e⟩ := frameL_cons r t
 rw [e]
 show r.length % 256 + 256 * (r.length / 256 % 256) + 65536 * (r.length / 65536 % 256) + 16777216 * (r.length / 16777216) = r.length
 omega

def NoFrame (b : List Nat) : Prop := ∀ r t : List Nat, r.length ≤ 1048576 → b ≠ frameL r ++ t

theorem frame_uniq {r r' t t' : List Nat} (h : frameL r ++ t = frameL r' ++ t') : r = r' ∧ t = t' := by
 have hl : r.length = r'.length := by
  have := congrArg num4 h
  rwa [num4_frame, num4_frame] at this
 have h1 : frameL r = frameL r' := by
  have e1 : (frameL r ++ t).take (r.length + 8) = frameL r := by rw [← frameL_len]; exact List.take_left
  have e2 : (frameL r' ++ t').take (r.length + 8) = frameL r' := by rw [hl, ← frameL_len]; exact List.take_left
  rw [← e1, ← e2, h]
 have h2 := sealL_inj h1
 rw [hl] at h2
 refine ⟨List.append_cancel_left h2, ?_⟩
 rw [h1] at h
 exact List.append_cancel_left h

theorem noFrame_short {b : List Nat} (h : b.length < 8) : NoFrame b := by
 intro r t _ e
 have := congrArg List.length e
 rw [List.length_append, frameL_len] at this
 omega

theorem noFrame_nil : NoFrame [] := noFrame_short (by decide)

theorem noFrame_most {b : List Nat} (h : 1048576 < num4 b) : NoFrame b := by
 intro r t hr e
 have := congrArg num4 e
 rw [num4_frame] at this
 omega

theorem noFrame_len {b : List Nat} (h : b.length < num4 b + 8) : NoFrame b := by
 intro r t hr e
 have h1 := congrArg num4 e
 have h2 := congrArg List.length e
 rw [num4_frame] at h1
 rw [List.length_append, frameL_len] at h2
 omega

theorem noFrame_take {r t : List Nat} {k : Nat} (h : k < r.length + 8) : NoFrame ((frameL r ++ t).take k) := by
 intro r' t' hr e
 have e2 : frameL r ++ t = frameL r' ++ (t' ++ (frameL r ++ t).drop k) := by
  conv => lhs; rw [← List.take_append_drop k (frameL r ++ t), e]
  rw [List.append_assoc]
 obtain ⟨rfl, _⟩ := frame_uniq e2
 have := congrArg List.length e
 rw [List.length_append, frameL_len, List.length_take] at this
 omega

theorem frame_of_seal {b x : List Nat} {n : Nat} (hn : n = num4 b) (hb : n + 8 ≤ b.length) (hx : sealL x = b.take (n + 8)) (h256 : ∀ y ∈ b, y < 256) : b = frameL (x.drop 4) ++ b.drop (n + 8) ∧ (x.drop 4).length = n := by
 have hl : x.length = n + 4 := by
  have := congrArg List.length hx
  rw [sealL_len, List.length_take] at this
  omega
 have e4 : x.take 4 = b.take 4 := by
  have e1 : (sealL x).take 4 = x.take 4 := by unfold sealL; rw [List.take_append_of_le_length (by omega)]
  rw [← e1, hx, List.take_take, Nat.min_eq_left (by omega)]
 have hd : (x.drop 4).length = n := by rw [List.length_drop]; omega
 have eb : ∃ b0 b1 b2 b3 s, b = b0 :: b1 :: b2 :: b3 :: s := by
  rcases b with _ | ⟨b0, _ | ⟨b1, _ | ⟨b2, _ | ⟨b3, s⟩⟩⟩⟩
  all_goals first | (simp at hb; done) | exact ⟨_, _, _, _, _, rfl⟩
 have el : little n = b.take 4 := by
  obtain ⟨b0, b1, b2, b3, s, rfl⟩ := eb
  have h0 := h256 b0 (by simp)
  have h1 := h256 b1 (by simp)
  have h2 := h256 b2 (by simp)
  have h3 := h256 b3 (by simp)
  have hn2 : n = b0 + 256 * b1 + 65536 * b2 + 16777216 * b3 := hn
  show [n % 256, n / 256 % 256, n / 65536 % 256, n / 16777216] = [b0, b1, b2, b3]
  simp only [List.cons.injEq, and_true]
  omega
 refine ⟨?_, hd⟩
 have e5 : frameL (x.drop 4) = b.take (n + 8) := by
  unfold frameL
  rw [hd, el, ← e4, List.take_append_drop, hx]
 rw [e5, List.take_append_drop]

theorem noFrame_seal {b : List Nat} {n : Nat} (hn : n = num4 b) (hx : ∀ x, sealL x ≠ b.take (n + 8)) : NoFrame b := by
 intro r t hr e
 have h1 : n = r.length := by rw [hn, e, num4_frame]
 refine hx (little r.length ++ r) ?_
 rw [e, h1, ← frameL_len]
 exact List.take_left.symm

def joinL (ls : List (List Nat)) : List Nat := (ls.map frameL).flatten
def sizeL (ls : List (List Nat)) : Nat := (ls.map fun r => r.length + 8).sum

theorem joinL_nil : joinL [] = [] := rfl
theorem joinL_cons (r : List Nat) (ls : List (List Nat)) : joinL (r :: ls) = frameL r ++ joinL ls := rfl
theorem joinL_append (a b : List (List Nat)) : joinL (a ++ b) = joinL a ++ joinL b := by unfold joinL; rw [List.map_append, List.flatten_append]
theorem joinL_snoc (a : List (List Nat)) (r : List Nat) : joinL (a ++ [r]) = joinL a ++ frameL r := by rw [joinL_append, joinL_cons, joinL_nil, List.append_nil]
theorem sizeL_nil : sizeL [] = 0 := rfl
theorem sizeL_cons (r : List Nat) (ls : List (List Nat)) : sizeL (r :: ls) = r.length + 8 + sizeL ls := by simp [sizeL]
theorem sizeL_append (a b : List (List Nat)) : sizeL (a ++ b) = sizeL a + sizeL b := by simp [sizeL]

theorem joinL_len (ls : List (List Nat)) : (joinL ls).length = sizeL ls := by
 induction ls with
 | nil => rfl
 | cons r ls ih => rw [joinL_cons, sizeL_cons, List.length_append, frameL_len, ih]

structure Splits (b : List Nat) (ls : List (List Nat)) (t : List Nat) : Prop where
 eq : b = joinL ls ++ t
 recs : ∀ r ∈ ls, r.length ≤ 1048576
 no : NoFrame t

theorem splits_uniq : ∀ {ls ls' : List (List Nat)} {b t t' : List Nat}, Splits b ls t → Splits b ls' t' → ls = ls' ∧ t = t'
 | [], [], b, t, t', h, h' => ⟨rfl, by have := h.eq.symm.trans h'.eq; simpa [joinL_nil] using this⟩
 | [], r :: ls', b, t, t', h, h' => by
  have e := h.eq.symm.trans h'.eq
  rw [joinL_nil, List.nil_append, joinL_cons, List.append_assoc] at e
  exact absurd e (h.no r _ (h'.recs r (by simp)))
 | r :: ls, [], b, t, t', h, h' => by
  have e := h'.eq.symm.trans h.eq
  rw [joinL_nil, List.nil_append, joinL_cons, List.append_assoc] at e
  exact absurd e (h'.no r _ (h.recs r (by simp)))
 | r :: ls, r' :: ls', b, t, t', h, h' => by
  have e := h.eq.symm.trans h'.eq
  rw [joinL_cons, joinL_cons, List.append_assoc, List.append_assoc] at e
  obtain ⟨rfl, e2⟩ := frame_uniq e
  have h1 : Splits (joinL ls ++ t) ls t := ⟨rfl, fun r hr => h.recs r (by simp [hr]), h.no⟩
  have h2 : Splits (joinL ls ++ t) ls' t' := ⟨e2, fun r hr => h'.recs r (by simp [hr]), h'.no⟩
  obtain ⟨rfl, rfl⟩ := splits_uniq h1 h2
  exact ⟨rfl, rfl⟩

theorem splits_all (ls : List (List Nat)) (h : ∀ r ∈ ls, r.length ≤ 1048576) : Splits (joinL ls) ls [] :=
 ⟨(List.append_nil _).symm, h, noFrame_nil⟩

theorem splits_cut (ls : List (List Nat)) (h : ∀ r ∈ ls, r.length ≤ 1048576) (i k : Nat) (hi : i ≤ ls.length) (hk : sizeL (ls.take i) ≤ k) (hno : i < ls.length → k < sizeL (ls.take (i + 1))) :
  ∃ t, Splits ((joinL ls).take k) (ls.take i) t := by
 have e : joinL ls = joinL (ls.take i) ++ joinL (ls.drop i) := by rw [← joinL_append, List.take_append_drop]
 have hl := joinL_len (ls.take i)
 refine ⟨(joinL (ls.drop i)).take (k - sizeL (ls.take i)), ?_, fun r hr => h r (List.mem_of_mem_take hr), ?_⟩
 ·rw [e, List.take_append, hl, List.take_of_length_le (by omega)]
 ·by_cases hlt : i < ls.length
  ·have hd : ls.drop i = ls[i] :: ls.drop (i + 1) := List.drop_eq_getElem_cons hlt
   have h1 := hno hlt
   rw [List.take_succ_eq_append_getElem hlt, sizeL_append, sizeL_cons, sizeL_nil] at h1
   rw [hd, joinL_cons]
   exact noFrame_take (by omega)
  ·rw [List.drop_eq_nil_of_le (by omega), joinL_nil, List.take_nil]
   exact noFrame_nil

end Go.Proofs.YtnbddiiedagllaaGreat

/- Names and numbers of segments, as plain lists of bytes. -/
namespace Go.Proofs.YtnbddiiedagllaaGreat

def digN : Nat → Nat → List Nat
 | 0, _ => []
 | k + 1, n => digN k (n / 10) ++ [48 + n % 10]

theorem digN_len : ∀ k n, (digN k n).length = k
 | 0, _ => rfl
 | k + 1, n => by rw [digN, List.length_append, digN_len]; rfl

theorem digN_digit : ∀ k n, ∀ c ∈ digN k n, 48 ≤ c ∧ c ≤ 57
 | 0, _, c, h => by simp [digN] at h
 | k + 1, n, c, h => by
  rw [digN, List.mem_append] at h
  rcases h with h | h
  ·exact digN_digit k _ c h
  ·have : c = 48 + n % 10 := by simpa using h
   omega

def valD : List Nat → Nat → Nat
 | [], a => a
 | c :: r, a => valD r (10 * a + (c - 48))

theorem valD_snoc : ∀ (l : List Nat) (c a : Nat), valD (l ++ [c]) a = 10 * valD l a + (c - 48)
 | [], _, _ => rfl
 | x :: l, c, a => by rw [List.cons_append, valD, valD_snoc l, valD]

theorem valD_dig : ∀ k n, n < 10 ^ k → valD (digN k n) 0 = n
 | 0, n, h => by
  have : n = 0 := by simpa using h
  subst this; rfl
 | k + 1, n, h => by
  have h2 : n / 10 < 10 ^ k := by
   rw [Nat.div_lt_iff_lt_mul (by omega), ← Nat.pow_succ]
   exact h
  rw [digN, valD_snoc, valD_dig k _ h2]
  omega

def Digits (l : List Nat) : Prop := ∀ c ∈ l, 48 ≤ c ∧ c ≤ 57

instance (l : List Nat) : Decidable (Digits l) := inferInstanceAs (Decidable (∀ c ∈ l, 48 ≤ c ∧ c ≤ 57))

theorem dig_valD : ∀ (k : Nat) (l : List Nat), l.length = k → Digits l → digN k (valD l 0) = l ∧ valD l 0 < 10 ^ k
 | 0, l, h, _ => by
  obtain rfl : l = [] := List.length_eq_zero_iff.1 h
  exact ⟨rfl, by decide⟩
 | k + 1, l, h, hd => by
  obtain ⟨r, c, rfl⟩ : ∃ r c, l = r ++ [c] := by
   have hne : l ≠ [] := by intro e; rw [e] at h; simp at h
   exact ⟨l.dropLast, l.getLast hne, (List.dropLast_concat_getLast hne).symm⟩
  have hc := hd c (by simp)
  obtain ⟨h1, h2⟩ := dig_valD k r (by simpa using h) (fun x hx => hd x (by simp [hx]))
  rw [valD_snoc]
  have h3 : (10 * valD r 0 + (c - 48)) / 10 = valD r 0 := by omega
  have h4 : 48 + (10 * valD r 0 + (c - 48)) % 10 = c := by omega
  refine ⟨by rw [digN, h3, h4, h1], ?_⟩
  rw [Nat.pow_succ]
  omega

def logL : List Nat := [108, 111, 103, 45]
def nameL (n : Nat) : List Nat := logL ++ digN 8 n

theorem nameL_len (n : Nat) : (nameL n).length = 12 := by
 unfold nameL logL
 rw [List.length_append, digN_len]; rfl

theorem nameL_byte (n : Nat) : ∀ c ∈ nameL n, c < 256 := by
 intro c hc
 rcases List.mem_append.1 hc with h | h
 ·unfold logL at h
  simp at h
  omega
 ·have := digN_digit 8 n c h
  omega

def isNm (l : List Nat) : Prop := l.take 4 = logL ∧ (l.drop 4).length = 8 ∧ Digits (l.drop 4)
instance (l : List Nat) : Decidable (isNm l) := inferInstanceAs (Decidable (_ ∧ _ ∧ _))

def segNum (l : List Nat) : Nat := if isNm l then valD (l.drop 4) 0 else 0

theorem segNum_name {n : Nat} (h : n ≤ 99999999) : segNum (nameL n) = n := by
 have e1 : (nameL n).take 4 = logL := rfl
 have e2 : (nameL n).drop 4 = digN 8 n := rfl
 unfold segNum
 rw [if_pos ⟨e1, by rw [e2, digN_len], by rw [e2]; exact digN_digit 8 n⟩, e2, valD_dig 8 n (by omega)]

theorem segNum_le (l : List Nat) : segNum l ≤ 99999999 := by
 unfold segNum
 split
 ·next h =>
  have := (dig_valD 8 (l.drop 4) h.2.1 h.2.2).2
  omega
 ·omega

theorem name_segNum {l : List Nat} (h : isNm l) : nameL (valD (l.drop 4) 0) = l := by
 unfold nameL
 rw [(dig_valD 8 (l.drop 4) h.2.1 h.2.2).1, ← h.1]
 exact List.take_append_drop 4 l

theorem name_of_num {l : List Nat} (h : 0 < segNum l) : nameL (segNum l) = l := by
 unfold segNum at h ⊢
 split at h
 ·next hn => rw [if_pos hn]; exact name_segNum hn
 ·omega

theorem nameL_inj {m n : Nat} (hm : m ≤ 99999999) (hn : n ≤ 99999999) (h : nameL m = nameL n) : m = n := by
 rw [← segNum_name hm, h, segNum_name hn]

def ltL : List Nat → List Nat → Bool
 | [], [] => false
 | [], _ :: _ => true
 | _ :: _, [] => false
 | c :: r, c' :: r' => if c < c' then true else if c' < c then false else ltL r r'

theorem ltL_snoc : ∀ (a b : List Nat) (c d : Nat), a.length = b.length → ltL (a ++ [c]) (b ++ [d]) = (ltL a b || (decide (a = b) && decide (c < d)))
 | [], [], c, d, _ => by
  simp only [List.nil_append, ltL]
  by_cases h : c < d
  ·simp [h]
  ·simp [h]
 | [], _ :: _, _, _, h => by simp at h
 | _ :: _, [], _, _, h => by simp at h
 | x :: a, y :: b, c, d, h => by
  rw [List.cons_append, List.cons_append, ltL, ltL]
  by_cases h1 : x < y
  ·simp [h1]
  ·by_cases h2 : y < x
   ·rw [if_neg h1, if_pos h2, if_neg h1, if_pos h2]
    have : x ≠ y := by omega
    simp [this]
   ·obtain rfl : x = y := by omega
    rw [if_neg h1, if_neg h1, if_neg h1, if_neg h1, ltL_snoc a b c d (by simpa using h)]
    simp

theorem ltL_dig : ∀ k m n, m < 10 ^ k → n < 10 ^ k → ltL (digN k m) (digN k n) = decide (m < n)
 | 0, m, n, hm, hn => by
  have : ¬ m < n := by
   have h1 : m = 0 := by simpa using hm
   have h2 : n = 0 := by simpa using hn
   omega
  simp [digN, ltL, this]
 | k + 1, m, n, hm, hn => by
  have h1 : m / 10 < 10 ^ k := by
   rw [Nat.div_lt_iff_lt_mul (by omega), ← Nat.pow_succ]; exact hm
  have h2 : n / 10 < 10 ^ k := by
   rw [Nat.div_lt_iff_lt_mul (by omega), ← Nat.pow_succ]; exact hn
  rw [digN, digN, ltL_snoc _ _ _ _ (by rw [digN_len, digN_len]), ltL_dig k _ _ h1 h2]
  by_cases e : digN k (m / 10) = digN k (n / 10)
  ·have e2 : m / 10 = n / 10 := by rw [← valD_dig k _ h1, e, valD_dig k _ h2]
   rw [decide_eq_true e]
   by_cases q : m < n
   ·have : m % 10 < n % 10 := by omega
    simp [q, this]
   ·have h3 : ¬ m / 10 < n / 10 := by omega
    have h4 : ¬ m % 10 < n % 10 := by omega
    simp [q, h3, h4]
  ·have e2 : m / 10 ≠ n / 10 := fun h => e (by rw [h])
   rw [decide_eq_false e]
   by_cases q : m < n
   ·have h3 : m / 10 < n / 10 := by omega
    simp [q, h3]
   ·have h3 : ¬ m / 10 < n / 10 := by omega
    simp [q, h3]

theorem ltL_same (p : List Nat) (a b : List Nat) : ltL (p ++ a) (p ++ b) = ltL a b := by
 induction p with
 | nil => rfl
 | cons x p ih => rw [List.cons_append, List.cons_append, ltL, if_neg (Nat.lt_irrefl x), if_neg (Nat.lt_irrefl x), ih]

theorem ltL_name {m n : Nat} (hm : m ≤ 99999999) (hn : n ≤ 99999999) : ltL (nameL m) (nameL n) = decide (m < n) := by
 unfold nameL
 rw [ltL_same, ltL_dig 8 m n (by omega) (by omega)]
end Go.Proofs.YtnbddiiedagllaaGreat

/- Lists of numbers in ascending order: what sorting and leaving out neighbours that are equal gives, and what insertion gives. -/
namespace Go.Proofs.YtnbddiiedagllaaGreat
open Go.RowKit

def Asc (l : List Int) : Prop := l.Pairwise (· < ·)

def NumsOf (ls : List (List Nat)) (x : Int) : Prop := ∃ l ∈ ls, 0 < segNum l ∧ x = ((segNum l : Nat) : Int)

theorem asc_eq : ∀ {a b : List Int}, Asc a → Asc b → (∀ x, x ∈ a ↔ x ∈ b) → a = b
 | [], [], _, _, _ => rfl
 | [], y :: b, _, _, h => absurd ((h y).2 (by simp)) (by simp)
 | x :: a, [], _, _, h => absurd ((h x).1 (by simp)) (by simp)
 | x :: a, y :: b, ha, hb, h => by
  obtain ⟨ha1, ha2⟩ := List.pairwise_cons.1 ha
  obtain ⟨hb1, hb2⟩ := List.pairwise_cons.1 hb
  have hxy : x = y := by
   have h1 := (h x).1 (by simp)
   have h2 := (h y).2 (by simp)
   rcases List.mem_cons.1 h1 with e | e
   ·exact e
   ·rcases List.mem_cons.1 h2 with e2 | e2
    ·exact e2.symm
    ·have := hb1 x e
     have := ha1 y e2
     omega
  subst hxy
  rw [asc_eq ha2 hb2 (fun z => ?_)]
  constructor
  ·intro hz
   rcases List.mem_cons.1 ((h z).1 (by simp [hz])) with e | e
   ·have := ha1 z hz; omega
   ·exact e
  ·intro hz
   rcases List.mem_cons.1 ((h z).2 (by simp [hz])) with e | e
   ·have := hb1 z hz; omega
   ·exact e

theorem asc_insert {l : List Int} {j : Nat} {n : Int} (h : Asc l) (hj : j ≤ l.length) (hlo : ∀ i, i < j → l.getD i 0 < n) (hhi : j < l.length → ¬ l.getD j 0 < n) (hn : n ∉ l) : Asc (l.take j ++ n :: l.drop j) := by
 have hsp : l.take j ++ l.drop j = l := List.take_append_drop j l
 have h0 := h
 unfold Asc at h0
 rw [← hsp, List.pairwise_append] at h0
 obtain ⟨h1, h2, h3⟩ := h0
 have hlo2 : ∀ x ∈ l.take j, x < n := by
  intro x hx
  obtain ⟨i, hi, rfl⟩ := List.getElem_of_mem hx
  have hij : i < j := by rw [List.length_take] at hi; omega
  have := hlo i hij
  rw [List.getD_eq_getElem?_getD, List.getElem?_eq_getElem (by omega)] at this
  rw [List.getElem_take]
  exact this
 have hhi2 : ∀ x ∈ l.drop j, n < x := by
  intro x hx
  by_cases hjl : j < l.length
  ·have hd : l.drop j = l[j] :: l.drop (j + 1) := List.drop_eq_getElem_cons hjl
   have hge := hhi hjl
   rw [List.getD_eq_getElem?_getD, List.getElem?_eq_getElem hjl] at hge
   have hge : ¬ l[j] < n := hge
   have hne : l[j] ≠ n := fun e => hn (by rw [← e]; exact List.getElem_mem hjl)
   rw [hd] at hx h2
   rcases List.mem_cons.1 hx with e | e
   ·omega
   ·have := (List.pairwise_cons.1 h2).1 x e
    omega
  ·rw [List.drop_eq_nil_of_le (by omega)] at hx
   cases hx
 unfold Asc
 rw [List.pairwise_append]
 refine ⟨h1, List.pairwise_cons.2 ⟨hhi2, h2⟩, fun x hx y hy => ?_⟩
 rcases List.mem_cons.1 hy with e | e
 ·have := hlo2 x hx; omega
 ·exact h3 x hx y e

theorem mem_insert {l : List Int} {j : Nat} {n x : Int} : x ∈ l.take j ++ n :: l.drop j ↔ x = n ∨ x ∈ l := by
 rw [List.mem_append, List.mem_cons]
 conv => rhs; rw [← List.take_append_drop j l, List.mem_append]
 constructor
 ·rintro (h | h | h)
  ·exact .inr (.inl h)
  ·exact .inl h
  ·exact .inr (.inr h)
 ·rintro (h | h | h)
  ·exact .inr (.inl h)
  ·exact .inl h
  ·exact .inr (.inr h)

theorem compact_upto (d : Array Int) (hd : ∀ i j, i ≤ j → j < d.size → d[i]! ≤ d[j]!) : ∀ m, m ≤ d.size →
  Asc (Lib.compactUpTo d m) ∧ ∀ x, x ∈ Lib.compactUpTo d m ↔ ∃ j, j < m ∧ d[j]! = x
 | 0, _ => ⟨by unfold Asc; exact List.Pairwise.nil, fun x => ⟨fun h => (by cases h), fun ⟨j, h, _⟩ => (by omega)⟩⟩
 | m + 1, hm => by
  obtain ⟨h1, h2⟩ := compact_upto d hd m (by omega)
  rw [Lib.compactUpTo_succ]
  by_cases hk : m = 0 ∨ d[m]! ≠ d[m - 1]!
  ·have hkk : Lib.keeps d m = true := by unfold Lib.keeps; exact decide_eq_true hk
   rw [hkk, if_pos rfl]
   refine ⟨?_, fun x => ?_⟩
   ·unfold Asc
    rw [List.pairwise_append]
    refine ⟨h1, List.pairwise_singleton _ _, fun x hx y hy => ?_⟩
    obtain rfl : y = d[m]! := by simpa using hy
    obtain ⟨j, hj, rfl⟩ := (h2 x).1 hx
    rcases hk with hk | hk
    ·omega
    ·have a1 := hd j (m - 1) (by omega) (by omega)
     have a2 := hd (m - 1) m (by omega) (by omega)
     omega
   ·rw [List.mem_append, h2 x, List.mem_singleton]
    constructor
    ·rintro (⟨j, hj, e⟩ | e)
     ·exact ⟨j, by omega, e⟩
     ·exact ⟨m, by omega, e.symm⟩
    ·rintro ⟨j, hj, e⟩
     by_cases hjm : j = m
     ·subst hjm; exact .inr e.symm
     ·exact .inl ⟨j, by omega, e⟩
  ·have hkk : Lib.keeps d m = false := by unfold Lib.keeps; exact decide_eq_false hk
   rw [hkk]
   simp only [Bool.false_eq_true, if_false, List.append_nil]
   have hm0 : m ≠ 0 := fun e => hk (.inl e)
   have heq : d[m]! = d[m - 1]! := Classical.byContradiction (fun e => hk (.inr e))
   refine ⟨h1, fun x => ?_⟩
   rw [h2 x]
   constructor
   ·rintro ⟨j, hj, e⟩
    exact ⟨j, by omega, e⟩
   ·rintro ⟨j, hj, e⟩
    by_cases hjm : j = m
    ·subst hjm; exact ⟨j - 1, by omega, by rw [← heq]; exact e⟩
    ·exact ⟨j, by omega, e⟩

theorem compact_sorted (zs : List Int) : Asc (Lib.compact (zs.mergeSort fun x y => decide (x ≤ y))) ∧ ∀ x, x ∈ Lib.compact (zs.mergeSort fun x y => decide (x ≤ y)) ↔ x ∈ zs := by
 have hs : (zs.mergeSort fun x y => decide (x ≤ y)).Pairwise (fun x y => decide (x ≤ y) = true) := List.pairwise_mergeSort (by intro a b c; simp; omega) (by intro a b; simp; omega) zs
 have hm : ∀ x, x ∈ zs.mergeSort (fun x y => decide (x ≤ y)) ↔ x ∈ zs := fun x => List.mem_mergeSort
 generalize zs.mergeSort (fun x y => decide (x ≤ y)) = l at *
 have hd : ∀ i j, i ≤ j → j < l.toArray.size → l.toArray[i]! ≤ l.toArray[j]! := by
  intro i j hij hj
  have hj' : j < l.length := by simpa using hj
  rcases Nat.eq_or_lt_of_le hij with e | e
  ·subst e; exact Int.le_refl _
  ·have := List.pairwise_iff_getElem.1 hs i j (by omega) hj' e
   simp [getElem!_pos, show i < l.length by omega, hj']
   simpa using this
 obtain ⟨h1, h2⟩ := compact_upto l.toArray hd l.toArray.size (Nat.le_refl _)
 have e : Lib.compact l = Lib.compactUpTo l.toArray l.toArray.size := by unfold Lib.compact; simp
 rw [e]
 refine ⟨h1, fun x => ?_⟩
 rw [h2 x, ← hm x]
 constructor
 ·rintro ⟨j, hj, rfl⟩
  have hj' : j < l.length := by simpa using hj
  simp [getElem!_pos, hj']
 ·intro hx
  obtain ⟨i, hi, rfl⟩ := List.getElem_of_mem hx
  exact ⟨i, by simpa using hi, by simp [getElem!_pos, hi]⟩
end Go.Proofs.YtnbddiiedagllaaGreat

