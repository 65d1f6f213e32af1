/- Names and numbers of segments, as plain lists of bytes. -/
import Derived.Test.YtdflfimclgapnaaStr
namespace Go.Proofs.Ytdflfimclgapnaa

/-- The last k digits of n. -/
def digN : Nat → Nat → List Nat
  | 0, _ => []
  | k + 1, n => digN k (n / 10) ++ [48 + n % 10]

theorem digN_len : ∀ k n, (digN k n).length = k
  | 0, _ => rfl
  | k + 1, n => by rw [digN, List.length_append, digN_len]; rfl

theorem digN_digit : ∀ k n, ∀ c ∈ digN k n, 48 ≤ c ∧ c ≤ 57
  | 0, _, c, h => by simp [digN] at h
  | k + 1, n, c, h => by
    rw [digN, List.mem_append] at h
    rcases h with h | h
    · exact digN_digit k _ c h
    · have : c = 48 + n % 10 := by simpa using h
      omega

/-- The number with some digits. -/
def valD : List Nat → Nat → Nat
  | [], a => a
  | c :: r, a => valD r (10 * a + (c - 48))

theorem valD_snoc : ∀ (l : List Nat) (c a : Nat), valD (l ++ [c]) a = 10 * valD l a + (c - 48)
  | [], _, _ => rfl
  | x :: l, c, a => by rw [List.cons_append, valD, valD_snoc l, valD]

theorem valD_dig : ∀ k n, n < 10 ^ k → valD (digN k n) 0 = n
  | 0, n, h => by
    have : n = 0 := by simpa using h
    subst this; rfl
  | k + 1, n, h => by
    have h2 : n / 10 < 10 ^ k := by
      rw [Nat.div_lt_iff_lt_mul (by omega), ← Nat.pow_succ]
      exact h
    rw [digN, valD_snoc, valD_dig k _ h2]
    omega

def Digits (l : List Nat) : Prop := ∀ c ∈ l, 48 ≤ c ∧ c ≤ 57

instance (l : List Nat) : Decidable (Digits l) := inferInstanceAs (Decidable (∀ c ∈ l, 48 ≤ c ∧ c ≤ 57))

theorem dig_valD : ∀ (k : Nat) (l : List Nat), l.length = k → Digits l → digN k (valD l 0) = l ∧ valD l 0 < 10 ^ k
  | 0, l, h, _ => by
    obtain rfl : l = [] := List.length_eq_zero_iff.1 h
    exact ⟨rfl, by decide⟩
  | k + 1, l, h, hd => by
    obtain ⟨r, c, rfl⟩ : ∃ r c, l = r ++ [c] := by
      have hne : l ≠ [] := by intro e; rw [e] at h; simp at h
      exact ⟨l.dropLast, l.getLast hne, (List.dropLast_concat_getLast hne).symm⟩
    have hc := hd c (by simp)
    obtain ⟨h1, h2⟩ := dig_valD k r (by simpa using h) (fun x hx => hd x (by simp [hx]))
    rw [valD_snoc]
    have h3 : (10 * valD r 0 + (c - 48)) / 10 = valD r 0 := by omega
    have h4 : 48 + (10 * valD r 0 + (c - 48)) % 10 = c := by omega
    refine ⟨by rw [digN, h3, h4, h1], ?_⟩
    rw [Nat.pow_succ]
    omega

def logL : List Nat := [108, 111, 103, 45]
/-- The name of a segment. -/
def nameL (n : Nat) : List Nat := logL ++ digN 8 n

theorem nameL_len (n : Nat) : (nameL n).length = 12 := by
  unfold nameL logL
  rw [List.length_append, digN_len]; rfl

theorem nameL_byte (n : Nat) : ∀ c ∈ nameL n, c < 256 := by
  intro c hc
  rcases List.mem_append.1 hc with h | h
  · unfold logL at h
    simp at h
    omega
  · have := digN_digit 8 n c h
    omega

def isNm (l : List Nat) : Prop := l.take 4 = logL ∧ (l.drop 4).length = 8 ∧ Digits (l.drop 4)
instance (l : List Nat) : Decidable (isNm l) := inferInstanceAs (Decidable (_ ∧ _ ∧ _))

/-- The number of the segment with a name; 0, if there is none. -/
def segNum (l : List Nat) : Nat := if isNm l then valD (l.drop 4) 0 else 0

theorem segNum_name {n : Nat} (h : n ≤ 99999999) : segNum (nameL n) = n := by
  have e1 : (nameL n).take 4 = logL := rfl
  have e2 : (nameL n).drop 4 = digN 8 n := rfl
  unfold segNum
  rw [if_pos ⟨e1, by rw [e2, digN_len], by rw [e2]; exact digN_digit 8 n⟩, e2, valD_dig 8 n (by omega)]

theorem segNum_le (l : List Nat) : segNum l ≤ 99999999 := by
  unfold segNum
  split
  · next h =>
    have := (dig_valD 8 (l.drop 4) h.2.1 h.2.2).2
    omega
  · omega

theorem name_segNum {l : List Nat} (h : isNm l) : nameL (valD (l.drop 4) 0) = l := by
  unfold nameL
  rw [(dig_valD 8 (l.drop 4) h.2.1 h.2.2).1, ← h.1]
  exact List.take_append_drop 4 l

theorem name_of_num {l : List Nat} (h : 0 < segNum l) : nameL (segNum l) = l := by
  unfold segNum at h ⊢
  split at h
  · next hn => rw [if_pos hn]; exact name_segNum hn
  · omega

theorem nameL_inj {m n : Nat} (hm : m ≤ 99999999) (hn : n ≤ 99999999) (h : nameL m = nameL n) : m = n := by
  rw [← segNum_name hm, h, segNum_name hn]

/-- Names are ordered as their numbers are. -/
def ltL : List Nat → List Nat → Bool
  | [], [] => false
  | [], _ :: _ => true
  | _ :: _, [] => false
  | c :: r, c' :: r' => if c < c' then true else if c' < c then false else ltL r r'

theorem ltL_snoc : ∀ (a b : List Nat) (c d : Nat), a.length = b.length → ltL (a ++ [c]) (b ++ [d]) = (ltL a b || (decide (a = b) && decide (c < d)))
  | [], [], c, d, _ => by
    simp only [List.nil_append, ltL]
    by_cases h : c < d
    · simp [h]
    · simp [h]
  | [], _ :: _, _, _, h => by simp at h
  | _ :: _, [], _, _, h => by simp at h
  | x :: a, y :: b, c, d, h => by
    rw [List.cons_append, List.cons_append, ltL, ltL]
    by_cases h1 : x < y
    · simp [h1]
    · by_cases h2 : y < x
      · rw [if_neg h1, if_pos h2, if_neg h1, if_pos h2]
        have : x ≠ y := by omega
        simp [this]
      · obtain rfl : x = y := by omega
        rw [if_neg h1, if_neg h1, if_neg h1, if_neg h1, ltL_snoc a b c d (by simpa using h)]
        simp

theorem ltL_dig : ∀ k m n, m < 10 ^ k → n < 10 ^ k → ltL (digN k m) (digN k n) = decide (m < n)
  | 0, m, n, hm, hn => by
    have : ¬ m < n := by
      have h1 : m = 0 := by simpa using hm
      have h2 : n = 0 := by simpa using hn
      omega
    simp [digN, ltL, this]
  | k + 1, m, n, hm, hn => by
    have h1 : m / 10 < 10 ^ k := by
      rw [Nat.div_lt_iff_lt_mul (by omega), ← Nat.pow_succ]; exact hm
    have h2 : n / 10 < 10 ^ k := by
      rw [Nat.div_lt_iff_lt_mul (by omega), ← Nat.pow_succ]; exact hn
    rw [digN, digN, ltL_snoc _ _ _ _ (by rw [digN_len, digN_len]), ltL_dig k _ _ h1 h2]
    by_cases e : digN k (m / 10) = digN k (n / 10)
    · have e2 : m / 10 = n / 10 := by rw [← valD_dig k _ h1, e, valD_dig k _ h2]
      rw [decide_eq_true e]
      by_cases q : m < n
      · have : m % 10 < n % 10 := by omega
        simp [q, this]
      · have h3 : ¬ m / 10 < n / 10 := by omega
        have h4 : ¬ m % 10 < n % 10 := by omega
        simp [q, h3, h4]
    · have e2 : m / 10 ≠ n / 10 := fun h => e (by rw [h])
      rw [decide_eq_false e]
      by_cases q : m < n
      · have h3 : m / 10 < n / 10 := by omega
        simp [q, h3]
      · have h3 : ¬ m / 10 < n / 10 := by omega
        simp [q, h3]

theorem ltL_same (p : List Nat) (a b : List Nat) : ltL (p ++ a) (p ++ b) = ltL a b := by
  induction p with
  | nil => rfl
  | cons x p ih => rw [List.cons_append, List.cons_append, ltL, if_neg (Nat.lt_irrefl x), if_neg (Nat.lt_irrefl x), ih]

theorem ltL_name {m n : Nat} (hm : m ≤ 99999999) (hn : n ≤ 99999999) : ltL (nameL m) (nameL n) = decide (m < n) := by
  unfold nameL
  rw [ltL_same, ltL_dig 8 m n (by omega) (by omega)]
end Go.Proofs.Ytdflfimclgapnaa
