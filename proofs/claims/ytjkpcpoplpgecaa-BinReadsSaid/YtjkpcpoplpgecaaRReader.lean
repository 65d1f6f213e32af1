/- The walks of the reference's reader: what it returns, on values. -/
import Derived.Test.YtjkpcpoplpgecaaReader
import Derived.RegionTactic
namespace Go.Proofs.Ytjkpcpoplpgecaa
open Go.RowKit

theorem number_is (a : Option Addr) (n cap : Nat) (l : List Nat) (w : World) (z s : Nat) (hl : Bytes w a n cap l) (h : numL l 0 0 = (z, s)) :
    Calls Try.prog 37 #[.slice a n cap] w fun e w' => e = .returned (.tuple #[.int .u64 (z : Int), .int .i64 (s : Int)]) ∧ w = w' := by
  have := rnumber_any a n cap l w hl
  rw [h] at this
  exact this

theorem two_below (w : World) (o o' : Obj) : Below w.heap.size w ((w.alloc o).alloc o') := ((Below.refl _ _).alloc (Nat.le_refl _) _).alloc (by simp) _

/-- A reader as a value, with a number. -/
def RUEnd (w : World) (r : Nat × List Nat × Bool) (e : Ending) (w' : World) : Prop :=
  ∃ a n c, e = .returned (.tuple #[.agg #[.slice a n c, .bool (!r.2.2)], .int .u64 (r.1 : Int)]) ∧ Bytes w' a n c r.2.1 ∧ Formed a c ∧ Below w.heap.size w w'

set_option maxRecDepth 100000 in
theorem readUint_any (a : Option Addr) (n c : Nat) (bad : Bool) (l : List Nat) (w : World) (hB : Bytes w a n c l) (hf : Formed a c) :
    Calls Try.prog 19 #[.agg #[.slice a n c, .bool bad]] w (RUEnd w (readN l (!bad))) := by
  obtain ⟨z, s, hz⟩ : ∃ z s, numL l 0 0 = (z, s) := ⟨_, _, rfl⟩
  obtain ⟨hs1, hs2, hs3, hs4⟩ := numL_size_le hB.byte hz
  have hlen := hB.len
  have hle := hB.le
  have hsn : s ≤ n := by omega
  have hcm := hB.capmax
  have HB := Lib.hid hB
  have HZ := Lib.hid hz
  clear hB hz hs4 hlen hs1
  cases bad
  · by_cases hs : 0 < s
    · have hrd : readN l (!false) = (z, l.drop s, true) := by unfold readN; rw [HZ.out, if_pos ⟨rfl, hs⟩]
      rw [hrd]
      obtain ⟨a', hS, hf', hB'⟩ := slice_from (k := s) Try.underlying23 info_u8 hsn hle hf
      have HB' := Lib.hid hB'
      have hsI : (0 : Int) < (s : Int) := by omega
      have hsq : ((s : Int) == 0) = false := beq_eq_false_iff_ne.2 (by omega)
      clear hrd hB'
      go_enter Try.func19, Try.ntmps19
      go_wp2_with fail
      refine (number_is a n c l _ z s (HB.out.grow (two_below _ _ _)) HZ.out).mono ?_
      rintro e w1 ⟨rfl, rfl⟩
      go_wp2
      refine bodyPost_ret (v := .tuple #[.agg #[.slice a' (n - s) (c - s), .bool false], .int .u64 (z : Int)]) (by simp [results, Try.results19, go_sem]) rfl ⟨a', n - s, c - s, rfl, HB'.out _ _ (HB.out.grow (two_below _ _ _)), hf', two_below _ _ _⟩
    · have hsI : (s : Int) ≤ 0 := by omega
      have hsq : ((s : Int) == 0) = true := beq_iff_eq.2 (by omega)
      have hrd : readN l (!false) = (0, l, false) := by unfold readN; rw [HZ.out, if_neg (fun h => hs h.2)]
      rw [hrd]
      clear hrd
      go_enter Try.func19, Try.ntmps19
      go_wp2_with fail
      refine (number_is a n c l _ z s (HB.out.grow (two_below _ _ _)) HZ.out).mono ?_
      rintro e w1 ⟨rfl, rfl⟩
      go_wp2
      refine bodyPost_ret (v := .tuple #[.agg #[.slice a n c, .bool true], .int .u64 0]) (by simp [results, Try.results19, go_sem]) rfl ⟨a, n, c, rfl, HB.out.grow (two_below _ _ _), hf, two_below _ _ _⟩
  · have hrd : readN l (!true) = (0, l, false) := by unfold readN; rw [HZ.out, if_neg (fun h => by cases h.1)]
    rw [hrd]
    clear hrd
    go_enter Try.func19, Try.ntmps19
    go_wp2_with fail
    refine (number_is a n c l _ z s (HB.out.grow (two_below _ _ _)) HZ.out).mono ?_
    rintro e w1 ⟨rfl, rfl⟩
    go_wp2
    refine bodyPost_ret (v := .tuple #[.agg #[.slice a n c, .bool true], .int .u64 0]) (by simp [results, Try.results19, go_sem]) rfl ⟨a, n, c, rfl, HB.out.grow (two_below _ _ _), hf, two_below _ _ _⟩
def RIEnd (w : World) (r : Nat × List Nat × Bool) (e : Ending) (w' : World) : Prop :=
  ∃ a n c, e = .returned (.tuple #[.agg #[.slice a n c, .bool (!r.2.2)], .int .i64 (unfoldL r.1)]) ∧ Bytes w' a n c r.2.1 ∧ Formed a c ∧ Below w.heap.size w w'

theorem two_cells {w w1 : World} {u v u' v' : Value} {t t' : TypeId} (hb : Below ((w.alloc (.cells #[u, v] t)).alloc (.cells #[u', v'] t')).heap.size ((w.alloc (.cells #[u, v] t)).alloc (.cells #[u', v'] t')) w1) :
    w1.heap[w.heap.size]? = some (.cells #[u, v] t (0, 0)) ∧ w1.heap[w.heap.size + 1]? = some (.cells #[u', v'] t' (0, 0)) := by
  refine ⟨(hb.block _ (by simp; omega)).trans ?_, (hb.block _ (by simp)).trans ?_⟩
  · exact (Below.heap_alloc _ _ _ (by simp)).trans (heap_alloc_new _ _)
  · have := heap_alloc_new (w.alloc (.cells #[u, v] t)) (.cells #[u', v'] t')
    rwa [World.size_alloc] at this

theorem block_cells {w : World} {g : Nat} {u v : Value} {t : TypeId} (h : w.heap[g]? = some (.cells #[u, v] t (0, 0))) :
    w.cell? ⟨g, 0, none⟩ = some u ∧ w.cell? ⟨g, 1, none⟩ = some v ∧ w.frozen? ⟨g, 0, none⟩ = false ∧ w.frozen? ⟨g, 1, none⟩ = false := by
  refine ⟨?_, ?_, ?_, ?_⟩
  · rw [cell_of_row _ _ _ _ _ _ h]; rfl
  · rw [cell_of_row _ _ _ _ _ _ h]; rfl
  · simp [World.frozen?, h]
  · simp [World.frozen?, h]


theorem readN_bound {l : List Nat} {ok : Bool} (hb : ∀ x ∈ l, x < 256) : (readN l ok).1 < 18446744073709551616 := by
  obtain ⟨z, s, hz⟩ : ∃ z s, numL l 0 0 = (z, s) := ⟨_, _, rfl⟩
  have := (numL_size_le hb hz).2.2.1
  unfold readN
  rw [hz]
  split
  · exact this
  · show (0 : Nat) < 18446744073709551616
    decide

/-- Writing into the two blocks of the call turns no byte. -/
theorem sets_bytes {w w1 : World} {a a' a'' : Option Addr} {n c n' c' n'' c'' : Nat} {b' b'' : Bool} {t t' : TypeId} {l : List Nat} (hb : Below w.heap.size w w1)
    (k0 : w1.heap[w.heap.size]? = some (.cells #[.slice a' n' c', .bool b'] t (0, 0))) (k1 : w1.heap[w.heap.size + 1]? = some (.cells #[.slice a'' n'' c'', .bool b''] t' (0, 0))) (hB : Bytes w1 a n c l) (u0 u1 u2 u3 : Value) :
    Bytes ((((w1.setCell ⟨w.heap.size, 0, none⟩ u0).setCell ⟨w.heap.size, 1, none⟩ u1).setCell ⟨w.heap.size + 1, 0, none⟩ u2).setCell ⟨w.heap.size + 1, 1, none⟩ u3) a n c l ∧
    Below w.heap.size w ((((w1.setCell ⟨w.heap.size, 0, none⟩ u0).setCell ⟨w.heap.size, 1, none⟩ u1).setCell ⟨w.heap.size + 1, 0, none⟩ u2).setCell ⟨w.heap.size + 1, 1, none⟩ u3) := by
  have h0 : 0 < n → ∀ x, a = some x → x.block ≠ w.heap.size := fun hn x hx => rd_other k0 hB hn hx
  have h1 : 0 < n → ∀ x, a = some x → x.block ≠ w.heap.size + 1 := fun hn x hx => rd_other k1 hB hn hx
  exact ⟨(((hB.setFar h0 _).setFar h0 _).setFar h1 _).setFar h1 _, (((hb.setCell (Nat.le_refl _) _).setCell (Nat.le_refl _) _).setCell (Nat.le_succ _) _).setCell (Nat.le_succ _) _⟩

theorem sets_bytes2 {w w1 : World} {a a'' : Option Addr} {n c n'' c'' : Nat} {b'' : Bool} {t' : TypeId} {l : List Nat} (hb : Below w.heap.size w w1)
    (k1 : w1.heap[w.heap.size + 1]? = some (.cells #[.slice a'' n'' c'', .bool b''] t' (0, 0))) (hB : Bytes w1 a n c l) (u2 u3 : Value) :
    Bytes ((w1.setCell ⟨w.heap.size + 1, 0, none⟩ u2).setCell ⟨w.heap.size + 1, 1, none⟩ u3) a n c l ∧
    Below w.heap.size w ((w1.setCell ⟨w.heap.size + 1, 0, none⟩ u2).setCell ⟨w.heap.size + 1, 1, none⟩ u3) := by
  have h1 : 0 < n → ∀ x, a = some x → x.block ≠ w.heap.size + 1 := fun hn x hx => rd_other k1 hB hn hx
  exact ⟨(hB.setFar h1 _).setFar h1 _, (hb.setCell (Nat.le_succ _) _).setCell (Nat.le_succ _) _⟩

set_option maxRecDepth 100000 in
theorem readInt_any (a : Option Addr) (n c : Nat) (bad : Bool) (l : List Nat) (w : World) (hB : Bytes w a n c l) (hf : Formed a c) :
    Calls Try.prog 21 #[.agg #[.slice a n c, .bool bad]] w (RIEnd w (readN l (!bad))) := by
  have hlt := readN_bound (l := l) (ok := !bad) hB.byte
  have HB := Lib.hid hB
  clear hB
  go_enter Try.func21, Try.ntmps21
  go_wp2_with fail
  refine (readUint_any a n c bad l _ (HB.out.grow (two_below _ _ _)) hf).mono ?_
  rintro e w1 ⟨a1, n1, c1, rfl, hB1, hf1, hb1⟩
  obtain ⟨k0, k1⟩ := two_cells hb1
  obtain ⟨p0, p1, p2, p3⟩ := block_cells k0
  obtain ⟨q0, q1, q2, q3⟩ := block_cells k1
  have hsz : w.heap.size + 1 < w1.heap.size := by have := hb1.size; simp at this; omega
  have hbel : Below w.heap.size w w1 := (two_below _ _ _).trans (hb1.mono (two_below _ _ _).size)
  have HW := Lib.hid (sets_bytes hbel k0 k1 hB1)
  clear hB1 k0 k1 hb1 hbel
  generalize readN l (!bad) = r at *
  by_cases h2 : r.1 % 2 = 0
  · have hq : ((r.1 : Int) % 2 == 0) = true := beq_iff_eq.2 (by omega)
    have H2 := Lib.hid h2
    clear h2
    go_wp2
    refine bodyPost_ret (v := .tuple #[.agg #[.slice a1 n1 c1, .bool (!r.2.2)], .int .i64 ((r.1 : Int) / 2)]) (by simp [results, Try.results21, go_sem, *]) rfl ⟨a1, n1, c1, ?_, (HW.out _ _ _ _).1, hf1, (HW.out _ _ _ _).2⟩
    have e : unfoldL r.1 = (r.1 : Int) / 2 := by unfold unfoldL; rw [if_pos H2.out]; omega
    rw [e]
  · have hq : ((r.1 : Int) % 2 == 0) = false := beq_eq_false_iff_ne.2 (by omega)
    have H2 := Lib.hid h2
    clear h2
    go_wp2
    refine bodyPost_ret (v := .tuple #[.agg #[.slice a1 n1 c1, .bool (!r.2.2)], .int .i64 (-((r.1 : Int) / 2) - 1)]) (by simp [results, Try.results21, go_sem, *]) rfl ⟨a1, n1, c1, ?_, (HW.out _ _ _ _).1, hf1, (HW.out _ _ _ _).2⟩
    have e : unfoldL r.1 = -((r.1 : Int) / 2) - 1 := by unfold unfoldL; rw [if_neg H2.out]; omega
    rw [e]

/-- A reader as a value, with bytes. -/
def RTEnd (w : World) (r : List Nat × List Nat × Bool) (e : Ending) (w' : World) : Prop :=
  ∃ a n c p m cp, e = .returned (.tuple #[.agg #[.slice a n c, .bool (!r.2.2)], .slice p m cp]) ∧ Bytes w' a n c r.2.1 ∧ Formed a c ∧ Bytes w' p m cp r.1 ∧ Below w.heap.size w w'

set_option maxRecDepth 100000 in
theorem rtake_any (a : Option Addr) (n c : Nat) (bad : Bool) (l : List Nat) (k : Int) (w : World) (hB : Bytes w a n c l) (hf : Formed a c) (k1 : -9223372036854775808 ≤ k) (k2 : k ≤ 9223372036854775807) :
    Calls Try.prog 26 #[.agg #[.slice a n c, .bool bad], .int .i64 k] w (RTEnd w (takeN l (!bad) k)) := by
  have hle := hB.le
  have hcm := hB.capmax
  have hlen := hB.len
  have HB := Lib.hid hB
  clear hB
  by_cases hok : bad = false ∧ 0 ≤ k ∧ k ≤ l.length
  · obtain ⟨rfl, hk1, hk2⟩ := hok
    have hrd : takeN l (!false) k = (l.take k.toNat, l.drop k.toNat, true) := by unfold takeN; rw [if_pos ⟨rfl, hk1, hk2⟩]
    rw [hrd]
    obtain ⟨j, rfl⟩ := Int.eq_ofNat_of_zero_le hk1
    rw [Int.toNat_natCast]
    have hjn : j ≤ n := by omega
    obtain ⟨a1, hS1, hf1, hB1⟩ := slice_to (k := j) Try.underlying23 info_u8 hjn hle hf
    obtain ⟨a2, hS2, hf2, hB2⟩ := slice_from (k := j) Try.underlying23 info_u8 hjn hle hf
    have HB1 := Lib.hid hB1
    have HB2 := Lib.hid hB2
    have hj : (j : Int) ≤ (n : Int) := by omega
    have hj0 : (0 : Int) ≤ (j : Int) := by omega
    have hd0 : decide ((j : Int) < 0) = false := decide_eq_false (by omega)
    have hd1 : decide (n < j) = false := decide_eq_false (by omega)
    clear hrd hB1 hB2 hlen hk2
    go_enter Try.func26, Try.ntmps26
    go_wp2
    go_region
    go_wp2
    refine bodyPost_ret (v := .tuple #[.agg #[.slice a2 (n - j) (c - j), .bool false], .slice a1 j c]) (by simp [results, Try.results26, go_sem]) rfl ⟨a2, n - j, c - j, a1, j, c, rfl, HB2.out _ _ (HB.out.grow (two_below _ _ _).drew), hf2, HB1.out _ _ (HB.out.grow (two_below _ _ _).drew), (two_below _ _ _).drew⟩
  · have hrd : takeN l (!bad) k = ([], l, false) := by unfold takeN; rw [if_neg (fun h => hok ⟨by cases bad <;> simp_all, h.2⟩)]
    rw [hrd]
    clear hrd
    cases bad
    · by_cases hk0 : 0 ≤ k
      · have hkn : (n : Int) < k := by have : ¬ k ≤ l.length := fun h => hok ⟨rfl, hk0, h⟩; omega
        have hkD : decide ((n : Int) < k) = true := decide_eq_true hkn
        have hkD0 : decide (k < 0) = false := decide_eq_false (by omega)
        clear hok hlen
        go_enter Try.func26, Try.ntmps26
        go_wp2
        refine bodyPost_ret (v := .tuple #[.agg #[.slice a n c, .bool true], .slice none 0 0]) (by simp [results, Try.results26, go_sem]) rfl ⟨a, n, c, none, 0, 0, rfl, HB.out.grow (two_below _ _ _), hf, bytes_nil _, two_below _ _ _⟩
      · have hkn : k < 0 := by omega
        clear hok hlen
        go_enter Try.func26, Try.ntmps26
        go_wp2
        refine bodyPost_ret (v := .tuple #[.agg #[.slice a n c, .bool true], .slice none 0 0]) (by simp [results, Try.results26, go_sem]) rfl ⟨a, n, c, none, 0, 0, rfl, HB.out.grow (two_below _ _ _), hf, bytes_nil _, two_below _ _ _⟩
    · clear hok hlen
      go_enter Try.func26, Try.ntmps26
      go_wp2
      refine bodyPost_ret (v := .tuple #[.agg #[.slice a n c, .bool true], .slice none 0 0]) (by simp [results, Try.results26, go_sem]) rfl ⟨a, n, c, none, 0, 0, rfl, HB.out.grow (two_below _ _ _), hf, bytes_nil _, two_below _ _ _⟩

set_option maxRecDepth 100000 in
theorem readBytes_any (a : Option Addr) (n c : Nat) (bad : Bool) (l : List Nat) (w : World) (hB : Bytes w a n c l) (hf : Formed a c) :
    Calls Try.prog 23 #[.agg #[.slice a n c, .bool bad]] w (RTEnd w (readB l (!bad))) := by
  obtain ⟨z, s, hz⟩ : ∃ z s, numL l 0 0 = (z, s) := ⟨_, _, rfl⟩
  obtain ⟨hs1, hs2, hs3, hs4⟩ := numL_size_le hB.byte hz
  have hlen := hB.len
  have hle := hB.le
  have hsn : s ≤ n := by omega
  have hcm := hB.capmax
  have HB := Lib.hid hB
  have HZ := Lib.hid hz
  clear hB hz hs4 hs1
  by_cases hok : bad = false ∧ 0 < s ∧ z ≤ n - s
  · obtain ⟨rfl, hs, hzn⟩ := hok
    have hrd : readB l (!false) = ((l.drop s).take z, l.drop (s + z), true) := by unfold readB; rw [HZ.out, if_pos ⟨rfl, hs, by omega⟩]
    rw [hrd]
    obtain ⟨a', hS, hf', hB'⟩ := slice_from (k := s) Try.underlying23 info_u8 hsn hle hf
    have HB' := Lib.hid hB'
    have hsI : (0 : Int) < (s : Int) := by omega
    have hsq : ((s : Int) == 0) = false := beq_eq_false_iff_ne.2 (by omega)
    have hzI : (z : Int) ≤ (n : Int) - (s : Int) := by omega
    have hta : takeN (l.drop s) (!false) (z : Int) = ((l.drop s).take z, l.drop (s + z), true) := by
      unfold takeN
      rw [if_pos ⟨rfl, by omega, by rw [List.length_drop]; omega⟩, Int.toNat_natCast, List.drop_drop]
    have Hta := Lib.hid hta
    clear hrd hB' hta hlen
    go_enter Try.func23, Try.ntmps23
    go_wp2_with fail
    refine (number_is a n c l _ z s (HB.out.grow (two_below _ _ _)) HZ.out).mono ?_
    rintro e w1 ⟨rfl, rfl⟩
    go_wp2_with fail
    refine (rtake_any a' (n - s) (c - s) false (l.drop s) (z : Int) _ (HB'.out _ _ (HB.out.grow (two_below _ _ _))) hf' (by omega) (by omega)).mono ?_
    intro e w1 h1
    rw [Hta.out] at h1
    obtain ⟨a1, n1, c1, p, m, cp, rfl, hB1, hf1, hP1, hb1⟩ := h1
    obtain ⟨k0, k1⟩ := two_cells hb1
    obtain ⟨p0, p1, p2, p3⟩ := block_cells k0
    obtain ⟨q0, q1, q2, q3⟩ := block_cells k1
    have hsz : w.heap.size + 1 < w1.heap.size := by have := hb1.size; simp at this; omega
    have hbel : Below w.heap.size w w1 := (two_below _ _ _).trans (hb1.mono (two_below _ _ _).size)
    have HW := Lib.hid (sets_bytes2 hbel k1 hB1)
    have HW2 := Lib.hid (sets_bytes2 hbel k1 hP1)
    clear hB1 hP1 k0 k1 hb1 hbel
    go_wp2
    refine bodyPost_ret (v := .tuple #[.agg #[.slice a1 n1 c1, .bool false], .slice p m cp]) (by simp [results, Try.results23, go_sem, *]) rfl ⟨a1, n1, c1, p, m, cp, rfl, (HW.out _ _).1, hf1, (HW2.out _ _).1, (HW.out _ _).2⟩
  · have hrd : readB l (!bad) = ([], l, false) := by unfold readB; rw [HZ.out, hlen, if_neg (fun h => hok ⟨by cases bad <;> simp_all, h.2⟩)]
    rw [hrd]
    clear hrd hlen
    cases bad
    · by_cases hs : 0 < s
      · have hzI : (n : Int) - (s : Int) < (z : Int) := by have : ¬ z ≤ n - s := fun h => hok ⟨rfl, hs, h⟩; omega
        have hsI : (0 : Int) < (s : Int) := by omega
        have hsq : ((s : Int) == 0) = false := beq_eq_false_iff_ne.2 (by omega)
        clear hok
        go_enter Try.func23, Try.ntmps23
        go_wp2_with fail
        refine (number_is a n c l _ z s (HB.out.grow (two_below _ _ _)) HZ.out).mono ?_
        rintro e w1 ⟨rfl, rfl⟩
        go_wp2
        refine bodyPost_ret (v := .tuple #[.agg #[.slice a n c, .bool true], .slice none 0 0]) (by simp [results, Try.results23, go_sem]) rfl ⟨a, n, c, none, 0, 0, rfl, HB.out.grow (two_below _ _ _), hf, bytes_nil _, two_below _ _ _⟩
      · have hsI : (s : Int) ≤ 0 := by omega
        have hsq : ((s : Int) == 0) = true := beq_iff_eq.2 (by omega)
        clear hok
        go_enter Try.func23, Try.ntmps23
        go_wp2_with fail
        refine (number_is a n c l _ z s (HB.out.grow (two_below _ _ _)) HZ.out).mono ?_
        rintro e w1 ⟨rfl, rfl⟩
        go_wp2
        refine bodyPost_ret (v := .tuple #[.agg #[.slice a n c, .bool true], .slice none 0 0]) (by simp [results, Try.results23, go_sem]) rfl ⟨a, n, c, none, 0, 0, rfl, HB.out.grow (two_below _ _ _), hf, bytes_nil _, two_below _ _ _⟩
    · clear hok
      go_enter Try.func23, Try.ntmps23
      go_wp2_with fail
      refine (number_is a n c l _ z s (HB.out.grow (two_below _ _ _)) HZ.out).mono ?_
      rintro e w1 ⟨rfl, rfl⟩
      go_wp2
      refine bodyPost_ret (v := .tuple #[.agg #[.slice a n c, .bool true], .slice none 0 0]) (by simp [results, Try.results23, go_sem]) rfl ⟨a, n, c, none, 0, 0, rfl, HB.out.grow (two_below _ _ _), hf, bytes_nil _, two_below _ _ _⟩

def doneR (l : List Nat) (ok : Bool) : Bool := ok && decide (l.length = 0)

set_option maxRecDepth 100000 in
theorem rdone_any (a : Option Addr) (n c : Nat) (ok : Bool) (l : List Nat) (w : World) (hB : Bytes w a n c l) :
    Calls Try.prog 30 #[.agg #[.slice a n c, .bool (!ok)]] w fun e w' => e = .returned (.bool (doneR l ok)) ∧ Below w.heap.size w w' := by
  have hlen := hB.len
  clear hB
  cases ok
  · have hd : doneR l false = false := rfl
    rw [hd]
    clear hd hlen
    go_enter Try.func30, Try.ntmps30
    go_wp2
    go_ret
    exact ⟨rfl, (Below.refl _ _).alloc (Nat.le_refl _) _⟩
  · have hd : doneR l true = decide (l.length = 0) := Bool.true_and _
    rw [hd, hlen]
    clear hd hlen
    by_cases h0 : n = 0
    · have hq : ((n : Int) == 0) = true := beq_iff_eq.2 (by omega)
      have H0 := Lib.hid h0
      clear h0
      go_enter Try.func30, Try.ntmps30
      go_wp2
      go_ret
      exact ⟨ret_bool (decide_eq_true H0.out).symm, (Below.refl _ _).alloc (Nat.le_refl _) _⟩
    · have hq : ((n : Int) == 0) = false := beq_eq_false_iff_ne.2 (by omega)
      have H0 := Lib.hid h0
      clear h0
      go_enter Try.func30, Try.ntmps30
      go_wp2
      go_ret
      exact ⟨ret_bool (decide_eq_false H0.out).symm, (Below.refl _ _).alloc (Nat.le_refl _) _⟩
end Go.Proofs.Ytjkpcpoplpgecaa
