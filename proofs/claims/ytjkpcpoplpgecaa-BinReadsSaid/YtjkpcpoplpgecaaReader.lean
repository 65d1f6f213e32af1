/- The walks of a reader's methods: what they return, and what they leave of it. -/
import Derived.Test.YtjkpcpoplpgecaaParse
import Derived.Test.YtjkpcpoplpgecaaSlice
namespace Go.Proofs.Ytjkpcpoplpgecaa
open Go.RowKit

/-- A reader in block g: the bytes that are left, and whether it is ok. -/
def Rd (w : World) (g : Nat) (l : List Nat) (ok : Bool) : Prop :=
  ∃ a n c, w.heap[g]? = some (.cells #[.slice a n c, .bool ok] 60 (0, 0)) ∧ Bytes w a n c l ∧ Formed a c

def readN (l : List Nat) (ok : Bool) : Nat × List Nat × Bool := if ok = true ∧ 0 < (numL l 0 0).2 then ((numL l 0 0).1, l.drop (numL l 0 0).2, true) else (0, l, false)
def takeN (l : List Nat) (ok : Bool) (k : Int) : List Nat × List Nat × Bool := if ok = true ∧ 0 ≤ k ∧ k ≤ l.length then (l.take k.toNat, l.drop k.toNat, true) else ([], l, false)
def readB (l : List Nat) (ok : Bool) : List Nat × List Nat × Bool :=
  if ok = true ∧ 0 < (numL l 0 0).2 ∧ (numL l 0 0).1 ≤ l.length - (numL l 0 0).2 then ((l.drop (numL l 0 0).2).take (numL l 0 0).1, l.drop ((numL l 0 0).2 + (numL l 0 0).1), true) else ([], l, false)

theorem Rd.below {w w' : World} {g : Nat} {l : List Nat} {ok : Bool} (h : Rd w g l ok) (hb : Below w.heap.size w w') : Rd w' g l ok := by
  obtain ⟨a, n, c, h1, h2, h3⟩ := h
  exact ⟨a, n, c, (hb.block g (Array.getElem?_eq_some_iff.1 h1).1).trans h1, h2.grow hb, h3⟩

theorem rd_cell {w : World} {g : Nat} {a : Option Addr} {n c : Nat} {ok : Bool} {t : TypeId} (h : w.heap[g]? = some (.cells #[.slice a n c, .bool ok] t (0, 0))) :
    w.cell? ⟨g, 0, none⟩ = some (.slice a n c) ∧ w.cell? ⟨g, 1, none⟩ = some (.bool ok) ∧ w.frozen? ⟨g, 0, none⟩ = false ∧ w.frozen? ⟨g, 1, none⟩ = false := by
  refine ⟨?_, ?_, ?_, ?_⟩
  · rw [cell_of_row _ _ _ _ _ _ h]; rfl
  · rw [cell_of_row _ _ _ _ _ _ h]; rfl
  · simp [World.frozen?, h]
  · simp [World.frozen?, h]

theorem rd_other {w : World} {g : Nat} {a : Option Addr} {n c : Nat} {ok : Bool} {t : TypeId} {l : List Nat} (h : w.heap[g]? = some (.cells #[.slice a n c, .bool ok] t (0, 0))) {a' : Option Addr} {n' c' : Nat} (hB : Bytes w a' n' c' l) (hn : 0 < n') {x : Addr} (hx : a' = some x) : x.block ≠ g := by
  intro e
  obtain ⟨b, o, rfl, hc⟩ := hB.cell hn
  cases hx
  have h0 := hc 0 hn
  simp only at e
  subst e
  rw [Nat.add_zero, cell_of_row _ _ _ _ _ _ h] at h0
  match o with
  | 0 => cases h0
  | 1 => cases h0
  | o + 2 => simp at h0

theorem Bytes.setFar {w : World} {a : Option Addr} {n c g i : Nat} {l : List Nat} (h : Bytes w a n c l) (hg : 0 < n → ∀ x, a = some x → x.block ≠ g) (v : Value) : Bytes (w.setCell ⟨g, i, none⟩ v) a n c l := by
  rcases Nat.eq_zero_or_pos n with rfl | hn
  · obtain rfl : l = [] := List.length_eq_zero_iff.1 h.len
    exact ⟨rfl, h.le, h.capmax, h.byte, h.nil, fun h => absurd h (Nat.lt_irrefl _)⟩
  · refine h.keep fun p _ hp => ?_
    obtain ⟨b, o, rfl, _⟩ := h.cell hn
    have e := hp _ rfl
    refine World.cell?_setCell_other w _ p v (fun e2 => ?_)
    have := hg hn _ rfl
    rw [← e2] at e
    exact this e.symm

theorem rd_store1 {w : World} {g : Nat} {a : Option Addr} {n c : Nat} {ok ok' : Bool} {t : TypeId} (h : w.heap[g]? = some (.cells #[.slice a n c, .bool ok] t (0, 0))) :
    (w.setCell ⟨g, 1, none⟩ (.bool ok')).heap[g]? = some (.cells #[.slice a n c, .bool ok'] t (0, 0)) := by
  simp [World.setCell, Array.getElem?_modify, h]

theorem rd_store0 {w : World} {g : Nat} {a a' : Option Addr} {n c n' c' : Nat} {ok : Bool} {t : TypeId} (h : w.heap[g]? = some (.cells #[.slice a n c, .bool ok] t (0, 0))) :
    (w.setCell ⟨g, 0, none⟩ (.slice a' n' c')).heap[g]? = some (.cells #[.slice a' n' c', .bool ok] t (0, 0)) := by
  simp [World.setCell, Array.getElem?_modify, h]

theorem only_set {a w : World} {g : Nat} (h : a.grownBy w (some g)) (i : Nat) (u : Value) : a.grownBy (w.setCell ⟨g, i, none⟩ u) (some g) :=
  ⟨h.os, h.tape, h.output, by simpa [World.setCell] using h.size, fun k hk hne => (Below.heap_setCell w ⟨g, i, none⟩ u k (by rintro rfl; exact hne rfl)).trans (h.block k hk hne)⟩

theorem only_refl (w : World) (r : Option Nat) : w.grownBy w r := ⟨rfl, rfl, rfl, Nat.le_refl _, fun _ _ _ => rfl⟩

/-- What a method of a reader leaves: only its block has turned. -/
def RdEnd (w : World) (g : Nat) (s : List Nat × Bool) (w' : World) : Prop := Rd w' g s.1 s.2 ∧ w.grownBy w' (some g)

theorem rdEnd_fail {w : World} {g : Nat} {a : Option Addr} {n c : Nat} {ok : Bool} {l : List Nat} (h : w.heap[g]? = some (.cells #[.slice a n c, .bool ok] 60 (0, 0))) (hB : Bytes w a n c l) (hf : Formed a c) :
    RdEnd w g (l, false) (w.setCell ⟨g, 1, none⟩ (.bool false)) :=
  ⟨⟨a, n, c, rd_store1 h, hB.setFar (fun hn _ hx => rd_other h hB hn hx) _, hf⟩, only_set (only_refl _ _) _ _⟩

theorem rdEnd_go {w : World} {g : Nat} {a a' : Option Addr} {n c n' c' : Nat} {ok : Bool} {l' : List Nat} (h : w.heap[g]? = some (.cells #[.slice a n c, .bool ok] 60 (0, 0))) (hB : Bytes w a' n' c' l') (hf : Formed a' c') :
    RdEnd w g (l', true) ((w.setCell ⟨g, 1, none⟩ (.bool true)).setCell ⟨g, 0, none⟩ (.slice a' n' c')) :=
  ⟨⟨a', n', c', rd_store0 (rd_store1 h), (hB.setFar (fun hn _ hx => rd_other h hB hn hx) _).setFar (fun hn _ hx => rd_other h hB hn hx) _, hf⟩, only_set (only_set (only_refl _ _) _ _) _ _⟩

theorem parse_is (a : Option Addr) (n cap : Nat) (l : List Nat) (w : World) (z s : Nat) (hl : Bytes w a n cap l) (h : numL l 0 0 = (z, s)) :
    Calls Try.prog 43 #[.slice a n cap] w fun e w' => e = .returned (.tuple #[.int .u64 (z : Int), .int .i64 (s : Int)]) ∧ w = w' := by
  have := parse_any a n cap l w hl
  rw [h] at this
  exact this

set_option maxRecDepth 100000 in
theorem number_any (g : Nat) (l : List Nat) (ok : Bool) (w : World) (hR : Rd w g l ok) :
    Calls Try.prog 36 #[.pointer (some ⟨g, 0, none⟩)] w fun e w' => e = .returned (.int .u64 ((readN l ok).1 : Int)) ∧ RdEnd w g (readN l ok).2 w' := by
  obtain ⟨a, n, c, hg, hB, hf⟩ := hR
  obtain ⟨z, s, hz⟩ : ∃ z s, numL l 0 0 = (z, s) := ⟨_, _, rfl⟩
  obtain ⟨hs1, hs2, hs3, hs4⟩ := numL_size_le hB.byte hz
  have hlen := hB.len
  have hle := hB.le
  have hsn : s ≤ n := by omega
  have hcm := hB.capmax
  obtain ⟨c0, c1, f0, f1⟩ := rd_cell hg
  have HG := Lib.hid hg
  have HB := Lib.hid hB
  have HZ := Lib.hid hz
  clear hg hB hz hs4 hlen hs1
  by_cases hok : ok = true ∧ 0 < s
  · obtain ⟨rfl, hs⟩ := hok
    have hrd : readN l true = (z, l.drop s, true) := by unfold readN; rw [HZ.out, if_pos ⟨rfl, hs⟩]
    rw [hrd]
    obtain ⟨a', hS, hf', hB'⟩ := slice_from (k := s) Try.underlying23 info_u8 hsn hle hf
    have HB' := Lib.hid hB'
    have hsI : (0 : Int) < (s : Int) := by omega
    clear hrd hB'
    go_enter Try.func36, Try.ntmps36
    go_wp2_with fail
    refine (parse_is a n c l w z s HB.out HZ.out).mono ?_
    rintro e w1 ⟨rfl, rfl⟩
    go_wp2
    go_ret
    exact ⟨rfl, rdEnd_go HG.out (HB'.out _ _ HB.out) hf'⟩
  · have hrd : readN l ok = (0, l, false) := by unfold readN; rw [HZ.out, if_neg hok]
    rw [hrd]
    clear hrd
    cases ok
    · clear hok
      go_enter Try.func36, Try.ntmps36
      go_wp2_with fail
      refine (parse_is a n c l w z s HB.out HZ.out).mono ?_
      rintro e w1 ⟨rfl, rfl⟩
      go_wp2
      go_ret
      exact ⟨rfl, rdEnd_fail HG.out HB.out hf⟩
    · have hsI : (s : Int) ≤ 0 := by have : ¬ 0 < s := fun h => hok ⟨rfl, h⟩; omega
      have hsD : decide (0 < s) = false := decide_eq_false (by omega)
      clear hok
      go_enter Try.func36, Try.ntmps36
      go_wp2_with fail
      refine (parse_is a n c l w z s HB.out HZ.out).mono ?_
      rintro e w1 ⟨rfl, rfl⟩
      go_wp2
      go_ret
      exact ⟨rfl, rdEnd_fail HG.out HB.out hf⟩

theorem only_trans {a b c : World} {r : Option Nat} (h : a.grownBy b r) (k : b.grownBy c r) : a.grownBy c r :=
  ⟨k.os.trans h.os, k.tape.trans h.tape, k.output.trans h.output, Nat.le_trans h.size k.size, fun i hi hne => (k.block i (Nat.lt_of_lt_of_le hi h.size) hne).trans (h.block i hi hne)⟩

/-- A part of the bytes, and what is left of the reader. -/
def TakeEnd (w : World) (g : Nat) (r : List Nat × List Nat × Bool) (e : Ending) (w' : World) : Prop :=
  ∃ p m cp, e = .returned (.slice p m cp) ∧ Bytes w' p m cp r.1 ∧ Formed p cp ∧ RdEnd w g r.2 w'

set_option maxRecDepth 100000 in
theorem take_any (g : Nat) (l : List Nat) (ok : Bool) (k : Int) (w : World) (hR : Rd w g l ok) (k1 : -9223372036854775808 ≤ k) (k2 : k ≤ 9223372036854775807) :
    Calls Try.prog 40 #[.pointer (some ⟨g, 0, none⟩), .int .i64 k] w (TakeEnd w g (takeN l ok k)) := by
  obtain ⟨a, n, c, hg, hB, hf⟩ := hR
  have hle := hB.le
  have hcm := hB.capmax
  have hlen := hB.len
  obtain ⟨c0, c1, f0, f1⟩ := rd_cell hg
  have HG := Lib.hid hg
  have HB := Lib.hid hB
  clear hg hB
  by_cases hok : ok = true ∧ 0 ≤ k ∧ k ≤ l.length
  · obtain ⟨rfl, hk1, hk2⟩ := hok
    have hrd : takeN l true k = (l.take k.toNat, l.drop k.toNat, true) := by unfold takeN; rw [if_pos ⟨rfl, hk1, hk2⟩]
    rw [hrd]
    obtain ⟨j, rfl⟩ := Int.eq_ofNat_of_zero_le hk1
    rw [Int.toNat_natCast]
    have hjn : j ≤ n := by omega
    obtain ⟨a1, hS1, hf1, hB1⟩ := slice_to (k := j) Try.underlying23 info_u8 hjn hle hf
    obtain ⟨a2, hS2, hf2, hB2⟩ := slice_from (k := j) Try.underlying23 info_u8 hjn hle hf
    have HB1 := Lib.hid hB1
    have HB2 := Lib.hid hB2
    have hj : (j : Int) ≤ (n : Int) := by omega
    clear hrd hB1 hB2 hlen hk2
    go_enter Try.func40, Try.ntmps40
    go_wp2
    go_ret
    refine ⟨_, _, _, rfl, HB1.out _ _ ((HB.out.setFar (fun hn _ hx => rd_other HG.out HB.out hn hx) _).setFar (fun hn _ hx => rd_other HG.out HB.out hn hx) _), hf1, rdEnd_go HG.out (HB2.out _ _ HB.out) hf2⟩
  · have hrd : takeN l ok k = ([], l, false) := by unfold takeN; rw [if_neg hok]
    rw [hrd]
    clear hrd
    cases ok
    · clear hok hlen
      go_enter Try.func40, Try.ntmps40
      go_wp2
      go_ret
      exact ⟨none, 0, 0, rfl, bytes_nil _, formed_none 0 rfl, rdEnd_fail HG.out HB.out hf⟩
    · by_cases hk0 : 0 ≤ k
      · have hkn : (n : Int) < k := by have : ¬ k ≤ l.length := fun h => hok ⟨rfl, hk0, h⟩; omega
        have hkD : decide (k ≤ (n : Int)) = false := decide_eq_false (by omega)
        clear hok hlen
        go_enter Try.func40, Try.ntmps40
        go_wp2
        go_ret
        exact ⟨none, 0, 0, rfl, bytes_nil _, formed_none 0 rfl, rdEnd_fail HG.out HB.out hf⟩
      · have hkn : k < 0 := by omega
        clear hok hlen
        go_enter Try.func40, Try.ntmps40
        go_wp2
        go_ret
        exact ⟨none, 0, 0, rfl, bytes_nil _, formed_none 0 rfl, rdEnd_fail HG.out HB.out hf⟩

theorem rd_mark {w : World} {g : Nat} {a : Option Addr} {n c : Nat} {ok : Bool} {l : List Nat} (h : w.heap[g]? = some (.cells #[.slice a n c, .bool ok] 60 (0, 0))) (hB : Bytes w a n c l) (hf : Formed a c) :
    Rd (w.setCell ⟨g, 1, none⟩ (.bool true)) g l true := ⟨a, n, c, rd_store1 h, hB.setFar (fun hn _ hx => rd_other h hB hn hx) _, hf⟩

set_option maxRecDepth 100000 in
theorem counted_any (g : Nat) (l : List Nat) (ok : Bool) (w : World) (hR : Rd w g l ok) :
    Calls Try.prog 39 #[.pointer (some ⟨g, 0, none⟩)] w (TakeEnd w g (readB l ok)) := by
  obtain ⟨a, n, c, hg, hB, hf⟩ := hR
  obtain ⟨z, s, hz⟩ : ∃ z s, numL l 0 0 = (z, s) := ⟨_, _, rfl⟩
  obtain ⟨hs1, hs2, hs3, hs4⟩ := numL_size_le hB.byte hz
  have hlen := hB.len
  have hle := hB.le
  have hsn : s ≤ n := by omega
  have hcm := hB.capmax
  obtain ⟨c0, c1, f0, f1⟩ := rd_cell hg
  have HG := Lib.hid hg
  have HB := Lib.hid hB
  have HZ := Lib.hid hz
  clear hg hB hz hs4 hs1
  by_cases hok : ok = true ∧ 0 < s ∧ z ≤ n - s
  · obtain ⟨rfl, hs, hzn⟩ := hok
    have hrd : readB l true = ((l.drop s).take z, l.drop (s + z), true) := by unfold readB; rw [HZ.out, if_pos ⟨rfl, hs, by omega⟩]
    rw [hrd]
    have hsI : (0 : Int) < (s : Int) := by omega
    have hzI : (z : Int) ≤ (n : Int) - (s : Int) := by omega
    have hta : takeN l true ((s : Int) + (z : Int)) = (l.take (s + z), l.drop (s + z), true) := by
      unfold takeN
      rw [if_pos ⟨rfl, by omega, by omega⟩, show ((s : Int) + (z : Int)).toNat = s + z by omega]
    have Hta := Lib.hid hta
    have Hlen := Lib.hid hlen
    clear hrd hta hlen
    go_enter Try.func39, Try.ntmps39
    go_wp2_with fail
    refine (parse_is a n c l w z s HB.out HZ.out).mono ?_
    rintro e w1 ⟨rfl, rfl⟩
    go_wp2_with fail
    refine (take_any g l true _ _ (rd_mark HG.out HB.out hf) (by omega) (by omega)).mono ?_
    rintro e w2 h2
    rw [Hta.out] at h2
    obtain ⟨p, m, cp, rfl, hP, hfp, hE⟩ := h2
    have HP := Lib.hid hP
    have hmm : m = s + z := by rw [← hP.len, List.length_take, Hlen.out]; omega
    have hpl := hP.le
    clear hP
    obtain ⟨p2, hS2, hf2, hB2⟩ := slice_from (k := s) Try.underlying23 info_u8 (show s ≤ m by omega) hpl hfp
    have HB2 := Lib.hid hB2
    have Hmm := Lib.hid hmm
    have hsm : (s : Int) ≤ (m : Int) := by omega
    clear hB2 hmm
    go_wp2
    go_ret
    refine ⟨_, _, _, rfl, ?_, hf2, hE.1, only_trans (only_set (only_refl _ _) _ _) hE.2⟩
    have hfin := HB2.out _ _ HP.out
    rw [List.drop_take, show s + z - s = z by omega] at hfin
    exact hfin
  · have hrd : readB l ok = ([], l, false) := by unfold readB; rw [HZ.out, hlen, if_neg hok]
    rw [hrd]
    clear hrd hlen
    cases ok
    · clear hok
      go_enter Try.func39, Try.ntmps39
      go_wp2_with fail
      refine (parse_is a n c l w z s HB.out HZ.out).mono ?_
      rintro e w1 ⟨rfl, rfl⟩
      go_wp2
      go_ret
      exact ⟨none, 0, 0, rfl, bytes_nil _, formed_none 0 rfl, rdEnd_fail HG.out HB.out hf⟩
    · by_cases hs : 0 < s
      · have hzI : (n : Int) - (s : Int) < (z : Int) := by have : ¬ z ≤ n - s := fun h => hok ⟨rfl, hs, h⟩; omega
        have hsI : (0 : Int) < (s : Int) := by omega
        have hzD : decide ((z : Int) ≤ (n : Int) - (s : Int)) = false := decide_eq_false (by omega)
        clear hok
        go_enter Try.func39, Try.ntmps39
        go_wp2_with fail
        refine (parse_is a n c l w z s HB.out HZ.out).mono ?_
        rintro e w1 ⟨rfl, rfl⟩
        go_wp2
        go_ret
        exact ⟨none, 0, 0, rfl, bytes_nil _, formed_none 0 rfl, rdEnd_fail HG.out HB.out hf⟩
      · have hsI : (s : Int) ≤ 0 := by omega
        have hsD : decide (0 < s) = false := decide_eq_false (by omega)
        clear hok
        go_enter Try.func39, Try.ntmps39
        go_wp2_with fail
        refine (parse_is a n c l w z s HB.out HZ.out).mono ?_
        rintro e w1 ⟨rfl, rfl⟩
        go_wp2
        go_ret
        exact ⟨none, 0, 0, rfl, bytes_nil _, formed_none 0 rfl, rdEnd_fail HG.out HB.out hf⟩
end Go.Proofs.Ytjkpcpoplpgecaa
