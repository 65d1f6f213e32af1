import Derived.Test.YtpnfnmeilhiebaaGreatDoorMP13
import Derived.Test.YtpnfnmeilhiebaaGreatDoorMP1
/- The walks of a reader's methods: what they return, and what they leave of it. -/
namespace Go.Proofs.YtpnfnmeilhiebaaGreatDoor
open Go.RowKit

/-- A reader in block g: the bytes that are left, and whether it is ok. -/
def Rd (w : World) (g : Nat) (l : List Nat) (ok : Bool) : Prop :=
  ∃ a n c, w.heap[g]? = some (.cells #[.slice a n c, .bool ok] 55 (0, 0)) ∧ Bytes w a n c l ∧ Formed a c

def readN (l : List Nat) (ok : Bool) : Nat × List Nat × Bool := if ok = true ∧ 0 < (numL l 0 0).2 then ((numL l 0 0).1, l.drop (numL l 0 0).2, true) else (0, l, false)
def takeN (l : List Nat) (ok : Bool) (k : Int) : List Nat × List Nat × Bool := if ok = true ∧ 0 ≤ k ∧ k ≤ l.length then (l.take k.toNat, l.drop k.toNat, true) else ([], l, false)
def readB (l : List Nat) (ok : Bool) : List Nat × List Nat × Bool :=
  if ok = true ∧ 0 < (numL l 0 0).2 ∧ (numL l 0 0).1 ≤ l.length - (numL l 0 0).2 then ((l.drop (numL l 0 0).2).take (numL l 0 0).1, l.drop ((numL l 0 0).2 + (numL l 0 0).1), true) else ([], l, false)

theorem Rd.below {w w' : World} {g : Nat} {l : List Nat} {ok : Bool} (h : Rd w g l ok) (hb : Below w.heap.size w w') : Rd w' g l ok := by
  obtain ⟨a, n, c, h1, h2, h3⟩ := h
  exact ⟨a, n, c, (hb.block g (Array.getElem?_eq_some_iff.1 h1).1).trans h1, h2.grow hb, h3⟩

theorem rd_cell {w : World} {g : Nat} {a : Option Addr} {n c : Nat} {ok : Bool} {t : TypeId} (h : w.heap[g]? = some (.cells #[.slice a n c, .bool ok] t (0, 0))) :
    w.cell? ⟨g, 0, none⟩ = some (.slice a n c) ∧ w.cell? ⟨g, 1, none⟩ = some (.bool ok) ∧ w.frozen? ⟨g, 0, none⟩ = false ∧ w.frozen? ⟨g, 1, none⟩ = false := by
  refine ⟨?_, ?_, ?_, ?_⟩
  · rw [cell_of_row _ _ _ _ _ _ h]; rfl
  · rw [cell_of_row _ _ _ _ _ _ h]; rfl
  · simp [World.frozen?, h]
  · simp [World.frozen?, h]

theorem rd_other {w : World} {g : Nat} {a : Option Addr} {n c : Nat} {ok : Bool} {t : TypeId} {l : List Nat} (h : w.heap[g]? = some (.cells #[.slice a n c, .bool ok] t (0, 0))) {a' : Option Addr} {n' c' : Nat} (hB : Bytes w a' n' c' l) (hn : 0 < n') {x : Addr} (hx : a' = some x) : x.block ≠ g := by
  intro e
  obtain ⟨b, o, rfl, hc⟩ := hB.cell hn
  cases hx
  have h0 := hc 0 hn
  simp only at e
  subst e
  rw [Nat.add_zero, cell_of_row _ _ _ _ _ _ h] at h0
  match o with
  | 0 => cases h0
  | 1 => cases h0
  | o + 2 => simp at h0

theorem Bytes.setFar {w : World} {a : Option Addr} {n c g i : Nat} {l : List Nat} (h : Bytes w a n c l) (hg : 0 < n → ∀ x, a = some x → x.block ≠ g) (v : Value) : Bytes (w.setCell ⟨g, i, none⟩ v) a n c l := by
  rcases Nat.eq_zero_or_pos n with rfl | hn
  · obtain rfl : l = [] := List.length_eq_zero_iff.1 h.len
    exact ⟨rfl, h.le, h.capmax, h.byte, h.nil, fun h => absurd h (Nat.lt_irrefl _)⟩
  · refine h.keep fun p _ hp => ?_
    obtain ⟨b, o, rfl, _⟩ := h.cell hn
    have e := hp _ rfl
    refine World.cell?_setCell_other w _ p v (fun e2 => ?_)
    have := hg hn _ rfl
    rw [← e2] at e
    exact this e.symm

theorem rd_store1 {w : World} {g : Nat} {a : Option Addr} {n c : Nat} {ok ok' : Bool} {t : TypeId} (h : w.heap[g]? = some (.cells #[.slice a n c, .bool ok] t (0, 0))) :
    (w.setCell ⟨g, 1, none⟩ (.bool ok')).heap[g]? = some (.cells #[.slice a n c, .bool ok'] t (0, 0)) := by
  simp [World.setCell, Array.getElem?_modify, h]

theorem rd_store0 {w : World} {g : Nat} {a a' : Option Addr} {n c n' c' : Nat} {ok : Bool} {t : TypeId} (h : w.heap[g]? = some (.cells #[.slice a n c, .bool ok] t (0, 0))) :
    (w.setCell ⟨g, 0, none⟩ (.slice a' n' c')).heap[g]? = some (.cells #[.slice a' n' c', .bool ok] t (0, 0)) := by
  simp [World.setCell, Array.getElem?_modify, h]

theorem only_set {a w : World} {g : Nat} (h : a.grownBy w (some g)) (i : Nat) (u : Value) : a.grownBy (w.setCell ⟨g, i, none⟩ u) (some g) :=
  ⟨h.os, h.tape, h.output, by simpa [World.setCell] using h.size, fun k hk hne => (Below.heap_setCell w ⟨g, i, none⟩ u k (by rintro rfl; exact hne rfl)).trans (h.block k hk hne)⟩

theorem only_refl (w : World) (r : Option Nat) : w.grownBy w r := ⟨rfl, rfl, rfl, Nat.le_refl _, fun _ _ _ => rfl⟩

/-- What a method of a reader leaves: only its block has turned. -/
def RdEnd (w : World) (g : Nat) (s : List Nat × Bool) (w' : World) : Prop := Rd w' g s.1 s.2 ∧ w.grownBy w' (some g)

theorem rdEnd_fail {w : World} {g : Nat} {a : Option Addr} {n c : Nat} {ok : Bool} {l : List Nat} (h : w.heap[g]? = some (.cells #[.slice a n c, .bool ok] 55 (0, 0))) (hB : Bytes w a n c l) (hf : Formed a c) :
    RdEnd w g (l, false) (w.setCell ⟨g, 1, none⟩ (.bool false)) :=
  ⟨⟨a, n, c, rd_store1 h, hB.setFar (fun hn _ hx => rd_other h hB hn hx) _, hf⟩, only_set (only_refl _ _) _ _⟩

theorem rdEnd_go {w : World} {g : Nat} {a a' : Option Addr} {n c n' c' : Nat} {ok : Bool} {l' : List Nat} (h : w.heap[g]? = some (.cells #[.slice a n c, .bool ok] 55 (0, 0))) (hB : Bytes w a' n' c' l') (hf : Formed a' c') :
    RdEnd w g (l', true) ((w.setCell ⟨g, 1, none⟩ (.bool true)).setCell ⟨g, 0, none⟩ (.slice a' n' c')) :=
  ⟨⟨a', n', c', rd_store0 (rd_store1 h), (hB.setFar (fun hn _ hx => rd_other h hB hn hx) _).setFar (fun hn _ hx => rd_other h hB hn hx) _, hf⟩, only_set (only_set (only_refl _ _) _ _) _ _⟩

theorem parse_is (a : Option Addr) (n cap : Nat) (l : List Nat) (w : World) (z s : Nat) (hl : Bytes w a n cap l) (h : numL l 0 0 = (z, s)) :
    Calls Tryz.prog 79 #[.slice a n cap] w fun e w' => e = .returned (.tuple #[.int .u64 (z : Int), .int .i64 (s : Int)]) ∧ w = w' := by
  have := parse_any a n cap l w hl
  rw [h] at this
  exact this

set_option maxRecDepth 100000 in
theorem number_any (g : Nat) (l : List Nat) (ok : Bool) (w : World) (hR : Rd w g l ok) :
    Calls Tryz.prog 63 #[.pointer (some ⟨g, 0, none⟩)] w fun e w' => e = .returned (.int .u64 ((readN l ok).1 : Int)) ∧ RdEnd w g (readN l ok).2 w' := by
  obtain ⟨a, n, c, hg, hB, hf⟩ := hR
  obtain ⟨z, s, hz⟩ : ∃ z s, numL l 0 0 = (z, s) := ⟨_, _, rfl⟩
  obtain ⟨hs1, hs2, hs3, hs4⟩ := numL_size_le hB.byte hz
  have hlen := hB.len
  have hle := hB.le
  have hsn : s ≤ n := by omega
  have hcm := hB.capmax
  obtain ⟨c0, c1, f0, f1⟩ := rd_cell hg
  have HG := Lib.hid hg
  have HB := Lib.hid hB
  have HZ := Lib.hid hz
  clear hg hB hz hs4 hlen hs1
  by_cases hok : ok = true ∧ 0 < s
  · obtain ⟨rfl, hs⟩ := hok
    have hrd : readN l true = (z, l.drop s, true) := by unfold readN; rw [HZ.out, if_pos ⟨rfl, hs⟩]
    rw [hrd]
    obtain ⟨a', hS, hf', hB'⟩ := slice_from (k := s) Tryz.underlying28 info_u8 hsn hle hf
    have HB' := Lib.hid hB'
    have hsI : (0 : Int) < (s : Int) := by omega
    clear hrd hB'
    go_enter Tryz.func63, Tryz.ntmps63
    go_wp2_with fail
    refine (parse_is a n c l w z s HB.out HZ.out).mono ?_
    rintro e w1 ⟨rfl, rfl⟩
    go_wp2
    go_ret
    exact ⟨rfl, rdEnd_go HG.out (HB'.out _ _ HB.out) hf'⟩
  · have hrd : readN l ok = (0, l, false) := by unfold readN; rw [HZ.out, if_neg hok]
    rw [hrd]
    clear hrd
    cases ok
    · clear hok
      go_enter Tryz.func63, Tryz.ntmps63
      go_wp2_with fail
      refine (parse_is a n c l w z s HB.out HZ.out).mono ?_
      rintro e w1 ⟨rfl, rfl⟩
      go_wp2
      go_ret
      exact ⟨rfl, rdEnd_fail HG.out HB.out hf⟩
    · have hsI : (s : Int) ≤ 0 := by have : ¬ 0 < s := fun h => hok ⟨rfl, h⟩; omega
      have hsD : decide (0 < s) = false := decide_eq_false (by omega)
      clear hok
      go_enter Tryz.func63, Tryz.ntmps63
      go_wp2_with fail
      refine (parse_is a n c l w z s HB.out HZ.out).mono ?_
      rintro e w1 ⟨rfl, rfl⟩
      go_wp2
      go_ret
      exact ⟨rfl, rdEnd_fail HG.out HB.out hf⟩

theorem only_trans {a b c : World} {r : Option Nat} (h : a.grownBy b r) (k : b.grownBy c r) : a.grownBy c r :=
  ⟨k.os.trans h.os, k.tape.trans h.tape, k.output.trans h.output, Nat.le_trans h.size k.size, fun i hi hne => (k.block i (Nat.lt_of_lt_of_le hi h.size) hne).trans (h.block i hi hne)⟩

/-- A part of the bytes, and what is left of the reader. -/
def TakeEnd (w : World) (g : Nat) (r : List Nat × List Nat × Bool) (e : Ending) (w' : World) : Prop :=
  ∃ p m cp, e = .returned (.slice p m cp) ∧ Bytes w' p m cp r.1 ∧ Formed p cp ∧ RdEnd w g r.2 w'

set_option maxRecDepth 100000 in
theorem take_any (g : Nat) (l : List Nat) (ok : Bool) (k : Int) (w : World) (hR : Rd w g l ok) (k1 : -9223372036854775808 ≤ k) (k2 : k ≤ 9223372036854775807) :
    Calls Tryz.prog 80 #[.pointer (some ⟨g, 0, none⟩), .int .i64 k] w (TakeEnd w g (takeN l ok k)) := by
  obtain ⟨a, n, c, hg, hB, hf⟩ := hR
  have hle := hB.le
  have hcm := hB.capmax
  have hlen := hB.len
  obtain ⟨c0, c1, f0, f1⟩ := rd_cell hg
  have HG := Lib.hid hg
  have HB := Lib.hid hB
  clear hg hB
  by_cases hok : ok = true ∧ 0 ≤ k ∧ k ≤ l.length
  · obtain ⟨rfl, hk1, hk2⟩ := hok
    have hrd : takeN l true k = (l.take k.toNat, l.drop k.toNat, true) := by unfold takeN; rw [if_pos ⟨rfl, hk1, hk2⟩]
    rw [hrd]
    obtain ⟨j, rfl⟩ := Int.eq_ofNat_of_zero_le hk1
    rw [Int.toNat_natCast]
    have hjn : j ≤ n := by omega
    obtain ⟨a1, hS1, hf1, hB1⟩ := slice_to (k := j) Tryz.underlying28 info_u8 hjn hle hf
    obtain ⟨a2, hS2, hf2, hB2⟩ := slice_from (k := j) Tryz.underlying28 info_u8 hjn hle hf
    have HB1 := Lib.hid hB1
    have HB2 := Lib.hid hB2
    have hj : (j : Int) ≤ (n : Int) := by omega
    clear hrd hB1 hB2 hlen hk2
    go_enter Tryz.func80, Tryz.ntmps80
    go_wp2
    go_ret
    refine ⟨_, _, _, rfl, HB1.out _ _ ((HB.out.setFar (fun hn _ hx => rd_other HG.out HB.out hn hx) _).setFar (fun hn _ hx => rd_other HG.out HB.out hn hx) _), hf1, rdEnd_go HG.out (HB2.out _ _ HB.out) hf2⟩
  · have hrd : takeN l ok k = ([], l, false) := by unfold takeN; rw [if_neg hok]
    rw [hrd]
    clear hrd
    cases ok
    · clear hok hlen
      go_enter Tryz.func80, Tryz.ntmps80
      go_wp2
      go_ret
      exact ⟨none, 0, 0, rfl, bytes_nil _, formed_none 0 rfl, rdEnd_fail HG.out HB.out hf⟩
    · by_cases hk0 : 0 ≤ k
      · have hkn : (n : Int) < k := by have : ¬ k ≤ l.length := fun h => hok ⟨rfl, hk0, h⟩; omega
        have hkD : decide (k ≤ (n : Int)) = false := decide_eq_false (by omega)
        clear hok hlen
        go_enter Tryz.func80, Tryz.ntmps80
        go_wp2
        go_ret
        exact ⟨none, 0, 0, rfl, bytes_nil _, formed_none 0 rfl, rdEnd_fail HG.out HB.out hf⟩
      · have hkn : k < 0 := by omega
        clear hok hlen
        go_enter Tryz.func80, Tryz.ntmps80
        go_wp2
        go_ret
        exact ⟨none, 0, 0, rfl, bytes_nil _, formed_none 0 rfl, rdEnd_fail HG.out HB.out hf⟩

theorem rd_mark {w : World} {g : Nat} {a : Option Addr} {n c : Nat} {ok : Bool} {l : List Nat} (h : w.heap[g]? = some (.cells #[.slice a n c, .bool ok] 55 (0, 0))) (hB : Bytes w a n c l) (hf : Formed a c) :
    Rd (w.setCell ⟨g, 1, none⟩ (.bool true)) g l true := ⟨a, n, c, rd_store1 h, hB.setFar (fun hn _ hx => rd_other h hB hn hx) _, hf⟩

set_option maxRecDepth 100000 in
theorem counted_any (g : Nat) (l : List Nat) (ok : Bool) (w : World) (hR : Rd w g l ok) :
    Calls Tryz.prog 67 #[.pointer (some ⟨g, 0, none⟩)] w (TakeEnd w g (readB l ok)) := by
  obtain ⟨a, n, c, hg, hB, hf⟩ := hR
  obtain ⟨z, s, hz⟩ : ∃ z s, numL l 0 0 = (z, s) := ⟨_, _, rfl⟩
  obtain ⟨hs1, hs2, hs3, hs4⟩ := numL_size_le hB.byte hz
  have hlen := hB.len
  have hle := hB.le
  have hsn : s ≤ n := by omega
  have hcm := hB.capmax
  obtain ⟨c0, c1, f0, f1⟩ := rd_cell hg
  have HG := Lib.hid hg
  have HB := Lib.hid hB
  have HZ := Lib.hid hz
  clear hg hB hz hs4 hs1
  by_cases hok : ok = true ∧ 0 < s ∧ z ≤ n - s
  · obtain ⟨rfl, hs, hzn⟩ := hok
    have hrd : readB l true = ((l.drop s).take z, l.drop (s + z), true) := by unfold readB; rw [HZ.out, if_pos ⟨rfl, hs, by omega⟩]
    rw [hrd]
    have hsI : (0 : Int) < (s : Int) := by omega
    have hzI : (z : Int) ≤ (n : Int) - (s : Int) := by omega
    have hta : takeN l true ((s : Int) + (z : Int)) = (l.take (s + z), l.drop (s + z), true) := by
      unfold takeN
      rw [if_pos ⟨rfl, by omega, by omega⟩, show ((s : Int) + (z : Int)).toNat = s + z by omega]
    have Hta := Lib.hid hta
    have Hlen := Lib.hid hlen
    clear hrd hta hlen
    go_enter Tryz.func67, Tryz.ntmps67
    go_wp2_with fail
    refine (parse_is a n c l w z s HB.out HZ.out).mono ?_
    rintro e w1 ⟨rfl, rfl⟩
    go_wp2_with fail
    refine (take_any g l true _ _ (rd_mark HG.out HB.out hf) (by omega) (by omega)).mono ?_
    rintro e w2 h2
    rw [Hta.out] at h2
    obtain ⟨p, m, cp, rfl, hP, hfp, hE⟩ := h2
    have HP := Lib.hid hP
    have hmm : m = s + z := by rw [← hP.len, List.length_take, Hlen.out]; omega
    have hpl := hP.le
    clear hP
    obtain ⟨p2, hS2, hf2, hB2⟩ := slice_from (k := s) Tryz.underlying28 info_u8 (show s ≤ m by omega) hpl hfp
    have HB2 := Lib.hid hB2
    have Hmm := Lib.hid hmm
    have hsm : (s : Int) ≤ (m : Int) := by omega
    clear hB2 hmm
    go_wp2
    go_ret
    refine ⟨_, _, _, rfl, ?_, hf2, hE.1, only_trans (only_set (only_refl _ _) _ _) hE.2⟩
    have hfin := HB2.out _ _ HP.out
    rw [List.drop_take, show s + z - s = z by omega] at hfin
    exact hfin
  · have hrd : readB l ok = ([], l, false) := by unfold readB; rw [HZ.out, hlen, if_neg hok]
    rw [hrd]
    clear hrd hlen
    cases ok
    · clear hok
      go_enter Tryz.func67, Tryz.ntmps67
      go_wp2_with fail
      refine (parse_is a n c l w z s HB.out HZ.out).mono ?_
      rintro e w1 ⟨rfl, rfl⟩
      go_wp2
      go_ret
      exact ⟨none, 0, 0, rfl, bytes_nil _, formed_none 0 rfl, rdEnd_fail HG.out HB.out hf⟩
    · by_cases hs : 0 < s
      · have hzI : (n : Int) - (s : Int) < (z : Int) := by have : ¬ z ≤ n - s := fun h => hok ⟨rfl, hs, h⟩; omega
        have hsI : (0 : Int) < (s : Int) := by omega
        have hzD : decide ((z : Int) ≤ (n : Int) - (s : Int)) = false := decide_eq_false (by omega)
        clear hok
        go_enter Tryz.func67, Tryz.ntmps67
        go_wp2_with fail
        refine (parse_is a n c l w z s HB.out HZ.out).mono ?_
        rintro e w1 ⟨rfl, rfl⟩
        go_wp2
        go_ret
        exact ⟨none, 0, 0, rfl, bytes_nil _, formed_none 0 rfl, rdEnd_fail HG.out HB.out hf⟩
      · have hsI : (s : Int) ≤ 0 := by omega
        have hsD : decide (0 < s) = false := decide_eq_false (by omega)
        clear hok
        go_enter Tryz.func67, Tryz.ntmps67
        go_wp2_with fail
        refine (parse_is a n c l w z s HB.out HZ.out).mono ?_
        rintro e w1 ⟨rfl, rfl⟩
        go_wp2
        go_ret
        exact ⟨none, 0, 0, rfl, bytes_nil _, formed_none 0 rfl, rdEnd_fail HG.out HB.out hf⟩
end Go.Proofs.YtpnfnmeilhiebaaGreatDoor

/- The walk of bytes.Clone of bytes. -/
namespace Go.Proofs.YtpnfnmeilhiebaaGreatDoor
open Go.RowKit

theorem bclone_nil (w : World) : Calls Tryz.prog 31 #[.slice none 0 0] w (NewBytes w []) := by
  have hq := fun (w : World) (a : Option Addr) (n c : Nat) => Lib.run_eql_slice_nil (P := Tryz.prog) w 28 5 a n c 0 0 Tryz.underlying28
  go_enter Tryz.func31, Tryz.ntmps31
  go_wp2
  go_ret
  exact ⟨_, rfl, World.ownsRow_nil _ _ _ _, Below.refl _ _⟩

theorem bclone_some (a : Addr) (n cap : Nat) (l : List Nat) (w : World) (hl : Bytes w (some a) n cap l) (hn : n ≤ 140737488355328) : Calls Tryz.prog 31 #[.slice (some a) n cap] w (NewBytes w l) := by
  have hl := Lib.hid (hl.grow (w' := w.alloc (.cells #[] 5)) ((Below.refl _ _).alloc (Nat.le_refl _) _))
  have hown : (w.alloc (.cells #[] 5)).ownsRow w.heap.size 5 1 (.slice (some ⟨w.heap.size, 0, none⟩) 0 0) 0 (u8s []) := World.ownsRow_made w #[] 0 (Nat.le_refl _) (Nat.zero_le _) rfl
  have hown := Lib.hid hown
  rename_i hl0 hown0; clear hl0 hown0
  have hq := fun (w : World) (a : Option Addr) (n c : Nat) => Lib.run_eql_slice_nil (P := Tryz.prog) w 28 5 a n c 0 0 Tryz.underlying28
  have hbel : Below w.heap.size w (w.alloc (.cells #[] 5)) := (Below.refl _ _).alloc (Nat.le_refl _) _
  go_enter Tryz.func31, Tryz.ntmps31
  go_wp2_with (at_builtin; refine wpList_append_bytes _ rfl _ _ 28 rfl w.heap.size 5 Tryz.underlying28 info_u8 _ _ _ rfl hown.out (some a) n cap l rfl hl.out (by omega) hbel.size ?_; intro v' w1 g1 g2)
  go_ret
  refine ⟨_, rfl, ?_, hbel.grown g2 hbel.size (fun k hk => (hown.out.lt k hk).1)⟩
  rw [hl.out.len]
  simpa using g1

theorem bclone_any (a : Option Addr) (n cap : Nat) (l : List Nat) (w : World) (hl : Bytes w a n cap l) (hn : n ≤ 140737488355328) : Calls Tryz.prog 31 #[.slice a n cap] w (NewBytes w l) := by
  cases a with
  | none =>
    obtain rfl : cap = 0 := hl.nil rfl
    obtain rfl : n = 0 := by have := hl.le; omega
    obtain rfl : l = [] := List.length_eq_zero_iff.1 hl.len
    exact bclone_nil w
  | some a => exact bclone_some a n cap l w hl hn

end Go.Proofs.YtpnfnmeilhiebaaGreatDoor

/- The walks of a reader's exported methods, for a reader and for none. -/
namespace Go.Proofs.YtpnfnmeilhiebaaGreatDoor
open Go.RowKit

theorem only_below {a b c : World} {r : Option Nat} (h : a.grownBy b r) (k : Below b.heap.size b c) : a.grownBy c r :=
  ⟨k.os.trans h.os, k.tape.trans h.tape, k.output.trans h.output, Nat.le_trans h.size k.size, fun i hi hne => (k.block i (Nat.lt_of_lt_of_le hi h.size)).trans (h.block i hi hne)⟩

theorem RdEnd.below {w w1 w2 : World} {g : Nat} {s : List Nat × Bool} (h : RdEnd w g s w1) (hb : Below w1.heap.size w1 w2) : RdEnd w g s w2 := ⟨h.1.below hb, only_below h.2 hb⟩

/-- What orNone answers: the receiver, or a new reader. -/
def OrNone (v : Value) (g : Nat) (w w1 : World) : Prop := Calls Tryz.prog 57 #[v] w fun e w' => e = .returned (.pointer (some ⟨g, 0, none⟩)) ∧ w1 = w'

theorem orNone_some (g : Nat) (w : World) : OrNone (.pointer (some ⟨g, 0, none⟩)) g w w := by
  show Calls _ _ _ _ _
  go_enter Tryz.func57, Tryz.ntmps57
  go_wp2
  go_ret
  exact ⟨rfl, rfl⟩

theorem orNone_none (w : World) : OrNone (.pointer none) w.heap.size w (w.alloc (.cells #[.slice none 0 0, .bool false] 55)) := by
  show Calls _ _ _ _ _
  go_enter Tryz.func57, Tryz.ntmps57
  go_wp2
  go_ret
  exact ⟨rfl, rfl⟩

theorem rd_new (w : World) : Rd (w.alloc (.cells #[.slice none 0 0, .bool false] 55)) w.heap.size [] false :=
  ⟨none, 0, 0, heap_alloc_new _ _, bytes_nil _, formed_none 0 rfl⟩

theorem below_new {w w' : World} {s : List Nat × Bool} (h : RdEnd (w.alloc (.cells #[.slice none 0 0, .bool false] 55)) w.heap.size s w') : Below w.heap.size w w' :=
  ((Below.refl _ _).alloc (Nat.le_refl _) _).grown h.2 (by simp) (fun k hk => by cases hk; exact Nat.le_refl _)

section
variable (v : Value) (g : Nat) (l : List Nat) (ok : Bool) (w w1 : World) (hO : OrNone v g w w1) (hR : Rd w1 g l ok)
include hO hR

theorem mUint : Calls Tryz.prog 48 #[v] w fun e w' => e = .returned (.int .u64 ((readN l ok).1 : Int)) ∧ RdEnd w1 g (readN l ok).2 w' := by
  have HO := Lib.hid hO
  have HR := Lib.hid hR
  clear hO hR
  go_enter Tryz.func48, Tryz.ntmps48
  go_wp2_with fail
  refine (show Calls _ _ _ _ _ from HO.out).mono ?_
  rintro e w2 ⟨rfl, rfl⟩
  go_wp2_with fail
  refine (number_any g l ok w1 HR.out).mono ?_
  rintro e w2 ⟨rfl, h2⟩
  go_wp2
  go_ret
  exact ⟨rfl, h2⟩

omit hO in
theorem readN_lt : (readN l ok).1 < 18446744073709551616 := by
  obtain ⟨a, n, c, _, hB, _⟩ := hR
  obtain ⟨z, s, hz⟩ : ∃ z s, numL l 0 0 = (z, s) := ⟨_, _, rfl⟩
  have := (numL_size_le hB.byte hz).2.2.1
  unfold readN
  rw [hz]
  split
  · exact this
  · show (0 : Nat) < 18446744073709551616
    decide

theorem mInt : Calls Tryz.prog 49 #[v] w fun e w' => e = .returned (.int .i64 (unfoldL (readN l ok).1)) ∧ RdEnd w1 g (readN l ok).2 w' := by
  have hlt := readN_lt g l ok w1 hR
  have HO := Lib.hid hO
  have HR := Lib.hid hR
  clear hO hR
  go_enter Tryz.func49, Tryz.ntmps49
  go_wp2_with fail
  refine (show Calls _ _ _ _ _ from HO.out).mono ?_
  rintro e w2 ⟨rfl, rfl⟩
  go_wp2_with fail
  refine (number_any g l ok w1 HR.out).mono ?_
  rintro e w2 ⟨rfl, h2⟩
  go_wp2_with fail
  refine (unfold_any _ w2 hlt).mono ?_
  rintro e w3 ⟨rfl, rfl⟩
  go_wp2
  go_ret
  exact ⟨rfl, h2⟩

/-- Bytes in new memory. -/
def GiveEnd (w : World) (g : Nat) (r : List Nat × List Nat × Bool) (e : Ending) (w' : World) : Prop :=
  ∃ p m cp, e = .returned (.slice p m cp) ∧ Bytes w' p m cp r.1 ∧ RdEnd w g r.2 w'

omit hO hR in
theorem give_of_clone {w1 w2 w3 : World} {g : Nat} {r : List Nat × List Nat × Bool} {x : Value} (hE : RdEnd w1 g r.2 w2) (hx : OwnBytes w2 w3 x r.1) (hb : ∀ y ∈ r.1, y < 256) : GiveEnd w1 g r (.returned x) w3 := by
  obtain ⟨hown, hbel⟩ := hx
  obtain ⟨p, cp, rfl, hB⟩ := own_slice hown hb
  exact ⟨p, _, cp, rfl, hB, hE.below hbel⟩

theorem mTake (k : Int) (k1 : -9223372036854775808 ≤ k) (k2 : k ≤ 9223372036854775807) (hl : l.length ≤ 1000000) : Calls Tryz.prog 65 #[v, .int .i64 k] w (GiveEnd w1 g (takeN l ok k)) := by
  have HO := Lib.hid hO
  have HR := Lib.hid hR
  have hlen : (takeN l ok k).1.length ≤ 1000000 := by
    unfold takeN
    split
    · rw [List.length_take]; omega
    · simp
  clear hO hR
  go_enter Tryz.func65, Tryz.ntmps65
  go_wp2_with fail
  refine (show Calls _ _ _ _ _ from HO.out).mono ?_
  rintro e w2 ⟨rfl, rfl⟩
  go_wp2_with fail
  refine (take_any g l ok k w1 HR.out k1 k2).mono ?_
  rintro e w2 ⟨p, m, cp, rfl, hP, hfp, hE⟩
  have hm : m ≤ 1000000 := by rw [← hP.len]; exact hlen
  have HP := Lib.hid hP
  clear hP
  go_wp2_with fail
  refine (bclone_any p m cp _ w2 HP.out (by omega)).mono ?_
  rintro e w3 ⟨x, rfl, hx⟩
  go_wp2
  go_ret
  exact give_of_clone hE hx HP.out.byte

theorem mText : Calls Tryz.prog 51 #[v] w fun e w' => e = .returned (.string (str (readB l ok).1)) ∧ RdEnd w1 g (readB l ok).2 w' := by
  have HO := Lib.hid hO
  have HR := Lib.hid hR
  clear hO hR
  go_enter Tryz.func51, Tryz.ntmps51
  go_wp2_with fail
  refine (show Calls _ _ _ _ _ from HO.out).mono ?_
  rintro e w2 ⟨rfl, rfl⟩
  go_wp2_with fail
  refine (counted_any g l ok w1 HR.out).mono ?_
  rintro e w2 ⟨p, m, cp, rfl, hP, hfp, hE⟩
  have hcv := convert_bytes (P := Tryz.prog) hP 28 5 9 Tryz.underlying28 Tryz.underlying5 Tryz.underlying9
  clear hP
  go_wp2
  go_ret
  exact ⟨rfl, hE⟩

theorem mLeft : Calls Tryz.prog 36 #[v] w fun e w' => e = .returned (.int .i64 (l.length : Nat)) ∧ w1 = w' := by
  have HO := Lib.hid hO
  obtain ⟨a, n, c, hg, hB, _⟩ := hR
  obtain ⟨c0, _, _, _⟩ := rd_cell hg
  have HL := Lib.hid hB.len
  clear hO hg hB
  go_enter Tryz.func36, Tryz.ntmps36
  go_wp2_with fail
  refine (show Calls _ _ _ _ _ from HO.out).mono ?_
  rintro e w2 ⟨rfl, rfl⟩
  go_wp2
  go_ret
  exact ⟨ret_i64 (by rw [HL.out]), rfl⟩

theorem mOk : Calls Tryz.prog 35 #[v] w fun e w' => e = .returned (.bool ok) ∧ w1 = w' := by
  have HO := Lib.hid hO
  obtain ⟨a, n, c, hg, hB, _⟩ := hR
  obtain ⟨_, c1, _, _⟩ := rd_cell hg
  clear hO hg hB
  go_enter Tryz.func35, Tryz.ntmps35
  go_wp2_with fail
  refine (show Calls _ _ _ _ _ from HO.out).mono ?_
  rintro e w2 ⟨rfl, rfl⟩
  go_wp2
  go_ret
  exact ⟨rfl, rfl⟩
end

def doneB (l : List Nat) (ok : Bool) : Bool := ok && decide (l.length = 0)

theorem mDone (g : Nat) (l : List Nat) (ok : Bool) (w : World) (hR : Rd w g l ok) :
    Calls Tryz.prog 17 #[.pointer (some ⟨g, 0, none⟩)] w fun e w' => e = .returned (.bool (doneB l ok)) ∧ w = w' := by
  have HR := Lib.hid hR
  clear hR
  cases ok
  · have hd : doneB l false = false := rfl
    rw [hd]
    clear hd
    go_enter Tryz.func17, Tryz.ntmps17
    go_wp2_with fail
    refine (mOk _ g l false w w (orNone_some g w) HR.out).mono ?_
    rintro e w2 ⟨rfl, rfl⟩
    go_wp2
    go_ret
    exact ⟨rfl, rfl⟩
  · have hd : doneB l true = decide (l.length = 0) := Bool.true_and _
    rw [hd]
    clear hd
    by_cases h0 : l.length = 0
    · have hq : (((l.length : Nat) : Int) == 0) = true := beq_iff_eq.2 (by omega)
      have H0 := Lib.hid h0
      clear h0
      go_enter Tryz.func17, Tryz.ntmps17
      go_wp2_with fail
      refine (mOk _ g l true w w (orNone_some g w) HR.out).mono ?_
      rintro e w2 ⟨rfl, rfl⟩
      go_wp2_with fail
      refine (mLeft _ g l true w w (orNone_some g w) HR.out).mono ?_
      rintro e w2 ⟨rfl, rfl⟩
      go_wp2
      go_ret
      exact ⟨ret_bool (decide_eq_true H0.out).symm, rfl⟩
    · have hq : (((l.length : Nat) : Int) == 0) = false := beq_eq_false_iff_ne.2 (by omega)
      have H0 := Lib.hid h0
      clear h0
      go_enter Tryz.func17, Tryz.ntmps17
      go_wp2_with fail
      refine (mOk _ g l true w w (orNone_some g w) HR.out).mono ?_
      rintro e w2 ⟨rfl, rfl⟩
      go_wp2_with fail
      refine (mLeft _ g l true w w (orNone_some g w) HR.out).mono ?_
      rintro e w2 ⟨rfl, rfl⟩
      go_wp2
      go_ret
      exact ⟨ret_bool (decide_eq_false H0.out).symm, rfl⟩

theorem mDone_none (w : World) :
    Calls Tryz.prog 17 #[.pointer none] w fun e w' => e = .returned (.bool false) ∧ Below w.heap.size w w' := by
  go_enter Tryz.func17, Tryz.ntmps17
  go_wp2_with fail
  refine (mOk _ w.heap.size [] false w _ (orNone_none w) (rd_new w)).mono ?_
  rintro e w2 ⟨rfl, rfl⟩
  go_wp2
  go_ret
  exact ⟨rfl, (Below.refl _ _).alloc (Nat.le_refl _) _⟩

/-- New returns a reader of the bytes. -/
def NewEnd (w : World) (l : List Nat) (e : Ending) (w' : World) : Prop := ∃ g, e = .returned (.pointer (some ⟨g, 0, none⟩)) ∧ w.heap.size ≤ g ∧ Rd w' g l true ∧ Below w.heap.size w w'

theorem own_far {w : World} {base : Nat} {e : TypeId} {p : Option Addr} {n c m : Nat} {l : List Nat} (h : w.ownsRow base e 1 (.slice p n c) m (u8s l)) : ∀ x, p = some x → base ≤ x.block := by
  intro x hx
  rcases h.2 with ⟨hv, _⟩ | ⟨g, cap', cur, hv, hg, _⟩
  · cases hv; cases hx
  · cases hv; cases hx; exact hg

/-- A reader whose bytes lie beyond what there was. -/
def RdF (w : World) (g : Nat) (l : List Nat) (ok : Bool) (base : Nat) : Prop :=
  ∃ a n c, w.heap[g]? = some (.cells #[.slice a n c, .bool ok] 55 (0, 0)) ∧ Bytes w a n c l ∧ Formed a c ∧ ∀ x, a = some x → base ≤ x.block

theorem RdF.rd {w : World} {g : Nat} {l : List Nat} {ok : Bool} {base : Nat} (h : RdF w g l ok base) : Rd w g l ok := by
  obtain ⟨a, n, c, h1, h2, h3, _⟩ := h
  exact ⟨a, n, c, h1, h2, h3⟩

theorem RdF.below {w w' : World} {g : Nat} {l : List Nat} {ok : Bool} {base : Nat} (h : RdF w g l ok base) (hb : Below w.heap.size w w') : RdF w' g l ok base := by
  obtain ⟨a, n, c, h1, h2, h3, h4⟩ := h
  exact ⟨a, n, c, (hb.block g (Array.getElem?_eq_some_iff.1 h1).1).trans h1, h2.grow hb, h3, h4⟩

theorem RdF.keep {w w' : World} {g go : Nat} {l : List Nat} {ok : Bool} {base : Nat} (h : RdF w g l ok base) (hg : w.grownBy w' (some go)) (hlt : go < base) (hne : go < g) : RdF w' g l ok base := by
  obtain ⟨a, n, c, h1, h2, h3, h4⟩ := h
  refine ⟨a, n, c, (hg.block g (Array.getElem?_eq_some_iff.1 h1).1 (fun e => by cases e; omega)).trans h1, ?_, h3, h4⟩
  rcases Nat.eq_zero_or_pos n with rfl | hn
  · obtain rfl : l = [] := List.length_eq_zero_iff.1 h2.len
    exact ⟨rfl, h2.le, h2.capmax, h2.byte, h2.nil, fun h => absurd h (Nat.lt_irrefl _)⟩
  · refine h2.keep fun p hp hpx => ?_
    obtain ⟨b, o, rfl, _⟩ := h2.cell hn
    have hb := h4 _ rfl
    have hb2 := hpx _ rfl
    simp only at hb hb2
    exact World.cell?_of_block (hg.block p.block hp (fun e2 => by cases e2; omega))

def NewFar (w : World) (l : List Nat) (e : Ending) (w' : World) : Prop := ∃ g, e = .returned (.pointer (some ⟨g, 0, none⟩)) ∧ w.heap.size ≤ g ∧ RdF w' g l true w.heap.size ∧ Below w.heap.size w w'

theorem new_far (a : Option Addr) (n cap : Nat) (l : List Nat) (w : World) (hl : Bytes w a n cap l) (hn : n ≤ 100000000000000) :
    Calls Tryz.prog 14 #[.slice a n cap] w (NewFar w l) := by
  have HB := Lib.hid hl
  clear hl
  go_enter Tryz.func14, Tryz.ntmps14
  go_wp2_with fail
  refine (bclone_any a n cap l w HB.out (by omega)).mono ?_
  rintro e w1 ⟨x, rfl, hown, hb⟩
  have hown : w1.ownsRow w.heap.size 5 1 x l.length (u8s l) := hown
  obtain ⟨p, cp, rfl, hP⟩ := own_slice hown HB.out.byte
  have hfp := own_formed hown
  have hfar := own_far hown
  have HP := Lib.hid hP
  have Hfp := Lib.hid hfp
  have Hfar := Lib.hid hfar
  clear hP hown hfp hfar
  go_wp2
  go_ret
  refine ⟨w1.heap.size, rfl, hb.size, ⟨p, _, cp, heap_alloc_new _ _, HP.out.grow ((Below.refl _ _).alloc (Nat.le_refl _) _), Hfp.out, Hfar.out⟩, hb.alloc hb.size _⟩

theorem new_any (a : Option Addr) (n cap : Nat) (l : List Nat) (w : World) (hl : Bytes w a n cap l) (hn : n ≤ 100000000000000) :
    Calls Tryz.prog 14 #[.slice a n cap] w (NewEnd w l) := by
  refine (new_far a n cap l w hl hn).mono ?_
  rintro e w1 ⟨g, he, h1, h2, h3⟩
  exact ⟨g, he, h1, h2.rd, h3⟩
end Go.Proofs.YtpnfnmeilhiebaaGreatDoor

