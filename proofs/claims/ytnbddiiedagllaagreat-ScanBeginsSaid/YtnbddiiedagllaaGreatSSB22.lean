import Derived.Test.YtnbddiiedagllaaGreatSSB21
import Derived.Test.YtnbddiiedagllaaGreatSegLay
import Derived.Test.YtnbddiiedagllaaGreatSSB14
import Derived.Lib.OwnBridge
import Derived.Test.YtnbddiiedagllaaGreatSSB15
import Derived.Test.YtnbddiiedagllaaGreatSSB1
import Derived.Shelf.Abstract
/- The walks of the code's inRange and Name of segments. -/
namespace Go.Proofs.YtnbddiiedagllaaGreat
open Go.RowKit

theorem seginrange_any (n : Int) (w : World) :
  Calls Tryz.prog 95 #[.int .i64 n] w fun e w' => e = .returned (.bool (decide (1 ≤ n ∧ n ≤ 99999999))) ∧ w = w' := by
 by_cases h1 : 1 ≤ n
 ·by_cases h2 : n ≤ 99999999
  ·have hd : decide (1 ≤ n ∧ n ≤ 99999999) = true := decide_eq_true ⟨h1, h2⟩
   rw [hd]
   clear hd
   go_enter Tryz.func95, Tryz.ntmps95
   go_wp2
   go_ret
   exact ⟨rfl, rfl⟩
  ·have hd : decide (1 ≤ n ∧ n ≤ 99999999) = false := decide_eq_false (fun h => h2 h.2)
   rw [hd]
   clear hd
   go_enter Tryz.func95, Tryz.ntmps95
   go_wp2
   go_ret
   exact ⟨rfl, rfl⟩
 ·have hd : decide (1 ≤ n ∧ n ≤ 99999999) = false := decide_eq_false (fun h => h1 h.1)
  rw [hd]
  clear hd
  go_enter Tryz.func95, Tryz.ntmps95
  go_wp2
  go_ret
  exact ⟨rfl, rfl⟩

def revN (k n : Nat) : List Nat := (digN k n).reverse

theorem revN_next (k n : Nat) : revN (k + 1) n = revN k n ++ [48 + n / 10 ^ k % 10] := by
 unfold revN
 rw [digN_front, List.reverse_cons]

theorem revN_len (k n : Nat) : (revN k n).length = k := by
 unfold revN
 rw [List.length_reverse, digN_len]

theorem sg_byte_row (w : World) {z : Int} {x : Nat} (h : z = (x : Int)) (hx : x < 256) : Bytes (w.alloc (.cells #[.int .u8 z] 5)) (some ⟨w.heap.size, 0, none⟩) 1 1 [x] := by
 subst h
 exact bytes_of_own (new_row w [x] (by simp)) (by simpa using hx)

def SnRel (w : World) (N : Nat) (x v i : Value) (wr : World) : Prop :=
 ∃ k : Nat, k ≤ 8 ∧ i = .int .i64 (k : Int) ∧ x = .int .i64 ((N / 10 ^ k : Nat) : Int) ∧ wr.ownsRow w.heap.size 5 1 v k (u8s (revN k N)) ∧ Below w.heap.size w wr

set_option maxRecDepth 100000 in
set_option maxHeartbeats 1600000 in
theorem segname_yes (N : Nat) (w : World) (h1 : 1 ≤ N) (hN : N ≤ 99999999) :
  Calls Tryz.prog 48 #[.int .i64 (N : Int)] w fun e w' => e = .returned (.tuple #[.string (str (nameL N)), .bool true]) ∧ Below w.heap.size w w' := by
 have HI := Lib.hid (seginrange_any (N : Int) w)
 rw [decide_eq_true (show 1 ≤ (N : Int) ∧ (N : Int) ≤ 99999999 by omega)] at HI
 have Hst := Lib.hid (show SnRel w N (.int .i64 (N : Int)) (.slice none 0 0) (.int .i64 0) w from ⟨0, by omega, rfl, by simp, World.ownsRow_nil _ _ _ _, Below.refl _ _⟩)
 have H1 := Lib.hid h1
 have HN := Lib.hid hN
 clear h1 hN
 go_enter Tryz.func48, Tryz.ntmps48
 go_wp2_with fail
 refine HI.out.mono ?_
 rintro e w' ⟨rfl, rfl⟩
 go_wp2
 go_loopw [0, 4, 8] (fun x v i wr => SnRel w N x v i wr) (fun _ _ i _ => 8 - (intOf i).toNat)
 case atStart => exact Hst.out
 case round =>
  obtain ⟨k, hk, rfl, rfl, hown, hbel⟩ := hrel
  by_cases h8 : k < 8
  ·have hm : N / 10 ^ k ≤ 99999999 := Nat.le_trans (Nat.div_le_self _ _) HN.out
   have hnext : N / 10 ^ k / 10 = N / 10 ^ (k + 1) := by rw [Nat.div_div_eq_div_mul, Nat.pow_succ]
   have hmod : ((N / 10 ^ k : Nat) : Int).tmod 10 = ((N / 10 ^ k % 10 : Nat) : Int) := tmod_ten _
   have hdiv : ((N / 10 ^ k : Nat) : Int).tdiv 10 = ((N / 10 ^ (k + 1) : Nat) : Int) := by rw [tdiv_ten, hnext]
   have hd : N / 10 ^ k % 10 < 10 := Nat.mod_lt _ (by omega)
   have Hrev := Lib.hid (revN_next k N)
   have Hx := Lib.hid (show (.int .i64 ((N / 10 ^ (k + 1) : Nat) : Int) : Value) = .int .i64 ((N / 10 ^ (k + 1) : Nat) : Int) from rfl)
   have hm2 : N / 10 ^ (k + 1) ≤ 99999999 := Nat.le_trans (Nat.div_le_self _ _) HN.out
   have Hown := Lib.hid hown
   have Hbel := Lib.hid hbel
   clear hnext hown hbel
   generalize N / 10 ^ k % 10 = d at *
   generalize hM2 : N / 10 ^ (k + 1) = m2 at *
   have HM2 := Lib.hid hM2
   clear hM2
   generalize N / 10 ^ k = m at *
   go_wp2_with (at_builtin; refine wpList_append_bytes _ rfl _ _ 58 rfl w.heap.size 5 Tryz.underlying58 info_u8 _ _ _ rfl (Hown.out.alloc _) _ 1 1 [48 + d] rfl (sg_byte_row _ (by omega) (by omega)) (by omega) (by simp; have := Hbel.out.size; omega) ?_; intro v' w1 g1 g2)
   go_roundw
   case rel =>
    refine ⟨k + 1, h8, by go_num, by rw [HM2.out], ?_, ?_⟩
    ·rw [Hrev.out]
     exact g1
    ·have hb : Below w.heap.size w (wr.alloc (.cells #[.int .u8 ((48 + d : Nat) : Int)] 5)) := Hbel.out.alloc Hbel.out.size _
     exact hb.grown g2 hb.size (fun x hx => (Hown.out.lt x hx).1)
   case measure => simp [intOf]; omega
  ·obtain rfl : k = 8 := by omega
   obtain ⟨g, cap, rfl, hbg, hgl, hnc, hcm, _, hH⟩ := Lib.holds_of_ownsRow (enc := fun x : Nat => Value.int .u8 (x : Int)) hown (by
    intro e
    rw [e] at hown
    rcases hown.2 with ⟨_, h0⟩ | ⟨_, _, _, e2, _⟩
    ·omega
    ·cases e2)
   have hrl := revN_len 8 N
   have HR := Lib.hid (Tryz.reverse_bytes g 0 cap (revN 8 N) wr hH (by rw [hrl]; omega))
   rw [hrl] at HR
   have Hup := Lib.hid (fun q => Lib.ownsRow_putRow (q := q) (k := 8) (enc := fun x : Nat => Value.int .u8 (x : Int)) (ys := (revN 8 N).reverse) hown (by rw [List.length_reverse, hrl]) (Nat.le_refl _))
   have Hbl := Lib.hid (fun q => Lib.below_putRow (q := q) (enc := fun x : Nat => Value.int .u8 (x : Int)) (d := (revN 8 N).reverse.toArray) hbel hbg)
   have hrr : (revN 8 N).reverse = digN 8 N := by unfold revN; rw [List.reverse_reverse]
   have htk : (digN 8 N).take 8 = digN 8 N := List.take_of_length_le (by rw [digN_len]; omega)
   rw [hrr, htk] at Hup
   rw [hrr] at Hbl HR
   have hcv0 : ∀ q, (convert 58 9 (.slice (some ⟨g, 0, none⟩) 8 cap)).run Tryz.prog (Go.Sort.putRow (fun x : Nat => Value.int .u8 (x : Int)) (Go.Sort.ahead wr q) g 0 (digN 8 N).toArray) = .ok (.string (str (digN 8 N))) (Go.Sort.putRow (fun x : Nat => Value.int .u8 (x : Int)) (Go.Sort.ahead wr q) g 0 (digN 8 N).toArray) := (fun q => by
    obtain ⟨p, cp, e, hB⟩ := own_slice (l := digN 8 N) (Hup.out q) (fun x hx => by have := digN_digit 8 N x hx; omega)
    cases e
    exact convert_bytes hB 58 5 9 Tryz.underlying58 Tryz.underlying5 Tryz.underlying9)
   have hcat := str_append logL (digN 8 N)
   rw [show logL ++ digN 8 N = nameL N from rfl] at hcat
   have hsz : (str (digN 8 N)).size ≤ 1000 := by rw [str_size, digN_len]; omega
   have hL : str logL = ⟨#[108, 111, 103, 45]⟩ := rfl
   rw [hL] at hcat
   have Hcv := Lib.hid hcv0
   clear hcv0
   generalize hS : str (nameL N) = S at *
   have HS := Lib.hid hS
   clear hS hown hbel hH hrr htk hrl
   generalize str (digN 8 N) = s at *
   go_wp2_with fail
   refine HR.out.mono ?_
   rintro e w' ⟨rfl, q, rfl⟩
   have hbl := Hbl.out q
   have hcv := Hcv.out q
   generalize Go.Sort.putRow (fun x : Nat => Value.int .u8 (x : Int)) (Go.Sort.ahead wr q) g 0 (digN 8 N).toArray = w2 at *
   go_wp2
   go_ret2
   exact ⟨by rw [HS.out]; rfl, hbl⟩
end Go.Proofs.YtnbddiiedagllaaGreat

/- The walk of a place's file: the name of the current segment. -/
namespace Go.Proofs.YtnbddiiedagllaaGreat
open Go.RowKit Go.Maps Go.Shelf

def placeV (n s k : Int) : Value := .agg #[.int .i64 n, .int .i64 s, .int .i64 k]

def logC (W : WM) (d : Nat) : Array Value := #[.int .i64 (W.n : Int), .int .i64 (W.size : Int), .int .i64 (W.wait : Int), .pointer (some ⟨d, 0, none⟩), .int .i64 W.most]

theorem plfile_any (N : Nat) (s k : Int) (w : World) (h1 : 1 ≤ N) (hN : N ≤ 99999999) :
  Calls Tryz.prog 123 #[placeV (N : Int) s k] w fun e w' => e = .returned (encStr (nmB N)) ∧ Below w.heap.size w w' := by
 have HI := Lib.hid (fun w1 => segname_yes N w1 h1 hN)
 clear h1 hN
 unfold placeV
 go_enter Tryz.func123, Tryz.ntmps123
 go_wp2_with fail
 refine (HI.out _).mono ?_
 rintro e w' ⟨rfl, hb⟩
 have Hb := Lib.hid (((Below.refl w.heap.size w).alloc (Nat.le_refl _) _).trans (hb.mono (by simp)))
 clear hb
 go_wp2
 go_ret
 exact ⟨rfl, Hb.out⟩

end Go.Proofs.YtnbddiiedagllaaGreat

