import Derived.Test.YtnbddiiedagllaaGreatSSB10
import Derived.Test.YtnbddiiedagllaaGreatSSB11
import Derived.Test.YtnbddiiedagllaaGreatSSB7
import Derived.Test.YtnbddiiedagllaaGreatSSB1
import Derived.Test.YtnbddiiedagllaaGreatRows
import Derived.WalkKit
import Derived.WalkLawsBesides
import Derived.WalkSpells
import Derived.Lib.Hide
import Derived.Deep.OwnRows
import Derived.Deep.LoopGhost
import Derived.Laws.CopyOwn
/- The walk of the reference's Do, whatever the change is: it answers what the plain disk answers. -/
namespace Go.Proofs.YtnbddiiedagllaaGreat
open Go.RowKit Go.Maps Go.Shelf

def Sorted (l : List F) : Prop := l.Pairwise fun x y => x.n < y.n

theorem lt_ne {a b : List UInt8} (h : a < b) : a ≠ b := fun e => by
 subst e
 exact List.lt_irrefl _ h

theorem before_no {a b : List UInt8} (h : a < b) : bytesBefore b a = false := by
 cases e : bytesBefore b a with
 | false => rfl
 | true => exact absurd (List.lt_trans ((before_lt b a).1 e) h) (List.lt_irrefl _)

theorem setN_putN (x : F) : ∀ l : List F, Sorted l → findN F.n x.n l ≠ none → setN F.n x l = putN F.n x l
 | [], _, h => absurd rfl h
 | y :: r, hs, h => by
  obtain ⟨hy, hr⟩ := List.pairwise_cons.1 hs
  by_cases e : y.n = x.n
  ·have hne : ∀ z ∈ r, z.n ≠ x.n := fun z hz e2 => lt_ne (hy z hz) (e.trans e2.symm)
   have h1 : delN F.n x.n (y :: r) = r := by
    unfold delN
    rw [List.filter_cons, if_neg (by simp [e]), List.filter_eq_self]
    intro z hz
    simpa using hne z hz
   have h2 : setN F.n x (y :: r) = x :: r := by
    unfold setN
    rw [List.map_cons, if_pos (by simp [e])]
    congr 1
    conv => rhs; rw [← List.map_id r]
    refine List.map_congr_left fun z hz => ?_
    rw [if_neg (by simpa using hne z hz)]
    rfl
   unfold putN
   rw [h1, h2]
   cases r with
   | nil => rfl
   | cons z r' =>
    unfold insN
    rw [if_pos ((before_lt _ _).2 (by rw [← e]; exact hy z (by simp)))]
  ·have hin : findN F.n x.n r ≠ none := by
    unfold findN at h ⊢
    rwa [List.find?_cons_of_neg (by simpa using e)] at h
   obtain ⟨z, hz⟩ := Option.ne_none_iff_exists'.1 hin
   obtain ⟨hzr, hzn⟩ := findN_some hz
   have ih := setN_putN x r hr hin
   have hlt : y.n < x.n := by rw [← hzn]; exact hy z hzr
   unfold putN at ih ⊢
   unfold delN at ih ⊢
   rw [List.filter_cons, if_pos (by simpa using e)]
   show setN F.n x (y :: r) = if bytesBefore x.n y.n = true then _ else y :: insN F.n x _
   rw [if_neg (by rw [before_no hlt]; decide), ← ih]
   unfold setN
   rw [List.map_cons, if_neg (by simpa using e)]

def stepM (k : Int) (nm to : List UInt8) (bs : List Nat) (M : DM) : DM × Int :=
 if k = 1 then createM nm M else if k = 2 then appendM nm bs M else if k = 3 then syncM nm M else if k = 4 then renameM nm to M else removeM nm M

theorem rdo_all {X : Nat → Prop} {w : World} {v : Value} {M : DM} (h : RefAt X w v M) (hX : ∀ b, X b → b < w.heap.size) (hle : M.plan ≤ 9223372036854775807) (hs : Sorted M.fs) (k : Int) (hk : 1 ≤ k ∧ k ≤ 5) (nm to : List UInt8)
  (hnml : nm.length ≤ 9223372036854775807) (htol : to.length ≤ 9223372036854775807) (p : Option Addr) (l c2 : Nat) (bs : List Nat) (hBy : ∀ W, Below w.heap.size w W → Bytes W p l c2 bs) (hub : usedF M.fs ≤ 100000000) (hl : l ≤ 100000000) :
  Calls Tryz.prog 74 #[v, opV k nm to p l c2] w (DoEnd X w (stepM k nm to bs M)) := by
 have hbl : bs.length = l := (hBy w (Below.refl _ _)).len
 by_cases hd : (failM M).down = true
 ·have e : stepM k nm to bs M = (failM M, 10) := by
   unfold stepM createM appendM syncM renameM removeM chgM
   simp only [hd, if_true]
   split
   ·rfl
   ·split
    ·rfl
    ·split
     ·rfl
     ·split <;> rfl
  rw [e]
  exact rdo_dead h hX hd k nm to p l c2
 ·have hA : Alive M := by
   unfold failM at hd
   by_cases h1 : M.down = true
   ·rw [if_pos h1] at hd
    exact absurd h1 hd
   ·rw [if_neg h1] at hd
    by_cases h2 : M.plan = 1
    ·rw [if_pos h2] at hd
     exact absurd rfl hd
    ·exact ⟨by simpa using h1, h2, hle⟩
  have hfs := failM_fs' M
  have hro := failM_room' M
  by_cases hnm : named nm = true
  ·have hch : ∀ act : DM → DM × Int, chgM M nm act = act (failM M) := fun act => by unfold chgM; rw [if_neg hd, if_pos hnm]
   rcases (show k = 1 ∨ k = 2 ∨ k = 3 ∨ k = 4 ∨ k = 5 by omega) with rfl | rfl | rfl | rfl | rfl
   ·show Calls _ _ _ _ (DoEnd X w (createM nm M))
    unfold createM
    rw [hch]
    cases hf : findN F.n nm M.fs with
    | none =>
     simp only [hfs, hf]
     exact rdo_create h hX hA nm to p l c2 hnml hnm hf
    | some f =>
     simp only [hfs, hf]
     exact rdo_there h hX hA nm to p l c2 hnml hnm f hf
   ·show Calls _ _ _ _ (DoEnd X w (appendM nm bs M))
    unfold appendM onM
    rw [hch]
    cases hf : findN F.n nm M.fs with
    | none =>
     simp only [hfs, hf]
     exact rdo_no2 h hX hA nm to p l c2 hnml hnm hf
    | some f =>
     simp only [hfs, hf, hbl]
     by_cases hfit : usedF M.fs + l ≤ (failM M).room
     ·rw [if_pos hfit, setN_putN _ _ hs (by show findN F.n nm M.fs ≠ none; rw [hf]; simp)]
      exact rdo_append h hX hA nm to p l c2 hnml hnm f hf (by omega) (by omega) bs hBy (by rw [← hro]; exact hfit)
     ·rw [if_neg hfit]
      exact rdo_full h hX hA nm to p l c2 hnml hnm f hf (by omega) (by omega) (by rw [← hro]; omega)
   ·show Calls _ _ _ _ (DoEnd X w (syncM nm M))
    unfold syncM onM
    rw [hch]
    cases hf : findN F.n nm M.fs with
    | none =>
     simp only [hfs, hf]
     exact rdo_no3 h hX hA nm to p l c2 hnml hnm hf
    | some f =>
     simp only [hfs, hf]
     rw [setN_putN _ _ hs (by show findN F.n nm M.fs ≠ none; rw [hf]; simp)]
     exact rdo_sync h hX hA nm to p l c2 hnml hnm f hf
   ·show Calls _ _ _ _ (DoEnd X w (renameM nm to M))
    unfold renameM onM
    rw [hch]
    by_cases hto : named to = true
    ·cases hf : findN F.n nm M.fs with
     | none =>
      simp only [hfs, hf]
      exact rdo_no4 h hX hA nm to p l c2 hnml hnm htol hto hf
     | some f =>
      simp only [hfs, hf, hto, if_true]
      exact rdo_rename h hX hA nm to p l c2 hnml hnm f hf htol hto
    ·have hto2 : named to = false := by simpa using hto
     have key := rdo_to h hX hA nm to p l c2 hnml hnm htol hto2
     cases findN F.n nm (failM M).fs with
     | none => exact key
     | some f =>
      simp only [hto2]
      exact key
   ·show Calls _ _ _ _ (DoEnd X w (removeM nm M))
    unfold removeM onM
    rw [hch]
    cases hf : findN F.n nm M.fs with
    | none =>
     simp only [hfs, hf]
     exact rdo_no5 h hX hA nm to p l c2 hnml hnm hf
    | some f =>
     simp only [hfs, hf]
     exact rdo_remove h hX hA nm to p l c2 hnml hnm f hf
  ·have hnm2 : named nm = false := by simpa using hnm
   have e : stepM k nm to bs M = (failM M, 6) := by
    have hch : ∀ act : DM → DM × Int, chgM M nm act = (failM M, 6) := fun act => by unfold chgM; rw [if_neg hd, if_neg hnm]
    unfold stepM createM appendM syncM renameM removeM
    simp only [hch]
    split
    ·rfl
    ·split
     ·rfl
     ·split
      ·rfl
      ·split <;> rfl
   rw [e]
   exact rdo_name h hX hA k nm to p l c2 hnml hnm2
end Go.Proofs.YtnbddiiedagllaaGreat

/- The walk of bytes.Equal. -/
namespace Go.Proofs.YtnbddiiedagllaaGreat
open Go.RowKit

theorem bytesEqual_yes (a a' : Option Addr) (n cap n' cap' : Nat) (l : List Nat) (w : World) (hl : Bytes w a n cap l) (hl' : Bytes w a' n' cap' l) :
  Calls Tryz.prog 215 #[.slice a n cap, .slice a' n' cap'] w fun e w' => e = .returned (.bool true) ∧ w = w' := by
 have c1 := convert_bytes (P := Tryz.prog) hl 58 5 9 Tryz.underlying58 Tryz.underlying5 Tryz.underlying9
 have c2 := convert_bytes (P := Tryz.prog) hl' 58 5 9 Tryz.underlying58 Tryz.underlying5 Tryz.underlying9
 have hq := str_eq l
 clear hl hl'
 go_enter Tryz.func215, Tryz.ntmps215
 go_wp2
 go_ret
 exact ⟨rfl, rfl⟩

theorem bytesEqual_no (a a' : Option Addr) (n cap n' cap' : Nat) (l l' : List Nat) (w : World) (hl : Bytes w a n cap l) (hl' : Bytes w a' n' cap' l') (hne : l ≠ l') :
  Calls Tryz.prog 215 #[.slice a n cap, .slice a' n' cap'] w fun e w' => e = .returned (.bool false) ∧ w = w' := by
 have c1 := convert_bytes (P := Tryz.prog) hl 58 5 9 Tryz.underlying58 Tryz.underlying5 Tryz.underlying9
 have c2 := convert_bytes (P := Tryz.prog) hl' 58 5 9 Tryz.underlying58 Tryz.underlying5 Tryz.underlying9
 have hq := str_ne hl.byte hl'.byte hne
 clear hl hl'
 go_enter Tryz.func215, Tryz.ntmps215
 go_wp2
 go_ret
 exact ⟨rfl, rfl⟩

end Go.Proofs.YtnbddiiedagllaaGreat

/- Plain mathematics of the checksum of layer 1: the register's step, its linearity, and what a table of half bytes computes. It speaks of no program. -/
namespace Go.Proofs.YtnbddiiedagllaaGreat.Crc

def step (r : Nat) : Nat := if r % 2 = 1 then (r / 2) ^^^ 2197175160 else r / 2

def steps : Nat → Nat → Nat
 | 0, r => r
 | n + 1, r => steps n (step r)

def feedB (r c : Nat) : Nat := steps 8 (r ^^^ c)

def feedL (r : Nat) (l : List Nat) : Nat := l.foldl feedB r

def feedP (r : Nat) (ls : List (List Nat)) : Nat := ls.foldl feedL r

def inv (r : Nat) : Nat := 4294967295 - r

theorem steps_succ' (n r : Nat) : steps (n + 1) r = step (steps n r) := by
 induction n generalizing r with
 | zero => rfl
 | succ n ih => rw [steps, ih (step r)]; rfl

theorem steps_add (m n r : Nat) : steps (m + n) r = steps n (steps m r) := by
 induction m generalizing r with
 | zero => simp [steps]
 | succ m ih => rw [Nat.succ_add, steps, ih]; rfl

theorem half_xor (a b : Nat) : (a ^^^ b) / 2 = (a / 2) ^^^ (b / 2) := by
 have := Nat.shiftRight_xor_distrib (a := a) (b := b) (i := 1)
 simpa [Nat.shiftRight_succ] using this

theorem odd_xor (a b : Nat) : (a ^^^ b) % 2 = (a % 2 + b % 2) % 2 := by
 have h := Nat.testBit_xor a b 0
 simp only [Nat.testBit_zero] at h
 rcases Nat.mod_two_eq_zero_or_one a with ha | ha <;> rcases Nat.mod_two_eq_zero_or_one b with hb | hb <;>
  rcases Nat.mod_two_eq_zero_or_one (a ^^^ b) with hc | hc <;> simp [ha, hb, hc] at h ⊢

theorem step_xor (a b : Nat) : step (a ^^^ b) = step a ^^^ step b := by
 unfold step
 rw [odd_xor, half_xor]
 rcases Nat.mod_two_eq_zero_or_one a with ha | ha <;> rcases Nat.mod_two_eq_zero_or_one b with hb | hb <;> simp [ha, hb]
 ·rw [Nat.xor_assoc]
 ·rw [Nat.xor_assoc, Nat.xor_comm (b / 2), ← Nat.xor_assoc]
 ·rw [Nat.xor_assoc, Nat.xor_comm (b / 2), ← Nat.xor_assoc 2197175160, Nat.xor_self, Nat.zero_xor]

theorem steps_xor (n a b : Nat) : steps n (a ^^^ b) = steps n a ^^^ steps n b := by
 induction n generalizing a b with
 | zero => rfl
 | succ n ih => rw [steps, step_xor, ih]; rfl

theorem step_lt {r : Nat} (h : r < 4294967296) : step r < 4294967296 := by
 unfold step
 have h2 : r / 2 < 2 ^ 32 := by omega
 split
 ·exact Nat.xor_lt_two_pow h2 (by omega)
 ·omega

theorem steps_lt {n r : Nat} (h : r < 4294967296) : steps n r < 4294967296 := by
 induction n generalizing r with
 | zero => exact h
 | succ n ih => exact ih (step_lt h)

theorem xor_lt {a b : Nat} (ha : a < 4294967296) (hb : b < 4294967296) : a ^^^ b < 4294967296 :=
 Nat.xor_lt_two_pow (n := 32) ha hb

theorem feedB_lt {r c : Nat} (h : r < 4294967296) (hc : c < 256) : feedB r c < 4294967296 := steps_lt (xor_lt h (by omega))

theorem feedL_lt {r : Nat} {l : List Nat} (h : r < 4294967296) (hl : ∀ x ∈ l, x < 256) : feedL r l < 4294967296 := by
 induction l generalizing r with
 | nil => exact h
 | cons c l ih => exact ih (feedB_lt h (hl c (by simp))) (fun x hx => hl x (by simp [hx]))

theorem feedP_lt {r : Nat} {ls : List (List Nat)} (h : r < 4294967296) (hl : ∀ l ∈ ls, ∀ x ∈ l, x < 256) : feedP r ls < 4294967296 := by
 induction ls generalizing r with
 | nil => exact h
 | cons c l ih => exact ih (feedL_lt h (hl c (by simp))) (fun x hx => hl x (by simp [hx]))

theorem feedL_append (r : Nat) (a b : List Nat) : feedL r (a ++ b) = feedL (feedL r a) b := List.foldl_append ..
theorem steps4_mul (q : Nat) : steps 4 (q * 16) = q := by
 have h : ∀ x, step (x * 2) = x := fun x => by unfold step; rw [if_neg (by omega)]; omega
 show step (step (step (step (q * 16)))) = q
 rw [show q * 16 = (((q * 2) * 2) * 2) * 2 by omega, h, h, h, h]

theorem split16 (r : Nat) : (r / 16 * 16) ^^^ (r % 16) = r := by
 apply Nat.eq_of_testBit_eq
 intro i
 rw [Nat.testBit_xor, show (16 : Nat) = 2 ^ 4 from rfl, Nat.testBit_mul_two_pow, Nat.testBit_mod_two_pow]
 by_cases h : i < 4
 ·simp [h, show ¬ 4 ≤ i by omega]
 ·have h4 : 4 ≤ i := by omega
  have e : (r / 2 ^ 4).testBit (i - 4) = r.testBit i := by rw [Nat.testBit_div_two_pow, Nat.sub_add_cancel h4]
  simp only [h, h4, decide_true, decide_false, Bool.true_and, Bool.false_and, Bool.xor_false]
  exact e

theorem steps4 (r : Nat) : steps 4 r = (r / 16) ^^^ steps 4 (r % 16) := by
 conv => lhs; rw [← split16 r]
 rw [steps_xor, steps4_mul]

theorem and15 (r : Nat) : r &&& 15 = r % 16 := Nat.and_two_pow_sub_one_eq_mod r 4
theorem and1 (r : Nat) : r &&& 1 = r % 2 := Nat.and_two_pow_sub_one_eq_mod r 1

theorem feed_by_table (r c : Nat) :
  (((r ^^^ c) / 16) ^^^ steps 4 ((r ^^^ c) &&& 15)) / 16 ^^^ steps 4 ((((r ^^^ c) / 16) ^^^ steps 4 ((r ^^^ c) &&& 15)) &&& 15) = feedB r c := by
 unfold feedB
 rw [and15, and15, ← steps4, ← steps4]
 exact (steps_add 4 4 _).symm

theorem take_snoc {l : List Nat} {k : Nat} (h : k < l.length) : l.take (k + 1) = l.take k ++ [l.getD k 0] := by
 rw [List.take_succ_eq_append_getElem h, List.getD_eq_getElem?_getD, List.getElem?_eq_getElem h]; rfl

theorem feedL_take {l : List Nat} {k : Nat} (r : Nat) (h : k < l.length) : feedL r (l.take (k + 1)) = feedB (feedL r (l.take k)) (l.getD k 0) := by
 rw [take_snoc h, feedL_append]; rfl

theorem takeP_snoc {l : List (List Nat)} {k : Nat} (h : k < l.length) : l.take (k + 1) = l.take k ++ [l.getD k []] := by
 rw [List.take_succ_eq_append_getElem h, List.getD_eq_getElem?_getD, List.getElem?_eq_getElem h]; rfl

theorem feedP_take {ls : List (List Nat)} {k : Nat} (r : Nat) (h : k < ls.length) : feedP r (ls.take (k + 1)) = feedL (feedP r (ls.take k)) (ls.getD k []) := by
 rw [takeP_snoc h]
 exact List.foldl_append ..

end Go.Proofs.YtnbddiiedagllaaGreat.Crc

/- The walks of the reference's feed, More and Sum: each returns what the plain register says. -/
namespace Go.Proofs.YtnbddiiedagllaaGreat
open Go.RowKit Crc

theorem step_odd {x : Nat} (h : x % 2 = 1) : Crc.step x = x / 2 ^^^ 2197175160 := if_pos h
theorem step_even {x : Nat} (h : ¬ x % 2 = 1) : Crc.step x = x / 2 := if_neg h

set_option maxHeartbeats 400000 in
theorem rfeed_any (r c : Nat) (w : World) (hr : r < 4294967296) (hc : c < 256) :
  Calls Tryz.prog 201 #[.int .u32 (r : Int), .int .u8 (c : Int)] w fun e w' => e = .returned (.int .u32 (feedB r c : Nat)) ∧ w = w' := by
 have e0 : bits .xor .u32 (r : Int) (c : Int) = ((r ^^^ c : Nat) : Int) := u32_xor_nat r c hr (by omega)
 have h0 := Crc.xor_lt hr (show c < 4294967296 by omega)
 go_enter Tryz.func201, Tryz.ntmps201
 go_wp2
 go_loop [0, 5] (fun x i => ∃ k : Nat, k ≤ 8 ∧ i = .int .i64 k ∧ x = .int .u32 (steps k (r ^^^ c) : Nat)) (fun _ i => 8 - (intOf i).toNat)
 case atStart => exact ⟨0, Nat.zero_le _, rfl, rfl⟩
 case round =>
  obtain ⟨k, hk, rfl, rfl⟩ := hrel
  have hs := Lib.hid (Crc.steps_succ' k (r ^^^ c))
  have hb : steps k (r ^^^ c) < 4294967296 := steps_lt h0
  generalize hx : steps k (r ^^^ c) = x at *
  have hx := Lib.hid hx
  rename_i hx0; clear hx0
  have e1 : bits .and .u32 (x : Int) 1 = ((x % 2 : Nat) : Int) := by rw [← Crc.and1]; exact u32_and_nat x 1 hb (by omega)
  have e2 : bits .xor .u32 ((x : Int) / 2) 2197175160 = (((x / 2) ^^^ 2197175160 : Nat) : Int) := u32_xor_nat (x / 2) 2197175160 (by omega) (by omega)
  by_cases hlt : k < 8
  ·by_cases hodd : x % 2 = 1
   ·have hodd2 : (((x % 2 : Nat) : Int) == 1) = true := by rw [hodd]; rfl
    go_wp2
    go_round
    case rel => exact ⟨k + 1, by omega, by go_num, u32_eq (by rw [hs.out, step_odd hodd])⟩
    case measure => simp [intOf]; omega
   ·go_wp2
    go_round
    case rel => exact ⟨k + 1, by omega, by go_num, u32_eq (a := x / 2) (by rw [hs.out, step_even hodd])⟩
    case measure => simp [intOf]; omega
  ·obtain rfl : k = 8 := by omega
   go_wp2
   go_ret
   exact ⟨ret_u32 hx.out.symm, rfl⟩

theorem inv_bits {r : Nat} (h : r < 4294967296) : bits .xor .u32 IntKind.u32.max (r : Int) = ((inv r : Nat) : Int) := by
 have e : IntKind.u32.max = ((4294967295 : Nat) : Int) := rfl
 rw [e, u32_xor_nat 4294967295 r (by omega) h]
 congr 1
 have h2 := congrArg BitVec.toNat (BitVec.allOnes_xor (x := BitVec.ofNat 32 r))
 rw [BitVec.toNat_xor, BitVec.toNat_not, BitVec.toNat_allOnes, BitVec.toNat_ofNat, Nat.mod_eq_of_lt (by omega)] at h2
 exact h2

set_option maxHeartbeats 400000 in
theorem rmore_any (r : Nat) (a : Option Addr) (n cap : Nat) (l : List Nat) (w : World) (hr : r < 4294967296) (hl : Bytes w a n cap l) :
  Calls Tryz.prog 181 #[.int .u32 (r : Int), .slice a n cap] w fun e w' => e = .returned (.int .u32 (inv (feedL (inv r) l) : Nat)) ∧ w = w' := by
 have hmax := hl.max
 obtain ⟨hn, hcap, hcm, hby, hnl, hcell⟩ := hl
 have hn' := Lib.hid hn
 have hget : ∀ i, i < n → l.getD i 0 < 256 := fun i hi => Bytes.get ⟨hn, hcap, hcm, hby, hnl, hcell⟩ hi
 have hget := Lib.hid hget
 have hcell' := Lib.hid hcell
 have hby' := Lib.hid hby
 clear hn hcell hby hnl hcm
 rename_i hget0; clear hget0
 have hi : inv r < 4294967296 := by unfold inv; omega
 have e0 := inv_bits hr
 go_enter Tryz.func181, Tryz.ntmps181
 go_wp2
 go_loop [5, 6] (fun x i => ∃ k : Nat, k ≤ n ∧ i = .int .i64 k ∧ x = .int .u32 (feedL (inv r) (l.take k) : Nat)) (fun _ i => n - (intOf i).toNat)
 case atStart => exact ⟨0, Nat.zero_le _, rfl, rfl⟩
 case round =>
  obtain ⟨k, hk, rfl, rfl⟩ := hrel
  have hb : feedL (inv r) (l.take k) < 4294967296 := feedL_lt hi (fun x hx => hby'.out x (List.mem_of_mem_take hx))
  by_cases hlt : k < n
  ·have hs0 := Crc.feedL_take (l := l) (inv r) (show k < l.length by rw [hn'.out]; exact hlt)
   obtain ⟨b, o, rfl, hc0⟩ := hcell'.out (by omega)
   have hc := hc0 k hlt
   clear hc0
   have hg := hget.out k hlt
   generalize l.getD k 0 = c at hs0 hc hg
   have hs := Lib.hid hs0
   clear hs0
   go_wp2_with ((with_reducible refine (rfeed_any _ _ _ hb hg).mono ?_); rintro e w' ⟨rfl, rfl⟩)
   go_round
   case rel => exact ⟨k + 1, by omega, by go_num, u32_eq hs.out.symm⟩
   case measure => simp [intOf]; omega
  ·obtain rfl : k = n := by omega
   have e1 := inv_bits hb
   go_wp2
   go_ret
   exact ⟨ret_u32 (by rw [← hn'.out, List.take_length]), rfl⟩
end Go.Proofs.YtnbddiiedagllaaGreat

/- The walks of the code's table of half bytes: shift, the closure that fills one place, and the whole table. -/
namespace Go.Proofs.YtnbddiiedagllaaGreat
open Go.RowKit Crc

theorem rsum_any (a : Option Addr) (n cap : Nat) (l : List Nat) (w : World) (hl : Bytes w a n cap l) :
  Calls Tryz.prog 158 #[.slice a n cap] w fun e w' => e = .returned (.int .u32 (inv (feedL 4294967295 l) : Nat)) ∧ w = w' := by
 have H := rmore_any 0 a n cap l w (by omega) hl
 have H0 : (((0 : Nat) : Int)) = 0 := rfl
 have H1 : inv 0 = 4294967295 := rfl
 rw [H0, H1] at H
 have H := Lib.hid H
 clear H0 H1
 rename_i Hx; clear Hx
 go_enter Tryz.func158, Tryz.ntmps158
 go_wp2_with ((with_reducible refine H.out.mono ?_); rintro e w' ⟨rfl, rfl⟩)
 go_ret
 exact ⟨rfl, rfl⟩

theorem shift_any (x : Nat) (w : World) (hb : x < 4294967296) :
  Calls Tryz.prog 211 #[.int .u32 (x : Int)] w fun e w' => e = .returned (.int .u32 (Crc.step x : Nat)) ∧ w = w' := by
 have e1 : bits .and .u32 (x : Int) 1 = ((x % 2 : Nat) : Int) := by rw [← Crc.and1]; exact u32_and_nat x 1 hb (by omega)
 have e2 : bits .xor .u32 ((x : Int) / 2) 2197175160 = (((x / 2) ^^^ 2197175160 : Nat) : Int) := u32_xor_nat (x / 2) 2197175160 (by omega) (by omega)
 by_cases hodd : x % 2 = 1
 ·have hodd2 : (((x % 2 : Nat) : Int) != 0) = true := by rw [hodd]; rfl
  go_enter Tryz.func211, Tryz.ntmps211
  go_wp2
  go_ret
  exact ⟨ret_u32 (step_odd hodd).symm, rfl⟩
 ·have hodd2 : (((x % 2 : Nat) : Int) != 0) = false := by rw [show x % 2 = 0 by omega]; rfl
  go_enter Tryz.func211, Tryz.ntmps211
  go_wp2
  go_ret
  exact ⟨ret_u32 (b := Crc.step x) (a := x / 2) (step_even hodd).symm, rfl⟩

set_option maxHeartbeats 400000 in
theorem fill_any (i B : Nat) (f : Nat → Value) (w : World) (hi : i < 16) (hB : w.rowIs B 241 16 f) :
  Calls Tryz.prog 210 #[.int .i64 (i : Int), .pointer (some ⟨B, 0, none⟩)] w fun e w' => e = .returned (.tuple #[]) ∧ w' = w.setCell ⟨B, i, none⟩ (.int .u32 (steps 4 i : Nat)) := by
 have hc := Lib.hid (hB.cell hi)
 have hf := Lib.hid (hB.frozen i)
 have hi4 : i < 4294967296 := by omega
 go_enter Tryz.func210, Tryz.ntmps210
 go_wp2
 go_loop [3, 6] (fun x j => ∃ k : Nat, k ≤ 4 ∧ j = .int .i64 k ∧ x = .int .u32 (steps k i : Nat)) (fun _ j => 4 - (intOf j).toNat)
 case atStart => exact ⟨0, Nat.zero_le _, rfl, rfl⟩
 case round =>
  obtain ⟨k, hk, rfl, rfl⟩ := hrel
  have hs := Lib.hid (Crc.steps_succ' k i)
  have hb : steps k i < 4294967296 := steps_lt hi4
  by_cases hlt : k < 4
  ·go_wp2_with ((with_reducible refine (shift_any _ _ hb).mono ?_); rintro e w' ⟨rfl, rfl⟩)
   go_round
   case rel => exact ⟨k + 1, by omega, by go_num, u32_eq hs.out.symm⟩
   case measure => simp [intOf]; omega
  ·obtain rfl : k = 4 := by omega
   have hc := hc.out
   have hf := hf.out
   have hi' : (i : Int) < 16 := by omega
   go_wp2
   go_end0
   exact ⟨rfl, rfl⟩

def tabCell (k j : Nat) : Value := if j < k then .int .u32 (steps 4 j : Nat) else .int .u32 0

def tabV : Array Value := ((List.range 16).map fun i => Value.int .u32 (steps 4 i : Nat)).toArray
theorem tabV_size : tabV.size = 16 := by simp [tabV]
theorem tabV_get {i : Nat} (h : i < 16) : tabV[i]? = some (.int .u32 (steps 4 i : Nat)) := by simp [tabV, h]
theorem tabV_one : tabV.all (·.oneCell') = true := by
 rw [Array.all_eq_true]
 intro i h
 simp [tabV, Value.oneCell']
theorem row_tab {w : World} {b : Nat} {t : TypeId} (h : w.rowIs b t 16 (tabCell 16)) : w.heap[b]? = some (.cells tabV t (0, 0)) := by
 obtain ⟨c, hc, hs, hi⟩ := h
 have e : c = tabV := by
  apply Array.ext_getElem?
  intro i
  by_cases h : i < 16
  ·rw [hi i h, tabV_get h, tabCell, if_pos h]
  ·rw [Array.getElem?_eq_none (by omega), Array.getElem?_eq_none (by rw [tabV_size]; omega)]
 rw [hc, e]

theorem info47 : (Tryz.prog.info? 241).map (·.size) = some tabV.size := by rw [tabV_size]; kernel_rfl

def TabRel (w : World) (i : Value) (wr : World) : Prop :=
 ∃ k : Nat, k ≤ 16 ∧ i = .int .i64 k ∧ wr.rowIs (w.heap.size + 1) 241 16 (tabCell k) ∧ wr.rowIs w.heap.size 241 16 (fun _ => .int .u32 0) ∧ Below w.heap.size w wr

theorem tabRel_start (w : World) : TabRel w (.int .i64 0) ((w.alloc (.cells #[.int .u32 0, .int .u32 0, .int .u32 0, .int .u32 0, .int .u32 0, .int .u32 0, .int .u32 0, .int .u32 0, .int .u32 0, .int .u32 0, .int .u32 0, .int .u32 0, .int .u32 0, .int .u32 0, .int .u32 0, .int .u32 0] 241)).alloc
  (.cells #[.int .u32 0, .int .u32 0, .int .u32 0, .int .u32 0, .int .u32 0, .int .u32 0, .int .u32 0, .int .u32 0, .int .u32 0, .int .u32 0, .int .u32 0, .int .u32 0, .int .u32 0, .int .u32 0, .int .u32 0, .int .u32 0] 241)) := by
 have hz : ∀ (v : World), (v.alloc (.cells #[.int .u32 0, .int .u32 0, .int .u32 0, .int .u32 0, .int .u32 0, .int .u32 0, .int .u32 0, .int .u32 0, .int .u32 0, .int .u32 0, .int .u32 0, .int .u32 0, .int .u32 0, .int .u32 0, .int .u32 0, .int .u32 0] 241)).rowIs v.heap.size 241 16 (fun _ => .int .u32 0) := fun v =>
  World.rowIs_alloc v _ _ _ (fun i hi => by
   have hi : i < 16 := hi
   rcases i with _ | _ | _ | _ | _ | _ | _ | _ | _ | _ | _ | _ | _ | _ | _ | _ | i
   all_goals first | rfl | omega)
 refine ⟨0, Nat.zero_le _, rfl, ?_, (hz w).alloc _, ((Below.refl _ _).alloc (Nat.le_refl _) _).alloc (by simp) _⟩
 have h := hz (w.alloc (.cells #[.int .u32 0, .int .u32 0, .int .u32 0, .int .u32 0, .int .u32 0, .int .u32 0, .int .u32 0, .int .u32 0, .int .u32 0, .int .u32 0, .int .u32 0, .int .u32 0, .int .u32 0, .int .u32 0, .int .u32 0, .int .u32 0] 241))
 rw [show ∀ o, (w.alloc o).heap.size = w.heap.size + 1 from fun o => by simp] at h
 exact h.congr (fun j _ => by simp [tabCell])

theorem tabRel_step {w wr : World} {k : Nat} (hk : k < 16) (hrow : wr.rowIs (w.heap.size + 1) 241 16 (tabCell k)) (hres : wr.rowIs w.heap.size 241 16 (fun _ => .int .u32 0)) (hbel : Below w.heap.size w wr) :
  TabRel w (.int .i64 ((k : Int) + 1)) (wr.setCell ⟨w.heap.size + 1, k, none⟩ (.int .u32 (steps 4 k : Nat))) := by
 refine ⟨k + 1, by omega, by go_num, (hrow.set k _).congr (fun j _ => ?_), hres.setOther (by simp) _, hbel.setCell (by simp) _⟩
 unfold tabCell
 by_cases h : j = k
 ·subst h; simp
 ·rw [if_neg h]
  by_cases h2 : j < k
  ·rw [if_pos h2, if_pos (by omega)]
  ·rw [if_neg h2, if_neg (by omega)]

theorem newTable_any (w : World) :
  Calls Tryz.prog 202 #[] w fun e w' => e = .returned (.agg tabV) ∧ Below w.heap.size w w' := by
 have hmf : ∀ (fn : Fn) (first cap : Array Value) (w : World), (Instr.makeFunc fn first cap).run Tryz.prog w = .ok (.func fn first cap) w := fun _ _ _ _ => rfl
 go_enter Tryz.func202, Tryz.ntmps202
 go_wp2
 go_loopw [5] (fun i wr => TabRel w i wr) (fun i _ => 16 - (intOf i).toNat)
 case atStart => exact tabRel_start w
 case round =>
  obtain ⟨k, hk, rfl, hrow, hres, hbel⟩ := hrel
  by_cases hlt : k < 16
  ·go_wp2_with ((with_reducible refine (fill_any k _ _ _ hlt hrow).mono ?_); rintro e w' ⟨rfl, rfl⟩)
   go_roundw
   case rel => exact tabRel_step hlt hrow hres hbel
   case measure => simp [intOf]; omega
  ·obtain rfl : k = 16 := by omega
   have g1 := row_tab hrow
   obtain ⟨old, hg3, hold, _⟩ := hres
   have hg3 := Lib.hid hg3
   clear hrow hlt hk hmf
   rename_i hg30 _; clear hg30
   go_wp2_with (first
    | (refine wpList_load_row rfl 241 _ rfl (w.heap.size + 1) rfl 241 tabV (0, 0) _ g1 Tryz.underlying241 rfl info47 ?_)
    | (refine wpList_store_row rfl 241 _ _ rfl w.heap.size tabV rfl rfl 241 old hg3.out info47 (by rw [hold]; rfl) tabV_one ?_))
   exact bodyPost_ret (v := .agg tabV) (results_cell_row (p := 0) (ty := 241) rfl _ _ w.heap.size 241 tabV (0, 0) _ rfl (setRow_heap _ _ _ _ _ _ hg3.out) Tryz.underlying241 rfl info47) rfl
    ⟨rfl, below_setRow hbel (Nat.le_refl _) _⟩
end Go.Proofs.YtnbddiiedagllaaGreat

