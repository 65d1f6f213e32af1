import Derived.Test.YtnbddiiedagllaaGreatSSL31
import Derived.Test.YtnbddiiedagllaaGreatSSL30
import Derived.WalkMore
import Derived.Test.YtnbddiiedagllaaGreatSSL28
import Derived.Test.YtnbddiiedagllaaGreatSSL25
import Derived.OwnWalkIn
import Derived.TacticsInMore
import Derived.LoopNIn
import Derived.LoopIn
import Derived.Maps.AppendAt
import Derived.Maps.OwnIn
/- The walks of the reference's bytes and marked. -/
namespace Go.Proofs.YtnbddiiedagllaaGreat
open Go.RowKit Go.Maps Go.Shelf

attribute [local go_sem ↓] Go.wp_at_zero Go.wp_at_succ

def MarkAt (l : List Nat) (b : Bool) : Prop :=
 (∃ r t, l = frameL r ++ t ∧ r.length ≤ 1048576 ∧ b = decide (r = [])) ∨ (NoFrame l ∧ b = false)

set_option maxRecDepth 100000 in
theorem rmarked_any (a : Option Addr) (n cap : Nat) (l : List Nat) (w : World) (hl : Bytes w a n cap l) (hm : n ≤ 100000000000000) :
  Calls Tryz.prog 59 #[.slice a n cap] w fun e w' => ∃ b, e = .returned (.bool b) ∧ MarkAt l b ∧ Below w.heap.size w w' := by
 have HN := Lib.hid (rnext_any a n cap l w hl hm)
 clear hl hm
 go_enter Tryz.func59, Tryz.ntmps59
 go_wp2_with fail
 refine HN.out.mono ?_
 rintro e w1 ⟨hb, ⟨r, t, p, cp, hlr, hr, rfl, _, _⟩ | ⟨hno, rfl⟩⟩
 ·have Hb := Lib.hid hb
  have HM := Lib.hid (show MarkAt l (decide (r = [])) from .inl ⟨r, t, hlr, hr, rfl⟩)
  clear hb hlr hr
  have h8 : (0 : Int) < ((r.length + 8 : Nat) : Int) := by omega
  have h9 : ((r.length : Int) == 0) = decide (r = []) := by
   by_cases e : r = []
   ·subst e; rfl
   ·have : r.length ≠ 0 := fun h => e (List.length_eq_zero_iff.1 h)
    rw [decide_eq_false e, beq_eq_false_iff_ne]
    omega
  go_wp2
  go_ret
  exact ⟨decide (r = []), rfl, HM.out, Hb.out⟩
 ·have Hb := Lib.hid hb
  have HM := Lib.hid (show MarkAt l false from .inr ⟨hno, rfl⟩)
  clear hb hno
  go_wp2
  go_ret
  exact ⟨false, rfl, HM.out, Hb.out⟩

set_option maxRecDepth 100000 in
set_option maxHeartbeats 3200000 in
theorem rbytes_any {X : Nat → Prop} {w : World} {M : DM} {a : Option Addr} {n c : Nat} {R : List FR} (hR : RowF X w a n c R) (hX : ∀ b, X b → b < w.heap.size) (N : Nat) (h1 : 1 ≤ N) (hN : N ≤ 99999999) (y : FR) (hy : findN FR.n (nmB N) R = some y) :
  Calls Tryz.prog 60 #[refV (M.room : Int) a n c (M.plan : Int) M.down, .int .i64 (N : Int)] w fun e w' => e = .returned (.slice y.pa y.f.b.length y.k) ∧ Below w.heap.size w w' := by
 have hb1 := (Below.refl w.heap.size w).alloc (Nat.le_refl _) (.cells #[.int .i64 (M.room : Int), .slice a n c, .int .i64 (M.plan : Int), .bool M.down] 25)
 obtain ⟨b0, b1, b2, b3⟩ := box4 w (M.room : Int) a n c (M.plan : Int) M.down
 generalize hW1 : w.alloc (.cells #[.int .i64 (M.room : Int), .slice a n c, .int .i64 (M.plan : Int), .bool M.down] 25) = w1 at *
 have hR1 := hR.below hX hb1
 have hX1 : ∀ b, X b → b < w1.heap.size := fun b h => Nat.lt_of_lt_of_le (hX b h) hb1.size
 have hyR := (findN_some hy).1
 have hn0 : 0 < n := by rw [← hR.len]; exact List.length_pos_of_mem hyR
 obtain ⟨bf, of, rfl, _⟩ := hR1.cell hn0
 have HF2 := Lib.hid (show ∀ W, Below w1.heap.size w1 W → Calls Tryz.prog 108 #[.agg #[.int .i64 (M.room : Int), .slice (some ⟨bf, of, none⟩) n c, .int .i64 (M.plan : Int), .bool M.down], .string (str (nameL N))] W fun e w' =>
   ∃ i : Nat, i < n ∧ e = .returned (.int .i64 (i : Int)) ∧ R[i]? = some y ∧ Below W.heap.size W w' from fun W hW => (rfind_any (hR1.below hX1 hW) (fun b hb => Nat.lt_of_lt_of_le (hX1 b hb) hW.size) (nmB N) (M.room : Int) (M.plan : Int) M.down).mono (by
  rintro e w' ⟨hb', ⟨i, hi, rfl, hfi⟩ | ⟨_, hno⟩⟩
  ·rw [hy] at hfi
   exact ⟨i, by rw [← hR.len]; exact hi, rfl, by rw [List.getElem?_eq_getElem hi]; exact hfi.symm, hb'⟩
  ·rw [hy] at hno; cases hno))
 have HKK := Lib.hid (fun W (hW : Below w1.heap.size w1 W) => (show W.cell? ⟨w.heap.size, 0, none⟩ = some (.int .i64 (M.room : Int)) ∧ W.cell? ⟨w.heap.size, 1, none⟩ = some (.slice (some ⟨bf, of, none⟩) n c) ∧ W.cell? ⟨w.heap.size, 2, none⟩ = some (.int .i64 (M.plan : Int)) ∧ W.cell? ⟨w.heap.size, 3, none⟩ = some (.bool M.down) ∧
   ∀ i : Nat, R[i]? = some y → W.cell? ⟨bf, of + i * 3 + 1, none⟩ = some (.slice y.pa y.f.b.length y.k) from by
  refine ⟨cell_keep hW b0, cell_keep hW b1, cell_keep hW b2, cell_keep hW b3, fun i hiy => ?_⟩
  obtain ⟨hi, hyi⟩ := List.getElem?_eq_some_iff.1 hiy
  obtain ⟨_, k4, _⟩ := (hR1.below hX1 hW).at i hi
  rw [hyi] at k4
  exact k4))
 have HNa := Lib.hid (fun W => rsegname_yes N W h1 hN)
 have hmxn : n ≤ 9223372036854775807 := Nat.le_trans hR.le hR.max
 have Hb1 := Lib.hid hb1
 unfold refV
 clear hR hR1 hX hX1 hyR hy hb1 h1 hN
 generalize (M.plan : Int) = pl at *
 generalize (M.room : Int) = ro at *
 generalize M.down = dn at *
 go_enter Tryz.func60, Tryz.ntmps60
 go_wp2_with fail
 (try rw [hW1])
 have HW1 := Lib.hid hW1
 clear hW1
 refine (HNa.out _).mono ?_
 rintro e w4 ⟨rfl, rfl⟩
 go_wp2_with fail
 go_region_held3 (fun w' => w'.cell? ⟨w.heap.size, 0, none⟩ = some (.int .i64 ro) ∧ w'.cell? ⟨w.heap.size, 1, none⟩ = some (.slice (some ⟨bf, of, none⟩) n c) ∧ w'.cell? ⟨w.heap.size, 2, none⟩ = some (.int .i64 pl) ∧ w'.cell? ⟨w.heap.size, 3, none⟩ = some (.bool dn) ∧ ∀ i : Nat, R[i]? = some y → w'.cell? ⟨bf, of + i * 3 + 1, none⟩ = some (.slice y.pa y.f.b.length y.k))
  (first | exact HKK.out _ hb5w | exact HKK.out _ (Below.drew (Below.refl _ _)))
  (first
   | (go_at_call 108; (with_reducible refine (HF2.out _ (Below.drew (Below.refl _ _))).mono ?_); rintro e w5 ⟨i, hin, rfl, hiy, hb5⟩; have hini : (i : Int) < (n : Int) := Int.ofNat_lt.2 hin; have hb5w : Below w1.heap.size w1 w5 := (Below.drew (Below.refl _ _)).trans hb5))
 have Hend := Lib.hid (Hb1.out.trans (hb5w.mono Hb1.out.size))
 clear hb5 hb5w hiy hin hini
 go_wp2
 go_ret
 exact ⟨rfl, Hend.out⟩
end Go.Proofs.YtnbddiiedagllaaGreat

/- The walk of gather: the records of the segments of a log, or a mistake in one of them. -/
namespace Go.Proofs.YtnbddiiedagllaaGreat
open Go.RowKit Go.Maps Go.Shelf

attribute [local go_sem ↓] Go.wp_at_zero Go.wp_at_succ

structure PRow (Z : Nat → Prop) (w : World) (a : Option Addr) (n c : Nat) (ps : List (PD × List (List Nat))) : Prop where
 len : ps.length = n
 max : n ≤ 1000000
 cell : 0 < n → ∃ b o, a = some ⟨b, o, none⟩ ∧ ∀ i (hi : i < ps.length),
  (w.cell? ⟨b, o + i * 5, none⟩ = some (.int .i64 ps[i].1.n) ∧ w.cell? ⟨b, o + i * 5 + 1, none⟩ = some (.bool ps[i].1.mark) ∧ w.cell? ⟨b, o + i * 5 + 2, none⟩ = some (.slice ps[i].1.pa ps[i].1.pn ps[i].1.pc) ∧ w.cell? ⟨b, o + i * 5 + 3, none⟩ = some (.slice ps[i].1.wa ps[i].1.wn ps[i].1.wc) ∧ w.cell? ⟨b, o + i * 5 + 4, none⟩ = some (.int .i64 ps[i].1.tn)) ∧
   RecsZ Z w ps[i].1.pa ps[i].1.pn ps[i].1.pc ps[i].2

def gathL : List (PD × List (List Nat)) → List (List Nat) → Option (List (List Nat))
 | [], acc => some acc
 | x :: ps, acc => if (0 < x.1.tn ∧ ps ≠ []) ∨ [] ∈ x.2 then none else gathL ps (acc ++ x.2)

def sumP (ps : List (PD × List (List Nat))) : Nat := (ps.map fun x => x.2.length).sum

def GathEnd (Z : Nat → Prop) (w : World) (ps : List (PD × List (List Nat))) (e : Ending) (w' : World) : Prop :=
 ((∃ v out, gathL ps [] = some out ∧ e = .returned (.tuple #[v, .bool true]) ∧ PartsZ Z w' w.heap.size v out) ∨ (gathL ps [] = none ∧ e = .returned (.tuple #[.slice none 0 0, .bool false]))) ∧ Below w.heap.size w w'

set_option maxRecDepth 100000 in
set_option maxHeartbeats 6400000 in
theorem gather_any {Z : Nat → Prop} (a : Option Addr) (n c : Nat) (ps : List (PD × List (List Nat))) (w : World) (hZ : ∀ b, Z b → b < w.heap.size) (hp : PRow Z w a n c ps) (hs : sumP ps ≤ 10000000) :
  Calls Tryz.prog 105 #[.slice a n c] w (GathEnd Z w ps) := by
 have HZ := Lib.hid hZ
 clear hZ
 have HP := Lib.hid hp
 have hls := Lib.hid hp.len
 have hmx := hp.max
 obtain ⟨i0, hi, hz0, hz1, hz2⟩ := info_parts info_rows
 clear hp
 go_enter Tryz.func105, Tryz.ntmps105
 go_wp2
 go_step3
 go_wp2
 go_step3
 go_wp2
 go_loopw [4, 5, 12] (fun v m i wr => ∃ (j : Nat) (acc : List (List Nat)), j ≤ n ∧ i = .int .i64 (j : Int) ∧ m = .bool false ∧ gathL ps [] = gathL (ps.drop j) acc ∧ acc.length + sumP (ps.drop j) ≤ 10000000 ∧ PartsZ Z wr w.heap.size v acc ∧ Below w.heap.size w wr) (fun _ _ i _ => n - (intOf i).toNat)
 case atStart => exact ⟨0, [], Nat.zero_le _, rfl, rfl, rfl, by simpa using hs, PartsZ.nil _ _ _, Below.refl _ _⟩
 case round =>
  obtain ⟨j, acc, hj, rfl, rfl, hE, hsu, hrow, hb⟩ := hrel
  by_cases hlt : j < n
  ·have hjl : j < ps.length := by rw [hls.out]; exact hlt
   obtain ⟨b, o, rfl, hc⟩ := HP.out.cell (by omega)
   obtain ⟨⟨q0, q1, q2, q3, q4⟩, hR⟩ := hc j hjl
   have hdr : ps.drop j = ps[j] :: ps.drop (j + 1) := List.drop_eq_getElem_cons hjl
   rw [hdr] at hE hsu
   have hlast : (ps.drop (j + 1) ≠ []) ↔ j + 1 < n := by
    rw [← hls.out]
    constructor
    ·intro h
     rcases Nat.lt_or_ge (j + 1) ps.length with h1 | h1
     ·exact h1
     ·exact absurd (List.drop_eq_nil_of_le h1) h
    ·intro h e
     have := congrArg List.length e
     rw [List.length_drop, List.length_nil] at this
     omega
   have k0 := cell_keep hb q0
   have k1 := cell_keep hb q1
   have k2 := cell_keep hb q2
   have k3 := cell_keep hb q3
   have k4 := cell_keep hb q4
   have HR := Lib.hid hR
   have Hrow := Lib.hid hrow
   have Hb := Lib.hid hb
   have Hlt := Lib.hid hlt
   have hji : (j : Int) < (n : Int) := by omega
   have hsu2 : acc.length + (ps[j].2.length + sumP (ps.drop (j + 1))) ≤ 10000000 := by
    have : sumP (ps[j] :: ps.drop (j + 1)) = ps[j].2.length + sumP (ps.drop (j + 1)) := by unfold sumP; rw [List.map_cons, List.sum_cons]
    rw [this] at hsu
    exact hsu
   have hE2 : gathL ps [] = if (0 < ps[j].1.tn ∧ ps.drop (j + 1) ≠ []) ∨ [] ∈ ps[j].2 then none else gathL (ps.drop (j + 1)) (acc ++ ps[j].2) := hE
   simp only [hlast] at hE2
   have HE := Lib.hid hE2
   have Hsu := Lib.hid hsu2
   clear hE hE2 hsu hsu2 hR hrow hb hlt hc hdr hlast q0 q1 q2 q3 q4
   generalize ps[j] = z at *
   obtain ⟨⟨xn, xm, pa, pn, pc, wa, wn, wc, tn⟩, rs⟩ := z
   simp only at *
   by_cases hbad : (0 : Int) < tn ∧ j + 1 < n
   ·have h1 : (0 : Int) < tn := hbad.1
    have h2 : (j : Int) < (n : Int) - 1 := by omega
    have HN := Lib.hid (HE.out.trans (if_pos (.inl hbad)))
    have Hb2 := Lib.hid (Hb.out.alloc Hb.out.size (.cells #[.int .i64 xn, .bool xm, .slice pa pn pc, .slice wa wn wc, .int .i64 tn] 105))
    clear hbad
    go_wp2
    show bodyPost _ _ _ Exit.ret _ _
    refine bodyPost_ret (results_tmp2 rfl _ _ _) rfl ⟨.inr ⟨HN.out, rfl⟩, Hb2.out⟩
   ·have hsp : ((0 : Int) < tn ∧ ¬ (j : Int) < (n : Int) - 1) ∨ ¬ (0 : Int) < tn := by omega
    have hnb := hbad
    have Hlen2 := Lib.hid HR.out.len
    have Hx := Lib.hid (show gathL ps [] = if [] ∈ rs then none else gathL (ps.drop (j + 1)) (acc ++ rs) from by
     rw [HE.out]
     by_cases h : [] ∈ rs
     ·rw [if_pos (.inr h), if_pos h]
     ·rw [if_neg (fun h' => h'.elim hnb h), if_neg h])
    clear hnb hbad HE
    rcases hsp with ⟨h1, h2⟩ | h1
    all_goals
     go_wp2
     go_loopw [4, 5, 30] (fun v2 m2 i wr2 => ∃ k : Nat, k ≤ pn ∧ i = .int .i64 (k : Int) ∧ m2 = .bool false ∧ (∀ r ∈ rs.take k, r ≠ []) ∧ PartsZ Z wr2 w.heap.size v2 (acc ++ rs.take k) ∧ Below w.heap.size w wr2) (fun _ _ i _ => pn - (intOf i).toNat)
     case atStart => exact ⟨0, Nat.zero_le _, rfl, rfl, fun r h => (by cases h), by simpa using Hrow.out.grow ((Below.refl _ _).alloc (Nat.le_refl _) _), Hb.out.alloc Hb.out.size _⟩
     case round =>
      obtain ⟨k, hk, rfl, rfl, hne, hrw, hbr⟩ := hrel
      have hpn : pn ≤ 9223372036854775807 := Nat.le_trans HR.out.le HR.out.capmax
      by_cases hkl : k < pn
      ·obtain ⟨b', o', rfl, hbl, hcc⟩ := HR.out.cell (by omega)
       obtain ⟨a1, n1, c1, m0, hB1, hZ1⟩ := hcc k hkl
       have m0 := cell_keep hbr m0
       have HM := Lib.hid (fun W => ismark_any a1 n1 c1 W)
       have hkr : k < rs.length := by rw [Hlen2.out]; exact hkl
       have hgk : rs.getD k [] = rs[k] := by rw [List.getD_eq_getElem?_getD, List.getElem?_eq_getElem hkr]; rfl
       rw [hgk] at hB1
       have hrk : rs.take (k + 1) = rs.take k ++ [rs[k]] := List.take_succ_eq_append_getElem hkr
       have hmq : rs[k] ∈ rs := List.getElem_mem hkr
       clear hgk
       generalize rs[k] = q at *
       have Hrk := Lib.hid hrk
       clear hrk
       by_cases hn1 : n1 = 0
       ·have hd1 : decide (n1 = 0) = true := decide_eq_true hn1
        have hmem : [] ∈ rs := by
         have : q = [] := List.length_eq_zero_iff.1 (by rw [hB1.len]; exact hn1)
         rw [← this]
         exact hmq
        have HN := Lib.hid (Hx.out.trans (if_pos hmem))
        have Hbr := Lib.hid hbr
        clear hmem hB1 hcc hrw hne hbr
        go_wp2_with (go_at_call 148; refine (HM.out _).mono ?_; rintro e w4 ⟨rfl, rfl⟩)
        go_wp2
        show bodyPost _ _ _ Exit.ret _ _
        exact bodyPost_ret (results_tmp2 rfl _ _ _) rfl ⟨.inr ⟨HN.out, rfl⟩, Hbr.out⟩
       ·have hd1 : decide (n1 = 0) = false := decide_eq_false hn1
        have hb3 : Below wr.heap.size wr (wr.alloc (.cells #[.slice a1 n1 c1] 58)) := (Below.refl _ _).alloc (Nat.le_refl _) _
        have Hlt2 := Lib.hid hrw.lt
        obtain ⟨vs, hlen, hown, hel⟩ := hrw.grow hb3
        have Hel := Lib.hid hel
        have Hown := Lib.hid hown
        have Hlen := Lib.hid hlen
        have HX := Lib.hid (hB1.grow (hbr.trans (hb3.mono hbr.size)))
        have Hb3 := Lib.hid (hbr.trans (hb3.mono hbr.size))
        have HZ1 := Lib.hid hZ1
        have Hne := Lib.hid hne
        have htl : (acc ++ rs.take k).length ≤ 10000000 := by
         rw [List.length_append, List.length_take]
         have := Hsu.out
         omega
        have Htl := Lib.hid htl
        have Hkr := Lib.hid hkr
        have Hkl := Lib.hid hkl
        have Hn1 := Lib.hid (show q ≠ [] from fun e => hn1 (by rw [← hB1.len, e]; rfl))
        clear hB1 hcc hrw hne hbr hel hown hlen hb3 hZ1 htl hn1
        go_wp2_with (first
         | (go_at_call 148; refine (HM.out _).mono ?_; rintro e w4 ⟨rfl, rfl⟩)
         | (at_builtin; refine wpList_append_own_at _ rfl _ _ 29 rfl w.heap.size 58 i0 (.slice none 0 0) 1 24 Tryz.underlying29 hi hz0 hz1 hz2 rfl (by decide) _ _ _ rfl Hown.out ⟨_, 0, none⟩ 1 1 [.slice a1 n1 c1] rfl rfl (cell_one_new _ _ _) (by simp [Value.oneCell']) (by rw [maxLen_nat]; have := Htl.out; omega) (by have := Htl.out; omega) Hb3.out.size ?_; intro v' w2 hown' hgrow _ hblk))
        go_roundw
        case rel =>
         have e1 : acc ++ rs.take (k + 1) = (acc ++ rs.take k) ++ [q] := by rw [Hrk.out, List.append_assoc]
         refine ⟨k + 1, Hkl.out, by go_num, rfl, fun r hr => ?_, ?_, Hb3.out.grown hgrow Hb3.out.size (fun q hq => (Hown.out.lt q hq).1)⟩
         ·rw [Hrk.out] at hr
          rcases List.mem_append.1 hr with h | h
          ·exact Hne.out r h
          ·rw [List.mem_singleton.1 h]; exact Hn1.out
         ·rw [e1]
          exact PartsZ.snoc Hlen.out Hel.out HX.out (fun hn' y hy => ⟨fun e => by
           have h5 := (Hlt2.out y.block e.symm).1
           have h6 := HZ.out _ (HZ1.out hn' y hy)
           omega, HZ1.out hn' y hy⟩) hown' hgrow hblk
        case measure => simp [intOf]; have := Hkl.out; omega
      ·obtain rfl : pn = k := by omega
       have Hrw := Lib.hid hrw
       have Hne := Lib.hid hne
       have Hbr := Lib.hid hbr
       have hki : ¬ (pn : Int) < (pn : Int) := by omega
       clear hrw hne hbr hkl
       go_wp2
       go_roundw
       case rel =>
        have ht : rs.take pn = rs := List.take_of_length_le (Nat.le_of_eq Hlen2.out)
        have h3 := Hrw.out
        have h4 := Hne.out
        rw [ht] at h3 h4
        exact ⟨j + 1, acc ++ rs, Hlt.out, by go_num, rfl, Hx.out.trans (if_neg (fun h => h4 [] h rfl)), by rw [List.length_append]; have := Hsu.out; omega, h3, Hbr.out⟩
       case measure => simp [intOf]; have := Hlt.out; omega
  ·obtain rfl : n = j := by omega
   have hji : ¬ (n : Int) < (n : Int) := by omega
   have hdr : ps.drop n = [] := List.drop_eq_nil_of_le (Nat.le_of_eq hls.out)
   rw [hdr] at hE
   have HE := Lib.hid (show gathL ps [] = some acc from hE)
   have Hrow := Lib.hid hrow
   have Hb := Lib.hid hb
   clear hE hrow hb hsu hdr
   go_wp2
   refine bodyPost_ret (results_tmp2 rfl _ _ _) rfl ⟨.inl ⟨_, acc, HE.out, rfl, Hrow.out⟩, Hb.out⟩
end Go.Proofs.YtnbddiiedagllaaGreat

/- The walks of slices.Values, slices.AppendSeq, slices.Collect and slices.Sorted of ints, and of the code's Gap at numbers in ascending order. -/
namespace Go.Proofs.YtnbddiiedagllaaGreat
open Go.RowKit Go.Shelf

attribute [local go_sem] Oper.semAt_some

theorem values_any (p : Option Addr) (n c : Nat) (w : World) :
  Calls Tryz.prog 147 #[.slice p n c] w fun e w' => e = .returned (.func (.func 178) #[] #[.pointer (some ⟨w.heap.size, 0, none⟩)]) ∧ w' = w.alloc (.cells #[.slice p n c] 33) := by
 go_enter Tryz.func147, Tryz.ntmps147
 go_wp2
 go_ret
 exact ⟨rfl, rfl⟩

set_option maxRecDepth 100000 in
set_option maxHeartbeats 2000000 in
theorem vals1_told (m : Nat) (hm1 : 1 ≤ m) (Bn : Nat) (p : Option Addr) (n c : Nat) (L : List Int) (hn : n ≤ 1000000) (I : List Int → Nat → World → Prop)
  (hI : ∀ s N W, I s N W → Ints W p n c L ∧ W.cell? ⟨Bn, 0, none⟩ = some (.slice p n c)) :
  Told m Tryz.prog 178 #[.pointer (some ⟨Bn, 0, none⟩)] (fun x : Int => #[.int .i64 x]) I (fun _ _ _ => True) (fun xs => xs = L) (n + 1) := by
 intro l J W N hg hm hJI hY h0
 obtain ⟨hB0, hc0⟩ := hI _ _ _ (hJI _ _ _ h0)
 have hlen := hB0.len
 refine callsIn_of_wp Tryz.func178 rfl trivial ?_ rfl
 simp only [Tryz.ntmps178, List.size_toArray, List.length_cons, List.length_nil, Nat.reduceAdd, Nat.reduceSub, Array.replicate_succ, Array.replicate_zero, List.push_toArray, List.append_toArray, List.nil_append, List.cons_append]
 gi_wp2
 gi_loopw [7] (fun u wr => ∃ (j N' : Nat), j ≤ n ∧ u = .int .i64 (j : Int) ∧ J (L.take j) N' wr) (fun u _ => n - (intOf u).toNat)
 case atStart => exact ⟨0, N, Nat.zero_le _, rfl, h0⟩
 case round =>
  obtain ⟨j, N', hj, rfl, hJ⟩ := hrel
  obtain ⟨hI1, _⟩ := hI _ _ _ (hJI _ _ _ hJ)
  by_cases hlt : j < n
  ·obtain ⟨b, o, rfl, hc1⟩ := hI1.cell (by omega)
   have hc := hc1 j hlt
   have hnx : L.take (j + 1) = L.take j ++ [L.getD j 0] := by
    rw [List.take_succ_eq_append_getElem (by omega), List.getD_eq_getElem?_getD, List.getElem?_eq_getElem (by omega)]
    rfl
   obtain ⟨fn, tmps, assign, body, hy, hRd⟩ := hY (L.take j) (L.getD j 0) N' wr hJ trivial (by rw [List.length_take]; omega)
   rw [← hnx] at hRd
   have HRd := Lib.hid hRd
   have hji : (j : Int) < (n : Int) := by omega
   clear hc1 hnx hI1 hRd
   generalize L.getD j 0 = x at *
   gi_wp2
   refine HRd.out.mono ?_
   rintro e W3 ⟨rfl, N3, hJ3⟩
   gi_wp2
   go_roundw
   case rel => exact ⟨j + 1, N3, hlt, by go_num, hJ3⟩
   case measure => simp [intOf]; omega
  ·obtain rfl : j = n := by omega
   have hall : L.take j = L := List.take_of_length_le (by omega)
   rw [hall] at hJ
   gi_wp2
   go_end0
   exact ⟨⟨_, rfl⟩, L, N', hJ, rfl⟩

def ApY (w : World) (pre : List Int) (_ : Nat) (W : World) : Prop :=
 (∃ v, Boxed W w.heap.size 33 v ∧ W.ownsRow w.heap.size 3 1 v pre.length (intsE pre)) ∧ Below w.heap.size w W ∧ w.heap.size + 1 ≤ W.heap.size

theorem apY_stands (w : World) (B : Nat) (hB : B = w.heap.size + 1) : Stands B (ApY w) (fun _ _ _ => True) := by
 subst hB
 refine ⟨?_, ?_, ?_, ?_⟩
 ·rintro s N W W' ⟨⟨v, h1, h2⟩, h3, h4⟩ hb
  exact ⟨⟨v, (hb.block _ h1.lt).trans h1, own_below h2 hb⟩, h3.trans (hb.mono h3.size), Nat.le_trans h4 hb.size⟩
 ·rintro s N W h
  exact h
 ·rintro s N W l o o' ⟨⟨v, h1, h2⟩, h3, h4⟩ hl hlo ho
  refine ⟨⟨v, (World.putObj_heap_other (fun e => ?_)).trans h1, ownsRow_putObj h2 o' hlo ho⟩, ?_, by simpa using h4⟩
  ·rw [← e, show W.heap[w.heap.size]? = _ from h1] at hlo
   cases hlo
   cases ho
  ·exact h3.grown (grownBy_putObj' W l o') h3.size (fun k e => by cases e; omega)
 ·rintro N x W l o o' h _ _
  exact h

set_option maxRecDepth 100000 in
set_option maxHeartbeats 2000000 in
theorem appseq_any (p : Option Addr) (n c : Nat) (L : List Int) (Bn : Nat) (w : World) (hI : Ints w p n c L) (hc : w.cell? ⟨Bn, 0, none⟩ = some (.slice p n c)) (hn : n ≤ 1000000) :
  Calls Tryz.prog 200 #[.slice none 0 0, .func (.func 178) #[] #[.pointer (some ⟨Bn, 0, none⟩)]] w fun e w' => ∃ v, e = .returned v ∧ w'.ownsRow w.heap.size 3 1 v n (intsE L) ∧ Below w.heap.size w w' := by
 refine (callsIn_wide (n := 6)).1 ?_
 have HI := Lib.hid hI
 have Hc := Lib.hid hc
 obtain ⟨i0, hi, hz0, hz1, hz2⟩ := info_parts info_int
 clear hI hc
 refine callsIn_of_wp_marks Tryz.func200 rfl trivial ?_ rfl
 simp only [Tryz.ntmps200, List.size_toArray, List.length_cons, List.length_nil, Nat.reduceAdd, Nat.reduceSub, Array.replicate_succ, Array.replicate_zero, List.push_toArray, List.append_toArray, List.nil_append, List.cons_append]
 gi_wp2
 have bO := Boxed.new w 33 (.slice none 0 0)
 have hB0 : Below w.heap.size w (w.alloc (.cells #[.slice none 0 0] 33)) := (Below.refl _ w).alloc (Nat.le_refl _) _
 have hsz : (w.alloc (.cells #[.slice none 0 0] 33)).heap.size = w.heap.size + 1 := by simp
 have h0 : ApY w [] 0 (w.alloc (.cells #[.slice none 0 0] 33)) := ⟨⟨_, bO, World.ownsRow_nil _ _ _ _⟩, hB0, by rw [hsz]; exact Nat.le_refl _⟩
 have hT := vals1_told 5 (by omega) Bn p n c L hn (ApY w) (fun s N W h => ⟨HI.out.grow h.2.1, by rw [h.2.1.cell (p := ⟨Bn, 0, none⟩) (World.block_lt_of_cell? _ _ Hc.out)]; exact Hc.out⟩)
 refine range_told (n := 6) (by omega) (gf := 178) (lb := #[.pointer (some ⟨Bn, 0, none⟩)]) rfl (enters_of Tryz.func178 (by kernel_rfl) rfl) (encs := fun x : Int => #[.int .i64 x]) (fun _ => rfl)
  (apY_stands w _ hsz) hT 0 h0
  (fun x => { tmps := #[.slice none 0 0, .func (.func 178) #[] #[.pointer (some ⟨Bn, 0, none⟩)], .pointer (some ⟨w.heap.size, 0, none⟩), undef, .slice none 0 0, .int .i64 x, .func (.func 178) #[] #[.pointer (some ⟨Bn, 0, none⟩)], .int .i64 x, undef, undef, undef, undef, undef], defers := [] }) ?assign ?body ?done
 case assign =>
  intro l x W K hK
  gi_wp2
  exact hK
 case body =>
  rintro l pre x N W ⟨⟨v, hv, hrow⟩, hB, hW⟩ _ hM
  have hc := hv.cell
  gi_wp2_with (gi_at_builtin; refine wpListIn_append_own_at _ rfl _ _ 33 rfl w.heap.size 3 i0 (.int .i64 0) 1 8 Tryz.underlying33 hi hz0 hz1 hz2 rfl (by decide) _ _ _ rfl (hrow.alloc _) ⟨W.heap.size, 0, none⟩ 1 1 [.int .i64 x] rfl rfl (cell_one_new _ _ _) (by simp [Value.oneCell']) (by rw [maxLen_nat]; omega) (by omega) (by simp; omega) ?_; intro v' w1 hown' hgrow _ hblk; obtain ⟨g', cap', rfl⟩ := ownsRow_succ hown'; obtain ⟨hv1, hv2, hr2, hk2, hb2⟩ := hv.appended (by decide) hrow hB.size (Nat.le_refl _) hown' hgrow; have hc1 := hv1.cell; have hf1 := hv1.frozen)
  exact ⟨hk2.from _, 0, ⟨_, hv2, by rw [List.length_append, intsE_append]; exact hr2⟩, hB.trans hb2, by have := hb2.size; omega⟩
 case done =>
  rintro D xs N W hD rfl ⟨⟨v, hv, hrow⟩, hB, hW⟩ hK
  have hc := hv.cell
  have hln := HI.out.len
  gi_wp2
  refine ⟨by simp, .inl ⟨_, _, rfl, run_takeDeferred hK, ?_⟩⟩
  rw [hln] at hrow
  exact ⟨_, results_tmp rfl _ _ _, v, rfl, ownsRow_putObj hrow _ hK rfl, hB.trans (belowK_b (w := w) (Nat.le_refl _) W D _ _ (by simp at hD; omega) hK rfl rfl)⟩

set_option maxRecDepth 100000 in
theorem collect_any (p : Option Addr) (n c : Nat) (L : List Int) (Bn : Nat) (w : World) (hI : Ints w p n c L) (hc : w.cell? ⟨Bn, 0, none⟩ = some (.slice p n c)) (hn : n ≤ 1000000) :
  Calls Tryz.prog 177 #[.func (.func 178) #[] #[.pointer (some ⟨Bn, 0, none⟩)]] w fun e w' => ∃ v, e = .returned v ∧ w'.ownsRow w.heap.size 3 1 v n (intsE L) ∧ Below w.heap.size w w' := by
 have HA := Lib.hid (appseq_any p n c L Bn w hI hc hn)
 clear hI hc
 go_enter Tryz.func177, Tryz.ntmps177
 go_wp2_with fail
 refine HA.out.mono ?_
 rintro e w' ⟨v, rfl, h1, h2⟩
 go_wp2
 go_ret
 exact ⟨v, rfl, h1, h2⟩

theorem asc_sorted {l : List Int} (h : Asc l) : l.mergeSort (fun x y => decide (x ≤ y)) = l := by
 refine List.mergeSort_of_pairwise ?_
 refine List.Pairwise.imp ?_ h
 intro a b hab
 exact decide_eq_true (Int.le_of_lt hab)

set_option maxRecDepth 100000 in
set_option maxHeartbeats 3200000 in
theorem sorted_any (p : Option Addr) (n c : Nat) (L : List Int) (Bn : Nat) (w : World) (hI : Ints w p n c L) (hc : w.cell? ⟨Bn, 0, none⟩ = some (.slice p n c)) (hn : n ≤ 1000000) (hs : Asc L) :
  Calls Tryz.prog 146 #[.func (.func 178) #[] #[.pointer (some ⟨Bn, 0, none⟩)]] w fun e w' => ∃ q cp, e = .returned (.slice q n cp) ∧ Ints w' q n cp L ∧ Below w.heap.size w w' := by
 have HA := Lib.hid (collect_any p n c L Bn w hI hc hn)
 have hln := hI.len
 have Hs := Lib.hid hs
 clear hI hc hs
 go_enter Tryz.func146, Tryz.ntmps146
 go_wp2_with fail
 refine HA.out.mono ?_
 rintro e wr ⟨v, rfl, hown, hb⟩
 have Hown := Lib.hid hown
 have Hbel := Lib.hid hb
 clear hown hb
 by_cases hz : n = 0
 ·subst hz
  obtain ⟨q, cp, rfl, hI⟩ := own_ints Hown.out
  have H1 := Lib.hid (Tryz.slices_Sort_int_none q cp wr)
  have HI := Lib.hid hI
  clear hI
  go_wp2_with fail
  refine H1.out.mono ?_
  rintro e w1 ⟨rfl, rfl⟩
  go_wp2
  go_ret
  exact ⟨q, cp, rfl, HI.out, Hbel.out⟩
 ·obtain ⟨g, cp, rfl, hbg, hgl, hnc, hcm, _, hH⟩ := Lib.holds_of_ownsRow (enc := Value.int .i64) Hown.out (by
   intro e
   have h := Hown.out
   rw [e] at h
   rcases h.2 with ⟨_, h0⟩ | ⟨_, _, _, e2, _⟩
   ·omega
   ·cases e2)
  obtain ⟨cur, hcur, hcs⟩ : ∃ cur, wr.heap[g]? = some (.cells cur 3 (0, 0)) ∧ cur.size = cp * 1 := by
   rcases Hown.out.2 with ⟨e, _⟩ | ⟨g', cp', cur, e, _, hg, _, _, hs, _⟩
   ·cases e
   ·cases e; exact ⟨cur, hg, hs⟩
  have H1 := Tryz.slices_Sort_int g 0 cp L wr hH hgl (by omega)
  have hml : (L.mergeSort fun x y => decide (x ≤ y)).length = L.length := List.length_mergeSort L
  have hs := fun (q : Nat) (os : Array Obj) => ownsRow_sortedI (w := wr) (base := w.heap.size) (n := q) (os := os) hml hbg hcur (by rw [hln]; exact hnc) (by rw [maxLen_nat] at hcm ⊢; exact hcm) hcs
  have hg := fun (q : Nat) (os : Array Obj) => Hbel.out.grown (grownBy_sortedI (w := wr) (g := g) (n := q) (os := os) (L.mergeSort fun x y => decide (x ≤ y)).toArray) Hbel.out.size (fun x hx => by cases hx; exact hbg)
  rw [hln] at H1
  have H1 := Lib.hid H1
  have HsI := Lib.hid hs
  have Hg := Lib.hid hg
  rename_i H10
  clear hs hg hcur hcs hH hml H10
  go_wp2_with fail
  refine H1.out.mono ?_
  rintro e w1 ⟨rfl, q, os, hw1⟩
  have ho := HsI.out q os
  have hb1 := Hg.out q os
  rw [← hw1] at ho hb1
  rw [asc_sorted Hs.out] at ho
  have Hend := Lib.hid (And.intro (ints_of_own (a := some ⟨g, 0, none⟩) (n := n) (cap := cp) (l := L) (by rw [hln] at ho; exact ho)) hb1)
  clear ho hb1 hw1
  go_wp2
  go_ret
  exact ⟨_, cp, rfl, Hend.out.1, Hend.out.2⟩
end Go.Proofs.YtnbddiiedagllaaGreat

/- The walk of the code's Gap, at numbers of segments in ascending order. -/
namespace Go.Proofs.YtnbddiiedagllaaGreat
open Go.RowKit Go.Shelf

def gapL : List Int → Int
 | a :: b :: r => if a + 1 < b then a + 1 else gapL (b :: r)
 | _ => 0

theorem gapL_at {L : List Int} {j : Nat} (h : j + 1 < L.length) : gapL (L.drop j) = if L[j] + 1 < L[j + 1] then L[j] + 1 else gapL (L.drop (j + 1)) := by
 rw [List.drop_eq_getElem_cons (by omega : j < L.length), List.drop_eq_getElem_cons h]
 rfl

theorem gapL_end {L : List Int} {j : Nat} (h : L.length ≤ j + 1) : gapL (L.drop j) = 0 := by
 rcases Nat.lt_or_ge j L.length with h1 | h1
 ·rw [List.drop_eq_getElem_cons h1, List.drop_eq_nil_of_le h]
  rfl
 ·rw [List.drop_eq_nil_of_le h1]
  rfl

theorem gapL_zero {L : List Int} (hp : ∀ x ∈ L, 0 < x) : ∀ j, gapL (L.drop j) = 0 ↔ ∀ i (h : i + 1 < L.length), j ≤ i → L[i + 1] ≤ L[i] + 1 := by
 suffices H : ∀ k j, L.length ≤ j + k → (gapL (L.drop j) = 0 ↔ ∀ i (h : i + 1 < L.length), j ≤ i → L[i + 1] ≤ L[i] + 1) from fun j => H L.length j (by omega)
 intro k
 induction k with
 | zero =>
  intro j hj
  rw [gapL_end (by omega)]
  exact ⟨fun _ i h hji => by omega, fun _ => rfl⟩
 | succ k ih =>
  intro j hj
  by_cases h : j + 1 < L.length
  ·rw [gapL_at h]
   have hpos := hp L[j] (List.getElem_mem _)
   by_cases hc : L[j] + 1 < L[j + 1]
   ·rw [if_pos hc]
    constructor
    ·intro e; omega
    ·intro q
     have := q j h (Nat.le_refl _)
     omega
   ·rw [if_neg hc, ih (j + 1) (by omega)]
    constructor
    ·intro q i hi hji
     rcases Nat.lt_or_eq_of_le hji with h1 | h1
     ·exact q i hi h1
     ·subst h1; omega
    ·intro q i hi hji
     exact q i hi (by omega)
  ·rw [gapL_end (by omega)]
   exact ⟨fun _ i h' hji => by omega, fun _ => rfl⟩

set_option maxRecDepth 100000 in
set_option maxHeartbeats 3200000 in
theorem gap_any (p : Option Addr) (n c : Nat) (L : List Int) (w : World) (hI : Ints w p n c L) (hn : n ≤ 1000000) (hs : Asc L) (hp : ∀ x ∈ L, 0 < x ∧ x ≤ 1000000000) :
  Calls Tryz.prog 104 #[.slice p n c] w fun e w' => e = .returned (.int .i64 (gapL L)) ∧ Below w.heap.size w w' := by
 have hb1 := (Below.refl w.heap.size w).alloc (Nat.le_refl _) (.cells #[.slice p n c] 33)
 have HV := Lib.hid (values_any p n c w)
 have HS := Lib.hid (sorted_any p n c L w.heap.size (w.alloc (.cells #[.slice p n c] 33)) (hI.grow hb1) (Boxed.new w 33 (.slice p n c)).cell hn hs)
 have Hb1 := Lib.hid hb1
 have Hln := Lib.hid hI.len
 have Hp := Lib.hid hp
 clear hI hs hb1 hp
 go_enter Tryz.func104, Tryz.ntmps104
 go_wp2_with fail
 refine HV.out.mono ?_
 rintro e w1 ⟨rfl, rfl⟩
 go_wp2_with fail
 refine HS.out.mono ?_
 rintro e w2 ⟨q, cp, rfl, hI2, hb2⟩
 have HI2 := Lib.hid hI2
 have Hb2 := Lib.hid (Hb1.out.trans (hb2.mono Hb1.out.size))
 clear hI2 hb2 HV HS
 go_wp2_with fail
 go_loopw [13] (fun i wr => ∃ j : Nat, (j : Int) ≤ max ((n : Int) - 1) 0 ∧ i = .int .i64 (j : Int) ∧ gapL L = gapL (L.drop j) ∧ Below w2.heap.size w2 wr) (fun i _ => n - (intOf i).toNat)
 case atStart => exact ⟨0, by omega, rfl, rfl, Below.refl _ _⟩
 case round =>
  obtain ⟨j, hj, rfl, hg, hb⟩ := hrel
  have Hb := Lib.hid hb
  have Hbw := Lib.hid (Hb2.out.trans (hb.mono Hb2.out.size))
  have hln := Hln.out
  by_cases hlt : j + 1 < n
  ·obtain ⟨b, o, rfl, hc0⟩ := (HI2.out.grow hb).cell (by omega)
   have hc := hc0 j (by omega)
   have hc2 := hc0 (j + 1) hlt
   have hj0 : j < L.length := by omega
   have hj1 : j + 1 < L.length := by omega
   have e1 : L.getD j 0 = L[j] := by rw [List.getD_eq_getElem?_getD, List.getElem?_eq_getElem hj0]; rfl
   have e2 : L.getD (j + 1) 0 = L[j + 1] := by rw [List.getD_eq_getElem?_getD, List.getElem?_eq_getElem hj1]; rfl
   rw [e1] at hc
   rw [e2] at hc2
   have hat := gapL_at hj1
   obtain ⟨p1, p2⟩ := Hp.out L[j] (List.getElem_mem _)
   obtain ⟨p3, p4⟩ := Hp.out L[j + 1] (List.getElem_mem _)
   rw [← hg] at hat
   have Hat := Lib.hid hat
   generalize L[j] = x at *
   generalize L[j + 1] = y at *
   have hji : (j : Int) < (n : Int) - 1 := by omega
   have hj64 : (j : Int) + 1 < (n : Int) := by omega
   have hx1 : ¬ y ≤ x ∨ y ≤ x := by omega
   clear hc0 e1 e2 hg hat hj hb
   by_cases hxy : x < y
   ·by_cases hxy2 : x + 1 < y
    ·have hr := Hat.out
     rw [if_pos hxy2] at hr
     have Hr := Lib.hid hr
     clear hr
     go_wp2
     go_region
     go_wp2
     go_ret
     exact ⟨by rw [Hr.out]; rfl, Hbw.out.drew⟩
    ·have hr := Hat.out
     rw [if_neg hxy2] at hr
     have Hr := Lib.hid hr
     clear hr
     go_wp2
     go_region
     go_wp2
     go_roundw
     case rel => exact ⟨j + 1, by omega, by go_num, Hr.out, Hb.out.drew⟩
     case measure => simp [intOf]; omega
   ·have hr := Hat.out
    rw [if_neg (by omega)] at hr
    have Hr := Lib.hid hr
    clear hr
    go_wp2
    go_region
    go_wp2
    go_roundw
    case rel => exact ⟨j + 1, by omega, by go_num, Hr.out, Hb.out.drew⟩
    case measure => simp [intOf]; omega
  ·have hji : ¬ (j : Int) < (n : Int) - 1 := by omega
   have hend := gapL_end (L := L) (j := j) (by omega)
   rw [← hg] at hend
   have Hend := Lib.hid hend
   clear hg hend hb
   go_wp2
   go_ret
   exact ⟨by rw [Hend.out]; rfl, Hbw.out⟩
end Go.Proofs.YtnbddiiedagllaaGreat

/- What a log on any files is, as plain data: its segments, its first one, whether it is broken, its records, what is torn. -/
namespace Go.Proofs.YtnbddiiedagllaaGreat
open Go.RowKit

structure PS where
 n : Int
 ls : List (List Nat)
 t : List Nat

def PS.mark (p : PS) : Bool := markOf p.ls
def PS.recs (p : PS) : List (List Nat) := restOf p.ls

theorem splits_ex (k : Nat) : ∀ b : List Nat, b.length ≤ k → ∃ ls t, Splits b ls t := by
 induction k with
 | zero => exact fun b h => ⟨[], b, rfl, fun r hr => by (cases hr), noFrame_short (by omega)⟩
 | succ k ih =>
  intro b h
  by_cases hf : ∃ r t, r.length ≤ 1048576 ∧ b = frameL r ++ t
  ·obtain ⟨r, t, hr, rfl⟩ := hf
   obtain ⟨ls, t', hs⟩ := ih t (by rw [List.length_append, frameL_len] at h; omega)
   refine ⟨r :: ls, t', by rw [joinL_cons, List.append_assoc, ← hs.eq], fun x hx => ?_, hs.no⟩
   rcases List.mem_cons.1 hx with rfl | hx
   ·exact hr
   ·exact hs.recs x hx
  ·exact ⟨[], b, rfl, fun r hr => by (cases hr), fun r t hr e => hf ⟨r, t, hr, e⟩⟩

def AllOf (M : DM) (ps : List PS) : Prop := SegsOf M (ps.map PS.n) ∧ ∀ p ∈ ps, Splits (readM (nmB p.n.toNat) M).1 p.ls p.t

theorem allOf_ex {M : DM} {out : List Int} (h : SegsOf M out) : ∃ ps, ps.map PS.n = out ∧ AllOf M ps := by
 have key : ∀ l : List Int, ∃ ps : List PS, ps.map PS.n = l ∧ ∀ p ∈ ps, Splits (readM (nmB p.n.toNat) M).1 p.ls p.t := by
  intro l
  induction l with
  | nil => exact ⟨[], rfl, fun p hp => by (cases hp)⟩
  | cons x l ih =>
   obtain ⟨ps, h1, h2⟩ := ih
   obtain ⟨ls, t, hs⟩ := splits_ex _ (readM (nmB x.toNat) M).1 (Nat.le_refl _)
   refine ⟨⟨x, ls, t⟩ :: ps, by rw [List.map_cons, h1], fun p hp => ?_⟩
   rcases List.mem_cons.1 hp with rfl | hp
   ·exact hs
   ·exact h2 p hp
 obtain ⟨ps, h1, h2⟩ := key out
 exact ⟨ps, h1, by rw [h1]; exact h, h2⟩

theorem allOf_uniq {M : DM} {ps qs : List PS} (hp : AllOf M ps) (hq : AllOf M qs) : ps = qs := by
 have hm := segsOf_uniq hp.1 hq.1
 have hl : ps.length = qs.length := by have := congrArg List.length hm; simpa using this
 apply List.ext_getElem hl
 intro i h1 h2
 have hn : ps[i].n = qs[i].n := by
  have := congrArg (fun l => l[i]?) hm
  simp only [List.getElem?_map, List.getElem?_eq_getElem h1, List.getElem?_eq_getElem h2, Option.map_some, Option.some.injEq] at this
  exact this
 have e1 := hp.2 ps[i] (List.getElem_mem h1)
 have e2 := hq.2 qs[i] (List.getElem_mem h2)
 rw [hn] at e1
 obtain ⟨h3, h4⟩ := splits_uniq e1 e2
 cases hx : ps[i]
 cases hy : qs[i]
 rw [hx, hy] at hn h3 h4
 simp only at hn h3 h4
 rw [hn, h3, h4]

def FirstAt (ps : List PS) (k : Nat) : Prop := ∃ h : k < ps.length, (∀ i (h : i < ps.length), k < i → ps[i].mark = false) ∧ (k = 0 ∨ ps[k].mark = true)

theorem firstAt_uniq {ps : List PS} {k k' : Nat} (h : FirstAt ps k) (h' : FirstAt ps k') : k = k' := by
 obtain ⟨a, b, c⟩ := h
 obtain ⟨a', b', c'⟩ := h'
 rcases Nat.lt_trichotomy k k' with hlt | rfl | hlt
 ·rcases c' with c' | c'
  ·omega
  ·rw [b k' a' hlt] at c'; cases c'
 ·rfl
 ·rcases c with c | c
  ·omega
  ·rw [b' k a hlt] at c; cases c

def GoodAt (qs : List PS) (i : Nat) (h : i < qs.length) : Prop := (∀ h0 : 0 < i, qs[i].n = (qs[i - 1]'(by omega)).n + 1) ∧ (i + 1 < qs.length → qs[i].t = []) ∧ [] ∉ qs[i].recs
def Good (qs : List PS) : Prop := ∀ i (h : i < qs.length), GoodAt qs i h

def recsL (qs : List PS) : List (List Nat) := (qs.map PS.recs).flatten

theorem recsL_snoc (qs : List PS) (p : PS) : recsL (qs ++ [p]) = recsL qs ++ p.recs := by
 unfold recsL
 rw [List.map_append, List.flatten_append, List.map_cons, List.map_nil, List.flatten_cons, List.flatten_nil, List.append_nil]

structure LR where
 z : Int
 recs : List (List Nat)
 torn : Nat

def IsLog (ps : List PS) (x : LR) : Prop :=
 (ps = [] ∧ x = ⟨0, [], 0⟩) ∨ ∃ (k : Nat) (h : 0 < ps.length), FirstAt ps k ∧ ((¬ Good (ps.drop k) ∧ x = ⟨11, [], 0⟩) ∨ (Good (ps.drop k) ∧ x = ⟨0, recsL (ps.drop k), (ps[ps.length - 1]'(by omega)).t.length⟩))

theorem isLog_uniq {ps : List PS} {x y : LR} (hx : IsLog ps x) (hy : IsLog ps y) : x = y := by
 rcases hx with ⟨h0, rfl⟩ | ⟨k, hp, hk, hx⟩
 ·rcases hy with ⟨_, rfl⟩ | ⟨k', hp', _⟩
  ·rfl
  ·rw [h0] at hp'; exact absurd hp' (Nat.lt_irrefl _)
 ·rcases hy with ⟨h0, _⟩ | ⟨k', hp', hk', hy⟩
  ·rw [h0] at hp; exact absurd hp (Nat.lt_irrefl _)
  ·obtain rfl := firstAt_uniq hk hk'
   rcases hx with ⟨h1, rfl⟩ | ⟨h1, rfl⟩
   ·rcases hy with ⟨_, rfl⟩ | ⟨h2, _⟩
    ·rfl
    ·exact absurd h2 h1
   ·rcases hy with ⟨h2, _⟩ | ⟨_, rfl⟩
    ·exact absurd h1 h2
    ·rfl

def Stands1 (x : PD) (rs : List (List Nat)) (p : PS) : Prop := x.n = p.n ∧ x.mark = p.mark ∧ rs = p.recs ∧ x.tn = (p.t.length : Int)

theorem gathL_good : ∀ (xs : List (PD × List (List Nat))) (qs : List PS) (acc : List (List Nat)), xs.length = qs.length → (∀ i (h : i < xs.length) (h' : i < qs.length), Stands1 xs[i].1 xs[i].2 qs[i]) →
  (gathL xs acc = some (acc ++ recsL qs) ∧ ∀ i (h : i < qs.length), (i + 1 < qs.length → qs[i].t = []) ∧ [] ∉ qs[i].recs) ∨ (gathL xs acc = none ∧ ∃ i, ∃ h : i < qs.length, ¬ ((i + 1 < qs.length → qs[i].t = []) ∧ [] ∉ qs[i].recs))
 | [], qs, acc, hl, _ => by
  have : qs = [] := List.length_eq_zero_iff.1 hl.symm
  subst this
  exact .inl ⟨by simp [gathL, recsL], fun i h => absurd h (by simp)⟩
 | x :: xs, qs, acc, hl, hs => by
  match qs with
  | [] => cases hl
  | q :: qs =>
   have h0 := hs 0 (by simp) (by simp)
   simp only [List.getElem_cons_zero] at h0
   obtain ⟨_, _, hr, ht⟩ := h0
   have hl' : xs.length = qs.length := by simpa using hl
   have hne : xs ≠ [] ↔ 0 + 1 < (q :: qs).length := by
    rw [List.length_cons, ← hl']
    cases xs with
    | nil => simp
    | cons a b => simp
   by_cases hb : (0 < x.1.tn ∧ xs ≠ []) ∨ [] ∈ x.2
   ·refine .inr ⟨if_pos hb, 0, by simp, fun ⟨g1, g2⟩ => ?_⟩
    simp only [List.getElem_cons_zero] at g1 g2
    rcases hb with ⟨b1, b2⟩ | b1
    ·have := g1 (hne.1 b2)
     rw [ht, this] at b1
     exact absurd b1 (by simp)
    ·rw [hr] at b1
     exact g2 b1
   ·have hg : gathL (x :: xs) acc = gathL xs (acc ++ x.2) := if_neg hb
    rw [hg]
    have hz : (0 + 1 < (q :: qs).length → q.t = []) ∧ [] ∉ q.recs := by
     refine ⟨fun h => ?_, fun h => hb (.inr (by rw [hr]; exact h))⟩
     by_cases h1 : q.t = []
     ·exact h1
     ·have : 0 < q.t.length := List.length_pos_iff.2 h1
      exact absurd (.inl ⟨by rw [ht]; omega, hne.2 h⟩) hb
    rcases gathL_good xs qs (acc ++ x.2) hl' (fun i h h' => by
      have := hs (i + 1) (by simp; omega) (by simp; omega)
      simpa using this) with ⟨g1, g2⟩ | ⟨g1, i, h, g2⟩
    ·refine .inl ⟨?_, fun i h => ?_⟩
     ·rw [g1, hr, List.append_assoc]
      rfl
     ·match i with
      | 0 => exact hz
      | i + 1 =>
       have h2 : i < qs.length := by simpa using h
       have := g2 i h2
       simp only [List.getElem_cons_succ, List.length_cons]
       exact ⟨fun h3 => this.1 (by omega), this.2⟩
    ·refine .inr ⟨g1, i + 1, by simp; omega, fun h3 => g2 ?_⟩
     simp only [List.getElem_cons_succ, List.length_cons] at h3
     exact ⟨fun h4 => h3.1 (by omega), h3.2⟩

theorem gap_good {qs : List PS} (hp : ∀ x ∈ qs.map PS.n, 0 < x) (ha : Asc (qs.map PS.n)) : gapL (qs.map PS.n) = 0 ↔ ∀ i (h : i < qs.length) (h0 : 0 < i), qs[i].n = (qs[i - 1]'(by omega)).n + 1 := by
 have h := gapL_zero hp 0
 rw [List.drop_zero] at h
 rw [h]
 have hasc : ∀ i (h : i + 1 < (qs.map PS.n).length), (qs.map PS.n)[i] < (qs.map PS.n)[i + 1] := fun i h => (List.pairwise_iff_getElem.1 ha) i (i + 1) (by omega) h (by omega)
 constructor
 ·intro hh i hi h0
  have h1 := hh (i - 1) (by rw [List.length_map]; omega) (Nat.zero_le _)
  have h2 := hasc (i - 1) (by rw [List.length_map]; omega)
  have e : i - 1 + 1 = i := by omega
  simp only [List.getElem_map, e] at h1 h2
  omega
 ·intro hh i hi _
  have h1 := hh (i + 1) (by rw [List.length_map] at hi; exact hi) (by omega)
  simp only [Nat.add_sub_cancel] at h1
  simp only [List.getElem_map]
  omega

theorem good_iff {qs : List PS} (hp : ∀ x ∈ qs.map PS.n, 0 < x) (ha : Asc (qs.map PS.n)) : Good qs ↔ gapL (qs.map PS.n) = 0 ∧ ∀ i (h : i < qs.length), (i + 1 < qs.length → qs[i].t = []) ∧ [] ∉ qs[i].recs := by
 rw [gap_good hp ha]
 exact ⟨fun h => ⟨fun i hi h0 => (h i hi).1 h0, fun i hi => (h i hi).2⟩, fun h i hi => ⟨fun h0 => h.1 i hi h0, h.2 i hi⟩⟩
end Go.Proofs.YtnbddiiedagllaaGreat

