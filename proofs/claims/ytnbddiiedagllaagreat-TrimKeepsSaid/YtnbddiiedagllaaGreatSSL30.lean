import Derived.Test.YtnbddiiedagllaaGreatSSL7
import Derived.Test.YtnbddiiedagllaaGreatSSL28
import Derived.Test.YtnbddiiedagllaaGreatSSL29
import Derived.Test.YtnbddiiedagllaaGreatSSL16
import Derived.Deep.RegionHeld3
import Derived.Test.YtnbddiiedagllaaGreatSSL27
import Derived.Test.YtnbddiiedagllaaGreatSSL21
import Derived.Test.YtnbddiiedagllaaGreatShelf
import Derived.Maps.AppendAt
import Derived.Test.YtnbddiiedagllaaGreatSSL25
/- The walks of a log's recovery where there is none: a nil disk, one that is down, one without segments. -/
namespace Go.Proofs.YtnbddiiedagllaaGreat
open Go.RowKit Go.Maps Go.Shelf

attribute [local go_sem ↓] Go.wp_at_zero Go.wp_at_succ

structure FD where
 ra : Option Addr
 rn : Nat
 rc : Nat
 oa : Option Addr
 on : Nat
 oc : Nat
 n : Int
 mark : Bool
 pa : Option Addr
 pn : Nat
 pc : Nat
 wa : Option Addr
 wn : Nat
 wc : Nat
 tn : Int
 no : Bool

def foundV (x : FD) : Value := .agg #[.slice x.ra x.rn x.rc, .slice x.oa x.on x.oc, .int .i64 x.n, .bool x.mark, .slice x.pa x.pn x.pc, .slice x.wa x.wn x.wc, .int .i64 x.tn, .bool x.no]

def fd0 : FD := ⟨none, 0, 0, none, 0, 0, 0, false, none, 0, 0, none, 0, 0, 0, false⟩
def fd1 : FD := ⟨none, 0, 0, none, 0, 0, 1, false, none, 0, 0, none, 0, 0, 0, true⟩
def found0 : Value := foundV fd0
def found1 : Value := foundV fd1

set_option maxRecDepth 100000 in
set_option maxHeartbeats 3200000 in
theorem find_none {w0 : World} {X : Nat → Prop} {w : World} {d : Nat} {M : DM} (hO : Own w0 X w d M) (hd : M.down = false) (hl : M.fs.length ≤ 1000) (hnm : ∀ f ∈ M.fs, f.n.length ≤ 9223372036854775807) (hs : SegsOf M []) : Calls Tryz.prog 57 #[.pointer (some ⟨d, 0, none⟩)] w fun e w' => e = .returned (.tuple #[found1, .int .i64 0]) ∧ Below w.heap.size w w' := by
 obtain ⟨w1, hw1⟩ : ∃ w1, w1 = w.alloc (.cells #[.slice none 0 0, .slice none 0 0, .int .i64 0, .bool false, .slice none 0 0, .slice none 0 0, .int .i64 0, .bool false] 107) := ⟨_, rfl⟩
 have hb1 : Below w.heap.size w w1 := by rw [hw1]; exact (Below.refl _ _).alloc (Nat.le_refl _) _
 have hB1 : w1.heap[w.heap.size]? = some (.cells #[.slice none 0 0, .slice none 0 0, .int .i64 0, .bool false, .slice none 0 0, .slice none 0 0, .int .i64 0, .bool false] 107 (0, 0)) := by rw [hw1]; exact heap_alloc_new _ _
 have HD := Lib.hid (own_down (hO.below hb1))
 rw [hd] at HD
 have HLi := Lib.hid (own_list (hO.below hb1) (by omega))
 have Hnm := Lib.hid hnm
 have Hs := Lib.hid hs
 have Hb1 := Lib.hid hb1
 have HB1 := Lib.hid hB1
 have Hw1 := Lib.hid hw1
 clear hO hd hnm hs hb1 hB1 hw1
 go_enter Tryz.func57, Tryz.ntmps57
 go_wp2_with fail
 rw [← Hw1.out]
 refine HD.out.mono ?_
 rintro e w2 ⟨rfl, rfl⟩
 go_wp2_with fail
 refine HLi.out.mono ?_
 rintro e w3 ⟨v3, rfl, hown, hb3⟩
 obtain ⟨p3, k3, rfl, hS3⟩ := strs_row hown (fun n hn => by obtain ⟨f, hf, rfl⟩ := List.mem_map.1 hn; exact Hnm.out f hf)
 have HSl := Lib.hid (seglist_any p3 M.fs.length k3 _ w3 hS3 hl)
 have Hb3 := Lib.hid hb3
 clear hown hS3 hb3
 go_wp2_with fail
 refine HSl.out.mono ?_
 rintro e w4 ⟨v4, out, rfl, hasc, hmem, hol, hown4, hb4⟩
 have hmap : (M.fs.map F.n).map nmL = M.fs.map fun f => nmL f.n := by rw [List.map_map]; rfl
 rw [hmap] at hmem
 obtain rfl : out = [] := segsOf_uniq ⟨hasc, hmem⟩ Hs.out
 obtain ⟨p4, k4, rfl, _⟩ := own_ints hown4
 have Hb4 := Lib.hid (Hb3.out.trans (hb4.mono Hb3.out.size))
 have hB4 := (Hb4.out.block _ (Array.getElem?_eq_some_iff.1 HB1.out).1).trans HB1.out
 obtain ⟨c0, c1, c2, c3, c4, c5, c6, c7, cf⟩ := box8 hB4
 clear hasc hmem hol hmap hown4 hb4 hB4
 go_wp2
 refine bodyPost_ret (v := .tuple #[found1, .int .i64 0]) ?_ rfl ⟨rfl, ?_⟩
 ·rw [results_cell_tmp rfl]
  go_simp
  rfl
 ·have hb := Hb1.out.trans (Hb4.out.mono Hb1.out.size)
  exact (((((((hb.setCell (Nat.le_refl _) _).setCell (Nat.le_refl _) _).setCell (Nat.le_refl _) _).setCell (Nat.le_refl _) _).setCell (Nat.le_refl _) _).setCell (Nat.le_refl _) _).setCell (Nat.le_refl _) _).setCell (Nat.le_refl _) _

def FoundEnd (Q : FD → Int → World → Prop) (w : World) (e : Ending) (w' : World) : Prop :=
 ∃ x z, e = .returned (.tuple #[foundV x, .int .i64 z]) ∧ Q x z w' ∧ Below w.heap.size w w'

set_option maxRecDepth 100000 in
theorem look_of {Q : FD → Int → World → Prop} (hQ : ∀ x z (w1 w2 : World), Q x z w1 → Below w1.heap.size w1 w2 → Q x z w2) {v : Value} {w : World} (h : Calls Tryz.prog 57 #[v] w (FoundEnd Q w)) :
  Calls Tryz.prog 15 #[v] w fun e w' => ∃ x z, e = .returned (.tuple #[.slice x.ra x.rn x.rc, .int .i64 z]) ∧ Q x z w' ∧ Below w.heap.size w w' := by
 have H := Lib.hid h
 have HQ := Lib.hid hQ
 clear h hQ
 go_enter Tryz.func15, Tryz.ntmps15
 go_wp2_with fail
 refine H.out.mono ?_
 rintro e w1 ⟨x, z, rfl, hq, hb⟩
 unfold foundV
 have Hq := Lib.hid (HQ.out _ _ w1 (w1.alloc (.cells #[.slice x.ra x.rn x.rc, .slice x.oa x.on x.oc, .int .i64 x.n, .bool x.mark, .slice x.pa x.pn x.pc, .slice x.wa x.wn x.wc, .int .i64 x.tn, .bool x.no] 107)) hq ((Below.refl _ _).alloc (Nat.le_refl _) _))
 have Hb := Lib.hid (hb.alloc hb.size (.cells #[.slice x.ra x.rn x.rc, .slice x.oa x.on x.oc, .int .i64 x.n, .bool x.mark, .slice x.pa x.pn x.pc, .slice x.wa x.wn x.wc, .int .i64 x.tn, .bool x.no] 107))
 clear hq hb
 go_wp2
 go_ret2
 exact ⟨x, z, rfl, Hq.out, Hb.out⟩

set_option maxRecDepth 100000 in
theorem sopen_code {Q : FD → Int → World → Prop} {v : Value} {w : World} {most z0 : Int} (hz : z0 ≠ 0) (hQ : ∀ x z w1, Q x z w1 → z = z0) (h : Calls Tryz.prog 57 #[v] w (FoundEnd Q w)) :
  Calls Tryz.prog 21 #[v, .int .i64 most] w fun e w' => e = .returned (.tuple #[.pointer none, .slice none 0 0, .int .i64 z0]) ∧ Below w.heap.size w w' := by
 have H := Lib.hid h
 have HQ := Lib.hid hQ
 have hz0 : (z0 == 0) = false := by rw [beq_eq_false_iff_ne]; exact hz
 have hz1 : (z0 != 0) = true := by simp [hz]
 clear h hQ hz
 go_enter Tryz.func21, Tryz.ntmps21
 go_wp2_with fail
 refine H.out.mono ?_
 rintro e w1 ⟨x, z, rfl, hq, hb⟩
 obtain rfl := HQ.out _ _ _ hq
 unfold foundV
 have Hb := Lib.hid (hb.alloc hb.size (.cells #[.slice x.ra x.rn x.rc, .slice x.oa x.on x.oc, .int .i64 x.n, .bool x.mark, .slice x.pa x.pn x.pc, .slice x.wa x.wn x.wc, .int .i64 x.tn, .bool x.no] 107))
 clear hq hb
 go_wp2
 refine bodyPost_ret (results_tmp3 rfl _ _ _) rfl ⟨rfl, Hb.out⟩
end Go.Proofs.YtnbddiiedagllaaGreat

/- The walk of readPart: a segment of a log. -/
namespace Go.Proofs.YtnbddiiedagllaaGreat
open Go.RowKit Go.Maps Go.Shelf

attribute [local go_sem ↓] Go.wp_at_zero Go.wp_at_succ

structure RecsZ (Z : Nat → Prop) (w : World) (a : Option Addr) (n cap : Nat) (ls : List (List Nat)) : Prop where
 len : ls.length = n
 le : n ≤ cap
 capmax : cap ≤ 9223372036854775807
 cell : 0 < n → ∃ b o, a = some ⟨b, o, none⟩ ∧ (b < w.heap.size ∧ Z b) ∧
  ∀ i, i < n → ∃ a' n' c', w.cell? ⟨b, o + i, none⟩ = some (.slice a' n' c') ∧ Bytes w a' n' c' (ls.getD i []) ∧ (0 < n' → ∀ x, a' = some x → Z x.block)

theorem RecsZ.grow {Z : Nat → Prop} {w w' : World} {a : Option Addr} {n cap : Nat} {ls : List (List Nat)} (h : RecsZ Z w a n cap ls) (hw : Below w.heap.size w w') : RecsZ Z w' a n cap ls := by
 obtain ⟨h1, h2, h3, h4⟩ := h
 refine ⟨h1, h2, h3, fun hn => ?_⟩
 obtain ⟨b, o, rfl, hb, hc⟩ := h4 hn
 refine ⟨b, o, rfl, ⟨Nat.lt_of_lt_of_le hb.1 hw.size, hb.2⟩, fun i hi => ?_⟩
 obtain ⟨a', n', c', g1, g2, g3⟩ := hc i hi
 exact ⟨a', n', c', cell_keep hw g1, g2.grow hw, g3⟩

theorem PartsZ.recs {Z : Nat → Prop} {w : World} {base : Nat} {v : Value} {ls : List (List Nat)} (h : PartsZ Z w base v ls) (hZ : ∀ b, base ≤ b → Z b) : ∃ a cap, v = .slice a ls.length cap ∧ RecsZ Z w a ls.length cap ls := by
 obtain ⟨vs, h1, h2, h3⟩ := h
 rcases h2.2 with ⟨rfl, h0⟩ | ⟨g, cap, cur, rfl, hbg, hg, hle, hcm, hsz, htake⟩
 ·have e : ls = [] := List.length_eq_zero_iff.1 h0
  subst e
  exact ⟨none, 0, rfl, rfl, Nat.le_refl _, by omega, fun h => absurd h (Nat.lt_irrefl _)⟩
 ·rw [maxLen_nat] at hcm
  refine ⟨_, cap, rfl, rfl, hle, hcm, fun hn => ⟨g, 0, rfl, ⟨(Array.getElem?_eq_some_iff.1 hg).1, hZ g hbg⟩, fun i hi => ?_⟩⟩
  obtain ⟨a, n, c, h4, h5, h6⟩ := h3 i hi
  refine ⟨a, n, c, ?_, h5, fun h x hx => (h6 h x hx).2⟩
  rw [Nat.zero_add, cell_of_row w g i cur _ (0, 0) hg, ← h4, ← htake, List.getElem?_take, if_pos (by omega), Array.getElem?_toList]

theorem RecsZ.tail {Z : Nat → Prop} {w : World} {b o : Nat} {n cap : Nat} {ls : List (List Nat)} (h : RecsZ Z w (some ⟨b, o, none⟩) n cap ls) (hn : 1 ≤ n) : RecsZ Z w (some ⟨b, o + 1, none⟩) (n - 1) (cap - 1) ls.tail := by
 obtain ⟨h1, h2, h3, h4⟩ := h
 refine ⟨by rw [List.length_tail, h1], by omega, by omega, fun h0 => ?_⟩
 obtain ⟨b', o', e, hb, hc⟩ := h4 (by omega)
 cases e
 refine ⟨b, o + 1, rfl, hb, fun i hi => ?_⟩
 obtain ⟨a', n', c', g1, g2, g3⟩ := hc (i + 1) (by omega)
 refine ⟨a', n', c', ?_, ?_, g3⟩
 ·rw [← g1, show o + 1 + i = o + (i + 1) by omega]
 ·have e2 : ls.tail.getD i [] = ls.getD (i + 1) [] := by
   rw [List.getD_eq_getElem?_getD, List.getD_eq_getElem?_getD, List.getElem?_tail]
  rw [e2]
  exact g2

theorem Bytes.moved {w w' : World} {a : Option Addr} {n c : Nat} {l : List Nat} (h : Bytes w a n c l) (hk : 0 < n → ∀ x, a = some x → w'.heap[x.block]? = w.heap[x.block]?) : Bytes w' a n c l := by
 refine ⟨h.len, h.le, h.capmax, h.byte, h.nil, fun hn => ?_⟩
 obtain ⟨b, o, rfl, hc⟩ := h.cell hn
 refine ⟨b, o, rfl, fun i hi => ?_⟩
 rw [← hc i hi]
 exact World.cell?_of_block (a := ⟨b, o + i, none⟩) (hk hn ⟨b, o, none⟩ rfl)

theorem RecsZ.moved {Z Z' : Nat → Prop} {w w' : World} {a : Option Addr} {n cap : Nat} {ls : List (List Nat)} (h : RecsZ Z w a n cap ls) (hk : ∀ b, Z b → w'.heap[b]? = w.heap[b]?) (hs : w.heap.size ≤ w'.heap.size) (hZ : ∀ b, Z b → Z' b) : RecsZ Z' w' a n cap ls := by
 obtain ⟨h1, h2, h3, h4⟩ := h
 refine ⟨h1, h2, h3, fun hn => ?_⟩
 obtain ⟨b, o, rfl, hb, hc⟩ := h4 hn
 refine ⟨b, o, rfl, ⟨Nat.lt_of_lt_of_le hb.1 hs, hZ b hb.2⟩, fun i hi => ?_⟩
 obtain ⟨a', n', c', g1, g2, g3⟩ := hc i hi
 exact ⟨a', n', c', (World.cell?_of_block (hk b hb.2)).trans g1, g2.moved (fun h x hx => hk _ (g3 h x hx)), fun h x hx => hZ _ (g3 h x hx)⟩

structure PD where
 n : Int
 mark : Bool
 pa : Option Addr
 pn : Nat
 pc : Nat
 wa : Option Addr
 wn : Nat
 wc : Nat
 tn : Int

def partV (x : PD) : Value := .agg #[.int .i64 x.n, .bool x.mark, .slice x.pa x.pn x.pc, .slice x.wa x.wn x.wc, .int .i64 x.tn]

def markOf : List (List Nat) → Bool
 | [] => false
 | r :: _ => decide (r = [])
def restOf (ls : List (List Nat)) : List (List Nat) := if markOf ls = true then ls.tail else ls

def PartEnd (w : World) (N : Nat) (L : List Nat) (e : Ending) (w' : World) : Prop :=
 ∃ x ls t, Splits L ls t ∧ e = .returned (partV x) ∧ x.n = (N : Int) ∧ x.mark = markOf ls ∧ RecsZ (fun b => w.heap.size ≤ b) w' x.pa x.pn x.pc (restOf ls) ∧ Bytes w' x.wa x.wn x.wc (L.take (sizeL ls)) ∧ x.tn = (L.length : Int) - (sizeL ls : Nat) ∧
  (∀ y, x.wa = some y → 0 < x.wn → w.heap.size ≤ y.block) ∧ Below w.heap.size w w'

theorem ismark_any (a : Option Addr) (n c : Nat) (w : World) : Calls Tryz.prog 148 #[.slice a n c] w fun e w' => e = .returned (.bool (decide (n = 0))) ∧ w' = w := by
 have h9 : ((n : Int) == 0) = decide (n = 0) := by
  by_cases e : n = 0
  ·subst e; rfl
  ·rw [decide_eq_false e, beq_eq_false_iff_ne]
   omega
 go_enter Tryz.func148, Tryz.ntmps148
 go_wp2
 go_ret
 exact ⟨by first | rfl | rw [← h9], rfl⟩

set_option maxRecDepth 100000 in
set_option maxHeartbeats 3200000 in
theorem readPart_any {w0 : World} {X : Nat → Prop} {w : World} {d : Nat} {M : DM} (hO : Own w0 X w d M) (hu : usedF M.fs ≤ 10000000) (N : Nat) (h1 : 1 ≤ N) (hN : N ≤ 99999999) :
  Calls Tryz.prog 144 #[.pointer (some ⟨d, 0, none⟩), .int .i64 (N : Int)] w (PartEnd w N (readM (nmB N) M).1) := by
 have HF := Lib.hid (fun W => sfile_any N W h1 hN)
 have HR := Lib.hid (fun W (h : Below w.heap.size w W) => own_read (hO.below h) (nmB N) (nmB_len N) (by omega))
 have HU := Lib.hid (readM_len (nmB N) M)
 have Hu := Lib.hid hu
 clear hO h1 hN
 obtain ⟨wz, hwz⟩ : ∃ wz, wz = w.alloc (.cells #[.int .i64 0, .bool false, .slice none 0 0, .slice none 0 0, .int .i64 0] 105) := ⟨_, rfl⟩
 have hbz : Below w.heap.size w wz := by rw [hwz]; exact (Below.refl _ _).alloc (Nat.le_refl _) _
 have hBz : wz.heap[w.heap.size]? = some (.cells #[.int .i64 0, .bool false, .slice none 0 0, .slice none 0 0, .int .i64 0] 105 (0, 0)) := by rw [hwz]; exact heap_alloc_new _ _
 have Hbz := Lib.hid hbz
 have HBz := Lib.hid hBz
 clear hbz hBz
 go_enter Tryz.func144, Tryz.ntmps144
 go_wp2_with fail
 rw [← hwz]
 clear hwz
 refine (HF.out _).mono ?_
 rintro e w1 ⟨rfl, hb1⟩
 have Hb1 := Lib.hid (Hbz.out.trans (hb1.mono Hbz.out.size))
 have Hbz1 := Lib.hid hb1
 clear hb1
 unfold encStr
 go_wp2_with fail
 refine (HR.out _ Hb1.out).mono ?_
 rintro e w2 ⟨p2, c2, rfl, hB2, hn2, hb2, _⟩
 have Hbz2 := Lib.hid (Hbz1.out.trans (hb2.mono Hbz1.out.size))
 have Hb2 := Lib.hid (Hb1.out.trans (hb2.mono Hb1.out.size))
 have HS := Lib.hid (splitZ_any p2 _ c2 _ w2 hB2 (by have := HU.out; have := Hu.out; omega))
 have HB2 := Lib.hid hB2
 have Hn2 := Lib.hid hn2
 have hsz2 := Hb1.out.size
 have hs12 := hb2.size
 clear hB2 hb2 hn2
 generalize (readM (nmB N) M) = r at *
 go_wp2_with fail
 refine HS.out.mono ?_
 rintro e w3 ⟨ls, t, v, hsp, rfl, hP, hb3⟩
 obtain ⟨a3, k3, rfl, hRz⟩ := hP.recs (fun _ h => h)
 have Hbz3 := Lib.hid (Hbz2.out.trans (hb3.mono Hbz2.out.size))
 have Hb3 := Lib.hid (Hb2.out.trans (hb3.mono Hb2.out.size))
 have HB3 := Lib.hid (HB2.out.grow hb3)
 have HRz := Lib.hid hRz
 have Hsp := Lib.hid hsp
 clear hsp hP hb3 hRz HS
 have hle : sizeL ls ≤ r.1.length := by
  have h := congrArg List.length Hsp.out.eq
  rw [List.length_append, joinL_len] at h
  omega
 have hlen := HU.out
 have hu0 := Hu.out
 have hlb : r.1.length ≤ 10000000 := by omega
 have hk2 := HB2.out.le
 have hm2 := HB2.out.capmax
 have hBz3 := (Hbz3.out.block _ (Array.getElem?_eq_some_iff.1 HBz.out).1).trans HBz.out
 have z0 : w3.cell? ⟨w.heap.size, 0, none⟩ = some (.int .i64 0) := by rw [cell_of_row _ _ _ _ _ (0, 0) hBz3]; rfl
 have z1 : w3.cell? ⟨w.heap.size, 1, none⟩ = some (.bool false) := by rw [cell_of_row _ _ _ _ _ (0, 0) hBz3]; rfl
 have z2 : w3.cell? ⟨w.heap.size, 2, none⟩ = some (.slice none 0 0) := by rw [cell_of_row _ _ _ _ _ (0, 0) hBz3]; rfl
 have z3 : w3.cell? ⟨w.heap.size, 3, none⟩ = some (.slice none 0 0) := by rw [cell_of_row _ _ _ _ _ (0, 0) hBz3]; rfl
 have z4 : w3.cell? ⟨w.heap.size, 4, none⟩ = some (.int .i64 0) := by rw [cell_of_row _ _ _ _ _ (0, 0) hBz3]; rfl
 have zf : ∀ i, w3.frozen? ⟨w.heap.size, i, none⟩ = false := fun i => by simp [World.frozen?, hBz3]
 have hwr : wrap64 ((r.1.length : Int) - ((sizeL ls : Nat) : Int)) = (r.1.length : Int) - ((sizeL ls : Nat) : Int) := by unfold wrap64; omega
 clear hBz3 hu0
 have hBt : Bytes w3 p2 (sizeL ls) c2 (r.1.take (sizeL ls)) := HB3.out.takeTo hle (by omega) (Nat.le_refl _)
 have HEnd := Lib.hid (fun (m : Bool) (qa : Option Addr) (qn qc : Nat) (hm : m = markOf ls) (hq : RecsZ (fun b => w2.heap.size ≤ b) w3 qa qn qc (restOf ls)) =>
  (show PartEnd w N r.1 (.returned (partV ⟨(N : Int), m, qa, qn, qc, p2, sizeL ls, c2, (r.1.length : Int) - ((sizeL ls : Nat) : Int)⟩)) (((((w3.setCell ⟨w.heap.size, 0, none⟩ (.int .i64 (N : Int))).setCell ⟨w.heap.size, 1, none⟩ (.bool m)).setCell ⟨w.heap.size, 2, none⟩ (.slice qa qn qc)).setCell ⟨w.heap.size, 3, none⟩ (.slice p2 (sizeL ls) c2)).setCell ⟨w.heap.size, 4, none⟩ (.int .i64 ((r.1.length : Int) - ((sizeL ls : Nat) : Int)))) from by
   have hlt1 : w.heap.size < w1.heap.size := Nat.lt_of_lt_of_le (Array.getElem?_eq_some_iff.1 HBz.out).1 Hbz1.out.size
   have hlt2 : w1.heap.size ≤ w2.heap.size := hs12
   have hk : ∀ b, w.heap.size < b → (((((w3.setCell ⟨w.heap.size, 0, none⟩ (.int .i64 (N : Int))).setCell ⟨w.heap.size, 1, none⟩ (.bool m)).setCell ⟨w.heap.size, 2, none⟩ (.slice qa qn qc)).setCell ⟨w.heap.size, 3, none⟩ (.slice p2 (sizeL ls) c2)).setCell ⟨w.heap.size, 4, none⟩ (.int .i64 ((r.1.length : Int) - ((sizeL ls : Nat) : Int)))).heap[b]? = w3.heap[b]? := fun b hb => by
    have hne : b ≠ w.heap.size := by omega
    repeat rw [Below.heap_setCell _ _ _ _ hne]
   exact ⟨_, ls, t, Hsp.out, rfl, rfl, hm, hq.moved (fun b hb => hk b (by omega)) (by simp) (fun b hb => by omega), hBt.moved (fun _ x hx => hk _ (by have := (Hn2.out x hx).1; omega)), rfl, fun y hy _ => (by have := (Hn2.out y hy).1; show w.heap.size ≤ y.block; omega), ((((Hb3.out.setCell (Nat.le_refl _) _).setCell (Nat.le_refl _) _).setCell (Nat.le_refl _) _).setCell (Nat.le_refl _) _).setCell (Nat.le_refl _) _⟩))
 generalize hszl : sizeL ls = sz at *
 have HRes := Lib.hid hszl
 match ls, Hsp, HRz, HEnd with
 | [], Hsp, HRz, HEnd =>
  go_wp2_with fail
  refine bodyPost_ret (v := partV ⟨(N : Int), false, a3, 0, k3, p2, sz, c2, (r.1.length : Int) - (sz : Int)⟩) ?_ rfl (HEnd.out false a3 0 k3 rfl HRz.out)
  rw [resultsN_one rfl]
  go_simp
  rfl
 | q :: ls, Hsp, HRz, HEnd =>
  obtain ⟨b, o, rfl, hbl, hc⟩ := HRz.out.cell (Nat.succ_pos _)
  obtain ⟨a', n', c', k0, hB, hZ⟩ := hc 0 (Nat.succ_pos _)
  rw [Nat.add_zero] at k0
  have HM := Lib.hid (fun W => ismark_any a' n' c' W)
  have hcap := HRz.out.capmax
  have hle3 := HRz.out.le
  have hq0 : (q :: ls).getD 0 [] = q := rfl
  rw [hq0] at hB
  by_cases hn : n' = 0
  ·subst hn
   have hqn : q = [] := List.length_eq_zero_iff.1 hB.len
   have Hmk := Lib.hid (show true = markOf (q :: ls) by rw [hqn]; rfl)
   have Hrs := Lib.hid (show restOf (q :: ls) = ls by unfold restOf; rw [← Hmk.out]; rfl)
   have HT := Lib.hid (HRz.out.tail (Nat.succ_pos _))
   have Hqn := Lib.hid hqn
   clear hqn hc hq0 hB
   go_wp2_with (go_at_call 148; refine (HM.out _).mono ?_; rintro e w4 ⟨rfl, rfl⟩)
   ·have hl0 : ls = [] := List.length_eq_zero_iff.1 (by have h := hle3; rw [List.length_cons] at h; omega)
    refine bodyPost_ret (v := partV ⟨(N : Int), true, some ⟨b, o, none⟩, ls.length, 0, p2, sz, c2, (r.1.length : Int) - (sz : Int)⟩) ?_ rfl (HEnd.out true (some ⟨b, o, none⟩) ls.length 0 Hmk.out ?_)
    ·rw [resultsN_one rfl]
     go_simp
     rfl
    ·rw [Hrs.out, hl0]
     exact ⟨rfl, Nat.le_refl _, by omega, fun h => absurd h (Nat.lt_irrefl _)⟩
   ·refine bodyPost_ret (v := partV ⟨(N : Int), true, some ⟨b, o + 1, none⟩, ls.length, k3 - 1, p2, sz, c2, (r.1.length : Int) - (sz : Int)⟩) ?_ rfl (HEnd.out true (some ⟨b, o + 1, none⟩) ls.length (k3 - 1) Hmk.out ?_)
    ·rw [resultsN_one rfl]
     go_simp
     rfl
    ·rw [Hrs.out]
     exact HT.out
  ·have hn0 : decide (n' = 0) = false := decide_eq_false hn
   have Hmk := Lib.hid (show false = markOf (q :: ls) by
    have : q ≠ [] := fun e => hn (by rw [← hB.len, e]; rfl)
    exact (decide_eq_false this).symm)
   have Hrs := Lib.hid (show restOf (q :: ls) = q :: ls by unfold restOf; rw [← Hmk.out]; rfl)
   clear hc hq0 hB
   go_wp2_with (go_at_call 148; refine (HM.out _).mono ?_; rintro e w4 ⟨rfl, rfl⟩)
   refine bodyPost_ret (v := partV ⟨(N : Int), false, some ⟨b, o, none⟩, ls.length + 1, k3, p2, sz, c2, (r.1.length : Int) - (sz : Int)⟩) ?_ rfl (HEnd.out false (some ⟨b, o, none⟩) (ls.length + 1) k3 Hmk.out ?_)
   ·rw [resultsN_one rfl]
    go_simp
    rfl
   ·rw [Hrs.out]
    exact HRz.out
end Go.Proofs.YtnbddiiedagllaaGreat

/- Steps that make changes of a disk: a row of them makes the changes up to the first that fails. -/
namespace Go.Proofs.YtnbddiiedagllaaGreat
open Go.RowKit Go.Maps Go.Shelf

def soM (x : SO) (M : DM) : DM × Int := stepM x.k x.nm x.tt x.bs M

def Does (w0 : World) (Y : Nat → Prop) (d : Nat) (w1 : World) (K : SK) (x : SO) : Prop :=
 (∀ args w, (callFunc K.k args).run Tryz.prog w = .ok (.enter K.k args) w) ∧
 ∀ (M : DM) (w : World), Own w0 Y w d M → (∀ b, Y b → w.heap[b]? = w1.heap[b]?) → w1.heap.size ≤ w.heap.size → M.fs.length < 1000000 → usedF M.fs ≤ 100000000 → Calls Tryz.prog K.k K.caps w (OwnAct w0 Y w d (soM x M))

theorem stepsM_drop {ops : List SO} {j : Nat} (hj : j < ops.length) (M' : DM) : stepsM (ops.drop j) M' = if (soM ops[j] M').2 = 0 then stepsM (ops.drop (j + 1)) (soM ops[j] M').1 else soM ops[j] M' := by
 rw [List.drop_eq_getElem_cons hj]
 rfl

set_option maxRecDepth 100000 in
theorem take_does {w0 : World} {Y : Nat → Prop} {w1 : World} {d : Nat} {M : DM} (hO : Own w0 Y w1 d M) (a : Option Addr) (n cap : Nat) (L : List SK) (ops : List SO) (hL : L.length = n) (ho : ops.length = n) (hm : n ≤ 1000) {N U T : Nat} (hnt : Neat M N U) (hT : ∀ x ∈ ops, x.bs.length ≤ T) (hN : N ≤ 900000) (hU : U + 1000 * T ≤ 10000000)
  (hrow : 0 < n → ∃ b o, a = some ⟨b, o, none⟩ ∧ Y b ∧ ∀ j (hj : j < L.length), w1.cell? ⟨b, o + j, none⟩ = some (skV L[j])) (hd : ∀ j (h : j < L.length) (h' : j < ops.length), Does w0 Y d w1 L[j] ops[j]) :
  Calls Tryz.prog 65 #[.slice a n cap] w1 fun e w' => e = .returned (.int .i64 (stepsM ops M).2) ∧ OwnEnd w0 Y w1 d (stepsM ops M).1 w' := by
 refine (stake_any a n cap L hL hm (fun j w' => ∃ M', stepsM ops M = stepsM (ops.drop j) M' ∧ Neat M' (N + j) (U + j * T) ∧ OwnEnd w0 Y w1 d M' w') (fun z w' => (stepsM ops M).2 = z ∧ OwnEnd w0 Y w1 d (stepsM ops M).1 w') w1 ?_ ?_ ?_ ?_).mono ?_
 ·exact fun j hj args w => (hd j hj (by rw [ho, ← hL]; exact hj)).1 args w
 ·exact ⟨M, by rw [List.drop_zero], by simpa using hnt, hO, fun _ _ => rfl, Below.refl _ _, Nat.le_refl _⟩
 ·intro hn
  obtain ⟨b, o, e, hY, hc⟩ := hrow hn
  refine ⟨b, o, e, fun j hj w' hJ => ?_⟩
  obtain ⟨M', _, _, _, hk, _, _⟩ := hJ
  exact (World.cell?_of_block (a := ⟨b, o + j, none⟩) (hk b hY)).trans (hc j hj)
 ·intro j hj w' hJ
  have hjo : j < ops.length := by rw [ho, ← hL]; exact hj
  obtain ⟨M', hE, hN', hOw, hk, hb, hz⟩ := hJ
  have hjT : j * T ≤ 1000 * T := Nat.mul_le_mul_right T (by omega)
  have hsm := hN'.small
  refine ((hd j hj hjo).2 M' w' hOw hk hz (by have := hsm.files; omega) (by have := hsm.used; omega)).mono ?_
  rintro e w2 ⟨rfl, hO2, hk2, hb2, hz2⟩
  have hEnd : OwnEnd w0 Y w1 d (soM ops[j] M').1 w2 := ⟨hO2, fun b hb => (hk2 b hb).trans (hk b hb), hb.trans hb2, Nat.le_trans hz hz2⟩
  rw [stepsM_drop hjo] at hE
  refine ⟨(soM ops[j] M').2, rfl, fun h0 => ⟨(soM ops[j] M').1, by rw [hE, if_pos h0], ?_, hEnd⟩, fun h0 => ?_⟩
  ·have h1 := stepM_neat hN' ops[j].k ops[j].nm ops[j].tt ops[j].bs
   have h2 := hT ops[j] (List.getElem_mem hjo)
   exact h1.mono (by omega) (by rw [Nat.succ_mul]; omega)
  ·rw [hE, if_neg h0]
   exact ⟨rfl, hEnd⟩
 ·rintro e w' ⟨z, rfl, h0, hn⟩
  by_cases hz : z = 0
  ·subst hz
   obtain ⟨M', hE, _, hEnd⟩ := h0 rfl
   rw [List.drop_of_length_le (by omega)] at hE
   rw [hE]
   exact ⟨rfl, hEnd⟩
  ·obtain ⟨h1, h2⟩ := hn hz
   rw [h1]
   exact ⟨rfl, h2⟩

section
variable {w0 : World} {Y : Nat → Prop} {d : Nat} {w1 : World}

theorem cell_y {w : World} {b : Nat} {v : Value} (hk : ∀ b, Y b → w.heap[b]? = w1.heap[b]?) (hY : Y b) (h : w1.cell? ⟨b, 0, none⟩ = some v) : w.cell? ⟨b, 0, none⟩ = some v :=
 (World.cell?_of_block (a := ⟨b, 0, none⟩) (hk b hY)).trans h

theorem does_removing {b1 b2 : Nat} {nm : List UInt8} (hn : nm.length ≤ 9223372036854775807) (y1 : Y b1) (y2 : Y b2) (k1 : w1.cell? ⟨b1, 0, none⟩ = some (.pointer (some ⟨d, 0, none⟩))) (k2 : w1.cell? ⟨b2, 0, none⟩ = some (encStr nm)) :
  Does w0 Y d w1 ⟨151, #[.pointer (some ⟨b1, 0, none⟩), .pointer (some ⟨b2, 0, none⟩)]⟩ ⟨5, nm, [], []⟩ :=
 ⟨fun args w => by kernel_rfl, fun M w hO hk hz hl hu => do_removing hO b1 b2 nm hn (cell_y hk y2 k2) (cell_y hk y1 k1)⟩

theorem does_creating {b1 b2 : Nat} {nm : List UInt8} (hn : nm.length ≤ 9223372036854775807) (y1 : Y b1) (y2 : Y b2) (k1 : w1.cell? ⟨b1, 0, none⟩ = some (.pointer (some ⟨d, 0, none⟩))) (k2 : w1.cell? ⟨b2, 0, none⟩ = some (encStr nm)) :
  Does w0 Y d w1 ⟨112, #[.pointer (some ⟨b1, 0, none⟩), .pointer (some ⟨b2, 0, none⟩)]⟩ ⟨1, nm, [], []⟩ :=
 ⟨fun args w => by kernel_rfl, fun M w hO hk hz hl hu => do_creating hO b1 b2 nm hn hl (cell_y hk y2 k2) (cell_y hk y1 k1)⟩

theorem does_syncing {b1 b2 : Nat} {nm : List UInt8} (hn : nm.length ≤ 9223372036854775807) (y1 : Y b1) (y2 : Y b2) (k1 : w1.cell? ⟨b1, 0, none⟩ = some (.pointer (some ⟨d, 0, none⟩))) (k2 : w1.cell? ⟨b2, 0, none⟩ = some (encStr nm)) :
  Does w0 Y d w1 ⟨114, #[.pointer (some ⟨b1, 0, none⟩), .pointer (some ⟨b2, 0, none⟩)]⟩ ⟨3, nm, [], []⟩ :=
 ⟨fun args w => by kernel_rfl, fun M w hO hk hz hl hu => do_syncing hO b1 b2 nm hn (cell_y hk y2 k2) (cell_y hk y1 k1)⟩

theorem does_cut1 {b1 : Nat} (y1 : Y b1) (k1 : w1.cell? ⟨b1, 0, none⟩ = some (.pointer (some ⟨d, 0, none⟩))) :
  Does w0 Y d w1 ⟨153, #[.pointer (some ⟨b1, 0, none⟩)]⟩ ⟨1, cutB, [], []⟩ :=
 ⟨fun args w => by kernel_rfl, fun M w hO hk hz hl hu => do_cut1 hO b1 hl (cell_y hk y1 k1)⟩

theorem does_cut2 {b1 b3 : Nat} {p : Option Addr} {m c : Nat} {l : List Nat} (hB : Bytes w1 p m c l) (hp : 0 < m → ∀ a, p = some a → Y a.block) (hl : l.length ≤ 1000000) (y1 : Y b1) (y3 : Y b3) (k1 : w1.cell? ⟨b1, 0, none⟩ = some (.pointer (some ⟨d, 0, none⟩))) (k3 : w1.cell? ⟨b3, 0, none⟩ = some (.slice p m c)) :
  Does w0 Y d w1 ⟨154, #[.pointer (some ⟨b1, 0, none⟩), .pointer (some ⟨b3, 0, none⟩)]⟩ ⟨2, cutB, [], l⟩ :=
 ⟨fun args w => by kernel_rfl, fun M w hO hk hz hlm hu => do_cut2 hO b1 b3 p m c l (hB.moved (fun h0 x hx => hk _ (hp h0 x hx))) (fun h0 x hx => .inl (hp h0 x hx)) (by omega) (cell_y hk y3 k3) (cell_y hk y1 k1)⟩

theorem does_cut3 {b1 : Nat} (y1 : Y b1) (k1 : w1.cell? ⟨b1, 0, none⟩ = some (.pointer (some ⟨d, 0, none⟩))) :
  Does w0 Y d w1 ⟨155, #[.pointer (some ⟨b1, 0, none⟩)]⟩ ⟨3, cutB, [], []⟩ :=
 ⟨fun args w => by kernel_rfl, fun M w hO hk hz hl hu => do_cut3 hO b1 (cell_y hk y1 k1)⟩

theorem does_cut4 {b1 b2 : Nat} {nm : List UInt8} (hn : nm.length ≤ 9223372036854775807) (y1 : Y b1) (y2 : Y b2) (k1 : w1.cell? ⟨b1, 0, none⟩ = some (.pointer (some ⟨d, 0, none⟩))) (k2 : w1.cell? ⟨b2, 0, none⟩ = some (encStr nm)) :
  Does w0 Y d w1 ⟨156, #[.pointer (some ⟨b1, 0, none⟩), .pointer (some ⟨b2, 0, none⟩)]⟩ ⟨4, cutB, nm, []⟩ :=
 ⟨fun args w => by kernel_rfl, fun M w hO hk hz hl hu => do_cut4 hO b1 b2 nm hn hl (cell_y hk y2 k2) (cell_y hk y1 k1)⟩
end
end Go.Proofs.YtnbddiiedagllaaGreat

/- The walk of scan's Open on a disk without files, and of the statements' example. -/
namespace Go.Proofs.YtnbddiiedagllaaGreat
open Go.RowKit Go.Maps Go.Shelf

theorem info_step : (Tryz.prog.info? 172).map (fun i => (i.zero, i.size, i.bytes)) = some (some .nilFunc, 1, 8) := by kernel_rfl

end Go.Proofs.YtnbddiiedagllaaGreat

/- The walks of removing and cutting, which make steps, and of the statements' opened. -/
namespace Go.Proofs.YtnbddiiedagllaaGreat
open Go.RowKit Go.Maps Go.Shelf

attribute [local go_sem ↓] Go.wp_at_zero Go.wp_at_succ

set_option maxRecDepth 100000 in
theorem removing_any (d : Nat) (nm : List UInt8) (w : World) :
  Calls Tryz.prog 110 #[.pointer (some ⟨d, 0, none⟩), encStr nm] w fun e w' => ∃ b1 b2, e = .returned (skV ⟨151, #[.pointer (some ⟨b1, 0, none⟩), .pointer (some ⟨b2, 0, none⟩)]⟩) ∧ w.heap.size ≤ b1 ∧ w.heap.size ≤ b2 ∧
   w'.cell? ⟨b1, 0, none⟩ = some (.pointer (some ⟨d, 0, none⟩)) ∧ w'.cell? ⟨b2, 0, none⟩ = some (encStr nm) ∧ Below w.heap.size w w' := by
 unfold encStr
 go_enter Tryz.func110, Tryz.ntmps110
 go_wp2
 go_ret
 refine ⟨w.heap.size, w.heap.size + 1, rfl, Nat.le_refl _, Nat.le_succ _, ?_, ?_, ((Below.refl _ _).alloc (Nat.le_refl _) _).alloc (by simp) _⟩
 ·rw [cell_of_row _ _ _ _ _ (0, 0) ((Below.heap_alloc _ _ _ (by simp)).trans (heap_alloc_new w (.cells #[.pointer (some ⟨d, 0, none⟩)] 23)))]
  rfl
 ·have h2 := heap_alloc_new (w.alloc (.cells #[.pointer (some ⟨d, 0, none⟩)] 23)) (.cells #[.string ⟨nm.toArray⟩] 9)
  rw [World.size_alloc] at h2
  rw [cell_of_row _ _ _ _ _ (0, 0) h2]
  rfl

set_option maxRecDepth 100000 in
theorem cutting_any (d : Nat) (nm : List UInt8) (p : Option Addr) (n c : Nat) (w : World) :
  Calls Tryz.prog 113 #[.pointer (some ⟨d, 0, none⟩), encStr nm, .slice p n c] w fun e w' => ∃ r b1 b2 b3, e = .returned (.slice (some ⟨r, 0, none⟩) 4 4) ∧ w.heap.size ≤ r ∧ w.heap.size ≤ b1 ∧ w.heap.size ≤ b2 ∧ w.heap.size ≤ b3 ∧
   w'.cell? ⟨b1, 0, none⟩ = some (.pointer (some ⟨d, 0, none⟩)) ∧ w'.cell? ⟨b2, 0, none⟩ = some (encStr nm) ∧ w'.cell? ⟨b3, 0, none⟩ = some (.slice p n c) ∧
   w'.cell? ⟨r, 0, none⟩ = some (skV ⟨153, #[.pointer (some ⟨b1, 0, none⟩)]⟩) ∧ w'.cell? ⟨r, 1, none⟩ = some (skV ⟨154, #[.pointer (some ⟨b1, 0, none⟩), .pointer (some ⟨b3, 0, none⟩)]⟩) ∧
   w'.cell? ⟨r, 2, none⟩ = some (skV ⟨155, #[.pointer (some ⟨b1, 0, none⟩)]⟩) ∧ w'.cell? ⟨r, 3, none⟩ = some (skV ⟨156, #[.pointer (some ⟨b1, 0, none⟩), .pointer (some ⟨b2, 0, none⟩)]⟩) ∧ Below w.heap.size w w' := by
 unfold encStr
 go_enter Tryz.func113, Tryz.ntmps113
 go_wp2
 go_ret
 generalize hf : (#[.func (.func 153) #[] #[.pointer (some ⟨w.heap.size, 0, none⟩)], .func (.func 154) #[] #[.pointer (some ⟨w.heap.size, 0, none⟩), .pointer (some ⟨w.heap.size + 1 + 1, 0, none⟩)], .func (.func 155) #[] #[.pointer (some ⟨w.heap.size, 0, none⟩)], .func (.func 156) #[] #[.pointer (some ⟨w.heap.size, 0, none⟩), .pointer (some ⟨w.heap.size + 1, 0, none⟩)]] : Array Value) = fs
 have e1 := heap_alloc_new w (.cells #[.pointer (some ⟨d, 0, none⟩)] 23)
 generalize hw1 : w.alloc (.cells #[.pointer (some ⟨d, 0, none⟩)] 23) = w1 at *
 have s1 : w1.heap.size = w.heap.size + 1 := by rw [← hw1, World.size_alloc]
 have e2 := heap_alloc_new w1 (.cells #[.string ⟨nm.toArray⟩] 9)
 have t1 := (Below.heap_alloc w1 (.cells #[.string ⟨nm.toArray⟩] 9) w.heap.size (by omega)).trans e1
 generalize hw2 : w1.alloc (.cells #[.string ⟨nm.toArray⟩] 9) = w2 at *
 have s2 : w2.heap.size = w.heap.size + 2 := by rw [← hw2, World.size_alloc]; omega
 have e3 := heap_alloc_new w2 (.cells #[.slice p n c] 58)
 have t2 := (Below.heap_alloc w2 (.cells #[.slice p n c] 58) w.heap.size (by omega)).trans t1
 have u2 := (Below.heap_alloc w2 (.cells #[.slice p n c] 58) w1.heap.size (by omega)).trans e2
 generalize hw3 : w2.alloc (.cells #[.slice p n c] 58) = w3 at *
 have s3 : w3.heap.size = w.heap.size + 3 := by rw [← hw3, World.size_alloc]; omega
 have e4 := heap_alloc_new w3 (.cells fs 172)
 have t3 := (Below.heap_alloc w3 (.cells fs 172) w.heap.size (by omega)).trans t2
 have u3 := (Below.heap_alloc w3 (.cells fs 172) w1.heap.size (by omega)).trans u2
 have v3 := (Below.heap_alloc w3 (.cells fs 172) w2.heap.size (by omega)).trans e3
 rw [s1] at u3
 rw [s2] at v3
 rw [s3] at e4
 have hb : Below w.heap.size w (w3.alloc (.cells fs 172)) := by
  rw [← hw3, ← hw2, ← hw1]
  exact ((((Below.refl _ _).alloc (Nat.le_refl _) _).alloc (by simp) _).alloc (by simp; omega) _).alloc (by simp; omega) _
 refine ⟨w.heap.size + 3, w.heap.size, w.heap.size + 1, w.heap.size + 2, rfl, by omega, Nat.le_refl _, by omega, by omega, ?_, ?_, ?_, ?_, ?_, ?_, ?_, hb⟩
 ·rw [cell_of_row _ _ _ _ _ (0, 0) t3]; rfl
 ·rw [cell_of_row _ _ _ _ _ (0, 0) u3]; rfl
 ·rw [cell_of_row _ _ _ _ _ (0, 0) v3]; rfl
 ·rw [cell_of_row _ _ _ _ _ (0, 0) e4, ← hf]; rfl
 ·rw [cell_of_row _ _ _ _ _ (0, 0) e4, ← hf]; rfl
 ·rw [cell_of_row _ _ _ _ _ (0, 0) e4, ← hf]; rfl
 ·rw [cell_of_row _ _ _ _ _ (0, 0) e4, ← hf]; rfl
end Go.Proofs.YtnbddiiedagllaaGreat

