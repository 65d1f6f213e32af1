import Derived.Test.YtnbddiiedagllaaGreatSSB31
import Derived.Deep.AppendLies
import Derived.Deep.RegionHeld3
import Derived.Test.YtnbddiiedagllaaGreatSSB25
import Derived.Test.YtnbddiiedagllaaGreatSSB20
import Derived.Deep.DeepCutAuto
import Derived.Deep.CutBlock
/- The walk of repairs: the steps that it makes stand for the changes that repair a log. -/
namespace Go.Proofs.YtnbddiiedagllaaGreat
open Go.RowKit Go.Maps Go.Shelf

attribute [local go_sem ↓] Go.wp_at_zero Go.wp_at_succ

theorem SRow.lt {B G d : Nat} {w : World} {v : Value} {ops : List SO} (h : SRow B G d w v ops) : ∀ k, v.ownBlock = some k → G ≤ k ∧ k < w.heap.size := by
 obtain ⟨Ks, _, h2, _⟩ := h
 intro k hk
 rcases h2.2 with ⟨rfl, _⟩ | ⟨g, cap, cur, rfl, hb, hg, _⟩
 ·cases hk
 ·cases hk
  exact ⟨hb, (Array.getElem?_eq_some_iff.1 hg).1⟩

theorem SRow.form {B G d : Nat} {w : World} {v : Value} {ops : List SO} (h : SRow B G d w v ops) : ∃ a c, v = .slice a ops.length c ∧ (0 < ops.length → ∃ b, a = some ⟨b, 0, none⟩ ∧ G ≤ b ∧ b < w.heap.size) := by
 obtain ⟨Ks, _, h2, _⟩ := h
 rcases h2.2 with ⟨rfl, h0⟩ | ⟨g, cap, cur, rfl, hb, hg, _⟩
 ·exact ⟨none, 0, by rw [h0], fun h => by omega⟩
 ·exact ⟨_, cap, rfl, fun _ => ⟨g, rfl, hb, (Array.getElem?_eq_some_iff.1 hg).1⟩⟩

theorem SRow.base {B G G' d : Nat} {w : World} {v : Value} {ops : List SO} (h : SRow B G d w v ops) (hg : G' ≤ G) : SRow B G' d w v ops := by
 obtain ⟨Ks, h1, h2, h3⟩ := h
 exact ⟨Ks, h1, own_base h2 hg, h3⟩

theorem one_appends {B G d : Nat} {w : World} {v : Value} {ops : List SO} (h : SRow B G d w v ops) (hG : G ≤ w.heap.size) {K : SK} {x : SO} (hK : StepAt (fun b => B ≤ b ∧ v.ownBlock ≠ some b) d w K x) :
  ∃ xs : List Value, (w.alloc (.cells #[skV K] 172)).ownsRow G 172 1 v ops.length xs ∧ G ≤ (w.alloc (.cells #[skV K] 172)).heap.size ∧
   ∀ w' v', w'.ownsRow G 172 1 v' (ops.length + 1) (xs ++ [skV K]) → (w.alloc (.cells #[skV K] 172)).grownBy w' v.ownBlock → (v'.ownBlock = v.ownBlock ∨ v'.ownBlock = some (w.alloc (.cells #[skV K] 172)).heap.size) → SRow B G d w' v' (ops ++ [x]) ∧ Below G w w' ∧ ∀ b, b < w.heap.size → v.ownBlock ≠ some b → w'.heap[b]? = w.heap[b]? := by
 have hb := (Below.refl w.heap.size w).alloc (Nat.le_refl _) (.cells #[skV K] 172)
 have hlt := (h.grow hb).lt
 have hs := hb.size
 obtain ⟨Ks, h1, h2, h3⟩ := h.grow hb
 exact ⟨Ks.map skV, h2, by omega, fun w' v' ho hg hbk => ⟨SRow.one h1 h3 (hK.moved (fun b _ hl => hb.block b hl) hb.size (fun b hz _ => hz)) ho hg hbk hg.size, (hb.mono hG).grown hg (by omega) (fun k e => (hlt k e).1), fun b hl hne => (hg.block b (by omega) (fun e => hne e.symm)).trans (hb.block b hl)⟩⟩

theorem more_appends {B G d : Nat} {w : World} {v : Value} {ops os : List SO} (h : SRow B G d w v ops) (hG : G ≤ w.heap.size) {Js : List SK} (hJl : Js.length = os.length) (hJ : ∀ i (h : i < Js.length) (h' : i < os.length), StepAt (fun b => B ≤ b ∧ v.ownBlock ≠ some b) d w Js[i] os[i]) :
  ∃ xs : List Value, w.ownsRow G 172 1 v ops.length xs ∧
   ∀ w' v', w'.ownsRow G 172 1 v' (ops.length + os.length) (xs ++ Js.map skV) → w.grownBy w' v.ownBlock → (v'.ownBlock = v.ownBlock ∨ v'.ownBlock = some w.heap.size) → SRow B G d w' v' (ops ++ os) ∧ Below G w w' ∧ ∀ b, b < w.heap.size → v.ownBlock ≠ some b → w'.heap[b]? = w.heap[b]? := by
 have hlt := h.lt
 obtain ⟨Ks, h1, h2, h3⟩ := h
 exact ⟨Ks.map skV, h2, fun w' v' ho hg hbk => ⟨SRow.app h1 h3 hJl hJ ho hg hbk hg.size, (Below.refl _ _).grown hg hG (fun k e => (hlt k e).1), fun b hl hne => hg.block b hl (fun e => hne e.symm)⟩⟩

def R2 (B G d : Nat) (w3 : World) (L : Nat) (nm : List UInt8) (v : Value) (W : World) (ops : List SO) : Prop :=
 SRow B G d W v ops ∧ Below G w3 W ∧ v.ownBlock ≠ some L ∧ W.cell? ⟨L, 0, none⟩ = some (encStr nm) ∧ L < W.heap.size

theorem cut_cells {w : World} {r b1 b2 b3 : Nat} (k0 : w.cell? ⟨r, 0, none⟩ = some (skV ⟨153, #[.pointer (some ⟨b1, 0, none⟩)]⟩)) (k1 : w.cell? ⟨r, 1, none⟩ = some (skV ⟨154, #[.pointer (some ⟨b1, 0, none⟩), .pointer (some ⟨b3, 0, none⟩)]⟩))
  (k2 : w.cell? ⟨r, 2, none⟩ = some (skV ⟨155, #[.pointer (some ⟨b1, 0, none⟩)]⟩)) (k3 : w.cell? ⟨r, 3, none⟩ = some (skV ⟨156, #[.pointer (some ⟨b1, 0, none⟩), .pointer (some ⟨b2, 0, none⟩)]⟩)) :
  ∀ j u, ((cutKs b1 b2 b3).map skV)[j]? = some u → w.cell? ((⟨r, 0, none⟩ : Addr).add j) = some u := by
 intro j u hu
 rw [addr_add, Nat.zero_add]
 match j, hu with
 | 0, hu => cases hu; exact k0
 | 1, hu => cases hu; exact k1
 | 2, hu => cases hu; exact k2
 | 3, hu => cases hu; exact k3

set_option maxRecDepth 100000 in
set_option maxHeartbeats 6400000 in
theorem repairs_any {w0 : World} {X : Nat → Prop} {w : World} {d : Nat} {M : DM} (hO : Own w0 X w d M) (hl : M.fs.length ≤ 1000) (x : FD) (N : Nat) (h1 : 1 ≤ N) (hN : N ≤ 99999999) (hxn : x.n = (N : Int)) (B : Nat) (hB : B ≤ w.heap.size)
  (old : List Int) (hold : Ints w x.oa x.on x.oc old) (hop : ∀ y ∈ old, 1 ≤ y ∧ y ≤ 99999999) (hom : old.length ≤ 1000) (l : List Nat) (hW : Bytes w x.wa x.wn x.wc l) (hWB : 0 < x.wn → ∀ a, x.wa = some a → B ≤ a.block) (hll : l.length ≤ 1000000) (T : Nat) (ht : x.tn = (T : Int)) :
  Calls Tryz.prog 66 #[foundV x, .pointer (some ⟨d, 0, none⟩)] w fun e w' => ∃ v, e = .returned v ∧ SRow B w.heap.size d w' v (if x.no = true then cleanM [cutB, newB] M ++ [⟨1, nmB N, [], []⟩] else repOps M old N l T) ∧ Below w.heap.size w w' := by
 have HO := Lib.hid (fun W (hW : Below w.heap.size w W) => own_list (hO.below hW) (by omega))
 obtain ⟨i0, hi, hz0, hz1, hz2⟩ := info_parts info_step
 have HRm := Lib.hid (fun nm W => removing_any d nm W)
 have HFl := Lib.hid (fun n W h1 h2 => sfile_any n W h1 h2)
 have HCt := Lib.hid (fun nm W => cutting_any d nm x.wa x.wn x.wc W)
 have HI := Lib.hid hold
 have HW := Lib.hid hW
 have HWB := Lib.hid hWB
 have Hop := Lib.hid hop
 have Hom := Lib.hid hom
 have Hll := Lib.hid hll
 have HB := Lib.hid hB
 have hfl : M.fs.length ≤ 1000000 := by omega
 clear hO hl hold hW hWB hop hom hll
 obtain ⟨ra, rn, rc, oa, on, oc, n, mk, pa, pn, pc, wa, wn, wc, tn, no⟩ := x
 simp only at *
 subst hxn
 subst ht
 unfold foundV
 go_enter Tryz.func66, Tryz.ntmps66
 go_wp2_with fail
 obtain ⟨w1, hw1⟩ : ∃ w1, w1 = (w.alloc (.cells #[.slice ra rn rc, .slice oa on oc, .int .i64 (N : Int), .bool mk, .slice pa pn pc, .slice wa wn wc, .int .i64 (T : Int), .bool no] 107)).alloc (.cells #[.pointer (some ⟨d, 0, none⟩)] 23) := ⟨_, rfl⟩
 rw [← hw1]
 have hb1 : Below w.heap.size w w1 := by rw [hw1]; exact ((Below.refl _ _).alloc (Nat.le_refl _) _).alloc (by simp) _
 have hz1' : w1.heap.size = w.heap.size + 2 := by rw [hw1]; simp
 have hB1 : w1.heap[w.heap.size]? = some (.cells #[.slice ra rn rc, .slice oa on oc, .int .i64 (N : Int), .bool mk, .slice pa pn pc, .slice wa wn wc, .int .i64 (T : Int), .bool no] 107 (0, 0)) := by rw [hw1]; exact (Below.heap_alloc _ _ _ (by simp)).trans (heap_alloc_new _ _)
 have hB2 : w1.heap[w.heap.size + 1]? = some (.cells #[.pointer (some ⟨d, 0, none⟩)] 23 (0, 0)) := by
  have := heap_alloc_new (w.alloc (.cells #[.slice ra rn rc, .slice oa on oc, .int .i64 (N : Int), .bool mk, .slice pa pn pc, .slice wa wn wc, .int .i64 (T : Int), .bool no] 107)) (.cells #[.pointer (some ⟨d, 0, none⟩)] 23)
  rw [World.size_alloc] at this
  rw [hw1]; exact this
 have Hb1 := Lib.hid hb1
 have HB1 := Lib.hid hB1
 have HB2 := Lib.hid hB2
 have Hz1 := Lib.hid hz1'
 have HL := Lib.hid (HO.out w1 hb1)
 clear hw1 hb1 hz1' hB1 hB2 HO
 refine HL.out.mono ?_
 rintro e w2 ⟨v2, rfl, hown2, hb2⟩
 obtain ⟨p2, k2, rfl, hCn⟩ := contains_any hown2 hfl
 have Hb2 := Lib.hid hb2
 have HCn := Lib.hid hCn
 clear hown2 hb2 hCn
 go_wp2_with fail
 obtain ⟨w3, hw3⟩ : ∃ w3, w3 = w2.alloc (.cells #[.string ⟨#[99, 117, 116]⟩, .string ⟨#[110, 101, 119]⟩] 9) := ⟨_, rfl⟩
 rw [← hw3]
 have hb3 : Below w2.heap.size w2 w3 := by rw [hw3]; exact (Below.refl _ _).alloc (Nat.le_refl _) _
 have hR3 : w3.heap[w2.heap.size]? = some (.cells #[.string ⟨#[99, 117, 116]⟩, .string ⟨#[110, 101, 119]⟩] 9 (0, 0)) := by rw [hw3]; exact heap_alloc_new _ _
 have r0 : ∀ j, j < 2 → w3.cell? ⟨w2.heap.size, j, none⟩ = some (.string ⟨([cutB, newB].getD j []).toArray⟩) := by
  intro j hj
  rw [cell_of_row _ _ _ _ _ (0, 0) hR3]
  match j, hj with
  | 0, _ => rfl
  | 1, _ => rfl
 have Hr0 := Lib.hid r0
 have Hb3 := Lib.hid (Hb1.out.trans ((Hb2.out.trans (hb3.mono Hb2.out.size)).mono Hb1.out.size))
 have Hb13 := Lib.hid (Hb2.out.trans (hb3.mono Hb2.out.size))
 have Hb23 := Lib.hid hb3
 clear hw3 hb3 hR3 r0
 have HD3 := Lib.hid (show w3.cell? ⟨w.heap.size + 1, 0, none⟩ = some (.pointer (some ⟨d, 0, none⟩)) from by
  rw [cell_of_row _ _ _ _ _ (0, 0) ((Hb13.out.block _ (Array.getElem?_eq_some_iff.1 HB2.out).1).trans HB2.out)]
  rfl)
 have HF3 := Lib.hid ((Hb13.out.block _ (Array.getElem?_eq_some_iff.1 HB1.out).1).trans HB1.out)
 go_loopw [6, 16] (fun s i wr => ∃ j : Nat, j ≤ 2 ∧ i = .int .i64 (j : Int) ∧ SRow B w3.heap.size d wr s (cleanM ([cutB, newB].take j) M) ∧ Below w3.heap.size w3 wr) (fun _ i _ => 2 - (intOf i).toNat)
 case atStart => exact ⟨0, Nat.zero_le _, rfl, SRow.nil _ _ _ _, Below.refl _ _⟩
 case round =>
  obtain ⟨j, hj, rfl, hS, hbr⟩ := hrel
  by_cases hlt : j < 2
  ·have r := cell_keep hbr (Hr0.out j hlt)
   have hct : cleanM ([cutB, newB].take (j + 1)) M = cleanM ([cutB, newB].take j) M ++ (if [cutB, newB].getD j [] ∈ M.fs.map F.n then [⟨5, [cutB, newB].getD j [], [], []⟩] else []) := by
    rw [← cleanM_snoc]
    congr 1
    match j, hlt with
    | 0, _ => rfl
    | 1, _ => rfl
   have hnl : ([cutB, newB].getD j []).length ≤ 9223372036854775807 := by
    match j, hlt with
    | 0, _ => decide
    | 1, _ => decide
   have hcl := cleanM_len ([cutB, newB].take j) M
   have hcl2 : ([cutB, newB].take j).length ≤ 2 := by rw [List.length_take]; omega
   generalize [cutB, newB].getD j [] = nm at *
   have Hct := Lib.hid hct
   have Hnl := Lib.hid hnl
   have HCq := Lib.hid (HCn.out nm wr (Hb23.out.trans (hbr.mono Hb23.out.size)))
   have hji : (j : Int) < 2 := by omega
   have hdb := cell_keep hbr HD3.out
   have HS := Lib.hid hS
   have Hbr := Lib.hid hbr
   have Hlt := Lib.hid hlt
   have Hcl := Lib.hid (Nat.le_trans hcl hcl2)
   clear hct hnl hS hbr hlt hcl hcl2
   go_wp2_with fail
   refine HCq.out.mono ?_
   rintro e w4 ⟨rfl, rfl⟩
   by_cases hmem : nm ∈ M.fs.map F.n
   ·rw [decide_eq_true hmem]
    have Hc2 := Lib.hid (show cleanM ([cutB, newB].take (j + 1)) M = cleanM ([cutB, newB].take j) M ++ [⟨5, nm, [], []⟩] from by rw [Hct.out, if_pos hmem])
    clear hmem
    go_wp2_with fail
    refine (HRm.out nm _).mono ?_
    rintro e w5 ⟨b1, b2, rfl, g1, g2, k1, k2, hb5⟩
    have hlt5 := HS.out.lt
    have hs3 := Hbr.out.size
    have hs5 := hb5.size
    have hB0 := HB.out
    have hs03 := Hb3.out.size
    obtain ⟨xs, hown, hG, hclose⟩ := one_appends (HS.out.grow hb5) (by omega) (stepAt_removing Hnl.out ⟨by omega, fun e => by have := hlt5 _ e; omega⟩ ⟨by omega, fun e => by have := hlt5 _ e; omega⟩ k1 k2)
    have Hown := Lib.hid hown
    have Hclose := Lib.hid hclose
    have Hb5 := Lib.hid (show Below w3.heap.size _ _ from hb5.mono hs3)
    clear hown hclose hlt5 hs3 hs5 hB0 hs03 k1 k2 g1 g2 hb5
    unfold skV
    go_wp2_with (at_builtin; refine wpList_append_own_at _ rfl _ _ 120 rfl w3.heap.size 172 i0 .nilFunc 1 8 Tryz.underlying120 hi hz0 hz1 hz2 rfl (by decide) _ _ _ rfl Hown.out ⟨_, 0, none⟩ 1 1 [skV ⟨151, #[.pointer (some ⟨b1, 0, none⟩), .pointer (some ⟨b2, 0, none⟩)]⟩] rfl rfl (cell_one_new _ _ _) (by simp [Value.oneCell', skV]) (by rw [maxLen_nat]; have := Hcl.out; omega) (by have := Hcl.out; omega) hG ?_; intro v' w6 hown' hgrow _ hblk)
    go_roundw
    case rel =>
     obtain ⟨q1, q2, _⟩ := Hclose.out _ _ hown' hgrow hblk
     exact ⟨j + 1, Hlt.out, by go_num, by rw [Hc2.out]; exact q1, Hbr.out.trans (Hb5.out.trans q2)⟩
    case measure => simp [intOf]; have := Hlt.out; omega
   ·rw [decide_eq_false hmem]
    have Hc2 := Lib.hid (show cleanM ([cutB, newB].take (j + 1)) M = cleanM ([cutB, newB].take j) M from by rw [Hct.out, if_neg hmem, List.append_nil])
    clear hmem
    go_wp2
    go_roundw
    case rel => exact ⟨j + 1, Hlt.out, by go_num, by rw [Hc2.out]; exact HS.out, Hbr.out⟩
    case measure => simp [intOf]; have := Hlt.out; omega
  ·obtain rfl : j = 2 := by omega
   have HS := Lib.hid (show SRow B w3.heap.size d wr _ (cleanM [cutB, newB] M) from hS)
   have Hbr := Lib.hid hbr
   obtain ⟨c0, c1, c2, c3, c4, c5, c6, c7, cf⟩ := box8 ((hbr.block _ (Array.getElem?_eq_some_iff.1 HF3.out).1).trans HF3.out)
   clear hS hbr
   go_wp2_with fail
   refine (HFl.out N _ h1 hN).mono ?_
   rintro e w4 ⟨rfl, hb4⟩
   have hrf := ((Hbr.out.trans (hb4.mono Hbr.out.size)).block _ (Array.getElem?_eq_some_iff.1 HF3.out).1).trans HF3.out
   have e7 := fun o => row_alloc' hrf o 7
   have e6 := fun o => row_alloc' hrf o 6
   have e5 := fun o => row_alloc' hrf o 5
   have e1 := fun o => row_alloc' hrf o 1
   simp only [List.getElem?_toArray, List.getElem?_cons_zero, List.getElem?_cons_succ] at e7 e6 e5 e1
   have hlt4 := HS.out.lt
   have hs3 := Hbr.out.size
   have hs4 := hb4.size
   have hs03 : w.heap.size + 2 ≤ w3.heap.size := by have h1 := Hz1.out; have h2 := Hb13.out.size; omega
   have hB0 := HB.out
   have hb45 := (Below.refl w4.heap.size w4).alloc (Nat.le_refl _) (.cells #[.string ⟨(nmB N).toArray⟩] 9)
   have hbr5 := hb4.trans (hb45.mono hb4.size)
   have k1 := cell_keep (Hbr.out.trans (hbr5.mono Hbr.out.size)) HD3.out
   have k2 : (w4.alloc (.cells #[.string ⟨(nmB N).toArray⟩] 9)).cell? ⟨w4.heap.size, 0, none⟩ = some (encStr (nmB N)) := by
    rw [cell_of_row _ _ _ _ _ (0, 0) (heap_alloc_new _ _)]
    rfl
   have hS5 := HS.out.grow hbr5
   cases no
   ·have Hk1 := Lib.hid k1
    have Hk2 := Lib.hid k2
    have HS5 := Lib.hid hS5
    have Hbr5 := Lib.hid (Hbr.out.trans (hbr5.mono Hbr.out.size))
    have hsz5 : (w4.alloc (.cells #[.string ⟨(nmB N).toArray⟩] 9)).heap.size = w4.heap.size + 1 := World.size_alloc _ _
    have Hrf5 := Lib.hid ((hb45.block _ (Array.getElem?_eq_some_iff.1 hrf).1).trans hrf)
    clear k1 k2 hS5 hbr5 hb45 hb4 hrf c0 c1 c2 c3 c4 c5 c6 c7 cf
    have hcl := cleanM_len [cutB, newB] M
    simp only [List.length_cons, List.length_nil] at hcl
    have Hcl := Lib.hid hcl
    clear hcl
    have Hlt4 := Lib.hid hlt4
    have Hs := Lib.hid (And.intro hs3 (And.intro hs4 hs03))
    clear hlt4 hs3 hs4 hs03 hB0
    obtain ⟨pre, hpre⟩ : ∃ pre, pre = cleanM [cutB, newB] M ++ (if T = 0 then [] else cutOps (nmB N) l) := ⟨_, rfl⟩
    have Hprl := Lib.hid (show pre.length ≤ 6 by
     rw [hpre, List.length_append]
     have := Hcl.out
     split
     ·simp only [List.length_nil]; omega
     ·simp only [cutOps, List.length_cons, List.length_nil]; omega)
    have Hpre := Lib.hid hpre
    clear hpre
    rcases Nat.eq_zero_or_pos T with rfl | hT
    case' inl =>
     have HR2 := Lib.hid (show R2 B w3.heap.size d w3 w4.heap.size (nmB N) _ _ pre from ⟨by rw [Hpre.out, if_pos rfl, List.append_nil]; exact HS5.out, Hbr5.out, fun e => by have h := (Hlt4.out _ e).2; have h2 := Hs.out.2.1; omega, Hk2.out, by rw [hsz5]; omega⟩)
     go_wp2_with fail
    case' inr =>
     have hTp : (0 : Int) < (T : Int) := by omega
     have k1 := Hk1.out
     have k2 := Hk2.out
     go_wp2_with fail
     refine (HCt.out (nmB N) _).mono ?_
     rintro e w6 ⟨r, b1, b2, b3, rfl, gr, g1, g2, g3, m1, m2, m3, m4, m5, m6, m7, hb6⟩
     have hS6 := HS5.out.grow hb6
     have hs5 := Hs.out
     have hs6 := hb6.size
     have hBw := HB.out
     have hb06 := Hb3.out.trans ((Hbr5.out.mono Hb3.out.size).trans (hb6.mono (Nat.le_trans Hb3.out.size Hbr5.out.size)))
     obtain ⟨xs, hown, hclose⟩ := more_appends hS6 (Nat.le_trans Hbr5.out.size hs6) (Js := cutKs b1 b2 b3) (os := cutOps (nmB N) l) rfl (stepAt_cutting (nmB_len N) (HW.out.grow hb06)
      (fun h0 a ha => ⟨HWB.out h0 a ha, fun e => by have h1 := (Hlt4.out _ e).1; have h2 := bytes_blk HW.out h0 a ha; omega⟩) (by have := Hll.out; omega)
      ⟨by omega, fun e => by have := (Hlt4.out _ e).2; omega⟩ ⟨by omega, fun e => by have := (Hlt4.out _ e).2; omega⟩ ⟨by omega, fun e => by have := (Hlt4.out _ e).2; omega⟩ m1 m2 m3)
     have Hcells := Lib.hid (cut_cells m4 m5 m6 m7)
     have Hown := Lib.hid hown
     have Hclose := Lib.hid hclose
     have Hb6 := Lib.hid hb6
     have HG6 := Lib.hid (Nat.le_trans Hbr5.out.size hs6)
     clear hown hclose hS6 hb06 m1 m2 m3 m4 m5 m6 m7 k1 k2 hs5 hs6 hBw
     go_wp2_with (at_builtin; refine wpList_append_own_at _ rfl _ _ 120 rfl w3.heap.size 172 i0 .nilFunc 1 8 Tryz.underlying120 hi hz0 hz1 hz2 rfl (by decide) _ _ _ rfl Hown.out ⟨r, 0, none⟩ 4 4 ((cutKs b1 b2 b3).map skV) rfl rfl Hcells.out (by simp [Value.oneCell', skV, cutKs]) (by rw [maxLen_nat]; have := Hcl.out; omega) (by have := Hcl.out; omega) HG6.out ?_; intro v' w7 hown' hgrow _ hblk; obtain ⟨q1, q2, q3⟩ := Hclose.out _ _ hown' hgrow hblk; have q4 : v'.ownBlock ≠ some w4.heap.size := (fun e => by
       rcases hblk with h | h
       ·rw [h] at e; have h3 := (Hlt4.out _ e).2; have h2 := Hs.out.2.1; omega
       ·rw [h] at e; have h3 := Option.some.inj e; have h2 := Hb6.out.size; rw [hsz5] at h2; omega); have q5 : w7.heap[w4.heap.size]? = _ := (q3 w4.heap.size (by have h2 := Hb6.out.size; rw [hsz5] at h2; omega) (fun e => by have h3 := (Hlt4.out _ e).2; have h2 := Hs.out.2.1; omega)).trans (Hb6.out.block _ (by rw [hsz5]; omega)); have HR2 := Lib.hid (show R2 B w3.heap.size d w3 w4.heap.size (nmB N) v' w7 pre from ⟨by rw [Hpre.out, if_neg (Nat.ne_of_gt hT)]; exact q1, (Hbr5.out.trans (Hb6.out.mono Hbr5.out.size)).trans q2, q4, (World.cell?_of_block (a := ⟨w4.heap.size, 0, none⟩) q5).trans Hk2.out, by have h1 := World.block_lt_of_cell? _ _ ((World.cell?_of_block (a := ⟨w4.heap.size, 0, none⟩) q5).trans Hk2.out); exact h1⟩); have hB7 := ((HR2.out.2.1).block _ (Array.getElem?_eq_some_iff.1 HF3.out).1).trans HF3.out; obtain ⟨_, c1, _, _, _, _, _, _, _⟩ := box8 hB7; clear q1 q2 q3 q4 q5 hown' hgrow hblk hB7)
    all_goals
     go_loopw [6, 55] (fun s i wr2 => ∃ j : Nat, j ≤ on ∧ i = .int .i64 (j : Int) ∧ R2 B w3.heap.size d w3 w4.heap.size (nmB N) s wr2 (pre ++ (old.take j).map fun n => ⟨5, nmB n.toNat, [], []⟩)) (fun _ i _ => on - (intOf i).toNat)
     case atStart => exact ⟨0, Nat.zero_le _, rfl, by simpa using HR2.out⟩
     case round =>
      obtain ⟨j, hj, rfl, hS, hbr2, hne, hlast, hll⟩ := hrel
      have hw3 := hbr2.size
      have hd2 := cell_keep hbr2 HD3.out
      have hI2 := HI.out.grow (Hb3.out.trans (hbr2.mono Hb3.out.size))
      have hol := hI2.len
      have honm : on ≤ 1000 := by have := Hom.out; omega
      by_cases hlt : j < on
      ·obtain ⟨bo, oo, rfl, hc⟩ := hI2.cell (by omega)
       have hcj := hc j hlt
       have hjo : j < old.length := by omega
       have hgj : old.getD j 0 = old[j] := by rw [List.getD_eq_getElem?_getD, List.getElem?_eq_getElem hjo]; rfl
       rw [hgj] at hcj
       obtain ⟨p1, p2⟩ := Hop.out old[j] (List.getElem_mem hjo)
       have htk : (old.take (j + 1)).map (fun n => (⟨5, nmB n.toNat, [], []⟩ : SO)) = (old.take j).map (fun n => ⟨5, nmB n.toNat, [], []⟩) ++ [⟨5, nmB old[j].toNat, [], []⟩] := by
        rw [List.take_succ_eq_append_getElem hjo, List.map_append]
        rfl
       clear hgj
       generalize old[j] = y at *
       obtain ⟨NN, rfl⟩ : ∃ NN : Nat, y = (NN : Int) := ⟨y.toNat, by omega⟩
       rw [Int.toNat_natCast] at htk
       have HKd := Lib.hid (fun W (hW : Below wr.heap.size wr W) => cell_keep hW hd2)
       have HKl := Lib.hid (fun W (hW : Below wr.heap.size wr W) => cell_keep hW hlast)
       have hji : (j : Int) < (on : Int) := by omega
       have hpl : (pre ++ (old.take j).map fun n => (⟨5, nmB n.toNat, [], []⟩ : SO)).length ≤ 1006 := by
        rw [List.length_append, List.length_map, List.length_take]
        have h1 := Hprl.out
        have h2 := Hom.out
        omega
       have Hpl := Lib.hid hpl
       have Htk := Lib.hid htk
       have Hp := Lib.hid (And.intro p1 p2)
       have HSx := Lib.hid hS
       have Hbr2 := Lib.hid hbr2
       have Hne := Lib.hid hne
       have Hll := Lib.hid hll
       have Hlt := Lib.hid hlt
       clear hI2 hc hol hpl htk p1 p2 hS hbr2 hne hlast hll hjo hlt
       go_wp2_with fail
       go_region_held3 (fun w' => w'.cell? ⟨w.heap.size + 1, 0, none⟩ = some (.pointer (some ⟨d, 0, none⟩)))
        (first | exact hk8 | exact HKd.out _ (hb7.alloc hb7.size _) | exact HKd.out _ hb7 | exact HKd.out _ hb6 | exact HKd.out _ (Below.drew (Below.refl _ _)))
        (first
         | (go_at_call 111; (with_reducible refine (HFl.out NN _ (by have := Hp.out; omega) (by have := Hp.out; omega)).mono ?_); rintro e w6 ⟨rfl, hb0⟩; have hb6 : Below wr.heap.size wr w6 := (Below.drew (Below.refl _ _)).trans hb0; clear hb0)
         | (go_at_call 110; (with_reducible refine (HRm.out (nmB NN) _).mono ?_); rintro e w7 ⟨b1, b2, rfl, g1, g2, m1, m2, hb0⟩; have hb7 : Below wr.heap.size wr w7 := hb6.trans (hb0.mono hb6.size); clear hb0; have hlv := HSx.out.lt; have hs6 := hb6.size; have hs3 := Hbr2.out.size; have h3s := Hs.out; have hBw := HB.out; obtain ⟨xs, hown, hG, hclose⟩ := one_appends (HSx.out.grow hb7) (Nat.le_trans hs3 hb7.size) (stepAt_removing (nmB_len NN) ⟨by omega, fun e => by have := (hlv _ e).2; omega⟩ ⟨by omega, fun e => by have := (hlv _ e).2; omega⟩ m1 m2); have Hown := Lib.hid hown; have Hclose := Lib.hid hclose; have Hhb7 := Lib.hid hb7; clear hown hclose m1 m2 hlv hs6 hs3 h3s hBw; unfold skV)
         | (refine step_append_lies _ rfl (.tmp 59) (.tmp 64) 120 rfl w3.heap.size 172 i0 .nilFunc 1 8 Tryz.underlying120 hi hz0 hz1 hz2 rfl (by decide) _ _ _ (by first | rfl | (simp [Act.eval]; done)) Hown.out ⟨w7.heap.size, 0, none⟩ 1 1 [skV ⟨151, #[.pointer (some ⟨b1, 0, none⟩), .pointer (some ⟨b2, 0, none⟩)]⟩] (by first | rfl | (simp [Act.eval]; done)) rfl (cell_one_new _ _ _) (by simp [Value.oneCell', skV]) (by decide) (by rw [maxLen_nat]; have := Hpl.out; omega) (by have := Hpl.out; omega) hG _ rfl ?_; intro g cap w8 hown' hgrow hat hlt8; obtain ⟨q1, q2, q3⟩ := Hclose.out _ _ hown' hgrow (hat.imp (fun e => e.symm) (fun e => congrArg some e)); have hb8 := (Hbr2.out.trans (Hhb7.out.mono Hbr2.out.size)).trans q2; have hk8 := cell_keep hb8 HD3.out))
       have Hend := Lib.hid (show R2 B w3.heap.size d w3 w4.heap.size (nmB N) _ _ (pre ++ (old.take (j + 1)).map fun n => ⟨5, nmB n.toNat, [], []⟩) from ⟨by rw [Htk.out, ← List.append_assoc]; exact q1, hb8, fun e => by
         have e : g = w4.heap.size := Option.some.inj e
         rcases hat with h | h
         ·exact Hne.out (h.trans (congrArg some e))
         ·have h1 := Hhb7.out.size; have h2 := Hll.out; simp only [World.size_alloc] at h; omega, (World.cell?_of_block (a := ⟨w4.heap.size, 0, none⟩) (q3 _ (Nat.lt_of_lt_of_le Hll.out Hhb7.out.size) Hne.out)).trans (HKl.out _ Hhb7.out), World.block_lt_of_cell? _ _ ((World.cell?_of_block (a := ⟨w4.heap.size, 0, none⟩) (q3 _ (Nat.lt_of_lt_of_le Hll.out Hhb7.out.size) Hne.out)).trans (HKl.out _ Hhb7.out))⟩)
       clear q1 q2 q3 hown' hgrow hat
       go_wp2
       go_roundw
       case rel => exact ⟨j + 1, Hlt.out, by go_num, by have h := Hend.out; rw [List.length_append, List.length_map, List.length_take] at h; exact h⟩
       case measure => simp [intOf]; have := Hlt.out; omega
      ·obtain rfl : j = on := by omega
       rw [List.take_of_length_le (by omega)] at hS
       have hji : ¬ (j : Int) < (j : Int) := by omega
       have hltv := hS.lt
       have h3s := Hs.out
       have hBw := HB.out
       obtain ⟨xs, hown, hG, hclose⟩ := one_appends hS hw3 (stepAt_syncing (nmB_len N) ⟨by omega, fun e => by have := (hltv _ e).1; omega⟩ ⟨by omega, hne⟩ hd2 hlast)
       have Hown := Lib.hid hown
       have Hclose := Lib.hid hclose
       have Hbr2 := Lib.hid (Hb3.out.trans (hbr2.mono Hb3.out.size))
       have hpl : (pre ++ old.map fun n => (⟨5, nmB n.toNat, [], []⟩ : SO)).length ≤ 1006 := by
        rw [List.length_append, List.length_map]
        have h1 := Hprl.out
        have h2 := Hom.out
        omega
       have Hpl := Lib.hid hpl
       have Hw3 := Lib.hid (show w.heap.size ≤ w3.heap.size by omega)
       clear hown hclose hS hbr2 hne hd2 hlast hll hw3 hltv h3s hBw hI2 hpl
       go_wp2_with (at_builtin; refine wpList_append_own_at _ rfl _ _ 120 rfl w3.heap.size 172 i0 .nilFunc 1 8 Tryz.underlying120 hi hz0 hz1 hz2 rfl (by decide) _ _ _ rfl Hown.out ⟨_, 0, none⟩ 1 1 [skV ⟨114, #[.pointer (some ⟨w.heap.size + 1, 0, none⟩), .pointer (some ⟨w4.heap.size, 0, none⟩)]⟩] rfl rfl (cell_one_new _ _ _) (by simp [Value.oneCell', skV]) (by rw [maxLen_nat]; have := Hpl.out; omega) (by have := Hpl.out; omega) hG ?_; intro v' w8 hown' hgrow _ hblk)
       go_ret
       obtain ⟨q1, q2, _⟩ := Hclose.out _ _ hown' hgrow hblk
       rw [Hpre.out] at q1
       exact ⟨v', rfl, q1.base Hw3.out, Hbr2.out.trans (q2.mono Hw3.out)⟩
   ·obtain ⟨xs, hown, hG, hclose⟩ := one_appends hS5 (by rw [World.size_alloc]; omega) (stepAt_creating (nmB_len N) ⟨by omega, fun e => by have := (hlt4 _ e).1; omega⟩ ⟨by omega, fun e => by have := (hlt4 _ e).2; omega⟩ k1 k2)
    have hnw := cell_one_new (w4.alloc (.cells #[.string ⟨(nmB N).toArray⟩] 9)) (skV ⟨112, #[.pointer (some ⟨w.heap.size + 1, 0, none⟩), .pointer (some ⟨w4.heap.size, 0, none⟩)]⟩) 172
    rw [World.size_alloc] at hnw
    have Hnw := Lib.hid hnw
    have Hown := Lib.hid hown
    have Hclose := Lib.hid hclose
    clear hnw
    have Hb5 := Lib.hid (Hb3.out.trans ((Hbr.out.trans (hbr5.mono Hbr.out.size)).mono Hb3.out.size))
    have hcl := cleanM_len [cutB, newB] M
    simp only [List.length_cons, List.length_nil] at hcl
    clear hown hclose hlt4 k1 k2 hS5 hbr5 hb45 hb4
    go_wp2_with (at_builtin; refine wpList_append_own_at _ rfl _ _ 120 rfl w3.heap.size 172 i0 .nilFunc 1 8 Tryz.underlying120 hi hz0 hz1 hz2 rfl (by decide) _ _ _ rfl Hown.out ⟨_, 0, none⟩ 1 1 [skV ⟨112, #[.pointer (some ⟨w.heap.size + 1, 0, none⟩), .pointer (some ⟨w4.heap.size, 0, none⟩)]⟩] rfl rfl Hnw.out (by simp [Value.oneCell', skV]) (by rw [maxLen_nat]; omega) (by omega) hG ?_; intro v' w6 hown' hgrow _ hblk)
    go_ret
    obtain ⟨q1, q2, _⟩ := Hclose.out _ _ hown' hgrow hblk
    exact ⟨v', rfl, q1.base (by omega), Hb5.out.trans (q2.mono (by omega))⟩
end Go.Proofs.YtnbddiiedagllaaGreat

/- The walk of scan's Open on a disk without files. -/
namespace Go.Proofs.YtnbddiiedagllaaGreat
open Go.RowKit Go.Maps Go.Shelf

attribute [local go_sem ↓] Go.wp_at_zero Go.wp_at_succ

theorem segs_none {M : DM} (hf : M.fs = []) : SegsOf M [] := by
 unfold SegsOf
 rw [hf]
 refine ⟨List.Pairwise.nil, fun x => ⟨fun h => by simp at h, fun h => ?_⟩⟩
 obtain ⟨a, b⟩ := h
 simp at b

def repK (b1 b2 : Nat) : SK := ⟨112, #[.pointer (some ⟨b1, 0, none⟩), .pointer (some ⟨b2, 0, none⟩)]⟩

theorem repK_ent (b1 b2 : Nat) (args : Array Value) (w : World) : (callFunc (repK b1 b2).k args).run Tryz.prog w = .ok (.enter (repK b1 b2).k args) w := by
 kernel_rfl

theorem take_rep {w0 : World} {X : Nat → Prop} {w : World} {d : Nat} {M : DM} (hO : Own w0 X w d M) (hf : M.fs = []) (hc : (createM (nmB 1) M).2 = 0) (r c b1 b2 : Nat)
  (k0 : w.cell? ⟨r, 0, none⟩ = some (skV (repK b1 b2))) (k1 : w.cell? ⟨b1, 0, none⟩ = some (.pointer (some ⟨d, 0, none⟩))) (k2 : w.cell? ⟨b2, 0, none⟩ = some (encStr (nmB 1))) :
  Calls Tryz.prog 65 #[.slice (some ⟨r, 0, none⟩) 1 c] w fun e w' => e = .returned (.int .i64 0) ∧ OwnEnd w0 X w d (createM (nmB 1) M).1 w' := by
 refine (stake_any (some ⟨r, 0, none⟩) 1 c [repK b1 b2] rfl (by decide) (fun j w' => (j = 0 ∧ w' = w) ∨ (j = 1 ∧ OwnEnd w0 X w d (createM (nmB 1) M).1 w')) (fun _ _ => False) w ?_ (.inl ⟨rfl, rfl⟩) ?_ ?_).mono ?_
 ·intro j hj args w'
  obtain rfl : j = 0 := by simpa using hj
  exact repK_ent b1 b2 args w'
 ·intro _
  refine ⟨r, 0, rfl, fun j hj w' hJ => ?_⟩
  obtain rfl : j = 0 := by simpa using hj
  rcases hJ with ⟨_, rfl⟩ | ⟨h, _⟩
  ·exact k0
  ·cases h
 ·intro j hj w' hJ
  obtain rfl : j = 0 := by simpa using hj
  rcases hJ with ⟨_, rfl⟩ | ⟨h, _⟩
  ·refine (do_creating hO b1 b2 (nmB 1) (nmB_len 1) (by rw [hf]; decide) k2 k1).mono ?_
   rintro e w2 ⟨rfl, hq⟩
   exact ⟨_, rfl, fun _ => .inr ⟨rfl, hq⟩, fun h => absurd hc h⟩
  ·cases h
 ·rintro e w' ⟨z, rfl, hz, hn⟩
  by_cases h : z = 0
  ·subst h
   rcases hz rfl with ⟨h, _⟩ | ⟨_, h⟩
   ·cases h
   ·exact ⟨rfl, h⟩
  ·exact (hn h).elim

set_option maxRecDepth 100000 in
set_option maxHeartbeats 3200000 in
theorem sopen_empty {w0 : World} {X : Nat → Prop} {w : World} {d : Nat} {M : DM} (hO : Own w0 X w d M) (hd : M.down = false) (hf : M.fs = []) (hc : (createM (nmB 1) M).2 = 0) (most : Int) :
  Calls Tryz.prog 21 #[.pointer (some ⟨d, 0, none⟩), .int .i64 most] w fun e w' => ∃ g, e = .returned (.tuple #[.pointer (some ⟨g, 0, none⟩), .slice none 0 0, .int .i64 0]) ∧ LogAt w0 (fun b => X b ∨ b = g) w' g d ⟨(createM (nmB 1) M).1, most, 1, 0, 0⟩ ∧ (∀ b, X b → w'.heap[b]? = w.heap[b]?) := by
 have HF := Lib.hid (find_none hO hd (by rw [hf]; decide) (by rw [hf]; intro _ h; cases h) (segs_none hf))
 have HR := Lib.hid (fun w1 (hb : Below w.heap.size w w1) => repairs_empty (hO.below hb) hf)
 have HT := Lib.hid (fun w1 (hb : Below w.heap.size w w1) => take_rep (hO.more hb (Y := fun b => X b ∨ (w.heap.size ≤ b ∧ b < w1.heap.size)) (fun _ h => h)) hf hc)
 have hw0 := fun W => wnew_any d 1 0 most W
 simp only [Int.natCast_one, Int.natCast_zero] at hw0
 have HW := Lib.hid hw0
 clear hw0
 have Hsz := Lib.hid hO.base.size
 have HX := Lib.hid (show ∀ b, X b → b < w.heap.size by obtain ⟨_, _, _, h, _⟩ := hO; exact h)
 clear hO hd hf hc
 go_enter Tryz.func21, Tryz.ntmps21
 go_wp2_with fail
 refine HF.out.mono ?_
 rintro e w1 ⟨rfl, hb⟩
 unfold found1 fd1 foundV
 obtain ⟨w2, hw2⟩ : ∃ w2, w2 = w1.alloc (.cells #[.slice none 0 0, .slice none 0 0, .int .i64 1, .bool false, .slice none 0 0, .slice none 0 0, .int .i64 0, .bool true] 107) := ⟨_, rfl⟩
 have hb2 : Below w.heap.size w w2 := by rw [hw2]; exact hb.alloc hb.size _
 have hB2 : w2.heap[w1.heap.size]? = some (.cells #[.slice none 0 0, .slice none 0 0, .int .i64 1, .bool false, .slice none 0 0, .slice none 0 0, .int .i64 0, .bool true] 107 (0, 0)) := by rw [hw2]; exact heap_alloc_new _ _
 have Hb2 := Lib.hid hb2
 have HB2 := Lib.hid hB2
 have hz := hb.size
 have HR2 := Lib.hid (HR.out w2 hb2)
 unfold found1 fd1 foundV at HR2
 clear hb hb2 hB2
 go_wp2_with fail
 rw [← hw2]
 refine HR2.out.mono ?_
 rintro e w3 ⟨r, c, p1, p2, rfl, gr, g1, g2, k0, k1, k2, hb3⟩
 have Hb3 := Lib.hid (Hb2.out.trans (hb3.mono Hb2.out.size))
 have HT3 := Lib.hid (HT.out w3 Hb3.out r c p1 p2 k0 k1 k2)
 have hB3 := (hb3.block _ (Array.getElem?_eq_some_iff.1 HB2.out).1).trans HB2.out
 have HB3 := Lib.hid hB3
 clear hb3 hB3 gr g1 g2 k0 k1 k2 hw2
 go_wp2_with fail
 refine HT3.out.mono ?_
 rintro e w4 ⟨rfl, ho4, hx4, hb4, hz4⟩
 have hB4 := (hx4 w1.heap.size (.inr ⟨hz, (Array.getElem?_eq_some_iff.1 HB3.out).1⟩)).trans HB3.out
 obtain ⟨c0, c1, c2, c3, c4, c5, c6, c7, cf⟩ := box8 hB4
 have Ho4 := Lib.hid ho4
 have Hx4 := Lib.hid hx4
 have hlt4 := (Array.getElem?_eq_some_iff.1 hB4).1
 have HK := Lib.hid (fun W (h : Below w4.heap.size w4 W) => And.intro ((h.cell (p := ⟨w1.heap.size, 0, none⟩) hlt4).trans c0) (And.intro ((h.cell (p := ⟨w1.heap.size, 2, none⟩) hlt4).trans c2) ((h.cell (p := ⟨w1.heap.size, 5, none⟩) hlt4).trans c5)))
 clear ho4 hx4 hb4 hB4
 go_upto_region 6 with fail
 go_cut [4, 5, 6] (fun p q z wx => ∃ g, p = .pointer (some ⟨g, 0, none⟩) ∧ q = .slice none 0 0 ∧ z = .int .i64 0 ∧ w4.heap.size ≤ g ∧ wx.heap[g]? = some (.cells #[.int .i64 1, .int .i64 0, .int .i64 0, .pointer (some ⟨d, 0, none⟩), .int .i64 most] 129 (0, 0)) ∧ Below w4.heap.size w4 wx)
 case first =>
  go_region_held3 (fun w' => w'.cell? ⟨w1.heap.size, 0, none⟩ = some (.slice none 0 0) ∧ w'.cell? ⟨w1.heap.size, 2, none⟩ = some (.int .i64 1) ∧ w'.cell? ⟨w1.heap.size, 5, none⟩ = some (.slice none 0 0))
   (first | exact HK.out _ (by (repeat (first | assumption | exact Below.refl _ _ | refine Below.drew ?_ | refine Below.alloc ?_ (by (first | exact Nat.le_refl _ | (simp; done) | (simp; omega) | omega)) _))))
   (first
    | (go_at_call 67; (with_reducible refine (HW.out _).mono ?_); rintro e w5 ⟨rfl, rfl⟩))
  all_goals go_wp2_with fail
  all_goals go_meet
  all_goals exact ⟨_, rfl, rfl, rfl, Nat.le_refl _, heap_alloc_new _ _, by (repeat (first | assumption | exact Below.refl _ _ | refine Below.drew ?_ | refine Below.alloc ?_ (by (first | exact Nat.le_refl _ | (simp; done) | (simp; omega) | omega)) _))⟩
 case rest =>
  obtain ⟨g, rfl, rfl, rfl, hg, hG, hb5⟩ := hcut
  have Hb5 := Lib.hid hb5
  have HG := Lib.hid hG
  clear hb5 hG
  go_wp2
  refine bodyPost_ret (results_tmp3 rfl _ _ _) rfl ?_
  refine ⟨g, rfl, ⟨?_, .inr rfl, ?_, ?_⟩, ?_⟩
  ·exact (Ho4.out.sub (fun b hb => Or.inl hb)).more Hb5.out (fun b hb => hb.elim .inl (fun h => .inr ⟨by omega, by have := (Array.getElem?_eq_some_iff.1 HG.out).1; omega⟩))
  ·have := Hsz.out
   omega
  ·exact HG.out
  ·intro b hb
   have h1 := HX.out b hb
   exact (Hb5.out.block b (by omega)).trans ((Hx4.out b (.inl hb)).trans (Hb3.out.block b h1))
end Go.Proofs.YtnbddiiedagllaaGreat

