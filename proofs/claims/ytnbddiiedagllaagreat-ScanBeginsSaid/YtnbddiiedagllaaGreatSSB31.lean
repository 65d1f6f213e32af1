import Derived.Test.YtnbddiiedagllaaGreatSSB29
import Derived.Test.YtnbddiiedagllaaGreatSSB30
import Derived.Test.YtnbddiiedagllaaGreatShelf
import Derived.Test.YtnbddiiedagllaaGreatSSB21
import Derived.Maps.AppendAt
import Derived.Test.YtnbddiiedagllaaGreatSSB25
import Derived.Test.YtnbddiiedagllaaGreatSSB27
import Derived.Test.YtnbddiiedagllaaGreatSSB5
import Derived.Deep.RegionLaw
/- Steps that make changes of a disk: a row of them makes the changes up to the first that fails. -/
namespace Go.Proofs.YtnbddiiedagllaaGreat
open Go.RowKit Go.Maps Go.Shelf

def soM (x : SO) (M : DM) : DM × Int := stepM x.k x.nm x.tt x.bs M

def Does (w0 : World) (Y : Nat → Prop) (d : Nat) (w1 : World) (K : SK) (x : SO) : Prop :=
 (∀ args w, (callFunc K.k args).run Tryz.prog w = .ok (.enter K.k args) w) ∧
 ∀ (M : DM) (w : World), Own w0 Y w d M → (∀ b, Y b → w.heap[b]? = w1.heap[b]?) → w1.heap.size ≤ w.heap.size → M.fs.length < 1000000 → usedF M.fs ≤ 100000000 → Calls Tryz.prog K.k K.caps w (OwnAct w0 Y w d (soM x M))

theorem stepsM_drop {ops : List SO} {j : Nat} (hj : j < ops.length) (M' : DM) : stepsM (ops.drop j) M' = if (soM ops[j] M').2 = 0 then stepsM (ops.drop (j + 1)) (soM ops[j] M').1 else soM ops[j] M' := by
 rw [List.drop_eq_getElem_cons hj]
 rfl

set_option maxRecDepth 100000 in
theorem take_does {w0 : World} {Y : Nat → Prop} {w1 : World} {d : Nat} {M : DM} (hO : Own w0 Y w1 d M) (a : Option Addr) (n cap : Nat) (L : List SK) (ops : List SO) (hL : L.length = n) (ho : ops.length = n) (hm : n ≤ 1000) {N U T : Nat} (hnt : Neat M N U) (hT : ∀ x ∈ ops, x.bs.length ≤ T) (hN : N ≤ 900000) (hU : U + 1000 * T ≤ 10000000)
  (hrow : 0 < n → ∃ b o, a = some ⟨b, o, none⟩ ∧ Y b ∧ ∀ j (hj : j < L.length), w1.cell? ⟨b, o + j, none⟩ = some (skV L[j])) (hd : ∀ j (h : j < L.length) (h' : j < ops.length), Does w0 Y d w1 L[j] ops[j]) :
  Calls Tryz.prog 65 #[.slice a n cap] w1 fun e w' => e = .returned (.int .i64 (stepsM ops M).2) ∧ OwnEnd w0 Y w1 d (stepsM ops M).1 w' := by
 refine (stake_any a n cap L hL hm (fun j w' => ∃ M', stepsM ops M = stepsM (ops.drop j) M' ∧ Neat M' (N + j) (U + j * T) ∧ OwnEnd w0 Y w1 d M' w') (fun z w' => (stepsM ops M).2 = z ∧ OwnEnd w0 Y w1 d (stepsM ops M).1 w') w1 ?_ ?_ ?_ ?_).mono ?_
 ·exact fun j hj args w => (hd j hj (by rw [ho, ← hL]; exact hj)).1 args w
 ·exact ⟨M, by rw [List.drop_zero], by simpa using hnt, hO, fun _ _ => rfl, Below.refl _ _, Nat.le_refl _⟩
 ·intro hn
  obtain ⟨b, o, e, hY, hc⟩ := hrow hn
  refine ⟨b, o, e, fun j hj w' hJ => ?_⟩
  obtain ⟨M', _, _, _, hk, _, _⟩ := hJ
  exact (World.cell?_of_block (a := ⟨b, o + j, none⟩) (hk b hY)).trans (hc j hj)
 ·intro j hj w' hJ
  have hjo : j < ops.length := by rw [ho, ← hL]; exact hj
  obtain ⟨M', hE, hN', hOw, hk, hb, hz⟩ := hJ
  have hjT : j * T ≤ 1000 * T := Nat.mul_le_mul_right T (by omega)
  have hsm := hN'.small
  refine ((hd j hj hjo).2 M' w' hOw hk hz (by have := hsm.files; omega) (by have := hsm.used; omega)).mono ?_
  rintro e w2 ⟨rfl, hO2, hk2, hb2, hz2⟩
  have hEnd : OwnEnd w0 Y w1 d (soM ops[j] M').1 w2 := ⟨hO2, fun b hb => (hk2 b hb).trans (hk b hb), hb.trans hb2, Nat.le_trans hz hz2⟩
  rw [stepsM_drop hjo] at hE
  refine ⟨(soM ops[j] M').2, rfl, fun h0 => ⟨(soM ops[j] M').1, by rw [hE, if_pos h0], ?_, hEnd⟩, fun h0 => ?_⟩
  ·have h1 := stepM_neat hN' ops[j].k ops[j].nm ops[j].tt ops[j].bs
   have h2 := hT ops[j] (List.getElem_mem hjo)
   exact h1.mono (by omega) (by rw [Nat.succ_mul]; omega)
  ·rw [hE, if_neg h0]
   exact ⟨rfl, hEnd⟩
 ·rintro e w' ⟨z, rfl, h0, hn⟩
  by_cases hz : z = 0
  ·subst hz
   obtain ⟨M', hE, _, hEnd⟩ := h0 rfl
   rw [List.drop_of_length_le (by omega)] at hE
   rw [hE]
   exact ⟨rfl, hEnd⟩
  ·obtain ⟨h1, h2⟩ := hn hz
   rw [h1]
   exact ⟨rfl, h2⟩

section
variable {w0 : World} {Y : Nat → Prop} {d : Nat} {w1 : World}

theorem cell_y {w : World} {b : Nat} {v : Value} (hk : ∀ b, Y b → w.heap[b]? = w1.heap[b]?) (hY : Y b) (h : w1.cell? ⟨b, 0, none⟩ = some v) : w.cell? ⟨b, 0, none⟩ = some v :=
 (World.cell?_of_block (a := ⟨b, 0, none⟩) (hk b hY)).trans h

theorem does_removing {b1 b2 : Nat} {nm : List UInt8} (hn : nm.length ≤ 9223372036854775807) (y1 : Y b1) (y2 : Y b2) (k1 : w1.cell? ⟨b1, 0, none⟩ = some (.pointer (some ⟨d, 0, none⟩))) (k2 : w1.cell? ⟨b2, 0, none⟩ = some (encStr nm)) :
  Does w0 Y d w1 ⟨151, #[.pointer (some ⟨b1, 0, none⟩), .pointer (some ⟨b2, 0, none⟩)]⟩ ⟨5, nm, [], []⟩ :=
 ⟨fun args w => by kernel_rfl, fun M w hO hk hz hl hu => do_removing hO b1 b2 nm hn (cell_y hk y2 k2) (cell_y hk y1 k1)⟩

theorem does_creating {b1 b2 : Nat} {nm : List UInt8} (hn : nm.length ≤ 9223372036854775807) (y1 : Y b1) (y2 : Y b2) (k1 : w1.cell? ⟨b1, 0, none⟩ = some (.pointer (some ⟨d, 0, none⟩))) (k2 : w1.cell? ⟨b2, 0, none⟩ = some (encStr nm)) :
  Does w0 Y d w1 ⟨112, #[.pointer (some ⟨b1, 0, none⟩), .pointer (some ⟨b2, 0, none⟩)]⟩ ⟨1, nm, [], []⟩ :=
 ⟨fun args w => by kernel_rfl, fun M w hO hk hz hl hu => do_creating hO b1 b2 nm hn hl (cell_y hk y2 k2) (cell_y hk y1 k1)⟩

theorem does_syncing {b1 b2 : Nat} {nm : List UInt8} (hn : nm.length ≤ 9223372036854775807) (y1 : Y b1) (y2 : Y b2) (k1 : w1.cell? ⟨b1, 0, none⟩ = some (.pointer (some ⟨d, 0, none⟩))) (k2 : w1.cell? ⟨b2, 0, none⟩ = some (encStr nm)) :
  Does w0 Y d w1 ⟨114, #[.pointer (some ⟨b1, 0, none⟩), .pointer (some ⟨b2, 0, none⟩)]⟩ ⟨3, nm, [], []⟩ :=
 ⟨fun args w => by kernel_rfl, fun M w hO hk hz hl hu => do_syncing hO b1 b2 nm hn (cell_y hk y2 k2) (cell_y hk y1 k1)⟩

theorem does_cut1 {b1 : Nat} (y1 : Y b1) (k1 : w1.cell? ⟨b1, 0, none⟩ = some (.pointer (some ⟨d, 0, none⟩))) :
  Does w0 Y d w1 ⟨153, #[.pointer (some ⟨b1, 0, none⟩)]⟩ ⟨1, cutB, [], []⟩ :=
 ⟨fun args w => by kernel_rfl, fun M w hO hk hz hl hu => do_cut1 hO b1 hl (cell_y hk y1 k1)⟩

theorem does_cut2 {b1 b3 : Nat} {p : Option Addr} {m c : Nat} {l : List Nat} (hB : Bytes w1 p m c l) (hp : 0 < m → ∀ a, p = some a → Y a.block) (hl : l.length ≤ 1000000) (y1 : Y b1) (y3 : Y b3) (k1 : w1.cell? ⟨b1, 0, none⟩ = some (.pointer (some ⟨d, 0, none⟩))) (k3 : w1.cell? ⟨b3, 0, none⟩ = some (.slice p m c)) :
  Does w0 Y d w1 ⟨154, #[.pointer (some ⟨b1, 0, none⟩), .pointer (some ⟨b3, 0, none⟩)]⟩ ⟨2, cutB, [], l⟩ :=
 ⟨fun args w => by kernel_rfl, fun M w hO hk hz hlm hu => do_cut2 hO b1 b3 p m c l (hB.moved (fun h0 x hx => hk _ (hp h0 x hx))) (fun h0 x hx => .inl (hp h0 x hx)) (by omega) (cell_y hk y3 k3) (cell_y hk y1 k1)⟩

theorem does_cut3 {b1 : Nat} (y1 : Y b1) (k1 : w1.cell? ⟨b1, 0, none⟩ = some (.pointer (some ⟨d, 0, none⟩))) :
  Does w0 Y d w1 ⟨155, #[.pointer (some ⟨b1, 0, none⟩)]⟩ ⟨3, cutB, [], []⟩ :=
 ⟨fun args w => by kernel_rfl, fun M w hO hk hz hl hu => do_cut3 hO b1 (cell_y hk y1 k1)⟩

theorem does_cut4 {b1 b2 : Nat} {nm : List UInt8} (hn : nm.length ≤ 9223372036854775807) (y1 : Y b1) (y2 : Y b2) (k1 : w1.cell? ⟨b1, 0, none⟩ = some (.pointer (some ⟨d, 0, none⟩))) (k2 : w1.cell? ⟨b2, 0, none⟩ = some (encStr nm)) :
  Does w0 Y d w1 ⟨156, #[.pointer (some ⟨b1, 0, none⟩), .pointer (some ⟨b2, 0, none⟩)]⟩ ⟨4, cutB, nm, []⟩ :=
 ⟨fun args w => by kernel_rfl, fun M w hO hk hz hl hu => do_cut4 hO b1 b2 nm hn hl (cell_y hk y2 k2) (cell_y hk y1 k1)⟩
end
end Go.Proofs.YtnbddiiedagllaaGreat

/- The walk of scan's Open on a disk without files, and of the statements' example. -/
namespace Go.Proofs.YtnbddiiedagllaaGreat
open Go.RowKit Go.Maps Go.Shelf

theorem info_step : (Tryz.prog.info? 172).map (fun i => (i.zero, i.size, i.bytes)) = some (some .nilFunc, 1, 8) := by kernel_rfl

theorem new_cell {w : World} {b i : Nat} {cs : Array Value} {t : TypeId} {v : Value} (hb : b = w.heap.size) (hv : cs[i]? = some v) : (w.alloc (.cells cs t)).drew.cell? ⟨b, i, none⟩ = some v := by
 subst hb
 show (w.alloc (.cells cs t)).cell? _ = _
 rw [cell_of_row _ _ _ _ _ (0, 0) (heap_alloc_new _ _)]
 exact hv

set_option maxRecDepth 100000 in
set_option maxHeartbeats 3200000 in
theorem repairs_empty {w0 : World} {X : Nat → Prop} {w : World} {d : Nat} {M : DM} (hO : Own w0 X w d M) (hf : M.fs = []) :
  Calls Tryz.prog 66 #[found1, .pointer (some ⟨d, 0, none⟩)] w fun e w' => ∃ r c b1 b2, e = .returned (.slice (some ⟨r, 0, none⟩) 1 c) ∧ w.heap.size ≤ r ∧ w.heap.size ≤ b1 ∧ w.heap.size ≤ b2 ∧
   w'.cell? ⟨r, 0, none⟩ = some (skV ⟨112, #[.pointer (some ⟨b1, 0, none⟩), .pointer (some ⟨b2, 0, none⟩)]⟩) ∧ w'.cell? ⟨b1, 0, none⟩ = some (.pointer (some ⟨d, 0, none⟩)) ∧ w'.cell? ⟨b2, 0, none⟩ = some (encStr (nmB 1)) ∧ Below w.heap.size w w' := by
 have HO := Lib.hid (fun W (hW : Below w.heap.size w W) => own_list (hO.below hW) (by rw [hf]; decide))
 rw [hf] at HO
 clear hO hf
 unfold found1 fd1 foundV
 go_enter Tryz.func66, Tryz.ntmps66
 go_wp2_with fail
 obtain ⟨w1, hw1⟩ : ∃ w1, w1 = (w.alloc (.cells #[.slice none 0 0, .slice none 0 0, .int .i64 1, .bool false, .slice none 0 0, .slice none 0 0, .int .i64 0, .bool true] 107)).alloc (.cells #[.pointer (some ⟨d, 0, none⟩)] 23) := ⟨_, rfl⟩
 rw [← hw1]
 have hb1 : Below w.heap.size w w1 := by rw [hw1]; exact ((Below.refl _ _).alloc (Nat.le_refl _) _).alloc (by simp) _
 have hz1 : w1.heap.size = w.heap.size + 2 := by rw [hw1]; simp
 have hB1 : w1.heap[w.heap.size]? = some (.cells #[.slice none 0 0, .slice none 0 0, .int .i64 1, .bool false, .slice none 0 0, .slice none 0 0, .int .i64 0, .bool true] 107 (0, 0)) := by rw [hw1]; exact (Below.heap_alloc _ _ _ (by simp)).trans (heap_alloc_new _ _)
 have hB2 : w1.heap[w.heap.size + 1]? = some (.cells #[.pointer (some ⟨d, 0, none⟩)] 23 (0, 0)) := by
  have := heap_alloc_new (w.alloc (.cells #[.slice none 0 0, .slice none 0 0, .int .i64 1, .bool false, .slice none 0 0, .slice none 0 0, .int .i64 0, .bool true] 107)) (.cells #[.pointer (some ⟨d, 0, none⟩)] 23)
  rw [World.size_alloc] at this
  rw [hw1]; exact this
 have Hb1 := Lib.hid hb1
 have HB1 := Lib.hid hB1
 have HB2 := Lib.hid hB2
 have Hz1 := Lib.hid hz1
 have HL := Lib.hid (HO.out w1 hb1)
 clear hw1 hb1 hz1 hB1 hB2 HO
 refine HL.out.mono ?_
 rintro e w2 ⟨v2, rfl, hown2, hb2⟩
 obtain ⟨p2, k2, rfl, _⟩ := strs_row (ns := []) hown2 (fun n hn => by cases hn)
 have Hb2 := Lib.hid hb2
 have HCn := Lib.hid (fun x W => Tryz.slices_Contains_string_empty p2 k2 x W)
 clear hown2 hb2
 go_wp2_with fail
 obtain ⟨w3, hw3⟩ : ∃ w3, w3 = w2.alloc (.cells #[.string ⟨#[99, 117, 116]⟩, .string ⟨#[110, 101, 119]⟩] 9) := ⟨_, rfl⟩
 rw [← hw3]
 have hb3 : Below w2.heap.size w2 w3 := by rw [hw3]; exact (Below.refl _ _).alloc (Nat.le_refl _) _
 have hR3 : w3.heap[w2.heap.size]? = some (.cells #[.string ⟨#[99, 117, 116]⟩, .string ⟨#[110, 101, 119]⟩] 9 (0, 0)) := by rw [hw3]; exact heap_alloc_new _ _
 have r0 : w3.cell? ⟨w2.heap.size, 0, none⟩ = some (.string ⟨#[99, 117, 116]⟩) := by rw [cell_of_row _ _ _ _ _ (0, 0) hR3]; rfl
 have r1 : w3.cell? ⟨w2.heap.size, 1, none⟩ = some (.string ⟨#[110, 101, 119]⟩) := by rw [cell_of_row _ _ _ _ _ (0, 0) hR3]; rfl
 have Hb3 := Lib.hid (Hb1.out.trans ((Hb2.out.trans (hb3.mono Hb2.out.size)).mono Hb1.out.size))
 have Hb13 := Lib.hid (Hb2.out.trans (hb3.mono Hb2.out.size))
 clear hw3 hb3 hR3
 go_loopw [6, 16] (fun s i wr => s = .slice none 0 0 ∧ ∃ j : Nat, j ≤ 2 ∧ i = .int .i64 (j : Int) ∧ wr = w3) (fun _ i _ => 2 - (intOf i).toNat)
 case atStart => exact ⟨rfl, 0, Nat.zero_le _, rfl, rfl⟩
 case round =>
  obtain ⟨rfl, j, hj, rfl, rfl⟩ := hrel
  rcases (show j = 0 ∨ j = 1 ∨ j = 2 by omega) with rfl | rfl | rfl
  ·go_wp2_with fail
   refine (HCn.out _ _).mono ?_
   rintro e w4 ⟨rfl, rfl⟩
   go_wp2
   go_roundw
   case rel => exact ⟨rfl, 1, by omega, rfl, trivial⟩
   case measure => simp [intOf]
  ·go_wp2_with fail
   refine (HCn.out _ _).mono ?_
   rintro e w4 ⟨rfl, rfl⟩
   go_wp2
   go_roundw
   case rel => exact ⟨rfl, 2, by omega, rfl, trivial⟩
   case measure => simp [intOf]
  ·obtain ⟨c0, c1, c2, c3, c4, c5, c6, c7, cf⟩ := box8 ((Hb13.out.block _ (Array.getElem?_eq_some_iff.1 HB1.out).1).trans HB1.out)
   have HF := Lib.hid (fun W => sfile_any 1 W (by omega) (by omega))
   go_wp2_with fail
   refine (HF.out _).mono ?_
   rintro e w4 ⟨rfl, hb4⟩
   have Hb4 := Lib.hid (Hb3.out.trans (hb4.mono Hb3.out.size))
   have hq1 := (((Hb13.out.trans (hb4.mono Hb13.out.size)).block _ (Array.getElem?_eq_some_iff.1 HB1.out).1).trans HB1.out)
   have e7 := fun o => row_alloc' hq1 o 7
   simp only [List.getElem?_toArray, List.getElem?_cons_zero, List.getElem?_cons_succ] at e7
   have hB2 := ((Hb13.out.trans (hb4.mono Hb13.out.size)).block _ (Array.getElem?_eq_some_iff.1 HB2.out).1).trans HB2.out
   have HB2' := Lib.hid hB2
   clear hb4 hB2 hq1
   go_wp2_with fail
   go_ret
   have hs4 := Hb4.out.size
   refine ⟨w4.heap.size + 1 + 1, _, w.heap.size + 1, w4.heap.size, rfl, by omega, by omega, hs4, ?_, ?_, ?_, ?_⟩
   ·exact new_cell (by simp) (by rw [Array.getElem?_append_left (by simp)]; rfl)
   ·refine cell_keep ((((Below.refl w4.heap.size w4).alloc (Nat.le_refl _) _).alloc (by simp) _).alloc (by simp; omega) _).drew ?_
    rw [cell_of_row _ _ _ _ _ (0, 0) HB2'.out]
    rfl
   ·refine cell_keep (w := w4.alloc (.cells #[.string ⟨(nmB 1).toArray⟩] 9)) (((Below.refl _ _).alloc (Nat.le_refl _) _).alloc (by simp) _).drew ?_
    rw [cell_of_row _ _ _ _ _ (0, 0) (heap_alloc_new _ _)]
    rfl
   ·exact (((Hb4.out.alloc hs4 _).alloc (by simp; omega) _).alloc (by simp; omega) _).drew
end Go.Proofs.YtnbddiiedagllaaGreat

/- The walks of removing and cutting, which make steps, and of the statements' opened. -/
namespace Go.Proofs.YtnbddiiedagllaaGreat
open Go.RowKit Go.Maps Go.Shelf

attribute [local go_sem ↓] Go.wp_at_zero Go.wp_at_succ

set_option maxRecDepth 100000 in
theorem removing_any (d : Nat) (nm : List UInt8) (w : World) :
  Calls Tryz.prog 110 #[.pointer (some ⟨d, 0, none⟩), encStr nm] w fun e w' => ∃ b1 b2, e = .returned (skV ⟨151, #[.pointer (some ⟨b1, 0, none⟩), .pointer (some ⟨b2, 0, none⟩)]⟩) ∧ w.heap.size ≤ b1 ∧ w.heap.size ≤ b2 ∧
   w'.cell? ⟨b1, 0, none⟩ = some (.pointer (some ⟨d, 0, none⟩)) ∧ w'.cell? ⟨b2, 0, none⟩ = some (encStr nm) ∧ Below w.heap.size w w' := by
 unfold encStr
 go_enter Tryz.func110, Tryz.ntmps110
 go_wp2
 go_ret
 refine ⟨w.heap.size, w.heap.size + 1, rfl, Nat.le_refl _, Nat.le_succ _, ?_, ?_, ((Below.refl _ _).alloc (Nat.le_refl _) _).alloc (by simp) _⟩
 ·rw [cell_of_row _ _ _ _ _ (0, 0) ((Below.heap_alloc _ _ _ (by simp)).trans (heap_alloc_new w (.cells #[.pointer (some ⟨d, 0, none⟩)] 23)))]
  rfl
 ·have h2 := heap_alloc_new (w.alloc (.cells #[.pointer (some ⟨d, 0, none⟩)] 23)) (.cells #[.string ⟨nm.toArray⟩] 9)
  rw [World.size_alloc] at h2
  rw [cell_of_row _ _ _ _ _ (0, 0) h2]
  rfl

set_option maxRecDepth 100000 in
theorem cutting_any (d : Nat) (nm : List UInt8) (p : Option Addr) (n c : Nat) (w : World) :
  Calls Tryz.prog 113 #[.pointer (some ⟨d, 0, none⟩), encStr nm, .slice p n c] w fun e w' => ∃ r b1 b2 b3, e = .returned (.slice (some ⟨r, 0, none⟩) 4 4) ∧ w.heap.size ≤ r ∧ w.heap.size ≤ b1 ∧ w.heap.size ≤ b2 ∧ w.heap.size ≤ b3 ∧
   w'.cell? ⟨b1, 0, none⟩ = some (.pointer (some ⟨d, 0, none⟩)) ∧ w'.cell? ⟨b2, 0, none⟩ = some (encStr nm) ∧ w'.cell? ⟨b3, 0, none⟩ = some (.slice p n c) ∧
   w'.cell? ⟨r, 0, none⟩ = some (skV ⟨153, #[.pointer (some ⟨b1, 0, none⟩)]⟩) ∧ w'.cell? ⟨r, 1, none⟩ = some (skV ⟨154, #[.pointer (some ⟨b1, 0, none⟩), .pointer (some ⟨b3, 0, none⟩)]⟩) ∧
   w'.cell? ⟨r, 2, none⟩ = some (skV ⟨155, #[.pointer (some ⟨b1, 0, none⟩)]⟩) ∧ w'.cell? ⟨r, 3, none⟩ = some (skV ⟨156, #[.pointer (some ⟨b1, 0, none⟩), .pointer (some ⟨b2, 0, none⟩)]⟩) ∧ Below w.heap.size w w' := by
 unfold encStr
 go_enter Tryz.func113, Tryz.ntmps113
 go_wp2
 go_ret
 generalize hf : (#[.func (.func 153) #[] #[.pointer (some ⟨w.heap.size, 0, none⟩)], .func (.func 154) #[] #[.pointer (some ⟨w.heap.size, 0, none⟩), .pointer (some ⟨w.heap.size + 1 + 1, 0, none⟩)], .func (.func 155) #[] #[.pointer (some ⟨w.heap.size, 0, none⟩)], .func (.func 156) #[] #[.pointer (some ⟨w.heap.size, 0, none⟩), .pointer (some ⟨w.heap.size + 1, 0, none⟩)]] : Array Value) = fs
 have e1 := heap_alloc_new w (.cells #[.pointer (some ⟨d, 0, none⟩)] 23)
 generalize hw1 : w.alloc (.cells #[.pointer (some ⟨d, 0, none⟩)] 23) = w1 at *
 have s1 : w1.heap.size = w.heap.size + 1 := by rw [← hw1, World.size_alloc]
 have e2 := heap_alloc_new w1 (.cells #[.string ⟨nm.toArray⟩] 9)
 have t1 := (Below.heap_alloc w1 (.cells #[.string ⟨nm.toArray⟩] 9) w.heap.size (by omega)).trans e1
 generalize hw2 : w1.alloc (.cells #[.string ⟨nm.toArray⟩] 9) = w2 at *
 have s2 : w2.heap.size = w.heap.size + 2 := by rw [← hw2, World.size_alloc]; omega
 have e3 := heap_alloc_new w2 (.cells #[.slice p n c] 58)
 have t2 := (Below.heap_alloc w2 (.cells #[.slice p n c] 58) w.heap.size (by omega)).trans t1
 have u2 := (Below.heap_alloc w2 (.cells #[.slice p n c] 58) w1.heap.size (by omega)).trans e2
 generalize hw3 : w2.alloc (.cells #[.slice p n c] 58) = w3 at *
 have s3 : w3.heap.size = w.heap.size + 3 := by rw [← hw3, World.size_alloc]; omega
 have e4 := heap_alloc_new w3 (.cells fs 172)
 have t3 := (Below.heap_alloc w3 (.cells fs 172) w.heap.size (by omega)).trans t2
 have u3 := (Below.heap_alloc w3 (.cells fs 172) w1.heap.size (by omega)).trans u2
 have v3 := (Below.heap_alloc w3 (.cells fs 172) w2.heap.size (by omega)).trans e3
 rw [s1] at u3
 rw [s2] at v3
 rw [s3] at e4
 have hb : Below w.heap.size w (w3.alloc (.cells fs 172)) := by
  rw [← hw3, ← hw2, ← hw1]
  exact ((((Below.refl _ _).alloc (Nat.le_refl _) _).alloc (by simp) _).alloc (by simp; omega) _).alloc (by simp; omega) _
 refine ⟨w.heap.size + 3, w.heap.size, w.heap.size + 1, w.heap.size + 2, rfl, by omega, Nat.le_refl _, by omega, by omega, ?_, ?_, ?_, ?_, ?_, ?_, ?_, hb⟩
 ·rw [cell_of_row _ _ _ _ _ (0, 0) t3]; rfl
 ·rw [cell_of_row _ _ _ _ _ (0, 0) u3]; rfl
 ·rw [cell_of_row _ _ _ _ _ (0, 0) v3]; rfl
 ·rw [cell_of_row _ _ _ _ _ (0, 0) e4, ← hf]; rfl
 ·rw [cell_of_row _ _ _ _ _ (0, 0) e4, ← hf]; rfl
 ·rw [cell_of_row _ _ _ _ _ (0, 0) e4, ← hf]; rfl
 ·rw [cell_of_row _ _ _ _ _ (0, 0) e4, ← hf]; rfl
end Go.Proofs.YtnbddiiedagllaaGreat

/- Rows of steps that a call makes: each with the change that it stands for. -/
namespace Go.Proofs.YtnbddiiedagllaaGreat
open Go.RowKit Go.Maps Go.Shelf

def StepAt (Z : Nat → Prop) (d : Nat) (w : World) (K : SK) (x : SO) : Prop :=
 ∀ (w0 : World) (Y : Nat → Prop) (w1 : World), (∀ b, Z b → b < w.heap.size → w1.heap[b]? = w.heap[b]?) → (∀ b, Z b → b < w.heap.size → Y b) → Does w0 Y d w1 K x

theorem StepAt.moved {Z Z' : Nat → Prop} {d : Nat} {w w' : World} {K : SK} {x : SO} (h : StepAt Z d w K x) (hk : ∀ b, Z b → b < w.heap.size → w'.heap[b]? = w.heap[b]?) (hs : w.heap.size ≤ w'.heap.size) (hz : ∀ b, Z b → b < w.heap.size → Z' b) : StepAt Z' d w' K x :=
 fun w0 Y w1 h1 h2 => h w0 Y w1 (fun b hb hl => (h1 b (hz b hb hl) (Nat.lt_of_lt_of_le hl hs)).trans (hk b hb hl)) (fun b hb hl => h2 b (hz b hb hl) (Nat.lt_of_lt_of_le hl hs))

def SRow (B G d : Nat) (w : World) (v : Value) (ops : List SO) : Prop :=
 ∃ Ks : List SK, Ks.length = ops.length ∧ w.ownsRow G 172 1 v ops.length (Ks.map skV) ∧ ∀ i (h : i < Ks.length) (h' : i < ops.length), StepAt (fun b => B ≤ b ∧ v.ownBlock ≠ some b) d w Ks[i] ops[i]

theorem SRow.nil (B G d : Nat) (w : World) : SRow B G d w (.slice none 0 0) [] :=
 ⟨[], rfl, World.ownsRow_nil _ _ _ _, fun _ h => absurd h (Nat.not_lt_zero _)⟩

theorem SRow.grow {B G d : Nat} {w w' : World} {v : Value} {ops : List SO} (h : SRow B G d w v ops) (hb : Below w.heap.size w w') : SRow B G d w' v ops := by
 obtain ⟨Ks, h1, h2, h3⟩ := h
 exact ⟨Ks, h1, own_below h2 hb, fun i hi hi' => (h3 i hi hi').moved (fun b _ hl => hb.block b hl) hb.size (fun b hz _ => hz)⟩

theorem SRow.app {B G d : Nat} {w w' : World} {v v' : Value} {ops os : List SO} {Ks Js : List SK} (hl : Ks.length = ops.length) (hel : ∀ i (h : i < Ks.length) (h' : i < ops.length), StepAt (fun b => B ≤ b ∧ v.ownBlock ≠ some b) d w Ks[i] ops[i])
  (hl2 : Js.length = os.length) (hel2 : ∀ i (h : i < Js.length) (h' : i < os.length), StepAt (fun b => B ≤ b ∧ v.ownBlock ≠ some b) d w Js[i] os[i])
  (hown : w'.ownsRow G 172 1 v' (ops.length + os.length) (Ks.map skV ++ Js.map skV)) (hg : w.grownBy w' v.ownBlock) (hb : v'.ownBlock = v.ownBlock ∨ v'.ownBlock = some w.heap.size) (hs : w.heap.size ≤ w'.heap.size) : SRow B G d w' v' (ops ++ os) := by
 have turn : ∀ (K : SK) (x : SO), StepAt (fun b => B ≤ b ∧ v.ownBlock ≠ some b) d w K x → StepAt (fun b => B ≤ b ∧ v'.ownBlock ≠ some b) d w' K x := fun K x h =>
  h.moved (fun b hz hlt => hg.block b hlt (fun e => hz.2 e.symm)) hs (fun b hz hlt => ⟨hz.1, fun e => by
   rcases hb with e2 | e2
   ·exact hz.2 (e2.symm.trans e)
   ·rw [e2] at e
    have := Option.some.inj e
    omega⟩)
 refine ⟨Ks ++ Js, by rw [List.length_append, List.length_append, hl, hl2], by rw [List.length_append, List.map_append]; exact hown, fun i h h' => ?_⟩
 rcases Nat.lt_or_ge i Ks.length with hi | hi
 ·rw [List.getElem_append_left hi, List.getElem_append_left (by omega)]
  exact turn _ _ (hel i hi (by omega))
 ·rw [List.getElem_append_right hi, List.getElem_append_right (by omega)]
  rw [List.length_append] at h h'
  have e : i - ops.length = i - Ks.length := by omega
  have key := turn _ _ (hel2 (i - Ks.length) (by omega) (by omega))
  simp only [e]
  exact key

theorem stepAt_removing {d : Nat} {w : World} {Z : Nat → Prop} {b1 b2 : Nat} {nm : List UInt8} (hn : nm.length ≤ 9223372036854775807) (y1 : Z b1) (y2 : Z b2) (k1 : w.cell? ⟨b1, 0, none⟩ = some (.pointer (some ⟨d, 0, none⟩))) (k2 : w.cell? ⟨b2, 0, none⟩ = some (encStr nm)) :
  StepAt Z d w ⟨151, #[.pointer (some ⟨b1, 0, none⟩), .pointer (some ⟨b2, 0, none⟩)]⟩ ⟨5, nm, [], []⟩ := by
 have l1 := World.block_lt_of_cell? _ _ k1
 have l2 := World.block_lt_of_cell? _ _ k2
 exact fun w0 Y w1 h1 h2 => does_removing hn (h2 _ y1 l1) (h2 _ y2 l2) ((World.cell?_of_block (a := ⟨b1, 0, none⟩) (h1 _ y1 l1)).trans k1) ((World.cell?_of_block (a := ⟨b2, 0, none⟩) (h1 _ y2 l2)).trans k2)

theorem stepAt_creating {d : Nat} {w : World} {Z : Nat → Prop} {b1 b2 : Nat} {nm : List UInt8} (hn : nm.length ≤ 9223372036854775807) (y1 : Z b1) (y2 : Z b2) (k1 : w.cell? ⟨b1, 0, none⟩ = some (.pointer (some ⟨d, 0, none⟩))) (k2 : w.cell? ⟨b2, 0, none⟩ = some (encStr nm)) :
  StepAt Z d w ⟨112, #[.pointer (some ⟨b1, 0, none⟩), .pointer (some ⟨b2, 0, none⟩)]⟩ ⟨1, nm, [], []⟩ := by
 have l1 := World.block_lt_of_cell? _ _ k1
 have l2 := World.block_lt_of_cell? _ _ k2
 exact fun w0 Y w1 h1 h2 => does_creating hn (h2 _ y1 l1) (h2 _ y2 l2) ((World.cell?_of_block (a := ⟨b1, 0, none⟩) (h1 _ y1 l1)).trans k1) ((World.cell?_of_block (a := ⟨b2, 0, none⟩) (h1 _ y2 l2)).trans k2)

theorem stepAt_syncing {d : Nat} {w : World} {Z : Nat → Prop} {b1 b2 : Nat} {nm : List UInt8} (hn : nm.length ≤ 9223372036854775807) (y1 : Z b1) (y2 : Z b2) (k1 : w.cell? ⟨b1, 0, none⟩ = some (.pointer (some ⟨d, 0, none⟩))) (k2 : w.cell? ⟨b2, 0, none⟩ = some (encStr nm)) :
  StepAt Z d w ⟨114, #[.pointer (some ⟨b1, 0, none⟩), .pointer (some ⟨b2, 0, none⟩)]⟩ ⟨3, nm, [], []⟩ := by
 have l1 := World.block_lt_of_cell? _ _ k1
 have l2 := World.block_lt_of_cell? _ _ k2
 exact fun w0 Y w1 h1 h2 => does_syncing hn (h2 _ y1 l1) (h2 _ y2 l2) ((World.cell?_of_block (a := ⟨b1, 0, none⟩) (h1 _ y1 l1)).trans k1) ((World.cell?_of_block (a := ⟨b2, 0, none⟩) (h1 _ y2 l2)).trans k2)

def cutOps (last : List UInt8) (l : List Nat) : List SO := [⟨1, cutB, [], []⟩, ⟨2, cutB, [], l⟩, ⟨3, cutB, [], []⟩, ⟨4, cutB, last, []⟩]
def cutKs (b1 b2 b3 : Nat) : List SK := [⟨153, #[.pointer (some ⟨b1, 0, none⟩)]⟩, ⟨154, #[.pointer (some ⟨b1, 0, none⟩), .pointer (some ⟨b3, 0, none⟩)]⟩, ⟨155, #[.pointer (some ⟨b1, 0, none⟩)]⟩, ⟨156, #[.pointer (some ⟨b1, 0, none⟩), .pointer (some ⟨b2, 0, none⟩)]⟩]

theorem bytes_blk {w : World} {p : Option Addr} {m c : Nat} {l : List Nat} (h : Bytes w p m c l) (hm : 0 < m) : ∀ a, p = some a → a.block < w.heap.size := by
 intro a ha
 obtain ⟨b, o, e, hc⟩ := h.cell hm
 have := World.block_lt_of_cell? _ _ (hc 0 hm)
 rw [ha] at e
 have e := Option.some.inj e
 rw [e]
 exact this

theorem stepAt_cutting {d : Nat} {w : World} {Z : Nat → Prop} {b1 b2 b3 : Nat} {nm : List UInt8} {p : Option Addr} {m c : Nat} {l : List Nat} (hn : nm.length ≤ 9223372036854775807) (hB : Bytes w p m c l) (hp : 0 < m → ∀ a, p = some a → Z a.block) (hl : l.length ≤ 1000000) (y1 : Z b1) (y2 : Z b2) (y3 : Z b3)
  (k1 : w.cell? ⟨b1, 0, none⟩ = some (.pointer (some ⟨d, 0, none⟩))) (k2 : w.cell? ⟨b2, 0, none⟩ = some (encStr nm)) (k3 : w.cell? ⟨b3, 0, none⟩ = some (.slice p m c)) :
  ∀ i (_h : i < (cutKs b1 b2 b3).length) (_h' : i < (cutOps nm l).length), StepAt Z d w (cutKs b1 b2 b3)[i] (cutOps nm l)[i] := by
 have l1 := World.block_lt_of_cell? _ _ k1
 have l2 := World.block_lt_of_cell? _ _ k2
 have l3 := World.block_lt_of_cell? _ _ k3
 intro i h h' w0 Y w1 h1 h2
 have q1 := (World.cell?_of_block (a := ⟨b1, 0, none⟩) (h1 _ y1 l1)).trans k1
 have q2 := (World.cell?_of_block (a := ⟨b2, 0, none⟩) (h1 _ y2 l2)).trans k2
 have q3 := (World.cell?_of_block (a := ⟨b3, 0, none⟩) (h1 _ y3 l3)).trans k3
 have z1 := h2 _ y1 l1
 have z2 := h2 _ y2 l2
 have z3 := h2 _ y3 l3
 match i, h, h' with
 | 0, _, _ => exact does_cut1 z1 q1
 | 1, _, _ => exact does_cut2 (hB.moved (fun h0 x hx => h1 _ (hp h0 x hx) (bytes_blk hB h0 x hx))) (fun h0 a ha => h2 _ (hp h0 a ha) (bytes_blk hB h0 a ha)) hl z1 z3 q1 q3
 | 2, _, _ => exact does_cut3 z1 q1
 | 3, _, _ => exact does_cut4 hn z1 z2 q1 q2

theorem SRow.one {B G d : Nat} {w w' : World} {v v' : Value} {ops : List SO} {x : SO} {Ks : List SK} {K : SK} (hl : Ks.length = ops.length) (hel : ∀ i (h : i < Ks.length) (h' : i < ops.length), StepAt (fun b => B ≤ b ∧ v.ownBlock ≠ some b) d w Ks[i] ops[i])
  (hx : StepAt (fun b => B ≤ b ∧ v.ownBlock ≠ some b) d w K x) (hown : w'.ownsRow G 172 1 v' (ops.length + 1) (Ks.map skV ++ [skV K])) (hg : w.grownBy w' v.ownBlock) (hb : v'.ownBlock = v.ownBlock ∨ v'.ownBlock = some w.heap.size) (hs : w.heap.size ≤ w'.heap.size) : SRow B G d w' v' (ops ++ [x]) :=
 SRow.app (Js := [K]) hl hel rfl (fun i h h' => by
  obtain rfl : i = 0 := by simpa using h
  exact hx) hown hg hb hs

theorem contains_any {w : World} {base n : Nat} {e : TypeId} {v : Value} {ns : List (List UInt8)} (h : w.ownsRow base e 1 v n (ns.map encStr)) (hn : n ≤ 1000000) :
  ∃ p c, v = .slice p n c ∧ ∀ (nm : List UInt8) (W : World), Below w.heap.size w W → Calls Tryz.prog 109 #[.slice p n c, .string ⟨nm.toArray⟩] W fun e w' => e = .returned (.bool (decide (nm ∈ ns))) ∧ w' = W := by
 have hlen : ns.length = n := by have := h.1; simpa using this
 rcases h.2 with ⟨rfl, rfl⟩ | ⟨g, cap, cur, rfl, hbg, hg, hle, hcm, hsz, htake⟩
 ·obtain rfl : ns = [] := List.length_eq_zero_iff.1 hlen
  exact ⟨none, 0, rfl, fun nm W _ => by simpa using Tryz.slices_Contains_string_empty none 0 ⟨nm.toArray⟩ W⟩
 ·refine ⟨some ⟨g, 0, none⟩, cap, rfl, fun nm W hW => ?_⟩
  have hdec : Lib.containsS ((ns.map fun x => (⟨x.toArray⟩ : ByteArray)).take n) ⟨nm.toArray⟩ = decide (nm ∈ ns) := by
   rw [List.take_of_length_le (by rw [List.length_map]; omega), Bool.eq_iff_iff, Lib.containsS_iff, decide_eq_true_iff, List.mem_map]
   constructor
   ·rintro ⟨a, ha, e⟩
    have e2 : a.toArray = nm.toArray := congrArg ByteArray.data e
    rw [← show a = nm by simpa using e2]
    exact ha
   ·exact fun h => ⟨nm, h, rfl⟩
  rw [← hdec]
  refine Tryz.slices_Contains_string g 0 n cap (ns.map fun x => (⟨x.toArray⟩ : ByteArray)) ⟨nm.toArray⟩ W (by rw [List.length_map]; omega) (by omega) fun j hj => ?_
  rw [List.length_map] at hj
  have hg' := (hW.block _ (Array.getElem?_eq_some_iff.1 hg).1).trans hg
  rw [cell_of_row W g (0 + j) cur _ (0, 0) hg', Nat.zero_add]
  have h1 : cur[j]? = (ns.map encStr)[j]? := by
   rw [← htake, List.getElem?_take, if_pos (by omega), Array.getElem?_toList]
  rw [h1, List.getElem?_map, List.getElem?_eq_getElem hj, List.getD_eq_getElem?_getD, List.getElem?_map, List.getElem?_eq_getElem hj]
  rfl

theorem nmB_length (N : Nat) : (nmB N).length = 12 := by unfold nmB; rw [List.length_map]; exact nameL_len N

def cleanM (nms : List (List UInt8)) (M : DM) : List SO := (nms.filter fun n => decide (n ∈ M.fs.map F.n)).map fun n => ⟨5, n, [], []⟩

theorem cleanM_snoc (nms : List (List UInt8)) (n : List UInt8) (M : DM) : cleanM (nms ++ [n]) M = cleanM nms M ++ (if n ∈ M.fs.map F.n then [⟨5, n, [], []⟩] else []) := by
 unfold cleanM
 rw [List.filter_append, List.map_append]
 congr 1
 by_cases h : n ∈ M.fs.map F.n
 ·rw [if_pos h, List.filter_cons_of_pos (by simpa using h)]; rfl
 ·rw [if_neg h, List.filter_cons_of_neg (by simpa using h)]; rfl

theorem cleanM_len (nms : List (List UInt8)) (M : DM) : (cleanM nms M).length ≤ nms.length := by
 unfold cleanM
 rw [List.length_map]
 exact List.length_filter_le _ _

def repNone (M : DM) : List SO := cleanM [cutB, newB] M ++ [⟨1, nmB 1, [], []⟩]

def repOps (M : DM) (old : List Int) (N : Nat) (l : List Nat) (torn : Nat) : List SO :=
 cleanM [cutB, newB] M ++ (if torn = 0 then [] else cutOps (nmB N) l) ++ (old.map fun n => ⟨5, nmB n.toNat, [], []⟩) ++ [⟨3, nmB N, [], []⟩]

theorem repOps_len (M : DM) (old : List Int) (N : Nat) (l : List Nat) (torn : Nat) : (repOps M old N l torn).length ≤ old.length + 7 := by
 unfold repOps
 have h1 := cleanM_len [cutB, newB] M
 simp only [List.length_append, List.length_map, List.length_cons, List.length_nil] at *
 split
 ·simp only [List.length_nil]; omega
 ·simp only [cutOps, List.length_cons, List.length_nil]; omega
end Go.Proofs.YtnbddiiedagllaaGreat

/- Parts of slices of ints, and appending in a statement that draws its order. -/
namespace Go.Proofs.YtnbddiiedagllaaGreat
open Go.RowKit

theorem Ints.takeTo {w : World} {a : Option Addr} {n cap m c : Nat} {l : List Int} (h : Ints w a n cap l) (hm : m ≤ n) (hc : m ≤ c) (hc2 : c ≤ cap) : Ints w a m c (l.take m) := by
 refine ⟨by rw [List.length_take, h.len]; omega, hc, Nat.le_trans hc2 h.capmax, fun ha => ?_, fun h0 => ?_⟩
 ·have := h.nil ha; omega
 ·obtain ⟨b, o, e, hcell⟩ := h.cell (by omega)
  refine ⟨b, o, e, fun i hi => ?_⟩
  rw [hcell i (by omega), List.getD_eq_getElem?_getD, List.getD_eq_getElem?_getD, List.getElem?_take, if_pos hi]

theorem Ints.dropTo {w : World} {b o n cap m : Nat} {l : List Int} (h : Ints w (some ⟨b, o, none⟩) n cap l) (hm : m < n) : Ints w (some ⟨b, o + m, none⟩) (n - m) (cap - m) (l.drop m) := by
 have hle := h.le
 have hcm := h.capmax
 refine ⟨by rw [List.length_drop, h.len], by omega, by omega, fun ha => (by cases ha), fun h0 => ?_⟩
 obtain ⟨b', o', e, hcell⟩ := h.cell (by omega)
 cases e
 refine ⟨b, o + m, rfl, fun i hi => ?_⟩
 have := hcell (m + i) (by omega)
 rw [← Nat.add_assoc] at this
 rw [this, List.getD_eq_getElem?_getD, List.getD_eq_getElem?_getD, List.getElem?_drop]

theorem own_formed_i {w : World} {base : Nat} {e : TypeId} {p : Option Addr} {n c m : Nat} {l : List Int} (h : w.ownsRow base e 1 (.slice p n c) m (intsE l)) : Formed p c := by
 rcases h.2 with ⟨hv, _⟩ | ⟨g, cap', cur, hv, _⟩
 ·cases hv; exact formed_none 0 rfl
 ·cases hv; exact formed_at _ _ _

theorem ints_none {w : World} {a : Option Addr} {c : Nat} (hm : c ≤ 9223372036854775807) (h : a = none → c = 0) : Ints w a 0 c [] :=
 ⟨rfl, Nat.zero_le _, hm, h, fun h => absurd h (Nat.lt_irrefl _)⟩

section
variable {P : Program}

theorem ints_from {T E : TypeId} (hT : P.underlying T = some (.slice E)) (hin : (P.info? E).map (fun i => (i.zero, i.size, i.bytes)) = some (some (.int .i64 0), 1, 8)) {a : Option Addr} {n c k : Nat} (hk : k ≤ n) (hn : n ≤ c) (hf : Formed a c) :
  ∃ a', (∀ (w : World) (kl : IntKind), (Instr.slice T (.slice a n c) (some (.int kl (k : Int))) none none).run P w = .ok (.slice a' (n - k) (c - k)) w) ∧ ∀ (w : World) (l : List Int), Ints w a n c l → Ints w a' (n - k) (c - k) (l.drop k) := by
 obtain ⟨i, hi, _, hsz, _⟩ := info_parts hin
 have hT' : P.underlying T = some (.slice (P.elem T)) := by rw [hT]; simp [Program.elem, hT]
 have hE : P.elem T = E := by simp [Program.elem, hT]
 have hsize : ∀ w : World, (sizeOf (P.elem T)).run P w = .ok 1 w := fun w => by rw [hE]; simp [sizeOf, typeInfo, hi, hsz]
 refine ⟨if c = k then a else a.map (·.add (k * 1)), fun w kl => ?_, fun w l hl => ?_⟩
 ·rw [run_slice_l w T a n c hT' kl (k : Int) (by omega) (by omega), hsize]
  rfl
 ·have hcm := hl.capmax
  by_cases e : k = n
  ·subst e
   rw [Nat.sub_self, List.drop_eq_nil_of_le (by rw [hl.len]; exact Nat.le_refl _)]
   refine ints_none (by omega) (fun h => ?_)
   by_cases hck : c = k
   ·omega
   ·rw [if_neg hck] at h
    obtain ⟨b, o, rfl⟩ := hf (by omega)
    cases h
  ·obtain ⟨b, o, rfl⟩ := hf (by omega)
   rw [if_neg (by omega), Nat.mul_one]
   simp only [Option.map_some, addr_add]
   exact hl.dropTo (by omega)

theorem ints_to {T E : TypeId} (hT : P.underlying T = some (.slice E)) (hin : (P.info? E).map (fun i => (i.zero, i.size, i.bytes)) = some (some (.int .i64 0), 1, 8)) {a : Option Addr} {n c k : Nat} (hk : k ≤ n) (hn : n ≤ c) (hf : Formed a c) :
  ∃ a', (∀ (w : World) (kl : IntKind), (Instr.slice T (.slice a n c) none (some (.int kl (k : Int))) none).run P w = .ok (.slice a' k c) w) ∧ ∀ (w : World) (l : List Int), Ints w a n c l → Ints w a' k c (l.take k) := by
 obtain ⟨i, hi, _, hsz, _⟩ := info_parts hin
 have hT' : P.underlying T = some (.slice (P.elem T)) := by rw [hT]; simp [Program.elem, hT]
 have hE : P.elem T = E := by simp [Program.elem, hT]
 have hsize : ∀ w : World, (sizeOf (P.elem T)).run P w = .ok 1 w := fun w => by rw [hE]; simp [sizeOf, typeInfo, hi, hsz]
 have ha : (if c = 0 then a else a.map (·.add (0 * 1))) = a := by
  by_cases h : c = 0
  ·rw [if_pos h]
  ·rw [if_neg h]
   obtain ⟨b, o, rfl⟩ := hf (by omega)
   simp [addr_add]
 refine ⟨a, fun w kl => ?_, fun w l hl => ?_⟩
 ·rw [run_slice_h w T a n c hT' kl (k : Int) (by omega) (by omega), hsize]
  show Result.ok (Value.slice (if c = 0 then a else a.map (·.add (0 * 1))) (k - 0) (c - 0)) w = _
  rw [ha]; rfl
 ·exact hl.takeTo hk (by omega) (Nat.le_refl _)
end

theorem step_append_ints {ops : Array Oper} {o : Oper} {a : Act} {w : World} {K : Act → World → Prop} {Q : Exit → Act → World → Prop} {E : Prop} (hgd : o.guard = none) (s x : Operand)
  (ho : o.op = .call { callee := .builtin .append, args := #[s, x], argTypes := #[33, 33] })
  (base : Nat) (v : Value) (n : Nat) (l : List Int) (hs : a.eval s = v) (hown : w.ownsRow base 3 1 v n (intsE l))
  (p : Option Addr) (m c : Nat) (l' : List Int) (hx : a.eval x = .slice p m c) (hB : Ints w p m c l')
  (hbytes : (n + m) * 8 ≤ 140737488355328) (hbase : base ≤ w.heap.size)
  (h : ∀ v' w', w'.ownsRow base 3 1 v' (n + m) (intsE (l ++ l')) → w.grownBy w' v.ownBlock → K (a.put o.dst v') w') :
  if Region.wanted o (yielded ops a.tmps) = true then Oper.wp Tryz.prog o a w K Q else E := by
 obtain ⟨i, hi, hz, hsz, hby⟩ := info_parts info_int
 have hw : Region.wanted o (yielded ops a.tmps) = true := by simp [Region.wanted, hgd]
 rw [if_pos hw]
 cases p with
 | none =>
  obtain rfl : c = 0 := hB.nil rfl
  obtain rfl : m = 0 := by have := hB.le; omega
  obtain rfl : l' = [] := List.length_eq_zero_iff.1 hB.len
  have hrun := run_append_owned_none (P := Tryz.prog) (w := w) base 33 o.type 3 i 1 Tryz.underlying33 hi v n (intsE l) hown
  unfold Oper.wp
  have hh := h v w (by simpa using hown) ⟨rfl, rfl, rfl, Nat.le_refl _, fun _ _ _ => rfl⟩
  simp [execOp, ho, resolve, invoke, builtin, hs, hx, hrun, Result.andThen]
  rw [Oper.upon_value]
  simpa using hh
 | some ad =>
  refine wp_append_own w s x 33 ho base 3 i (.int .i64 0) 1 8 Tryz.underlying33 hi hz hsz hby rfl (by omega) v n (intsE l) hs hown ad m c (intsE l') hx (by simp [intsE, hB.len]) (fun j u hu => ?_) (intsE_one l') (by rw [maxLen_nat]; omega) (by omega) hbase (fun v' w' g1 g2 _ => ?_)
  ·obtain ⟨hj, rfl⟩ := intsE_get hu
   have hj' : j < m := by rw [← hB.len]; exact hj
   obtain ⟨b, o', e1, hc⟩ := hB.cell (by omega)
   cases e1
   rw [addr_add]
   exact hc j hj'
  ·rw [← intsE_append] at g1
   exact h v' w' g1 g2

theorem heap_at (w : World) (o : Obj) (k : Nat) : (w.alloc o).heap[k]? = if k = w.heap.size then some o else w.heap[k]? := by
 show (w.heap.push o)[k]? = _
 rw [Array.getElem?_push]
theorem heap_dr (w : World) : w.drew.heap = w.heap := rfl

theorem row_ints {W : World} {g : Nat} {x : Int} {e : TypeId} (h : W.heap[g]? = some (.cells #[.int .i64 x] e (0, 0))) : Ints W (some ⟨g, 0, none⟩) 1 1 [x] :=
 ⟨rfl, Nat.le_refl _, by omega, fun h => (by cases h), fun _ => ⟨g, 0, rfl, fun i hi => by
  obtain rfl : i = 0 := by omega
  rw [Nat.zero_add, cell_of_row _ _ _ _ _ (0, 0) h]; rfl⟩⟩

theorem own_emp {W : World} {g base : Nat} (h : W.heap[g]? = some (.cells #[] 3 (0, 0))) (hb : base ≤ g) : W.ownsRow base 3 1 (.slice (some ⟨g, 0, none⟩) 0 0) 0 (intsE []) :=
 ⟨rfl, .inr ⟨g, 0, #[], rfl, hb, h, Nat.le_refl _, Nat.zero_le _, rfl, rfl⟩⟩
end Go.Proofs.YtnbddiiedagllaaGreat

