import Derived.Test.YtnbddiiedagllaaGreatSSL37
import Derived.Test.YtnbddiiedagllaaGreatSSL29
import Derived.Test.YtnbddiiedagllaaGreatSSL25
import Derived.Test.YtnbddiiedagllaaGreatSSL28
import Derived.Test.YtnbddiiedagllaaGreatSSL36
/- The walk of Compact. -/
namespace Go.Proofs.YtnbddiiedagllaaGreat
open Go.RowKit Go.Maps Go.Shelf

def CompOf (W : WM) (recs : List (List Nat)) (r : DM × Int) : Prop :=
 (([] ∈ recs ∨ 99999999 ≤ W.n) ∧ r = (W.D, 2)) ∨ (([] ∉ recs ∧ W.n < 99999999) ∧ IsComp W.D (W.n + 1) (joinL ([] :: recs)) r)

theorem compOf_uniq {W : WM} {recs : List (List Nat)} {r r' : DM × Int} (h : CompOf W recs r) (h' : CompOf W recs r') : r = r' := by
 rcases h with ⟨h1, rfl⟩ | ⟨⟨h1, h2⟩, h3⟩
 ·rcases h' with ⟨_, rfl⟩ | ⟨⟨k1, k2⟩, _⟩
  ·rfl
  ·rcases h1 with h1 | h1
   ·exact absurd h1 k1
   ·omega
 ·rcases h' with ⟨k1, _⟩ | ⟨_, k3⟩
  ·rcases k1 with k1 | k1
   ·exact absurd k1 h1
   ·omega
  ·exact isComp_uniq h3 k3

def compW (W : WM) (most : Int) (recs : List (List Nat)) (M : DM) : WM := ⟨M, most, W.n + 1, sizeL recs + 8, 0⟩

def CompEnd (w0 : World) (Y : Nat → Prop) (w : World) (d : Nat) (most : Int) (W : WM) (recs : List (List Nat)) (e : Ending) (w' : World) : Prop :=
 ∃ r, CompOf W recs r ∧ ((r.2 ≠ 0 ∧ e = .returned (.tuple #[.pointer none, .int .i64 r.2]) ∧ OwnEnd w0 Y w d r.1 w') ∨
  (r.2 = 0 ∧ ∃ g, e = .returned (.tuple #[.pointer (some ⟨g, 0, none⟩), .int .i64 0]) ∧ w.heap.size ≤ g ∧ LogAt w0 (fun b => Y b ∨ b = g) w' g d (compW W most recs r.1) ∧ (∀ b, Y b → w'.heap[b]? = w.heap[b]?) ∧ Below w0.heap.size w w' ∧ w.heap.size ≤ w'.heap.size))

section
variable {w0 : World} {Y : Nat → Prop} {w : World} {g d : Nat} {W : WM}

theorem OwnEnd.ofBelow {X : Nat → Prop} {M : DM} (h : Own w0 X w d M) {w' : World} (hb : Below w.heap.size w w') : OwnEnd w0 X w d M w' :=
 ⟨h.below hb, fun b hx => hb.block b (h.blocks b hx), hb.mono h.base.size, hb.size⟩

set_option maxRecDepth 100000 in
set_option maxHeartbeats 6400000 in
theorem compact_any (h : LogAt w0 Y w g d W) {U : Nat} (hnt : Neat W.D 900 U) (hU : U ≤ 10000000) (hnm : Named W.D) (h1 : 1 ≤ W.n) (hN : W.n ≤ 99999999) (most : Int) (p : Option Addr) (m c : Nat) (recs : List (List Nat)) (hP : Parts w p m c recs) (hm : m ≤ 1000) (hs : sizeL recs ≤ 1000000) :
  Calls Tryz.prog 38 #[.pointer (some ⟨d, 0, none⟩), .pointer (some ⟨g, 0, none⟩), .int .i64 most, .slice p m c] w (CompEnd w0 Y w d most W recs) := by
 have hc0 := h.cell.1
 have HO := Lib.hid (fun w' (hb : Below w.heap.size w w') => OwnEnd.ofBelow h.own hb)
 have hrl : ∀ r ∈ ([] : List Nat) :: recs, r.length ≤ 1048576 := by
  intro r hr
  rcases List.mem_cons.1 hr with rfl | hr
  ·exact Nat.zero_le _
  ·have key : ∀ (ls : List (List Nat)) (r : List Nat), r ∈ ls → r.length ≤ sizeL ls := by
    intro ls
    induction ls with
    | nil => intro r h; cases h
    | cons l ls ih =>
     intro r h
     rw [sizeL_cons]
     rcases List.mem_cons.1 h with rfl | h
     ·omega
     ·have := ih r h; omega
   have := key recs r hr
   omega
 have hjl : (joinL ([] :: recs)).length = sizeL recs + 8 := by rw [joinL_len, sizeL_mark]
 have Hjb := Lib.hid (joinL_byte (ls := [] :: recs) (fun r hr x hx => by
  rcases List.mem_cons.1 hr with rfl | hr
  ·cases hx
  ·exact hP.byte r hr x hx) hrl)
 have HSeg := Lib.hid ((segment_any hc0).mono fun e w' hq => (show e = .returned (.int .i64 (W.n : Int)) ∧ w = w' from ⟨hq.1, hq.2.symm⟩))
 have HNx := Lib.hid (fun w1 b (hb : w1.cell? ⟨b, 0, none⟩ = some (.int .i64 (W.n : Int))) => segnext_one b 1 W.n w1 hN hb)
 have HMk := Lib.hid (fun w1 (hb : Below w.heap.size w w1) => hasMark_any p m c recs w1 (hP.grow hb))
 have HMd := Lib.hid (fun w1 (hb : Below w.heap.size w w1) => marked_any p m c recs w1 (hP.grow hb) (by omega))
 have HJ := Lib.hid (fun a c w1 hQ => join_any a (m + 1) c ([] :: recs) w1 hQ hrl (by rw [hjl]; omega))
 have HTk := Lib.hid (fun (X : Nat → Prop) w1 (hO : Own w0 X w1 d W.D) (hlt : W.n < 99999999) a n c hB hp => t_take hO hnt hU hnm (W.n + 1) (by omega) (by omega) a n c (joinL ([] :: recs)) (by rw [hjl]; omega) hB hp)
 have Hjl := Lib.hid hjl
 have HL := Lib.hid h
 have hNn := Lib.hid hN
 have hY := Lib.hid h.own.blocks
 clear h hnt hU hnm hP hrl hjl hs hN
 by_cases hlt : W.n < 99999999
 case neg =>
  have hif : (if W.n < 99999999 then Value.tuple #[.int .i64 ((W.n + 1 : Nat) : Int), .bool true] else .tuple #[.int .i64 0, .bool false]) = .tuple #[.int .i64 0, .bool false] := if_neg hlt
  rw [hif] at HNx
  have HC := Lib.hid (show CompOf W recs (W.D, 2) from .inl ⟨.inr (by omega), rfl⟩)
  clear hif hlt
  go_enter Tryz.func38, Tryz.ntmps38
  go_wp2_with fail
  refine HSeg.out.mono ?_
  rintro e w1 ⟨rfl, rfl⟩
  have Hb := Lib.hid ((Below.refl w.heap.size w).alloc (Nat.le_refl _) (.cells #[.int .i64 (W.n : Int)] 3))
  have HN2 := Lib.hid (HNx.out (w.alloc (.cells #[.int .i64 (W.n : Int)] 3)) w.heap.size (by rw [cell_of_row _ _ _ _ _ (0, 0) (heap_alloc_new _ _)]; rfl))
  go_wp2_with fail
  refine HN2.out.mono ?_
  rintro e w2 ⟨rfl, rfl⟩
  go_wp2
  go_ret2
  exact ⟨_, HC.out, .inl ⟨(by show (2 : Int) ≠ 0; decide), rfl, HO.out _ Hb.out⟩⟩
 case pos =>
  have hif : (if W.n < 99999999 then Value.tuple #[.int .i64 ((W.n + 1 : Nat) : Int), .bool true] else .tuple #[.int .i64 0, .bool false]) = .tuple #[.int .i64 ((W.n + 1 : Nat) : Int), .bool true] := if_pos hlt
  rw [hif] at HNx
  have Hlt := Lib.hid hlt
  have hNl : W.n + 1 ≤ 99999999 := by omega
  clear hif hlt
  obtain ⟨NN, hNN⟩ : ∃ NN, NN = W.n + 1 := ⟨_, rfl⟩
  rw [← hNN] at HNx HTk hNl
  have HNN := Lib.hid hNN
  clear hNN
  by_cases hmk : [] ∈ recs
  ·have hd : decide ([] ∈ recs) = true := decide_eq_true hmk
   rw [hd] at HMk
   have HC := Lib.hid (show CompOf W recs (W.D, 2) from .inl ⟨.inl hmk, rfl⟩)
   clear hd hmk
   go_enter Tryz.func38, Tryz.ntmps38
   go_wp2_with fail
   refine HSeg.out.mono ?_
   rintro e w1 ⟨rfl, rfl⟩
   have Hb := Lib.hid ((Below.refl w.heap.size w).alloc (Nat.le_refl _) (.cells #[.int .i64 (W.n : Int)] 3))
   have HN2 := Lib.hid (HNx.out (w.alloc (.cells #[.int .i64 (W.n : Int)] 3)) w.heap.size (by rw [cell_of_row _ _ _ _ _ (0, 0) (heap_alloc_new _ _)]; rfl))
   go_wp2_with fail
   refine HN2.out.mono ?_
   rintro e w2 ⟨rfl, rfl⟩
   have HMk2 := Lib.hid (HMk.out _ Hb.out)
   unfold markV at HMk2
   go_wp2_with fail
   refine HMk2.out.mono ?_
   rintro e w3 ⟨rfl, rfl⟩
   go_wp2
   go_ret2
   exact ⟨_, HC.out, .inl ⟨(by show (2 : Int) ≠ 0; decide), rfl, HO.out _ Hb.out⟩⟩
  ·have hd : decide ([] ∈ recs) = false := decide_eq_false hmk
   rw [hd] at HMk
   have HC := Lib.hid (fun r (hr : IsComp W.D (W.n + 1) (joinL ([] :: recs)) r) => (show CompOf W recs r from .inr ⟨⟨hmk, Hlt.out⟩, hr⟩))
   clear hd hmk
   go_enter Tryz.func38, Tryz.ntmps38
   go_wp2_with fail
   refine HSeg.out.mono ?_
   rintro e w1 ⟨rfl, rfl⟩
   have Hb := Lib.hid ((Below.refl w.heap.size w).alloc (Nat.le_refl _) (.cells #[.int .i64 (W.n : Int)] 3))
   have HN2 := Lib.hid (HNx.out (w.alloc (.cells #[.int .i64 (W.n : Int)] 3)) w.heap.size (by rw [cell_of_row _ _ _ _ _ (0, 0) (heap_alloc_new _ _)]; rfl))
   go_wp2_with fail
   refine HN2.out.mono ?_
   rintro e w2 ⟨rfl, rfl⟩
   have HMk2 := Lib.hid (HMk.out _ Hb.out)
   unfold markV at HMk2
   go_wp2_with fail
   refine HMk2.out.mono ?_
   rintro e w3 ⟨rfl, rfl⟩
   have HMd2 := Lib.hid (HMd.out _ Hb.out)
   clear HMk HMk2 HN2 HNx HSeg HMd
   go_wp2_with fail
   refine HMd2.out.mono ?_
   rintro e w4 ⟨a4, c4, rfl, hP4, hb4⟩
   have HJ2 := Lib.hid (HJ.out a4 c4 w4 hP4)
   have Hb4 := Lib.hid (Hb.out.trans (hb4.mono Hb.out.size))
   clear hP4 hb4 HMd2 HJ Hb
   go_wp2_with fail
   refine HJ2.out.mono ?_
   rintro e w5 ⟨v5, rfl, hown5, hb5⟩
   obtain ⟨p5, c5, rfl, hB5⟩ := own_slice hown5 Hjb.out
   have hp5 : ∀ a, p5 = some a → 0 < (joinL ([] :: recs)).length → w.heap.size ≤ a.block ∧ a.block < w5.heap.size := by
    rintro a rfl h0
    obtain ⟨b, o, e, _⟩ := hB5.cell h0
    cases e
    obtain ⟨g1, g2⟩ := hown5.lt b rfl
    exact ⟨Nat.le_trans Hb4.out.size g1, g2⟩
   rw [Hjl.out] at hB5 hp5 ⊢
   have hb05 := Hb4.out.trans (hb5.mono Hb4.out.size)
   obtain ⟨w6, hw6⟩ : ∃ w6, w6 = w5.alloc (.cells #[.pointer (some ⟨d, 0, none⟩), .int .i64 (NN : Int), .slice p5 (sizeL recs + 8) c5] 150) := ⟨_, rfl⟩
   have hb56 : Below w5.heap.size w5 w6 := by rw [hw6]; exact (Below.refl _ _).alloc (Nat.le_refl _) _
   have hB6 : w6.heap[w5.heap.size]? = some (.cells #[.pointer (some ⟨d, 0, none⟩), .int .i64 (NN : Int), .slice p5 (sizeL recs + 8) c5] 150 (0, 0)) := by rw [hw6]; exact heap_alloc_new _ _
   obtain ⟨k0, k1, k2, kf⟩ := box3c hB6
   have hb06 := hb05.trans (hb56.mono hb05.size)
   have hO6 : Own w0 (fun b => Y b ∨ (w.heap.size ≤ b ∧ b < w6.heap.size)) w6 d W.D := HL.out.own.more hb06 (fun b hb => hb)
   have HT6 := Lib.hid (HTk.out _ w6 hO6 Hlt.out p5 (sizeL recs + 8) c5 (hB5.grow hb56) (fun h0 a ha => .inr ⟨(hp5 a ha h0).1, Nat.lt_of_lt_of_le (hp5 a ha h0).2 hb56.size⟩))
   have Hend := Lib.hid (fun M' w' (hE : OwnEnd w0 (fun b => Y b ∨ (w.heap.size ≤ b ∧ b < w6.heap.size)) w6 d M' w') => (show OwnEnd w0 Y w d M' w' from OwnEnd.past HL.out.own.blocks HL.out.own.base.size hb06 (fun _ h => .inl h) hE))
   have HWn := Lib.hid (fun W' => wnew_any d NN (sizeL recs + 8) most W')
   have HX := Lib.hid (fun w7 (hE : OwnEnd w0 (fun b => Y b ∨ (w.heap.size ≤ b ∧ b < w6.heap.size)) w6 d W.D w7) => hE)
   clear hown5 hb5 hB5 hp5 hb05 hb56 hB6 hb06 hO6 HX HTk HL HJ2 Hjb
   have Hw6 := Lib.hid hw6
   clear hw6
   unfold compV at HT6
   go_wp2_with fail
   rw [← Hw6.out]
   refine HT6.out.mono ?_
   rintro e w7 ⟨r, hr, rfl, hE⟩
   have HC2 := Lib.hid (HC.out r (by rw [← HNN.out]; exact hr))
   have HE := Lib.hid (Hend.out _ _ hE)
   clear hr hE k0 k1 k2 kf Hend HC
   by_cases hz : r.2 = 0
   ·have hz1 : (r.2 != 0) = false := by simp [hz]
    have Hz := Lib.hid hz
    have HWn2 := Lib.hid (HWn.out w7)
    clear hz
    go_wp2_with fail
    refine HWn2.out.mono ?_
    rintro e w8 ⟨rfl, hw8⟩
    have Hw8 := Lib.hid hw8
    clear hw8
    go_wp2
    go_ret2
    obtain ⟨hO7, hk7, hb7, hs7⟩ := HE.out
    have hb78 : Below w7.heap.size w7 w8 := by rw [Hw8.out]; exact (Below.refl _ _).alloc (Nat.le_refl _) _
    have hB8 : w8.heap[w7.heap.size]? = some (.cells #[.int .i64 (NN : Int), .int .i64 ((sizeL recs + 8 : Nat) : Int), .int .i64 0, .pointer (some ⟨d, 0, none⟩), .int .i64 most] 129 (0, 0)) := by rw [Hw8.out]; exact heap_alloc_new _ _
    have hlt8 := (Array.getElem?_eq_some_iff.1 hB8).1
    rw [HNN.out] at hB8
    exact ⟨r, HC2.out, .inr ⟨Hz.out, w7.heap.size, rfl, hs7, ⟨hO7.more hb78 (fun b hb => hb.imp id (fun e => ⟨by omega, by omega⟩)), .inr rfl, hO7.base.size, hB8⟩, fun b hb => (hb78.block b (hO7.blocks b hb)).trans (hk7 b hb), hb7.trans (hb78.mono hO7.base.size), Nat.le_trans hs7 hb78.size⟩⟩
   ·have hz1 : (r.2 != 0) = true := by simp [hz]
    have Hz := Lib.hid hz
    clear hz
    go_wp2
    go_ret2
    exact ⟨r, HC2.out, .inl ⟨Hz.out, rfl, HE.out⟩⟩
end
end Go.Proofs.YtnbddiiedagllaaGreat

/- A log beside the reference's, while a statement runs. -/
namespace Go.Proofs.YtnbddiiedagllaaGreat
open Go.RowKit Go.Maps Go.Shelf

theorem RBox.shift {X : Nat → Prop} {w w' : World} {B : Nat} {W : WM} (h : RBox X w B W) (hk : ∀ b, X b ∨ b = B → w'.heap[b]? = w.heap[b]?) (hs : w.heap.size ≤ w'.heap.size) : RBox X w' B W := by
 obtain ⟨a, n, c, R, h1, h2, h3, h4, h5⟩ := h
 exact ⟨a, n, c, R, (hk B (.inr rfl)).trans h1, h2.mono (fun b hb => hk b (.inl hb)) (fun _ h => h), h3, h4, fun b hx => ⟨Nat.lt_of_lt_of_le (h5 b hx).1 hs, (h5 b hx).2⟩⟩

theorem RBox.plan {X : Nat → Prop} {w : World} {B : Nat} {W : WM} (h : RBox X w B W) (k : Int) (hk : 0 ≤ k) : RBox X (w.setCell ⟨B, 2, none⟩ (.int .i64 k)) B { W with D := armM k W.D } := by
 obtain ⟨a, n, c, R, h1, h2, h3, h4, h5⟩ := h
 refine ⟨a, n, c, R, ?_, h2.mono (fun b hb => Below.heap_setCell w ⟨B, 2, none⟩ _ b (h5 b hb).2) (fun _ h => h), h3, h4, fun b hx => ⟨by simp; exact (h5 b hx).1, (h5 b hx).2⟩⟩
 have h6 := set_head (i := 2) h1 (.int .i64 k)
 have e : k = ((k.toNat : Nat) : Int) := by omega
 rw [e] at h6 ⊢
 simpa [logO, armM] using h6

structure DB (w0 : World) (T : Nat → Prop) (wT : World) (d B : Nat) (M : DM) (Wb : WM) (wr : World) : Prop where
 own : ∃ Y : Nat → Prop, Own w0 Y wr d M ∧ Y B ∧ (∀ b, T b → Y b) ∧ ∃ X : Nat → Prop, RBox X wr B Wb ∧ ∀ b, X b → Y b ∧ ¬ T b
 ne : w0.heap.size ≤ B ∧ ¬ T B
 tb : ∀ b, T b → b < wT.heap.size
 keep : ∀ b, T b → wr.heap[b]? = wT.heap[b]?
 size : wT.heap.size ≤ wr.heap.size

structure BothV (w0 : World) (T V : Nat → Prop) (wT : World) (g d B : Nat) (W Wb : WM) (wr : World) : Prop where
 log : ∃ Y : Nat → Prop, LogAt w0 Y wr g d W ∧ Y B ∧ (∀ b, T b → Y b) ∧ ∃ X : Nat → Prop, RBox X wr B Wb ∧ ∀ b, X b → Y b ∧ b ≠ g ∧ ¬ V b
 ne : B ≠ g ∧ w0.heap.size ≤ B ∧ ¬ T B ∧ ¬ T g
 tb : ∀ b, T b → b < wT.heap.size
 keep : ∀ b, T b → wr.heap[b]? = wT.heap[b]?
 size : wT.heap.size ≤ wr.heap.size
 sub : ∀ b, V b → T b

abbrev Both (w0 : World) (T : Nat → Prop) (wT : World) (g d B : Nat) (W Wb : WM) (wr : World) : Prop := BothV w0 T T wT g d B W Wb wr

section
variable {w0 : World} {T V : Nat → Prop} {wT : World} {g d B : Nat} {W Wb : WM} {M : DM} {wr : World}

theorem DB.base (h : DB w0 T wT d B M Wb wr) : Below w0.heap.size w0 wr := by
 obtain ⟨Y, h1, _⟩ := h.own
 exact h1.base

theorem BothV.base (h : BothV w0 T V wT g d B W Wb wr) : Below w0.heap.size w0 wr := by
 obtain ⟨Y, h1, _⟩ := h.log
 exact h1.own.base

theorem BothV.lt (h : BothV w0 T V wT g d B W Wb wr) : B < wr.heap.size ∧ g < wr.heap.size := by
 obtain ⟨Y, h1, h2, _⟩ := h.log
 exact ⟨h1.own.blocks B h2, h1.lt⟩

theorem DB.lt (h : DB w0 T wT d B M Wb wr) : B < wr.heap.size := by
 obtain ⟨Y, h1, h2, _⟩ := h.own
 exact h1.blocks B h2

theorem BothV.stepLog (h : BothV w0 T V wT g d B W Wb wr) {wa : World} (hb : Below wr.heap.size wr wa) : ∃ Y' : Nat → Prop, LogAt w0 Y' wa g d W ∧ (∀ b, wr.heap.size ≤ b → b < wa.heap.size → Y' b) ∧ (∀ W' w3, LogEnd w0 Y' wa g d W' w3 → BothV w0 T V wT g d B W' Wb w3) ∧
  ∀ g2 W2 w3, wa.heap.size ≤ g2 → LogAt w0 (fun b => Y' b ∨ b = g2) w3 g2 d W2 → (∀ b, Y' b → w3.heap[b]? = wa.heap[b]?) → wa.heap.size ≤ w3.heap.size → BothV w0 T V wT g2 d B W2 Wb w3 := by
 obtain ⟨Y, h1, h2, h3, X, h4, h5⟩ := h.log
 obtain ⟨n1, n2, n3, n4⟩ := h.ne
 have hlt := h1.own.blocks
 refine ⟨_, h1.all hb, fun b g1 g2 => .inr ⟨g1, g2⟩, fun W' w3 hE => ?_, fun g2 W2 w3 hg hL hk hs => ?_⟩
 ·have hbk : ∀ b, Y b → b ≠ g → w3.heap[b]? = wr.heap[b]? := fun b hy hg => (hE.2.1 b (.inl hy) hg).trans (hb.block b (hlt b hy))
  refine ⟨⟨_, hE.1, .inl h2, fun b hb => .inl (h3 b hb), X, h4.shift (fun b hx => ?_) (Nat.le_trans hb.size hE.2.2.2), fun b hx => ⟨.inl (h5 b hx).1, (h5 b hx).2⟩⟩, h.ne, h.tb, fun b ht => (hbk b (h3 b ht) (fun e => n4 (e ▸ ht))).trans (h.keep b ht), Nat.le_trans h.size (Nat.le_trans hb.size hE.2.2.2), h.sub⟩
  rcases hx with hx | rfl
  ·exact hbk b (h5 b hx).1 (h5 b hx).2.1
  ·exact hbk _ h2 n1
 ·have hbk : ∀ b, Y b → w3.heap[b]? = wr.heap[b]? := fun b hy => (hk b (.inl hy)).trans (hb.block b (hlt b hy))
  have hg2 : wr.heap.size ≤ g2 := Nat.le_trans hb.size hg
  have hT : ¬ T g2 := fun ht => by have := hlt _ (h3 _ ht); omega
  refine ⟨⟨_, hL, .inl (.inl h2), fun b hb => .inl (.inl (h3 b hb)), X, h4.shift (fun b hx => ?_) (Nat.le_trans hb.size hs), fun b hx => ⟨.inl (.inl (h5 b hx).1), fun e => ?_, (h5 b hx).2.2⟩⟩, ⟨fun e => ?_, n2, n3, hT⟩, h.tb, fun b ht => (hbk b (h3 b ht)).trans (h.keep b ht), Nat.le_trans h.size (Nat.le_trans hb.size hs), h.sub⟩
  ·rcases hx with hx | rfl
   ·exact hbk b (h5 b hx).1
   ·exact hbk _ h2
  ·have := hlt _ (h5 b hx).1; omega
  ·have := hlt _ h2; omega

theorem BothV.grow (h : BothV w0 T V wT g d B W Wb wr) {wa : World} (hb : Below wr.heap.size wr wa) : BothV w0 T V wT g d B W Wb wa := by
 obtain ⟨Y', h1, _, h2, _⟩ := h.stepLog hb
 exact h2 W wa h1.refl

theorem BothV.stepDisk (h : BothV w0 T V wT g d B W Wb wr) {wa : World} (hb : Below wr.heap.size wr wa) : ∃ Y' : Nat → Prop, Own w0 Y' wa d W.D ∧ (∀ b, wr.heap.size ≤ b → b < wa.heap.size → Y' b) ∧ ∀ M' w3, OwnEnd w0 Y' wa d M' w3 → BothV w0 T V wT g d B { W with D := M' } Wb w3 := by
 obtain ⟨Y', h1, h0, h2, _⟩ := h.stepLog hb
 exact ⟨Y', h1.own, h0, fun M' w3 hE => h2 _ w3 ⟨⟨hE.1, h1.inY, h1.new, (hE.2.1 g h1.inY).trans h1.cells⟩, fun b hb _ => hE.2.1 b hb, hE.2.2.1, hE.2.2.2⟩⟩

theorem logO_ref {X : Nat → Prop} {w : World} (h : RBox X w B Wb) : ∃ a n c, w.heap[B]? = some (logO (Wb.D.room : Int) a n c (Wb.D.plan : Int) Wb.D.down Wb.most (Wb.n : Int) (Wb.size : Int) (Wb.wait : Int)) ∧
  RLogAt X w (logV (Wb.D.room : Int) a n c (Wb.D.plan : Int) Wb.D.down Wb.most (Wb.n : Int) (Wb.size : Int) (Wb.wait : Int)) Wb ∧ RefAt X w (refV (Wb.D.room : Int) a n c (Wb.D.plan : Int) Wb.D.down) Wb.D ∧ ∀ b, X b → b < w.heap.size := by
 obtain ⟨a, n, c, R, h1, h2, h3, _⟩ := h.ref
 exact ⟨a, n, c, h1, h2, h3, fun b hb => by obtain ⟨_, _, _, _, _, _, _, _, hX⟩ := h; exact (hX b hb).1⟩

theorem BothV.stepBox (h : BothV w0 T V wT g d B W Wb wr) : ∃ (X : Nat → Prop) (a : Option Addr) (n c : Nat), wr.heap[B]? = some (logO (Wb.D.room : Int) a n c (Wb.D.plan : Int) Wb.D.down Wb.most (Wb.n : Int) (Wb.size : Int) (Wb.wait : Int)) ∧
  RLogAt X wr (logV (Wb.D.room : Int) a n c (Wb.D.plan : Int) Wb.D.down Wb.most (Wb.n : Int) (Wb.size : Int) (Wb.wait : Int)) Wb ∧ RefAt X wr (refV (Wb.D.room : Int) a n c (Wb.D.plan : Int) Wb.D.down) Wb.D ∧ (∀ b, X b → b < wr.heap.size) ∧
  ∀ (r : WM) (w4 : World) (a' : Option Addr) (n' c' : Nat) (R' : List FR), Below wr.heap.size wr w4 → RowF (fun b => (X b ∨ wr.heap.size ≤ b) ∧ b < w4.heap.size) w4 a' n' c' R' → R'.map FR.f = r.D.fs → r.D.fs.length ≤ 1000000 →
   BothV w0 T V wT g d B W r (set8 w4 B (.int .i64 (r.D.room : Int)) (.slice a' n' c') (.int .i64 (r.D.plan : Int)) (.bool r.D.down) (.int .i64 r.most) (.int .i64 (r.n : Int)) (.int .i64 (r.size : Int)) (.int .i64 (r.wait : Int))) := by
 obtain ⟨Y, h1, h2, h3, X, h4, h5⟩ := h.log
 obtain ⟨n1, n2, n3, n4⟩ := h.ne
 obtain ⟨a, n, c, hc, hrl, hrf, hX⟩ := logO_ref h4
 refine ⟨X, a, n, c, hc, hrl, hrf, hX, fun r w4 a' n' c' R' hb4 hR' hf hn => ?_⟩
 have hC := set8_chg w4 B (.int .i64 (r.D.room : Int)) (.slice a' n' c') (.int .i64 (r.D.plan : Int)) (.bool r.D.down) (.int .i64 r.most) (.int .i64 (r.n : Int)) (.int .i64 (r.size : Int)) (.int .i64 (r.wait : Int))
 have hbx := rbox_put h4 hR' hf hb4 hn
 have hL4 := (h1.all hb4).turned hC (fun b hb => by rw [hb]; exact ⟨.inl h2, n1, n2⟩)
 have hgl := h1.lt
 refine ⟨⟨_, hL4, .inl (.inl h2), fun b hb => .inl (.inl (h3 b hb)), _, hbx, fun b hb => ?_⟩, h.ne, h.tb, fun b ht => ?_, Nat.le_trans h.size (Nat.le_trans hb4.size hC.size), h.sub⟩
 ·rcases hb.1 with hx | hx
  ·exact ⟨.inl (.inl (h5 b hx).1), (h5 b hx).2.1, (h5 b hx).2.2⟩
  ·exact ⟨.inl (.inr ⟨hx, hb.2⟩), by omega, fun ht => by have := h1.own.blocks b (h3 b (h.sub b ht)); omega⟩
 ·have hbl := h1.own.blocks b (h3 b ht)
  have hsz4 := hb4.size
  exact (hC.block b (by omega) (fun e => n3 (e ▸ ht))).trans ((hb4.block b hbl).trans (h.keep b ht))

theorem BothV.newBox (h : BothV w0 T V wT g d B W Wb wr) : ∃ (X : Nat → Prop) (a : Option Addr) (n c : Nat), wr.heap[B]? = some (logO (Wb.D.room : Int) a n c (Wb.D.plan : Int) Wb.D.down Wb.most (Wb.n : Int) (Wb.size : Int) (Wb.wait : Int)) ∧
  RLogAt X wr (logV (Wb.D.room : Int) a n c (Wb.D.plan : Int) Wb.D.down Wb.most (Wb.n : Int) (Wb.size : Int) (Wb.wait : Int)) Wb ∧ RefAt X wr (refV (Wb.D.room : Int) a n c (Wb.D.plan : Int) Wb.D.down) Wb.D ∧ (∀ b, X b → b < wr.heap.size) ∧
  ∀ (r : WM) (w4 : World) (a' : Option Addr) (n' c' : Nat) (R' : List FR), Below wr.heap.size wr w4 → RowF (fun b => (X b ∨ wr.heap.size ≤ b) ∧ b < w4.heap.size) w4 a' n' c' R' → R'.map FR.f = r.D.fs → r.D.fs.length ≤ 1000000 →
   BothV w0 T V wT g d w4.heap.size W r (w4.alloc (logO (r.D.room : Int) a' n' c' (r.D.plan : Int) r.D.down r.most (r.n : Int) (r.size : Int) (r.wait : Int))) := by
 obtain ⟨Y, h1, h2, h3, X, h4, h5⟩ := h.log
 obtain ⟨n1, n2, n3, n4⟩ := h.ne
 obtain ⟨a, n, c, hc, hrl, hrf, hX⟩ := logO_ref h4
 refine ⟨X, a, n, c, hc, hrl, hrf, hX, fun r w4 a' n' c' R' hb4 hR' hf hn => ?_⟩
 have hb5 := (Below.refl w4.heap.size w4).alloc (Nat.le_refl _) (logO (r.D.room : Int) a' n' c' (r.D.plan : Int) r.D.down r.most (r.n : Int) (r.size : Int) (r.wait : Int))
 have hb := hb4.trans (hb5.mono hb4.size)
 have hnl : n' ≤ 1000000 := by rw [← hR'.len, ← List.length_map (f := FR.f), hf]; exact hn
 have hs5 : (w4.alloc (logO (r.D.room : Int) a' n' c' (r.D.plan : Int) r.D.down r.most (r.n : Int) (r.size : Int) (r.wait : Int))).heap.size = w4.heap.size + 1 := World.size_alloc _ _
 have hs4 := hb4.size
 have hgl := h1.lt
 refine ⟨⟨_, h1.all hb, .inr ⟨hs4, by omega⟩, fun b hb => .inl (h3 b hb), fun b => (X b ∨ wr.heap.size ≤ b) ∧ b < w4.heap.size, ⟨a', n', c', R', heap_alloc_new _ _, (hR'.below (fun b hb => hb.2) hb5), hf, hnl, fun b hb => ⟨by omega, by omega⟩⟩, fun b hb => ?_⟩, ⟨by omega, by have := h1.own.base.size; omega, fun ht => by have := h1.own.blocks _ (h3 _ ht); omega, n4⟩, h.tb, fun b ht => (hb.block b (h1.own.blocks b (h3 b ht))).trans (h.keep b ht), Nat.le_trans h.size hb.size, h.sub⟩
 rcases hb.1 with hx | hx
 ·exact ⟨.inl (h5 b hx).1, (h5 b hx).2.1, (h5 b hx).2.2⟩
 ·exact ⟨.inr ⟨hx, by omega⟩, by omega, fun ht => by have := h1.own.blocks b (h3 b (h.sub b ht)); omega⟩

theorem BothV.new {Y X : Nat → Prop} (hL : LogAt w0 Y wr g d W) (hR : RBox X wr B Wb) (hB : Y B) (hXY : ∀ b, X b → Y b ∧ b ≠ g ∧ ¬ T b) (hne : B ≠ g) (h0 : w0.heap.size ≤ B) (hT : ∀ b, T b → Y b) (hBT : ¬ T B) (hgT : ¬ T g) : BothV w0 T T wr g d B W Wb wr :=
 ⟨⟨Y, hL, hB, hT, X, hR, hXY⟩, ⟨hne, h0, hBT, hgT⟩, fun b h => hL.own.blocks b (hT b h), fun _ _ => rfl, Nat.le_refl _, fun _ h => h⟩
end
end Go.Proofs.YtnbddiiedagllaaGreat

/- Logs while records are put into them, whatever fails: how small they stay. -/
namespace Go.Proofs.YtnbddiiedagllaaGreat
open Go.RowKit Go.Maps

structure Tidy (W : WM) (N U n s k : Nat) (room : Nat) (most : Int) : Prop where
 neat : Neat W.D N U
 named : Named W.D
 n1 : 1 ≤ W.n
 n2 : W.n ≤ n
 size : W.size ≤ s
 wait : W.wait ≤ k
 rm : W.D.room = room
 most : W.most = most

theorem Tidy.mono {W : WM} {N U n s k N' U' n' s' k' : Nat} {room : Nat} {most : Int} (h : Tidy W N U n s k room most) (h1 : N ≤ N') (h2 : U ≤ U') (h3 : n ≤ n') (h4 : s ≤ s') (h5 : k ≤ k') : Tidy W N' U' n' s' k' room most :=
 ⟨h.neat.mono h1 h2, h.named, h.n1, Nat.le_trans h.n2 h3, Nat.le_trans h.size h4, Nat.le_trans h.wait h5, h.rm, h.most⟩

theorem nmB_short (N : Nat) : (nmB N).length ≤ 9223372036854775807 := by rw [nmB_length]; decide

theorem appendM_rm (n : List UInt8) (b : List Nat) (M : DM) : (appendM n b M).1.room = M.room := by
 unfold appendM chgM onM
 split
 ·exact (failM_rm M).1
 ·split
  ·split
   ·exact (failM_rm M).1
   ·dsimp only
    split <;> exact (failM_rm M).1
  ·exact (failM_rm M).1

section
variable {W : WM} {N U n s k room : Nat} {most : Int}

theorem tidy_rot (h : Tidy W N U n s k room most) : Tidy (rotW W).1 (N + 2) U (n + 1) s k room most := by
 by_cases hN : W.n < 99999999
 ·have h1 := stepM_neat h.neat 3 (nmB W.n) [] []
  have h2 := named_step h.named 3 (tt := []) [] (nmB_short W.n) (Nat.zero_le _)
  have h3 := stepM_neat h1 1 (nmB (W.n + 1)) [] []
  have h4 := named_step h2 1 (tt := []) [] (nmB_short (W.n + 1)) (Nat.zero_le _)
  have e1 : stepM 3 (nmB W.n) [] [] W.D = syncM (nmB W.n) W.D := rfl
  have e2 : stepM 1 (nmB (W.n + 1)) [] [] (syncM (nmB W.n) W.D).1 = createM (nmB (W.n + 1)) (syncM (nmB W.n) W.D).1 := rfl
  rw [e1] at h1 h2 h3 h4
  rw [e2] at h3 h4
  have hu : U + ([] : List Nat).length + ([] : List Nat).length ≤ U := by simp
  have hu1 : U + ([] : List Nat).length ≤ U := by simp
  have r1 := (syncM_rm (nmB W.n) W.D).trans h.rm
  have r2 := (createM_rm (nmB (W.n + 1)) (syncM (nmB W.n) W.D).1).1.trans r1
  have n1 := h.n1
  have n2 := h.n2
  rw [rotW_eq W hN]
  dsimp only
  split
  ·split
   ·exact ⟨h3.mono (by omega) hu, h4, by show 1 ≤ W.n + 1; omega, by show W.n + 1 ≤ n + 1; omega, Nat.zero_le _, Nat.zero_le _, r2, h.most⟩
   ·exact ⟨h3.mono (by omega) hu, h4, n1, by show W.n ≤ n + 1; omega, h.size, h.wait, r2, h.most⟩
  ·exact ⟨h1.mono (by omega) hu1, h2, n1, by show W.n ≤ n + 1; omega, h.size, h.wait, r1, h.most⟩
 ·have e : rotW W = (W, 2) := by unfold rotW; rw [if_pos (by omega)]
  rw [e]
  exact h.mono (by omega) (Nat.le_refl _) (by omega) (Nat.le_refl _) (Nat.le_refl _)

theorem tidy_app (h : Tidy W N U n s k room most) (l : List Nat) : Tidy (appW W l).1 (N + 1) (U + (l.length + 8)) n (s + (l.length + 8)) (k + 1) room most := by
 have h1 := stepM_neat h.neat 2 (nmB W.n) [] (frameL l)
 have h2 := named_step h.named 2 (tt := []) (frameL l) (nmB_short W.n) (Nat.zero_le _)
 rw [frameL_len] at h1
 have r1 := (appendM_rm (nmB W.n) (frameL l) W.D).trans h.rm
 have n5 := h.size
 have n6 := h.wait
 rw [appW_eq]
 dsimp only
 split
 ·exact ⟨h1, h2, h.n1, h.n2, by show W.size + _ ≤ _; omega, by show W.wait + 1 ≤ _; omega, r1, h.most⟩
 ·exact ⟨h1, h2, h.n1, h.n2, by show W.size ≤ _; omega, by show W.wait ≤ _; omega, r1, h.most⟩

theorem tidy_put (h : Tidy W N U n s k room most) (l : List Nat) : Tidy (putW W l).1 (N + 3) (U + (l.length + 8)) (n + 1) (s + (l.length + 8)) (k + 1) room most := by
 have h0 : Tidy W (N + 3) (U + (l.length + 8)) (n + 1) (s + (l.length + 8)) (k + 1) room most := h.mono (by omega) (by omega) (by omega) (by omega) (by omega)
 have hr := tidy_rot h
 unfold putW
 split
 ·exact h0
 ·split
  ·exact h0
  ·split
   ·split
    ·exact hr.mono (by omega) (by omega) (by omega) (by omega) (by omega)
    ·exact (tidy_app hr l).mono (by omega) (by omega) (by omega) (by omega) (by omega)
   ·exact (tidy_app h l).mono (by omega) (by omega) (by omega) (by omega) (by omega)
end

theorem tidy_start (room most : Int) : Tidy (startW room most) 1 0 1 0 0 room.toNat most := by
 obtain ⟨h1, h2⟩ := start_inv room most
 obtain ⟨s1, s2, s3⟩ := h1.small
 have hpl : (startW room most).D.plan = 0 := h1.plan
 refine ⟨⟨by rw [hpl]; decide, h1.sorted, ⟨by rw [s1]; exact Nat.le_refl _, by rw [s2]; exact Nat.le_refl _⟩⟩, s3, Nat.le_refl _, Nat.le_refl _, Nat.le_refl _, Nat.le_refl _, h2, rfl⟩

theorem tidy_run {W : WM} {N U n s k room : Nat} {most : Int} (h : Tidy W N U n s k room most) (ls : List (List Nat)) : Tidy (runP W ls) (N + 3 * ls.length) (U + sizeL ls) (n + ls.length) (s + sizeL ls) (k + ls.length) room most := by
 have key : ∀ (ls : List (List Nat)) {W : WM} {N U n s k : Nat}, Tidy W N U n s k room most → Tidy (runP W ls) (N + 3 * ls.length) (U + sizeL ls) (n + ls.length) (s + sizeL ls) (k + ls.length) room most := by
  intro ls
  induction ls with
  | nil => intro W N U n s k h; exact h.mono (by omega) (by omega) (by omega) (by omega) (by omega)
  | cons l ls ih =>
   intro W N U n s k h
   have h1 := ih (tidy_put h l)
   rw [sizeL_cons, List.length_cons]
   exact h1.mono (by omega) (by omega) (by omega) (by omega) (by omega)
 exact key ls h

theorem tidy_takes (room most : Int) (ls : List (List Nat)) (j : Nat) : Tidy (runP (startW room most) (ls.take j)) (1 + 3 * ls.length) (sizeL ls) (1 + ls.length) (sizeL ls) ls.length room.toNat most := by
 have h := tidy_run (tidy_start room most) (ls.take j)
 have h1 := sizeL_takes ls j
 have h2 : (ls.take j).length ≤ ls.length := by rw [List.length_take]; omega
 exact h.mono (by omega) (by omega) (by omega) (by omega) (by omega)

theorem allOf_new (room : Int) : AllOf (newM room) [] := by
 refine ⟨⟨List.Pairwise.nil, fun x => ⟨fun h => by simp at h, ?_⟩⟩, fun p hp => by simp at hp⟩
 rintro ⟨l, hl, _⟩
 cases hl

theorem neat_new (room : Int) : Neat (newM room) 0 0 := ⟨Nat.zero_le _, List.Pairwise.nil, ⟨Nat.le_refl _, Nat.le_refl _⟩⟩

theorem open_new {room : Int} {r : OR} (h : IsOpen (newM room) [] r) : r = ⟨0, (startW room 0).D, 1, 0, []⟩ := by
 have hc : cleanM [cutB, newB] (newM room) = [] := by
  unfold cleanM
  rw [List.filter_eq_nil_iff.2]
  ·rfl
  ·intro n _
   simp [newM]
 rcases h with ⟨⟨k, ⟨h1, _⟩, _⟩, _⟩ | ⟨ops, N, size, recs, hr, rfl⟩
 ·exact absurd h1 (by simp)
 ·rcases hr with ⟨_, rfl, rfl, rfl, rfl⟩ | ⟨k, hp, _⟩
  ·have e : repNone (newM room) = [⟨1, nmB 1, [], []⟩] := by
    unfold repNone
    rw [hc]
    rfl
   have e2 : stepsM (repNone (newM room)) (newM room) = ((createM (nmB 1) (newM room)).1, 0) := by
    rw [e]
    have e3 : createM (nmB 1) (newM room) = ({ newM room with fs := [⟨nmB 1, [], 0⟩] }, 0) := by
     unfold createM chgM
     rw [show failM (newM room) = newM room from rfl, nmB_named]
     rfl
    show (if (createM (nmB 1) (newM room)).2 = 0 then ((createM (nmB 1) (newM room)).1, (0 : Int)) else createM (nmB 1) (newM room)) = _
    rw [if_pos (by rw [e3])]
   rw [e2]
   rfl
  ·exact absurd hp (by simp)
end Go.Proofs.YtnbddiiedagllaaGreat

