import Derived.Test.YtnbddiiedagllaaGreatSSL44
import Derived.Test.YtnbddiiedagllaaGreatSSL38
import Derived.Test.YtnbddiiedagllaaGreatSSL42
import Derived.IntWalk
/- The walk of the statements' alive; small walks that the statements of trim share. -/
namespace Go.Proofs.YtnbddiiedagllaaGreat
open Go.RowKit Go.Maps Go.Shelf

attribute [local go_sem ↓] Go.wp_at_zero Go.wp_at_succ

def aliveW : WM := runP (startW 1000 50) [[1], [2]]

theorem alive_names : aliveW.D.fs.map F.n = [nmB 1] ∧ aliveW.n = 1 := by decide +kernel

theorem alive_segs : SegsOf aliveW.D [1] := by
 have hf : (aliveW.D.fs.map fun f => nmL f.n) = [nameL 1] := by
  have h := congrArg (fun l => l.map nmL) alive_names.1
  simp only [List.map_map, List.map_cons, List.map_nil, nmL_nmB] at h
  exact h
 refine ⟨by unfold Asc; simp, fun x => ?_⟩
 unfold NumsOf
 rw [hf]
 have h1 : segNum (nameL 1) = 1 := segNum_name (by decide)
 constructor
 ·intro h
  have hx : x = 1 := by simpa using h
  exact ⟨nameL 1, by simp, by rw [h1]; decide, by rw [h1, hx]; rfl⟩
 ·rintro ⟨l, hl, _, rfl⟩
  obtain rfl : l = nameL 1 := by simpa using hl
  rw [h1]
  simp

theorem alive_steps : (stepsM (compOps aliveW.D [1] 2 (joinL [[]])) aliveW.D).2 = 0 ∧ (stepsM (compOps aliveW.D [1] 2 (joinL [[]])) aliveW.D).1.fs.length = 1 ∧ usedF (stepsM (compOps aliveW.D [1] 2 (joinL [[]])) aliveW.D).1.fs = 8 := by decide +kernel

theorem alive_plain {r : DM × Int} (h : CompOf aliveW [] r) : r.2 = 0 ∧ r.1.fs.length = 1 ∧ usedF r.1.fs = 8 := by
 rcases h with ⟨h1, _⟩ | ⟨_, out, ho, rfl⟩
 ·rcases h1 with h1 | h1
  ·cases h1
  ·rw [alive_names.2] at h1
   exact absurd h1 (by decide)
 ·rw [alive_names.2]
  rw [segsOf_uniq ho alive_segs]
  exact alive_steps

theorem parts_none (w : World) : Parts w none 0 0 [] := ⟨rfl, Nat.le_refl _, by omega, fun h => absurd h (Nat.lt_irrefl _)⟩

def aliveWorld (w : World) : World := ((w.alloc (.cells #[.int .u8 1] 5)).alloc (.cells #[.int .u8 2] 5)).alloc (.cells #[.slice (some ⟨w.heap.size, 0, none⟩) 1 1, .slice (some ⟨w.heap.size + 1, 0, none⟩) 1 1] 58)

theorem alive_parts (w : World) : Parts (aliveWorld w) (some ⟨w.heap.size + 2, 0, none⟩) 2 2 [[1], [2]] ∧ Below w.heap.size w (aliveWorld w) := by
 have hb1 := (Below.refl w.heap.size w).alloc (Nat.le_refl _) (.cells #[.int .u8 1] 5)
 obtain ⟨w1, hw1⟩ : ∃ w1, w1 = w.alloc (.cells #[.int .u8 1] 5) := ⟨_, rfl⟩
 have hz1 : w1.heap.size = w.heap.size + 1 := by rw [hw1]; simp
 have hB1 : Bytes w1 (some ⟨w.heap.size, 0, none⟩) 1 1 [1] := by rw [hw1]; exact bytes_new w [1] (by decide) (by decide)
 have hb2 := (Below.refl w1.heap.size w1).alloc (Nat.le_refl _) (.cells #[.int .u8 2] 5)
 obtain ⟨w2, hw2⟩ : ∃ w2, w2 = w1.alloc (.cells #[.int .u8 2] 5) := ⟨_, rfl⟩
 have hz2 : w2.heap.size = w.heap.size + 2 := by rw [hw2, World.size_alloc, hz1]
 have hB2 : Bytes w2 (some ⟨w1.heap.size, 0, none⟩) 1 1 [2] := by rw [hw2]; exact bytes_new w1 [2] (by decide) (by decide)
 rw [← hw1] at hb1
 rw [← hw2] at hb2
 have hb3 := (Below.refl w2.heap.size w2).alloc (Nat.le_refl _) (.cells #[.slice (some ⟨w.heap.size, 0, none⟩) 1 1, .slice (some ⟨w.heap.size + 1, 0, none⟩) 1 1] 58)
 have hn := heap_alloc_new w2 (.cells #[.slice (some ⟨w.heap.size, 0, none⟩) 1 1, .slice (some ⟨w.heap.size + 1, 0, none⟩) 1 1] 58)
 have e : aliveWorld w = w2.alloc (.cells #[.slice (some ⟨w.heap.size, 0, none⟩) 1 1, .slice (some ⟨w.heap.size + 1, 0, none⟩) 1 1] 58) := by unfold aliveWorld; rw [hw2, hw1]
 rw [e]
 rw [hz2] at hn
 rw [hz1] at hB2
 refine ⟨⟨rfl, Nat.le_refl _, by decide, fun _ => ⟨w.heap.size + 2, 0, rfl, by rw [World.size_alloc, hz2]; omega, fun i hi => ?_⟩⟩, (hb1.trans (hb2.mono (by omega))).trans (hb3.mono (by omega))⟩
 rw [cell_of_row _ _ _ _ _ (0, 0) hn]
 match i, hi with
 | 0, _ => exact ⟨some ⟨w.heap.size, 0, none⟩, 1, 1, rfl, (hB1.grow hb2).grow hb3⟩
 | 1, _ => exact ⟨some ⟨w.heap.size + 1, 0, none⟩, 1, 1, rfl, hB2.grow hb3⟩

theorem row_form {w : World} {base : Nat} {e : TypeId} {k n : Nat} {v : Value} {l : List Value} (h : w.ownsRow base e k v n l) : ∃ p c, v = .slice p n c := by
 rcases h.2 with ⟨rfl, h0⟩ | ⟨g, cap, cur, rfl, _⟩
 ·exact ⟨none, 0, by rw [h0]⟩
 ·exact ⟨_, cap, rfl⟩

set_option maxRecDepth 100000 in
set_option maxHeartbeats 6400000 in
theorem talive_any (w : World) : Calls Tryz.prog 36 #[] w fun e w' => e = .returned (.bool true) ∧ Below w.heap.size w w' := by
 obtain ⟨hP, hb0⟩ := alive_parts w
 have HS := Lib.hid (start10_any 1000 50 (by omega) (by omega) (by omega) (by omega) _ 2 2 [[1], [2]] (aliveWorld w) hP (by omega) (by decide))
 have Hb0 := Lib.hid hb0
 unfold aliveWorld at HS Hb0
 clear hP hb0
 go_enter Tryz.func36, Tryz.ntmps36
 go_wp2_with fail
 refine HS.out.mono ?_
 rintro e w1 ⟨d, g, a, n, c, R, Y, X, rfl, hL, hR, hf, hXY⟩
 have hA : runP (startW 1000 50) [[1], [2]] = aliveW := rfl
 rw [hA] at hL hf ⊢
 have htd : Tidy aliveW 7 18 3 18 2 1000 50 := tidy_run (tidy_start 1000 50) [[1], [2]]
 unfold logV
 obtain ⟨w2, hw2⟩ : ∃ w2, w2 = w1.alloc (.cells #[.int .i64 (aliveW.D.room : Int), .slice a n c, .int .i64 (aliveW.D.plan : Int), .bool aliveW.D.down, .int .i64 aliveW.most, .int .i64 (aliveW.n : Int), .int .i64 (aliveW.size : Int), .int .i64 (aliveW.wait : Int)] 47) := ⟨_, rfl⟩
 have hb12 : Below w1.heap.size w1 w2 := by rw [hw2]; exact (Below.refl _ _).alloc (Nat.le_refl _) _
 have hL2 := hL.below hb12
 have HC := Lib.hid (compact_any hL2 (htd.neat.mono (N' := 900) (U' := 18) (by omega) (Nat.le_refl _)) (by omega) htd.named htd.n1 (by have := htd.n2; omega) 50 none 0 0 [] (parts_none w2) (by omega) (by decide))
 have Hbase := Lib.hid (Hb0.out.trans (hL2.own.base.mono Hb0.out.size))
 have Hw2 := Lib.hid hw2
 have Hb0s := Lib.hid Hb0.out.size
 clear hL hR hf hXY hA htd hb12 hL2 hw2
 go_wp2_with fail
 rw [← Hw2.out]
 refine HC.out.mono ?_
 rintro e w3 ⟨r, hC, hcase⟩
 obtain ⟨z1, z2, z3⟩ := alive_plain hC
 rcases hcase with ⟨h, _⟩ | ⟨_, g2, rfl, hg2, hL3, hk2, hb3, hs3⟩
 ·exact absurd z1 h
 have hc1 : w3.cell? ⟨g2, 1, none⟩ = some (.int .i64 8) := hL3.cell.2.1
 have HSz := Lib.hid (wsize_any hc1)
 have hOw : Own _ _ w3 d r.1 := hL3.own
 have HLi := Lib.hid (own_list hOw (by omega))
 have HUs := Lib.hid (fun W (hW : Below w3.heap.size w3 W) => own_used (hOw.below hW))
 rw [z2] at HLi
 rw [z3] at HUs
 have Hb3 := Lib.hid (Hbase.out.trans (hb3.mono (Nat.le_trans Hb0s.out (Nat.le_refl _))))
 clear hC z1 z2 z3 hg2 hL3 hk2 hb3 hs3 hc1 hOw HC
 go_wp2_with fail
 refine HSz.out.mono ?_
 rintro e w4 ⟨rfl, rfl⟩
 go_wp2_with fail
 refine HLi.out.mono ?_
 rintro e w5 ⟨v5, rfl, hown5, hb5⟩
 obtain ⟨p5, k5, rfl⟩ := row_form hown5
 have HUs2 := Lib.hid (HUs.out w5 hb5)
 have Hb5 := Lib.hid (Hb3.out.trans (hb5.mono Hb3.out.size))
 clear hown5 hb5
 go_wp2_with fail
 refine HUs2.out.mono ?_
 rintro e w6 ⟨rfl, hb6⟩
 have Hb6 := Lib.hid (Hb5.out.trans (hb6.mono Hb5.out.size))
 clear hb6
 go_wp2
 go_ret
 exact ⟨rfl, Hb6.out⟩
end Go.Proofs.YtnbddiiedagllaaGreat

/- The walks of the reference's Compact, and of its bytes. -/
namespace Go.Proofs.YtnbddiiedagllaaGreat
open Go.RowKit Go.Maps Go.Shelf

attribute [local go_sem ↓] Go.wp_at_zero Go.wp_at_succ

set_option maxRecDepth 100000 in
theorem rbytes10_any (a : Option Addr) (n cap : Nat) (ls : List (List Nat)) (w : World) (hl : Parts w a n cap ls) (hn : n ≤ 1000000) (hr : ∀ r ∈ ls, r.length ≤ 1048576) (hs : sizeL ls ≤ 1000000) :
  Calls Tryz.prog 46 #[.slice a n cap] w fun e w' => ∃ p c, e = .returned (.tuple #[.slice p (sizeL ls + 8) c, .bool true]) ∧ Bytes w' p (sizeL ls + 8) c (joinL ([] :: ls)) ∧ (∀ x, p = some x → w.heap.size ≤ x.block) ∧ Below w.heap.size w w' := by
 have hP := Lib.hid hl
 have hls := Lib.hid hl.len
 have hrl : ∀ r ∈ ([] : List Nat) :: ls, r.length ≤ 1048576 := by
  intro r h
  rcases List.mem_cons.1 h with rfl | h
  ·exact Nat.zero_le _
  ·exact hr r h
 have hjl : (joinL ([] :: ls)).length = sizeL ls + 8 := by rw [joinL_len, sizeL_mark]
 have Hjb := Lib.hid (joinL_byte (ls := [] :: ls) (fun r h x hx => by
  rcases List.mem_cons.1 h with rfl | h
  ·cases hx
  ·exact hl.byte r h x hx) hrl)
 have HJ := Lib.hid (fun a c w1 hQ => rjoin_any a (n + 1) c ([] :: ls) w1 hQ hrl (by rw [hjl]; omega))
 have Ho := Lib.hid (ownRow_one w)
 have Hb := Lib.hid ((Below.refl w.heap.size w).alloc (Nat.le_refl _) (.cells #[.slice none 0 0] 58))
 have Hjl := Lib.hid hjl
 clear hl hr hrl hjl hs
 go_enter Tryz.func46, Tryz.ntmps46
 go_wp2_with (at_builtin; refine wpList_append_rows rfl _ _ 29 rfl Tryz.underlying29 info_rows rfl Ho.out rfl hP.out Hb.out (by show 1 + n ≤ 1000000000; omega) ?_; intro v' w' h1 h2)
 obtain ⟨a', c', rfl, hQ⟩ := h1.parts
 have hl2 : ([[]] ++ ls).length = n + 1 := by rw [List.length_append, hls.out]; show 1 + n = n + 1; omega
 rw [hl2] at hQ ⊢
 have HJ2 := Lib.hid (HJ.out a' c' w' hQ)
 have Hb2 := Lib.hid h2
 clear h1 h2 hQ hl2 HJ
 go_wp2_with fail
 refine HJ2.out.mono ?_
 rintro e w5 ⟨v5, rfl, hown5, hb5⟩
 obtain ⟨p5, c5, rfl, hB5⟩ := own_slice hown5 Hjb.out
 have hp5 : ∀ x, p5 = some x → w.heap.size ≤ x.block := by
  rintro x rfl
  rcases hown5.2 with ⟨e, _⟩ | ⟨k, cap, cur, e, hk, _⟩
  ·cases e
  ·cases e
   exact Nat.le_trans Hb2.out.size hk
 rw [Hjl.out] at hB5 ⊢
 have HB5 := Lib.hid hB5
 have Hp5 := Lib.hid hp5
 have Hb5 := Lib.hid (Hb2.out.trans (hb5.mono Hb2.out.size))
 clear hown5 hB5 hp5 hb5
 go_wp2
 go_ret2
 exact ⟨p5, c5, rfl, HB5.out, Hp5.out, Hb5.out⟩

theorem clean_all {nms : List (List UInt8)} {M : DM} (h : ∀ n ∈ nms, n ∈ M.fs.map F.n) : cleanM nms M = nms.map fun n => ⟨5, n, [], []⟩ := by
 unfold cleanM
 rw [List.filter_eq_self.2]
 intro n hn
 exact decide_eq_true (h n hn)

theorem older_ops {M : DM} {out : List Int} (ho : SegsOf M out) (n : Nat) : cleanM (olderL out (n : Int)) M = oldOps out n := by
 unfold olderL oldOps
 rw [clean_all, List.map_map]
 ·rfl
 ·intro nm hnm
  obtain ⟨x, hx, rfl⟩ := List.mem_map.1 hnm
  obtain ⟨l, hl, h1, rfl⟩ := (ho.2 x).1 (List.mem_filter.1 hx).1
  obtain ⟨f, hf, rfl⟩ := List.mem_map.1 hl
  exact List.mem_map.2 ⟨f, hf, by rw [Int.toNat_natCast]; exact (nmB_of_num h1).symm⟩

def compR (W : WM) (most : Int) (recs : List (List Nat)) (r : DM × Int) : WM := if r.2 = 0 then compW W most recs r.1 else { W with D := r.1 }

def RCompEnd (X : Nat → Prop) (w : World) (W : WM) (most : Int) (recs : List (List Nat)) (e : Ending) (w' : World) : Prop := ∃ r, CompOf W recs r ∧ RLogEnd X w (compR W most recs r, r.2) e w'

theorem rlog_end {X Z : Nat → Prop} {w wc : World} {a : Option Addr} {n c : Nat} {R : List FR} {W' : WM} (hb : Below w.heap.size w wc) (hR : RowF Z wc a n c R) (hZ : ∀ b, Z b → b ≠ w.heap.size + 1 ∧ (X b ∨ w.heap.size ≤ b) ∧ b < wc.heap.size) (hf : R.map FR.f = W'.D.fs) (z : Int) :
  RLogEnd X w (W', z) (.returned (.tuple #[logV (W'.D.room : Int) a n c (W'.D.plan : Int) W'.D.down W'.most (W'.n : Int) (W'.size : Int) (W'.wait : Int), .int .i64 z])) (set8 wc (w.heap.size + 1) (.int .i64 (W'.D.room : Int)) (.slice a n c) (.int .i64 (W'.D.plan : Int)) (.bool W'.D.down) (.int .i64 W'.most) (.int .i64 (W'.n : Int)) (.int .i64 (W'.size : Int)) (.int .i64 (W'.wait : Int))) := by
 refine ⟨a, n, c, R, rfl, ?_, hf, fill8 hb (Nat.le_succ _) _ _ _ _ _ _ _ _⟩
 refine (row_fill (B := w.heap.size + 1) hR (fun b h => (hZ b h).1) (Z' := fun b => (X b ∨ w.heap.size ≤ b) ∧ b < wc.heap.size) (fun b h => (hZ b h).2) _ _ _ _ _ _ _ _).mono (fun _ _ => rfl) (fun b h => ⟨h.1, ?_⟩)
 rw [set8_size]
 exact h.2

theorem rlog_alloc {X : Nat → Prop} {w w' : World} {r : WM × Int} {e : Ending} (h : RLogEnd X w r e w') (o : Obj) : RLogEnd X w r e (w'.alloc o) := by
 obtain ⟨a, n, c, R, he, hR, hf, hb⟩ := h
 have ha := (Below.refl w'.heap.size w').alloc (Nat.le_refl _) o
 exact ⟨a, n, c, R, he, (hR.below (fun b hb => hb.2) ha).mono (fun _ _ => rfl) (fun b hb => ⟨hb.1, Nat.lt_of_lt_of_le hb.2 ha.size⟩), hf, hb.trans (ha.mono hb.size)⟩

def startL (w : World) (W : WM) (a : Option Addr) (n c : Nat) : World :=
 (w.alloc (logO (W.D.room : Int) a n c (W.D.plan : Int) W.D.down W.most (W.n : Int) (W.size : Int) (W.wait : Int))).alloc (logO 0 none 0 0 0 false 0 0 0 0)

theorem startL_facts (w : World) (W : WM) (a : Option Addr) (n c : Nat) :
  Below w.heap.size w (startL w W a n c) ∧ (startL w W a n c).heap.size = w.heap.size + 2 ∧
  (startL w W a n c).heap[w.heap.size]? = some (logO (W.D.room : Int) a n c (W.D.plan : Int) W.D.down W.most (W.n : Int) (W.size : Int) (W.wait : Int)) ∧
  (startL w W a n c).heap[w.heap.size + 1]? = some (logO 0 none 0 0 0 false 0 0 0 0) := by
 unfold startL
 refine ⟨((Below.refl _ _).alloc (Nat.le_refl _) _).alloc (by simp) _, by simp, (Below.heap_alloc _ _ _ (by simp)).trans (heap_alloc_new _ _), ?_⟩
 have h := heap_alloc_new (w.alloc (logO (W.D.room : Int) a n c (W.D.plan : Int) W.D.down W.most (W.n : Int) (W.size : Int) (W.wait : Int))) (logO 0 none 0 0 0 false 0 0 0 0)
 rw [World.size_alloc] at h
 exact h

theorem compR_two (W : WM) (most : Int) (recs : List (List Nat)) : compR W most recs (W.D, 2) = W := by
 unfold compR
 rw [if_neg (by show ¬ (2 : Int) = 0; decide)]

theorem names_new (w : World) : Nms (w.alloc (.cells #[.string ⟨#[110, 101, 119]⟩] 9)) (some ⟨w.heap.size, 0, none⟩) 1 1 [newB] := by
 refine ⟨rfl, by decide, fun x hx => by rw [List.mem_singleton.1 hx]; decide, fun _ => ⟨w.heap.size, 0, rfl, fun i hi => ?_⟩⟩
 obtain rfl : i = 0 := by simpa using hi
 rw [cell_of_row _ _ _ _ _ (0, 0) (heap_alloc_new _ _)]
 rfl

theorem comp_ops {M : DM} {out : List Int} (ho : SegsOf M out) (n : Nat) (b : List Nat) : (cleanM [newB] M ++ fillOps n b) ++ cleanM (olderL out (n : Int)) M = compOps M out n b := by
 rw [older_ops ho]
 rfl

theorem comp_bs {M : DM} {out : List Int} {n : Nat} {b : List Nat} {T : Nat} (hb : b.length ≤ T) : ∀ x ∈ compOps M out n b, x.bs.length ≤ T := by
 intro x hx
 unfold compOps at hx
 rcases List.mem_append.1 hx with h | h
 ·rcases List.mem_append.1 h with h | h
  ·rw [cleanM_bs _ M x h]; exact Nat.zero_le _
  ·unfold fillOps at h
   simp only [List.mem_cons, List.not_mem_nil, or_false] at h
   rcases h with rfl | rfl | rfl | rfl
   ·exact Nat.zero_le _
   ·exact hb
   ·exact Nat.zero_le _
   ·exact Nat.zero_le _
 ·unfold oldOps at h
  obtain ⟨y, _, rfl⟩ := List.mem_map.1 h
  exact Nat.zero_le _

set_option maxRecDepth 100000 in
set_option maxHeartbeats 12800000 in
theorem rcompact_any {X : Nat → Prop} {w : World} {v : Value} {W : WM} (h : RLogAt X w v W) (hX : ∀ b, X b → b < w.heap.size) {U : Nat} (hnt : Neat W.D 900 U) (hU : U ≤ 1000000) (hnm : Named W.D) (h1 : 1 ≤ W.n) (hN : W.n ≤ 99999999) (most : Int) (p : Option Addr) (m k : Nat) (recs : List (List Nat)) (hP : Parts w p m k recs) (hm : m ≤ 1000) (hs : sizeL recs ≤ 5000) :
  Calls Tryz.prog 39 #[v, .int .i64 most, .slice p m k] w (RCompEnd X w W most recs) := by
 obtain ⟨a, n, c, R, rfl, hR, hfs, hn⟩ := h
 obtain ⟨hb1, hz1, hB0, hB1⟩ := startL_facts w W a n c
 unfold startL at hb1 hz1 hB0 hB1
 have hrl : ∀ r ∈ recs, r.length ≤ 1048576 := by
  have key : ∀ (ls : List (List Nat)) (r : List Nat), r ∈ ls → r.length ≤ sizeL ls := by
   intro ls
   induction ls with
   | nil => intro r h; cases h
   | cons l ls ih =>
    intro r h
    rw [sizeL_cons]
    rcases List.mem_cons.1 h with rfl | h
    ·omega
    ·have := ih r h; omega
  intro r hr
  have := key recs r hr
  omega
 have hRW := fun W' (h : Below w.heap.size w W') => hR.below hX h
 have hXW := fun W' (h : Below w.heap.size w W') b (hb : X b) => Nat.lt_of_lt_of_le (hX b hb) h.size
 have HE := Lib.hid (fun (wc : World) (W' : WM) (hf : R.map FR.f = W'.D.fs) (hb : Below w.heap.size w wc) z => rlog_end (X := X) (Z := fun b => X b) (W' := W') hb (hRW wc hb) (fun b hb' => ⟨by have := hX b hb'; omega, .inl hb', hXW wc hb b hb'⟩) hf z)
 have HCl := Lib.hid (fun W' (h : Below w.heap.size w W') p m k nms hN => rclean_any (hRW W' h) (hXW W' h) hfs p m k nms hN)
 have HSt := Lib.hid (fun W' (h : Below w.heap.size w W') p n' c' l hl hN' hT hub => rsteps_any (X := X) (w := W') (v := refV (W.D.room : Int) a n c (W.D.plan : Int) W.D.down) (M := W.D) ⟨a, n, c, R, rfl, hRW W' h, hfs, hn⟩ (hXW W' h) p n' c' l hl hnt (T := 6000) hN' hT hub)
 have HNa := Lib.hid (fun W' (h : Below w.heap.size w W') => rnames_any (X := X) (w := W') (v := refV (W.D.room : Int) a n c (W.D.plan : Int) W.D.down) (M := W.D) ⟨a, n, c, R, rfl, hRW W' h, hfs, hn⟩ (hXW W' h))
 have HOl := Lib.hid (fun p m k l first W hI hm hl => rolder_any p m k l first W hI hm hl)
 have HBy := Lib.hid (fun W' (h : Below w.heap.size w W') => rbytes10_any p m k recs W' (hP.grow h) (by omega) hrl (by omega))
 have HPa := Lib.hid (fun W' (h : Below w.heap.size w W') => hP.grow h)
 obtain ⟨w1, hw1⟩ : ∃ w1, w1 = (w.alloc (logO (W.D.room : Int) a n c (W.D.plan : Int) W.D.down W.most (W.n : Int) (W.size : Int) (W.wait : Int))).alloc (logO 0 none 0 0 0 false 0 0 0 0) := ⟨_, rfl⟩
 rw [← hw1] at hb1 hz1 hB0 hB1
 unfold logO at hw1 hB0 hB1
 unfold logV refV at *
 obtain ⟨c0, c1, c2, c3, c4, c5, c6, c7, cf⟩ := box8 hB0
 obtain ⟨z0, z1, z2, z3, z4, z5, z6, z7, zf⟩ := box8 hB1
 have Hfs := Lib.hid hfs
 have Hb1 := Lib.hid hb1
 have HB0 := Lib.hid hB0
 have HB1 := Lib.hid hB1
 have Hw1 := Lib.hid hw1
 have Hnt := Lib.hid hnt
 have Hnm := Lib.hid hnm
 have HX := Lib.hid hX
 have hls := Lib.hid hP.len
 have Hs := Lib.hid hs
 have HU := Lib.hid hU
 have Hz1 := Lib.hid hz1
 clear hR hX hfs hn hb1 hB0 hB1 hw1 hnt hnm hP hrl hRW hXW hs hU hz1
 go_enter Tryz.func39, Tryz.ntmps39
 go_wp2_with fail
 rw [← Hw1.out]
 clear Hw1
 have HTwo := Lib.hid (show ([] ∈ recs ∨ 99999999 ≤ W.n) → RCompEnd X w W most recs (.returned (.tuple #[.agg #[.int .i64 (W.D.room : Int), .slice a n c, .int .i64 (W.D.plan : Int), .bool W.D.down, .int .i64 W.most, .int .i64 (W.n : Int), .int .i64 (W.size : Int), .int .i64 (W.wait : Int)], .int .i64 2])) (set8 w1 (w.heap.size + 1) (.int .i64 (W.D.room : Int)) (.slice a n c) (.int .i64 (W.D.plan : Int)) (.bool W.D.down) (.int .i64 W.most) (.int .i64 (W.n : Int)) (.int .i64 (W.size : Int)) (.int .i64 (W.wait : Int))) from
  fun hh => ⟨(W.D, 2), .inl ⟨hh, rfl⟩, by rw [compR_two]; exact HE.out w1 W Hfs.out Hb1.out 2⟩)
 unfold set8 at HTwo
 go_loop [8] (fun i => ∃ j : Nat, j ≤ m ∧ i = .int .i64 (j : Int) ∧ [] ∉ recs.take j) (fun i => m - (intOf i).toNat)
 case atStart => exact ⟨0, Nat.zero_le _, rfl, by simp⟩
 case round =>
  obtain ⟨j, hj, rfl, hno⟩ := hrel
  by_cases hlt : j < m
  ·obtain ⟨b, o, a', n', c', rfl, hc, hB⟩ := bytes_get_all (HPa.out w1 Hb1.out) hlt
   have hkl : j < recs.length := by rw [hls.out]; exact hlt
   have hts := List.take_succ_eq_append_getElem hkl
   have hgd : recs.getD j [] = recs[j] := by rw [List.getD_eq_getElem?_getD, List.getElem?_eq_getElem hkl]; rfl
   rw [hgd] at hB
   have hln := hB.len
   have hin := List.getElem_mem hkl
   generalize recs[j] = l at *
   have hji : (j : Int) < (m : Int) := by omega
   by_cases h0 : n' = 0
   ·have hl0 : l = [] := List.length_eq_zero_iff.1 (by omega)
    have Hin := Lib.hid (show ([] : List Nat) ∈ recs from by rw [← hl0]; exact hin)
    subst h0
    clear hts hgd hB hln hin hno hl0 hkl
    go_wp2
    refine bodyPost_ret (v := .tuple #[.agg #[.int .i64 (W.D.room : Int), .slice a n c, .int .i64 (W.D.plan : Int), .bool W.D.down, .int .i64 W.most, .int .i64 (W.n : Int), .int .i64 (W.size : Int), .int .i64 (W.wait : Int)], .int .i64 2]) ?_ rfl (HTwo.out (.inl Hin.out))
    rw [results_cell_tmp rfl]
    go_simp
   ·have hd : ((n' : Int) == 0) = false := by rw [beq_eq_false_iff_ne]; omega
    have Hno := Lib.hid (show ([] : List Nat) ∉ recs.take (j + 1) from by
     rw [hts]
     intro h
     rcases List.mem_append.1 h with h | h
     ·exact hno h
     ·have := List.mem_singleton.1 h
      rw [← this] at hln
      exact h0 hln.symm)
    clear hts hgd hB hln hin hno h0 hkl
    go_wp2
    go_round
    case rel => exact ⟨j + 1, by omega, by go_num, Hno.out⟩
    case measure => simp [intOf]; omega
  ·obtain rfl : j = m := by omega
   have Hno := Lib.hid (show ([] : List Nat) ∉ recs from by rw [← hls.out, List.take_length] at hno; exact hno)
   have hji : ¬ (j : Int) < (j : Int) := by omega
   clear hno hlt
   by_cases hNn : 99999999 ≤ W.n
   ·have hge : (99999999 : Int) ≤ (W.n : Int) := by omega
    go_wp2
    refine bodyPost_ret (v := .tuple #[.agg #[.int .i64 (W.D.room : Int), .slice a n c, .int .i64 (W.D.plan : Int), .bool W.D.down, .int .i64 W.most, .int .i64 (W.n : Int), .int .i64 (W.size : Int), .int .i64 (W.wait : Int)], .int .i64 2]) ?_ rfl (HTwo.out (.inr hNn))
    rw [results_cell_tmp rfl]
    go_simp
   ·have hge : ¬ (99999999 : Int) ≤ (W.n : Int) := by omega
    have hby2 := HBy.out w1 Hb1.out
    have hbl : sizeL recs + 8 = (joinL ([] :: recs)).length := by rw [joinL_len, sizeL_mark]
    rw [hbl] at hby2
    have Hbl := Lib.hid hbl
    have HYes := Lib.hid (fun r (hr : IsComp W.D (W.n + 1) (joinL ([] :: recs)) r) => (show CompOf W recs r from .inr ⟨⟨Hno.out, by omega⟩, hr⟩))
    have hb6 : (joinL ([] :: recs)).length ≤ 6000 := by rw [← hbl]; have := Hs.out; omega
    clear hbl
    generalize joinL ([] :: recs) = B at *
    have HBy2 := Lib.hid hby2
    have hNm : ∀ W', Calls Tryz.prog 69 #[.int .i64 ((W.n : Int) + 1)] W' fun e w' => e = .returned (.tuple #[.string (str (nameL (W.n + 1))), .bool true]) ∧ W' = w' := fun W' => rsegname_yes (W.n + 1) W' (by omega) (by omega)
    have HNm := Lib.hid hNm
    clear HTwo hby2 hNm HBy
    go_wp2_with fail
    refine HBy2.out.mono ?_
    rintro e w2 ⟨pb, cb, rfl, hB2, hpb, hb2⟩
    have hb02 := Hb1.out.trans (hb2.mono Hb1.out.size)
    have hbx2 := (hb2.block _ (Array.getElem?_eq_some_iff.1 HB0.out).1).trans HB0.out
    have hre2 := (hb2.block _ (Array.getElem?_eq_some_iff.1 HB1.out).1).trans HB1.out
    have HS := Lib.hid (fun (W' : World) (hW : Below w2.heap.size w2 W') => (show W'.cell? ⟨w.heap.size, 0, none⟩ = some (.int .i64 (W.D.room : Int)) ∧ W'.cell? ⟨w.heap.size, 1, none⟩ = some (.slice a n c) ∧ W'.cell? ⟨w.heap.size, 2, none⟩ = some (.int .i64 (W.D.plan : Int)) ∧ W'.cell? ⟨w.heap.size, 3, none⟩ = some (.bool W.D.down) ∧ W'.cell? ⟨w.heap.size, 5, none⟩ = some (.int .i64 (W.n : Int)) from by
     obtain ⟨c0, c1, c2, c3, _, c5, _⟩ := box8 ((hW.block _ (Array.getElem?_eq_some_iff.1 hbx2).1).trans hbx2)
     exact ⟨c0, c1, c2, c3, c5⟩))
    have HBX := Lib.hid (fun (W' : World) (hW : Below w2.heap.size w2 W') => (hW.block _ (Array.getElem?_eq_some_iff.1 hbx2).1).trans hbx2)
    have HBR := Lib.hid (fun (W' : World) (hW : Below w2.heap.size w2 W') => (hW.block _ (Array.getElem?_eq_some_iff.1 hre2).1).trans hre2)
    have Hb02 := Lib.hid hb02
    have HB2 := Lib.hid hB2
    have Hpb := Lib.hid (fun (h0 : 0 < B.length) => bytes_blk hB2 h0)
    clear HBy2 hpb hB2 c4 c6 c7 cf z0 z1 z2 z3 z4 z5 z6 z7 zf HB0 HB1
    have hlt2 : w.heap.size + 2 ≤ w2.heap.size := by have := hb2.size; have := Hz1.out; omega
    clear hb02 hbx2 hre2 hb2
    obtain ⟨c0, c1, c2, c3, c5⟩ := HS.out w2 (Below.refl _ _)
    go_wp2_with fail
    refine (HNm.out _).mono ?_
    rintro e w3 ⟨rfl, rfl⟩
    go_wp2_with fail
    have hb23 : Below w2.heap.size w2 (w2.alloc (.cells #[.string ⟨#[110, 101, 119]⟩] 9)) := (Below.refl _ _).alloc (Nat.le_refl _) _
    refine (HCl.out _ (Hb02.out.trans (hb23.mono Hb02.out.size)) _ 1 1 _ (names_new w2)).mono ?_
    rintro e w4 ⟨v4, rfl, hops, hb34⟩
    have hb24 := hb23.trans (hb34.mono hb23.size)
    have hops2 := hops.base hb23.size (cleanM_bs _ _)
    have Hops := Lib.hid hops2
    have Hb24 := Lib.hid hb24
    have hs24 := hb24.size
    clear hops hb34 hb23 hb24 hops2
    obtain ⟨c0, c1, c2, c3, c5⟩ := HS.out w4 Hb24.out
    have hcl := cleanM_len [newB] W.D
    simp only [List.length_cons, List.length_nil] at hcl
    have hrn := rops_new (G := w2.heap.size) (w := w4) hs24 [(⟨1, newB, [], []⟩, (none, 0)), (⟨2, newB, [], B⟩, (pb, cb)), (⟨3, newB, [], []⟩, (none, 0)), (⟨4, newB, nmB (W.n + 1), []⟩, (none, 0))] (fun q hq => by
      simp only [List.mem_cons, List.not_mem_nil, or_false] at hq
      rcases hq with rfl | rfl | rfl | rfl
      ·exact sook_nil (by decide) (by decide) (by decide)
      ·exact ⟨HB2.out.grow Hb24.out, Hpb.out, (by show (1 : Int) ≤ 2 ∧ (2 : Int) ≤ 5; decide), (by show newB.length ≤ _; decide), (by show ([] : List UInt8).length ≤ _; decide)⟩
      ·exact sook_nil (by decide) (by decide) (by decide)
      ·exact sook_nil (by decide) (by decide) (by rw [nmB_length]; decide))
     #[.int .i64 1, .string ⟨#[110, 101, 119]⟩, .string ⟨#[]⟩, .slice none 0 0, .int .i64 2, .string ⟨#[110, 101, 119]⟩, .string ⟨#[]⟩, .slice pb B.length cb, .int .i64 3, .string ⟨#[110, 101, 119]⟩, .string ⟨#[]⟩, .slice none 0 0, .int .i64 4, .string ⟨#[110, 101, 119]⟩, .string (str (nameL (W.n + 1))), .slice none 0 0] rfl (by show 4 ≤ 1000; decide)
    have Hrn := Lib.hid hrn
    have Hb6 := Lib.hid hb6
    clear hrn hb6
    clear c0 c1 c2 c3 c5 hge
    go_wp2_with (at_builtin; go_loud (refine wpList_append_rops rfl _ _ rfl w2.heap.size _ _ rfl (Hops.out.grow (by omega) ((Below.refl _ _).alloc (Nat.le_refl _) _)) _ _ rfl Hrn.out (by show (cleanM [newB] W.D).length + 4 ≤ _; omega) (by rw [World.size_alloc]; omega) ?_; intro v5 w5 hro hb45; have HR5 := Lib.hid (show ROps w2.heap.size w5 v5 (cleanM [newB] W.D ++ fillOps (W.n + 1) B) ∧ Below w2.heap.size w2 w5 from ⟨hro, (Hb24.out.alloc Hb24.out.size _).trans hb45⟩); obtain ⟨d0, d1, d2, d3, d5⟩ := HS.out w5 HR5.out.2; clear hro hb45))
    obtain ⟨hr5, hb25⟩ := HR5.out
    have HNa5 := Lib.hid (HNa.out w5 (Hb02.out.trans (hb25.mono Hb02.out.size)))
    have Hr5 := Lib.hid hr5
    have Hb25 := Lib.hid hb25
    clear HR5 hr5 hb25 d0 d1 d2 d3 d5
    refine HNa5.out.mono ?_
    rintro e w6 ⟨v6, rfl, hown6, hb56⟩
    obtain ⟨p6, k6, rfl, hS6⟩ := strs_row hown6 (fun n hn => by obtain ⟨f, hf, rfl⟩ := List.mem_map.1 hn; exact Hnm.out f hf)
    have HSl := Lib.hid (rseglist_any p6 W.D.fs.length k6 _ w6 hS6 (by have := Hnt.out.small.files; omega))
    have Hb26 := Lib.hid (Hb25.out.trans (hb56.mono Hb25.out.size))
    have Hr6 := Lib.hid (Hr5.out.grow Hb25.out.size hb56)
    clear hown6 hS6 hb56 HNa5
    go_wp2_with fail
    refine HSl.out.mono ?_
    rintro e w7 ⟨v7, out, rfl, hasc, hmem, hol, hown7, hb67⟩
    have hmap : (W.D.fs.map F.n).map nmL = W.D.fs.map fun f => nmL f.n := by rw [List.map_map]; rfl
    rw [hmap] at hmem
    obtain ⟨p7, k7, rfl, hI7⟩ := own_ints hown7
    have hol2 : out.length ≤ 900 := by
     rw [List.length_map, List.length_map] at hol
     have := Hnt.out.small.files
     omega
    have hpos : ∀ x ∈ out, 1 ≤ x ∧ x ≤ 99999999 := by
     intro x hx
     obtain ⟨l, _, h1, rfl⟩ := (hmem x).1 hx
     have := segNum_le l
     omega
    have Hseg := Lib.hid (show SegsOf W.D out from ⟨hasc, hmem⟩)
    have Hpos := Lib.hid hpos
    have Hb27 := Lib.hid (Hb26.out.trans (hb67.mono Hb26.out.size))
    have HI := Lib.hid (fun W' (hW : Below w7.heap.size w7 W') => hI7.grow hW)
    have Hr7 := Lib.hid (Hr6.out.grow Hb26.out.size hb67)
    have HS7 := Lib.hid (fun W' (hW : Below w7.heap.size w7 W') => HS.out W' (Hb27.out.trans (hW.mono Hb27.out.size)))
    have H07 := Lib.hid (Hb02.out.trans (Hb27.out.mono Hb02.out.size))
    have hs07 := H07.out.size
    have hs27 := Hb27.out.size
    have hol := olderL_len out ((W.n : Int) + 1)
    have hcl2 := cleanM_len (olderL out ((W.n : Int) + 1)) W.D
    obtain ⟨OPS, hOPS⟩ : ∃ OPS, OPS = compOps W.D out (W.n + 1) B := ⟨_, rfl⟩
    have hops22 : (cleanM [newB] W.D ++ fillOps (W.n + 1) B) ++ cleanM (olderL out ((W.n : Int) + 1)) W.D = OPS := by
     have h := comp_ops Hseg.out (W.n + 1) B
     rw [show ((W.n + 1 : Nat) : Int) = (W.n : Int) + 1 by omega] at h
     rw [hOPS]
     exact h
    have hopl : OPS.length ≤ 905 := by rw [hOPS]; exact Nat.le_trans (compOps_len W.D out (W.n + 1) B) (by omega)
    have Hopb := Lib.hid (show ∀ x ∈ OPS, x.bs.length ≤ 6000 from by rw [hOPS]; exact comp_bs Hb6.out)
    have HIs := Lib.hid (HYes.out _ ⟨out, Hseg.out, rfl⟩)
    rw [← hOPS] at HIs
    have Hops22 := Lib.hid hops22
    clear hOPS hops22
    have hpl : (cleanM [newB] W.D ++ fillOps (W.n + 1) B).length ≤ 5 := by rw [List.length_append]; show _ + 4 ≤ 5; omega
    clear hasc hmem hown7 hb67 hmap hI7 hpos HSl HNm
    go_wp2_with fail
    have hw1 : IntKind.i64.wrap ((W.n : Int) + 1) = (W.n : Int) + 1 := IntWalk.i64_in _ (by omega)
    go_region_held3 (fun W' => W'.cell? ⟨w.heap.size, 0, none⟩ = some (.int .i64 (W.D.room : Int)) ∧ W'.cell? ⟨w.heap.size, 1, none⟩ = some (.slice a n c) ∧ W'.cell? ⟨w.heap.size, 2, none⟩ = some (.int .i64 (W.D.plan : Int)) ∧ W'.cell? ⟨w.heap.size, 3, none⟩ = some (.bool W.D.down) ∧ W'.cell? ⟨w.heap.size, 5, none⟩ = some (.int .i64 (W.n : Int)))
     (first | exact hS22 | exact HS7.out _ (by (repeat (first | assumption | exact Below.refl _ _ | refine Below.drew ?_ | refine Below.alloc ?_ (by (first | exact Nat.le_refl _ | (simp; done) | (simp; omega) | omega)) _ | refine Below.setCell ?_ (by (first | exact Nat.le_refl _ | (show _ ≤ _; omega) | (simp; done) | (simp; omega))) _))))
     (first
      | (go_at_call 70; (with_reducible refine (HOl.out p7 out.length k7 out ((W.n : Int) + 1) _ (HI.out _ (by (repeat (first | assumption | exact Below.refl _ _ | refine Below.drew ?_ | refine Below.alloc ?_ (by (first | exact Nat.le_refl _ | (simp; done) | (simp; omega) | omega)) _ | refine Below.setCell ?_ (by (first | exact Nat.le_refl _ | (show _ ≤ _; omega) | (simp; done) | (simp; omega))) _)))) (by omega) Hpos.out).mono ?_); rintro e w20 ⟨ao, co, rfl, hNm, hb20⟩; have hb720 : Below w7.heap.size w7 w20 := Below.trans (by (repeat (first | assumption | exact Below.refl _ _ | refine Below.drew ?_ | refine Below.alloc ?_ (by (first | exact Nat.le_refl _ | (simp; done) | (simp; omega) | omega)) _ | refine Below.setCell ?_ (by (first | exact Nat.le_refl _ | (show _ ≤ _; omega) | (simp; done) | (simp; omega))) _))) (hb20.mono (by first | exact Nat.le_refl _ | omega)); have hs20 := hb20.size; have hs720 := hb720.size)
      | (go_at_call 68; (with_reducible refine (HCl.out w20 (H07.out.trans (hb720.mono hs07)) ao _ co _ hNm).mono ?_); rintro e w21 ⟨v21, rfl, hrc, hb21⟩; have hb721 : Below w7.heap.size w7 w21 := hb720.trans (hb21.mono hs720); have hs21 := hb21.size; have hrc4 := hrc.base (Nat.le_trans hs27 hs720) (cleanM_bs _ W.D); have hr721 := Hr7.out.grow hs27 hb721; clear hrc hNm)
      | (refine step_append_rops rfl (.tmp 66) (.tmp 74) rfl w2.heap.size _ (cleanM [newB] W.D ++ fillOps (W.n + 1) B) (by first | rfl | (simp [Act.eval]; done)) hr721 _ (cleanM (olderL out ((W.n : Int) + 1)) W.D) (by first | rfl | (simp [Act.eval]; done)) hrc4 (by omega) (by omega) ?_; intro v22 w22 hro22 hb2122; have hb222 := (Hb27.out.trans (hb721.mono hs27)).trans hb2122; have hbx22 := HBX.out w22 hb222; have hbr22 := HBR.out w22 hb222; have hS22 := HS.out w22 hb222; rw [Hops22.out] at hro22; obtain ⟨a22, c22, rfl⟩ := hro22.form))
    have HSt2 := Lib.hid (HSt.out w22 (Hb02.out.trans (hb222.mono Hb02.out.size)) a22 OPS.length c22 OPS (hro22.sos (by omega) rfl) (by omega) Hopb.out (by have := HU.out; omega))
    obtain ⟨c0, c1, c2, c3, c4, c5, c6, c7, cf⟩ := box8 hbx22
    have HBX22 := Lib.hid hbx22
    have HBR22 := Lib.hid hbr22
    have Hb222 := Lib.hid (Hb02.out.trans (hb222.mono Hb02.out.size))
    have hs222 := hb222.size
    clear hw1 hb20 hb720 hs20 hs720 hb21 hb721 hs21 hrc4 hr721 hro22 hb2122 hb222 hbx22 hbr22 hol hcl2 hpl hS22
    generalize stepsM OPS W.D = rr at *
    go_wp2_with fail
    refine HSt2.out.mono ?_
    rintro e w23 ⟨a7, n7, c8, R7, rfl, hR7, hf7, hb7⟩
    unfold refV
    have hB23 := (hb7.block _ (Array.getElem?_eq_some_iff.1 HBX22.out).1).trans HBX22.out
    have hR23 := (hb7.block _ (Array.getElem?_eq_some_iff.1 HBR22.out).1).trans HBR22.out
    have hs7 := hb7.size
    have hl1 : w.heap.size < w23.heap.size := by omega
    have hl2 : w.heap.size + 1 < w23.heap.size := by omega
    have hne1 : ¬ w23.heap.size = w.heap.size := by omega
    have hne2 : ¬ w23.heap.size = w.heap.size + 1 := by omega
    have hne3 : ¬ w.heap.size = w23.heap.size := by omega
    have hne4 : ¬ w.heap.size + 1 = w23.heap.size := by omega
    obtain ⟨g0, g1, g2, g3, g4, g5, g6, g7, gf⟩ := box8 hB23
    obtain ⟨y0, y1, y2, y3, y4, y5, y6, y7, yf⟩ := box8 hR23
    have HR7 := Lib.hid hR7
    have Hf7 := Lib.hid hf7
    have Hb7 := Lib.hid hb7
    clear hB23 hR23 hR7 hf7 hb7 c0 c1 c2 c3 c4 c5 c6 c7 cf
    by_cases hr : rr.2 = 0
    ·have hr1 : (rr.2 != 0) = false := by simp [hr]
     have Hr := Lib.hid hr
     clear hr
     go_wp2_with fail
     refine bodyPost_ret (v := .tuple #[.agg #[.int .i64 (rr.1.room : Int), .slice a7 n7 c8, .int .i64 (rr.1.plan : Int), .bool rr.1.down, .int .i64 most, .int .i64 ((W.n : Int) + 1), .int .i64 (B.length : Int), .int .i64 0], .int .i64 0]) ?_ rfl ?_
     ·rw [results_cell_tmp rfl]
      go_simp
     ·refine ⟨rr, HIs.out, rlog_alloc ?_ _⟩
      have key := rlog_end (X := X) (W' := compW W most recs rr.1) (Hb222.out.trans (Hb7.out.mono Hb222.out.size)) HR7.out (fun b hb => ⟨?_, ⟨hb.1.imp id (fun h => by omega), hb.2⟩⟩) Hf7.out 0
      ·unfold compR
       rw [if_pos Hr.out, Hr.out]
       have e1 : ((compW W most recs rr.1).n : Int) = (W.n : Int) + 1 := by show ((W.n + 1 : Nat) : Int) = _; omega
       have e2 : ((compW W most recs rr.1).size : Int) = (B.length : Int) := by show ((sizeL recs + 8 : Nat) : Int) = _; rw [Hbl.out]
       rw [e1, e2] at key
       exact key
      ·rcases hb.1 with h | h
       ·have := HX.out b h; omega
       ·omega
    ·have hr1 : (rr.2 != 0) = true := by simp [hr]
     have Hr := Lib.hid hr
     clear hr
     go_wp2_with fail
     refine bodyPost_ret (v := .tuple #[.agg #[.int .i64 (rr.1.room : Int), .slice a7 n7 c8, .int .i64 (rr.1.plan : Int), .bool rr.1.down, .int .i64 W.most, .int .i64 (W.n : Int), .int .i64 (W.size : Int), .int .i64 (W.wait : Int)], .int .i64 rr.2]) ?_ rfl ?_
     ·rw [results_cell_tmp rfl]
      go_simp
     ·refine ⟨rr, HIs.out, rlog_alloc ?_ _⟩
      have hbw := Hb222.out.trans (Hb7.out.mono Hb222.out.size)
      have hb4 : Below w.heap.size w ((((w23.setCell ⟨w.heap.size, 0, none⟩ (.int .i64 (rr.1.room : Int))).setCell ⟨w.heap.size, 1, none⟩ (.slice a7 n7 c8)).setCell ⟨w.heap.size, 2, none⟩ (.int .i64 (rr.1.plan : Int))).setCell ⟨w.heap.size, 3, none⟩ (.bool rr.1.down)) := (((hbw.setCell (Nat.le_refl _) _).setCell (Nat.le_refl _) _).setCell (Nat.le_refl _) _).setCell (Nat.le_refl _) _
      have hne : ∀ b, ((X b ∨ w22.heap.size ≤ b) ∧ b < w23.heap.size) → b ≠ w.heap.size ∧ b ≠ w.heap.size + 1 := fun b hb => by
       rcases hb.1 with h | h
       ·have := HX.out b h; omega
       ·omega
      have key := rlog_end (X := X) (W' := { W with D := rr.1 }) hb4 (HR7.out.mono (fun b hb => by
       have := (hne b hb).1
       rw [Below.heap_setCell _ _ _ _ this, Below.heap_setCell _ _ _ _ this, Below.heap_setCell _ _ _ _ this, Below.heap_setCell _ _ _ _ this]) (fun _ h => h)) (fun b hb => ⟨(hne b hb).2, ⟨hb.1.imp id (fun h => by omega), by simp only [World.size_setCell]; exact hb.2⟩⟩) Hf7.out rr.2
      unfold compR
      rw [if_neg Hr.out]
      exact key
end Go.Proofs.YtnbddiiedagllaaGreat

