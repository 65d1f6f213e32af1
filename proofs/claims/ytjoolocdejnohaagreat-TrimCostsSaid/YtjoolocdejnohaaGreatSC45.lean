import Derived.Test.YtjoolocdejnohaaGreatSC44
import Derived.Test.YtjoolocdejnohaaGreatSC38
import Derived.Test.YtjoolocdejnohaaGreatSC42
import Derived.IntWalk
import Derived.Test.YtjoolocdejnohaaGreatSC39
import Derived.Test.YtjoolocdejnohaaGreatSC34
import Derived.Test.YtjoolocdejnohaaGreatSC36
import Derived.Test.YtjoolocdejnohaaGreatSC12
/- The walk of the statements' alive; small walks that the statements of trim share. -/
namespace Go.Proofs.YtjoolocdejnohaaGreat
open Go.RowKit Go.Maps Go.Shelf

attribute [local go_sem ↓] Go.wp_at_zero Go.wp_at_succ

def aliveW : WM := runP (startW 1000 50) [[1], [2]]

theorem alive_names : aliveW.D.fs.map F.n = [nmB 1] ∧ aliveW.n = 1 := by decide +kernel

theorem alive_segs : SegsOf aliveW.D [1] := by
  have hf : (aliveW.D.fs.map fun f => nmL f.n) = [nameL 1] := by
    have h := congrArg (fun l => l.map nmL) alive_names.1
    simp only [List.map_map, List.map_cons, List.map_nil, nmL_nmB] at h
    exact h
  refine ⟨by unfold Asc; simp, fun x => ?_⟩
  unfold NumsOf
  rw [hf]
  have h1 : segNum (nameL 1) = 1 := segNum_name (by decide)
  constructor
  · intro h
    have hx : x = 1 := by simpa using h
    exact ⟨nameL 1, by simp, by rw [h1]; decide, by rw [h1, hx]; rfl⟩
  · rintro ⟨l, hl, _, rfl⟩
    obtain rfl : l = nameL 1 := by simpa using hl
    rw [h1]
    simp

theorem alive_steps : (stepsM (compOps aliveW.D [1] 2 (joinL [[]])) aliveW.D).2 = 0 ∧ (stepsM (compOps aliveW.D [1] 2 (joinL [[]])) aliveW.D).1.fs.length = 1 ∧ usedF (stepsM (compOps aliveW.D [1] 2 (joinL [[]])) aliveW.D).1.fs = 8 := by decide +kernel

theorem alive_plain {r : DM × Int} (h : CompOf aliveW [] r) : r.2 = 0 ∧ r.1.fs.length = 1 ∧ usedF r.1.fs = 8 := by
  rcases h with ⟨h1, _⟩ | ⟨_, out, ho, rfl⟩
  · rcases h1 with h1 | h1
    · cases h1
    · rw [alive_names.2] at h1
      exact absurd h1 (by decide)
  · rw [alive_names.2]
    rw [segsOf_uniq ho alive_segs]
    exact alive_steps

theorem parts_none (w : World) : Parts w none 0 0 [] := ⟨rfl, Nat.le_refl _, by omega, fun h => absurd h (Nat.lt_irrefl _)⟩

/-- The records of the example, new in memory. -/
def aliveWorld (w : World) : World := ((w.alloc (.cells #[.int .u8 1] 5)).alloc (.cells #[.int .u8 2] 5)).alloc (.cells #[.slice (some ⟨w.heap.size, 0, none⟩) 1 1, .slice (some ⟨w.heap.size + 1, 0, none⟩) 1 1] 58)

theorem alive_parts (w : World) : Parts (aliveWorld w) (some ⟨w.heap.size + 2, 0, none⟩) 2 2 [[1], [2]] ∧ Below w.heap.size w (aliveWorld w) := by
  have hb1 := (Below.refl w.heap.size w).alloc (Nat.le_refl _) (.cells #[.int .u8 1] 5)
  obtain ⟨w1, hw1⟩ : ∃ w1, w1 = w.alloc (.cells #[.int .u8 1] 5) := ⟨_, rfl⟩
  have hz1 : w1.heap.size = w.heap.size + 1 := by rw [hw1]; simp
  have hB1 : Bytes w1 (some ⟨w.heap.size, 0, none⟩) 1 1 [1] := by rw [hw1]; exact bytes_new w [1] (by decide) (by decide)
  have hb2 := (Below.refl w1.heap.size w1).alloc (Nat.le_refl _) (.cells #[.int .u8 2] 5)
  obtain ⟨w2, hw2⟩ : ∃ w2, w2 = w1.alloc (.cells #[.int .u8 2] 5) := ⟨_, rfl⟩
  have hz2 : w2.heap.size = w.heap.size + 2 := by rw [hw2, World.size_alloc, hz1]
  have hB2 : Bytes w2 (some ⟨w1.heap.size, 0, none⟩) 1 1 [2] := by rw [hw2]; exact bytes_new w1 [2] (by decide) (by decide)
  rw [← hw1] at hb1
  rw [← hw2] at hb2
  have hb3 := (Below.refl w2.heap.size w2).alloc (Nat.le_refl _) (.cells #[.slice (some ⟨w.heap.size, 0, none⟩) 1 1, .slice (some ⟨w.heap.size + 1, 0, none⟩) 1 1] 58)
  have hn := heap_alloc_new w2 (.cells #[.slice (some ⟨w.heap.size, 0, none⟩) 1 1, .slice (some ⟨w.heap.size + 1, 0, none⟩) 1 1] 58)
  have e : aliveWorld w = w2.alloc (.cells #[.slice (some ⟨w.heap.size, 0, none⟩) 1 1, .slice (some ⟨w.heap.size + 1, 0, none⟩) 1 1] 58) := by unfold aliveWorld; rw [hw2, hw1]
  rw [e]
  rw [hz2] at hn
  rw [hz1] at hB2
  refine ⟨⟨rfl, Nat.le_refl _, by decide, fun _ => ⟨w.heap.size + 2, 0, rfl, by rw [World.size_alloc, hz2]; omega, fun i hi => ?_⟩⟩, (hb1.trans (hb2.mono (by omega))).trans (hb3.mono (by omega))⟩
  rw [cell_of_row _ _ _ _ _ (0, 0) hn]
  match i, hi with
  | 0, _ => exact ⟨some ⟨w.heap.size, 0, none⟩, 1, 1, rfl, (hB1.grow hb2).grow hb3⟩
  | 1, _ => exact ⟨some ⟨w.heap.size + 1, 0, none⟩, 1, 1, rfl, hB2.grow hb3⟩

theorem row_form {w : World} {base : Nat} {e : TypeId} {k n : Nat} {v : Value} {l : List Value} (h : w.ownsRow base e k v n l) : ∃ p c, v = .slice p n c := by
  rcases h.2 with ⟨rfl, h0⟩ | ⟨g, cap, cur, rfl, _⟩
  · exact ⟨none, 0, by rw [h0]⟩
  · exact ⟨_, cap, rfl⟩

set_option maxRecDepth 100000 in
set_option maxHeartbeats 6400000 in
theorem talive_any (w : World) : Calls Tryz.prog 36 #[] w fun e w' => e = .returned (.bool true) ∧ Below w.heap.size w w' := by
  obtain ⟨hP, hb0⟩ := alive_parts w
  have HS := Lib.hid (start10_any 1000 50 (by omega) (by omega) (by omega) (by omega) _ 2 2 [[1], [2]] (aliveWorld w) hP (by omega) (by decide))
  have Hb0 := Lib.hid hb0
  unfold aliveWorld at HS Hb0
  clear hP hb0
  go_enter Tryz.func36, Tryz.ntmps36
  go_wp2_with fail
  refine HS.out.mono ?_
  rintro e w1 ⟨d, g, a, n, c, R, Y, X, rfl, hL, hR, hf, hXY⟩
  have hA : runP (startW 1000 50) [[1], [2]] = aliveW := rfl
  rw [hA] at hL hf ⊢
  have htd : Tidy aliveW 7 18 3 18 2 1000 50 := tidy_run (tidy_start 1000 50) [[1], [2]]
  unfold logV
  obtain ⟨w2, hw2⟩ : ∃ w2, w2 = w1.alloc (.cells #[.int .i64 (aliveW.D.room : Int), .slice a n c, .int .i64 (aliveW.D.plan : Int), .bool aliveW.D.down, .int .i64 aliveW.most, .int .i64 (aliveW.n : Int), .int .i64 (aliveW.size : Int), .int .i64 (aliveW.wait : Int)] 47) := ⟨_, rfl⟩
  have hb12 : Below w1.heap.size w1 w2 := by rw [hw2]; exact (Below.refl _ _).alloc (Nat.le_refl _) _
  have hL2 := hL.below hb12
  have HC := Lib.hid (compact_any hL2 (htd.neat.mono (N' := 900) (U' := 18) (by omega) (Nat.le_refl _)) (by omega) htd.named htd.n1 (by have := htd.n2; omega) 50 none 0 0 [] (parts_none w2) (by omega) (by decide))
  have Hbase := Lib.hid (Hb0.out.trans (hL2.own.base.mono Hb0.out.size))
  have Hw2 := Lib.hid hw2
  have Hb0s := Lib.hid Hb0.out.size
  clear hL hR hf hXY hA htd hb12 hL2 hw2
  go_wp2_with fail
  rw [← Hw2.out]
  refine HC.out.mono ?_
  rintro e w3 ⟨r, hC, hcase⟩
  obtain ⟨z1, z2, z3⟩ := alive_plain hC
  rcases hcase with ⟨h, _⟩ | ⟨_, g2, rfl, hg2, hL3, hk2, hb3, hs3⟩
  · exact absurd z1 h
  have hc1 : w3.cell? ⟨g2, 1, none⟩ = some (.int .i64 8) := hL3.cell.2.1
  have HSz := Lib.hid (wsize_any hc1)
  have hOw : Own _ _ w3 d r.1 := hL3.own
  have HLi := Lib.hid (own_list hOw (by omega))
  have HUs := Lib.hid (fun W (hW : Below w3.heap.size w3 W) => own_used (hOw.below hW))
  rw [z2] at HLi
  rw [z3] at HUs
  have Hb3 := Lib.hid (Hbase.out.trans (hb3.mono (Nat.le_trans Hb0s.out (Nat.le_refl _))))
  clear hC z1 z2 z3 hg2 hL3 hk2 hb3 hs3 hc1 hOw HC
  go_wp2_with fail
  refine HSz.out.mono ?_
  rintro e w4 ⟨rfl, rfl⟩
  go_wp2_with fail
  refine HLi.out.mono ?_
  rintro e w5 ⟨v5, rfl, hown5, hb5⟩
  obtain ⟨p5, k5, rfl⟩ := row_form hown5
  have HUs2 := Lib.hid (HUs.out w5 hb5)
  have Hb5 := Lib.hid (Hb3.out.trans (hb5.mono Hb3.out.size))
  clear hown5 hb5
  go_wp2_with fail
  refine HUs2.out.mono ?_
  rintro e w6 ⟨rfl, hb6⟩
  have Hb6 := Lib.hid (Hb5.out.trans (hb6.mono Hb5.out.size))
  clear hb6
  go_wp2
  go_ret
  exact ⟨rfl, Hb6.out⟩
end Go.Proofs.YtjoolocdejnohaaGreat

/- The walks of the reference's Compact, and of its bytes. -/
namespace Go.Proofs.YtjoolocdejnohaaGreat
open Go.RowKit Go.Maps Go.Shelf

attribute [local go_sem ↓] Go.wp_at_zero Go.wp_at_succ

set_option maxRecDepth 100000 in
theorem rbytes10_any (a : Option Addr) (n cap : Nat) (ls : List (List Nat)) (w : World) (hl : Parts w a n cap ls) (hn : n ≤ 1000000) (hr : ∀ r ∈ ls, r.length ≤ 1048576) (hs : sizeL ls ≤ 1000000) :
    Calls Tryz.prog 46 #[.slice a n cap] w fun e w' => ∃ p c, e = .returned (.tuple #[.slice p (sizeL ls + 8) c, .bool true]) ∧ Bytes w' p (sizeL ls + 8) c (joinL ([] :: ls)) ∧ (∀ x, p = some x → w.heap.size ≤ x.block) ∧ Below w.heap.size w w' := by
  have hP := Lib.hid hl
  have hls := Lib.hid hl.len
  have hrl : ∀ r ∈ ([] : List Nat) :: ls, r.length ≤ 1048576 := by
    intro r h
    rcases List.mem_cons.1 h with rfl | h
    · exact Nat.zero_le _
    · exact hr r h
  have hjl : (joinL ([] :: ls)).length = sizeL ls + 8 := by rw [joinL_len, sizeL_mark]
  have Hjb := Lib.hid (joinL_byte (ls := [] :: ls) (fun r h x hx => by
    rcases List.mem_cons.1 h with rfl | h
    · cases hx
    · exact hl.byte r h x hx) hrl)
  have HJ := Lib.hid (fun a c w1 hQ => rjoin_any a (n + 1) c ([] :: ls) w1 hQ hrl (by rw [hjl]; omega))
  have Ho := Lib.hid (ownRow_one w)
  have Hb := Lib.hid ((Below.refl w.heap.size w).alloc (Nat.le_refl _) (.cells #[.slice none 0 0] 58))
  have Hjl := Lib.hid hjl
  clear hl hr hrl hjl hs
  go_enter Tryz.func46, Tryz.ntmps46
  go_wp2_with (at_builtin; refine wpList_append_rows rfl _ _ 29 rfl Tryz.underlying29 info_rows rfl Ho.out rfl hP.out Hb.out (by show 1 + n ≤ 1000000000; omega) ?_; intro v' w' h1 h2)
  obtain ⟨a', c', rfl, hQ⟩ := h1.parts
  have hl2 : ([[]] ++ ls).length = n + 1 := by rw [List.length_append, hls.out]; show 1 + n = n + 1; omega
  rw [hl2] at hQ ⊢
  have HJ2 := Lib.hid (HJ.out a' c' w' hQ)
  have Hb2 := Lib.hid h2
  clear h1 h2 hQ hl2 HJ
  go_wp2_with fail
  refine HJ2.out.mono ?_
  rintro e w5 ⟨v5, rfl, hown5, hb5⟩
  obtain ⟨p5, c5, rfl, hB5⟩ := own_slice hown5 Hjb.out
  have hp5 : ∀ x, p5 = some x → w.heap.size ≤ x.block := by
    rintro x rfl
    rcases hown5.2 with ⟨e, _⟩ | ⟨k, cap, cur, e, hk, _⟩
    · cases e
    · cases e
      exact Nat.le_trans Hb2.out.size hk
  rw [Hjl.out] at hB5 ⊢
  have HB5 := Lib.hid hB5
  have Hp5 := Lib.hid hp5
  have Hb5 := Lib.hid (Hb2.out.trans (hb5.mono Hb2.out.size))
  clear hown5 hB5 hp5 hb5
  go_wp2
  go_ret2
  exact ⟨p5, c5, rfl, HB5.out, Hp5.out, Hb5.out⟩

end Go.Proofs.YtjoolocdejnohaaGreat

/- What the statements of trim share: what compacting leaves in size, Look and Find of a disk, how small few records are. -/
namespace Go.Proofs.YtjoolocdejnohaaGreat
open Go.RowKit Go.Maps Go.Shelf

theorem few_size {ls : List (List Nat)} (h : minsF ls ≤ 1500 ∧ ls.length ≤ 60) : sizeL ls ≤ 1980 ∧ ls.length ≤ 60 := by
  have := (minsF_bound ls h.1).1
  exact ⟨by omega, h.2⟩

section
variable {w0 : World} {T : Nat → Prop} {wT : World} {g d B : Nat} {W Wb : WM} {wr : World}

/-- Compact beside the reference's log. -/
theorem Both.comp (h : Both w0 T wT g d B W Wb wr) {wa : World} (hb : Below wr.heap.size wr wa) {U : Nat} (hnt : Neat W.D 900 U) (hU : U ≤ 10000000) (hnm : Named W.D) (h1 : 1 ≤ W.n) (hN : W.n ≤ 99999999) (most : Int) (p : Option Addr) (m c : Nat) (recs : List (List Nat)) (hP : Parts wa p m c recs) (hm : m ≤ 1000) (hs : sizeL recs ≤ 1000000) :
    Calls Tryz.prog 38 #[.pointer (some ⟨d, 0, none⟩), .pointer (some ⟨g, 0, none⟩), .int .i64 most, .slice p m c] wa fun e w3 => ∃ r, CompOf W recs r ∧
      ((r.2 ≠ 0 ∧ e = .returned (.tuple #[.pointer none, .int .i64 r.2]) ∧ Both w0 T wT g d B { W with D := r.1 } Wb w3) ∨
       (r.2 = 0 ∧ ∃ g2, e = .returned (.tuple #[.pointer (some ⟨g2, 0, none⟩), .int .i64 0]) ∧ Both w0 T wT g2 d B (compW W most recs r.1) Wb w3)) := by
  obtain ⟨Y', hL, _, hn1, hn2⟩ := h.stepLog hb
  refine (compact_any hL hnt hU hnm h1 hN most p m c recs hP hm hs).mono ?_
  rintro e w3 ⟨r, hC, ⟨hz, rfl, hE⟩ | ⟨hz, g2, rfl, hg, hL2, hk, hb3, hs3⟩⟩
  · exact ⟨r, hC, .inl ⟨hz, rfl, hn1 _ w3 ⟨⟨hE.1, hL.inY, hL.new, (hE.2.1 g hL.inY).trans hL.cells⟩, fun b hb _ => hE.2.1 b hb, hE.2.2.1, hE.2.2.2⟩⟩⟩
  · exact ⟨r, hC, .inr ⟨hz, g2, rfl, hn2 g2 _ w3 hg hL2 hk hs3⟩⟩

end

end Go.Proofs.YtjoolocdejnohaaGreat

/- The bytes of a log's segments, number by number, are the bytes of its disk. -/
namespace Go.Proofs.YtjoolocdejnohaaGreat
open Go.RowKit Go.Maps Go.Shelf

theorem LInv.name_at {W : WM} {B : List (List (List Nat))} {c : List (List Nat)} (h : LInv W B c) (i : Nat) (hi : i < W.D.fs.length) : W.D.fs[i].n = nmB (i + 1) := by
  have hfs := h.fs
  have hl : W.D.fs.length = B.length + 1 := by rw [hfs]; unfold filesL; rw [List.length_append, List.length_mapIdx]; rfl
  have he : W.D.fs[i] = (filesL B c W.wait)[i]'(by rw [← hfs]; exact hi) := by
    congr 1
  rw [he]
  unfold filesL
  by_cases hb : i < B.length
  · rw [List.getElem_append_left (by rw [List.length_mapIdx]; exact hb), List.getElem_mapIdx]
    rfl
  · have e : i = B.length := by omega
    subst e
    rw [List.getElem_append_right (by rw [List.length_mapIdx]; exact Nat.le_refl _)]
    simp [lastF]

theorem find_sorted : ∀ {l : List F} (_ : Sorted l) {f : F} (_ : f ∈ l), findN F.n f.n l = some f
  | x :: l, h, f, hf => by
    unfold findN
    rw [List.find?_cons]
    obtain ⟨h1, h2⟩ := List.pairwise_cons.1 h
    rcases List.mem_cons.1 hf with rfl | hm
    · simp
    · have hne := lt_ne (h1 f hm)
      have : (x.n == f.n) = false := by simpa using hne
      rw [this]
      exact find_sorted h2 hm

theorem LInv.bytes {W : WM} {B : List (List (List Nat))} {c : List (List Nat)} (h : LInv W B c) {out : List Int} (ho : SegsOf W.D out) : bytesM W.D out = segF W.D.fs ∧ segF W.D.fs = usedF W.D.fs := by
  obtain rfl := segsOf_uniq ho h.records.2
  have hl := h.small.1
  have hmax := h.nmax
  have hnum : ∀ (i : Nat) (hi : i < W.D.fs.length), segLen W.D.fs[i] = W.D.fs[i].b.length := fun i hi => by
    unfold segLen
    rw [h.name_at i hi, nmL_nmB, segNum_name (by omega), if_pos (by omega)]
  have e1 : W.D.fs.map segLen = W.D.fs.map fun f => f.b.length := List.map_congr_left fun f hf => by
    obtain ⟨i, hi, rfl⟩ := List.getElem_of_mem hf
    exact hnum i hi
  have e2 : segF W.D.fs = usedF W.D.fs := by
    unfold segF
    rw [e1]
    rfl
  refine ⟨?_, e2⟩
  rw [e2]
  unfold bytesM
  show _ = (W.D.fs.map fun f => f.b.length).sum
  congr 1
  refine List.ext_getElem (by unfold upTo; simp [hl]) fun i h1 h2 => ?_
  rw [List.getElem_map, List.getElem_map]
  have hi : i < W.D.fs.length := by simpa using h2
  have ex : (upTo W.n)[i]'(by simpa using h1) = ((i + 1 : Nat) : Int) := by unfold upTo; simp
  rw [ex, Int.toNat_natCast]
  unfold readM
  rw [h.down, ← h.name_at i hi, find_sorted h.sorted (List.getElem_mem hi)]
  rfl

/-- What the law counts. -/
theorem run_bytes (most : Int) (ls : List (List Nat)) (h1 : sizeL ls ≤ 5000) (h2 : ls.length ≤ 60) {out : List Int} (ho : SegsOf (runP (startW 100000 most) ls).D out) :
    bytesM (runP (startW 100000 most) ls).D out = segF (runP (startW 100000 most) ls).D.fs := by
  have hr := run_ok 100000 most ls (by omega) h2 ls.length
  obtain ⟨B, c, hI, _⟩ := hr.inv
  rw [List.take_length] at hI
  exact (hI.bytes ho).1
end Go.Proofs.YtjoolocdejnohaaGreat

/- Worth without a disk. -/
namespace Go.Proofs.YtjoolocdejnohaaGreat
open Go.RowKit Go.Maps Go.Shelf

set_option maxRecDepth 100000 in
theorem tworth_nil (a : Option Addr) (n cap : Nat) (ls : List (List Nat)) (w : World) (hp : Parts w a n cap ls) (hn : n ≤ 1000000) (hs : sizeL ls ≤ 10000000) :
    Calls Tryz.prog 52 #[.pointer none, .slice a n cap] w fun e w' => e = .returned (.bool false) ∧ Below w.heap.size w w' := by
  have HLi := Lib.hid (list_nil w)
  have HSl := Lib.hid (seglist_any none 0 0 [] w ⟨rfl, Nat.le_refl _, by omega, fun l hl => (by cases hl), fun h => absurd h (Nat.lt_irrefl _)⟩ (by omega))
  have HCo := Lib.hid (fun W (hW : Below w.heap.size w W) => cost_any a n cap ls W (hp.grow hW) hn hs)
  have Hs := Lib.hid hs
  clear hp hn hs
  go_enter Tryz.func52, Tryz.ntmps52
  go_wp2_with fail
  refine HLi.out.mono ?_
  rintro e w1 ⟨rfl, rfl⟩
  go_wp2_with fail
  refine HSl.out.mono ?_
  rintro e w2 ⟨v2, out, rfl, hasc, hmem, hol, hown2, hb2⟩
  have h0 : out.length = 0 := by simpa using hol
  obtain ⟨p2, k2, rfl, hI⟩ := own_ints hown2
  rw [h0] at *
  have Hb2 := Lib.hid hb2
  clear hasc hmem hown2 hb2 hI hol
  go_wp2_with fail
  go_loopw [5, 14] (fun v i wr => i = .int .i64 0 ∧ v = .int .i64 0 ∧ Below w1.heap.size w1 wr) (fun _ i _ => 0)
  case atStart => exact ⟨rfl, rfl, Hb2.out⟩
  case round =>
    obtain ⟨rfl, rfl, hb⟩ := hrel
    have HC := Lib.hid (HCo.out _ hb)
    have Hb := Lib.hid hb
    clear hb
    go_wp2_with fail
    refine HC.out.mono ?_
    rintro e w3 ⟨rfl, hb3⟩
    have Hb3 := Lib.hid (Hb.out.trans (hb3.mono Hb.out.size))
    clear hb3
    go_wp2
    go_ret
    refine ⟨?_, Hb3.out⟩
    show Ending.returned (.bool (decide (((sizeL ls : Nat) : Int) + 8 < 0))) = _
    rw [decide_eq_false (by omega)]
end Go.Proofs.YtjoolocdejnohaaGreat

