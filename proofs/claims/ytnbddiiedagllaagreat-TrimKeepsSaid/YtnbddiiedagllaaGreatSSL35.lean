import Derived.Test.YtnbddiiedagllaaGreatSSL34
import Derived.Test.YtnbddiiedagllaaGreatSSL27
import Derived.OwnWalkIn
import Derived.TacticsInMore
import Derived.LoopNIn
import Derived.LoopIn
import Derived.Maps.AppendAt
import Derived.Maps.OwnIn
import Derived.Test.YtnbddiiedagllaaGreatSSL33
import Derived.RangeFuncCalls
import Derived.Test.YtnbddiiedagllaaGreatSSL31
/- The walk of slices.Backward at ints. -/
namespace Go.Proofs.YtnbddiiedagllaaGreat
open Go.RowKit Go.Shelf

attribute [local go_sem] Oper.semAt_some

theorem backward_any (p : Option Addr) (n c : Nat) (w : World) :
  Calls Tryz.prog 143 #[.slice p n c] w fun e w' => e = .returned (.func (.func 175) #[] #[.pointer (some ⟨w.heap.size, 0, none⟩)]) ∧ w' = w.alloc (.cells #[.slice p n c] 33) := by
 go_enter Tryz.func143, Tryz.ntmps143
 go_wp2
 go_ret
 exact ⟨rfl, rfl⟩

def backEnc (L : List Int) (x : Nat) : Array Value := #[.int .i64 (x : Int), .int .i64 (L.getD x 0)]

set_option maxRecDepth 100000 in
set_option maxHeartbeats 2000000 in
theorem back1_told (m : Nat) (hm1 : 1 ≤ m) (Bn : Nat) (p : Option Addr) (n c : Nat) (L : List Int) (hn : n ≤ 1000000) (I : List Nat → Nat → World → Prop)
  (hI : ∀ s N W, I s N W → Ints W p n c L ∧ W.cell? ⟨Bn, 0, none⟩ = some (.slice p n c)) :
  ToldL m Tryz.prog 175 #[.pointer (some ⟨Bn, 0, none⟩)] (backEnc L) I (fun pre x => x + pre.length + 1 = n) (fun xs => xs.length = n) (n + 1) := by
 intro l J Jx W N hg hm hJI hgx hY h0
 obtain ⟨hB0, hc0⟩ := hI _ _ _ (hJI _ _ _ h0)
 have hlen := hB0.len
 refine callsIn_of_wp Tryz.func175 rfl trivial ?_ rfl
 simp only [Tryz.ntmps175, List.size_toArray, List.length_cons, List.length_nil, Nat.reduceAdd, Nat.reduceSub, Array.replicate_succ, Array.replicate_zero, List.push_toArray, List.append_toArray, List.nil_append, List.cons_append]
 gi_wp2
 gi_loopw [3] (fun u wr => ∃ (pre : List Nat) (N' : Nat), pre.length ≤ n ∧ u = .int .i64 ((n : Int) - 1 - (pre.length : Int)) ∧ J pre N' wr) (fun u _ => ((intOf u) + 1).toNat)
 case atStart => exact ⟨[], N, Nat.zero_le _, by simp, h0⟩
 case round =>
  obtain ⟨pre, N', hj, rfl, hJ⟩ := hrel
  obtain ⟨hI1, hcB⟩ := hI _ _ _ (hJI _ _ _ hJ)
  by_cases hlt : pre.length < n
  ·obtain ⟨b, o, rfl, hc1⟩ := hI1.cell (by omega)
   obtain ⟨x, hx⟩ : ∃ x, x = n - 1 - pre.length := ⟨_, rfl⟩
   have hxi : (n : Int) - 1 - (pre.length : Int) = (x : Int) := by omega
   have hc := hc1 x (by omega)
   obtain ⟨fn, tmps, assign, body, hy, hRd⟩ := hY pre x N' wr hJ (by omega) (by omega)
   unfold backEnc at hy
   have HRd := Lib.hid hRd
   have hji : (x : Int) < (n : Int) := by omega
   have h0x : (0 : Int) ≤ (x : Int) := by omega
   have Hx := Lib.hid (show x + pre.length + 1 = n by omega)
   rw [hxi]
   clear hc1 hI1 hRd hx hxi hlt hj
   generalize L.getD x 0 = y at *
   gi_wp2
   refine HRd.out.mono ?_
   rintro e W3 (⟨rfl, N3, hJ3⟩ | ⟨rfl, hJ3⟩)
   ·gi_wp2
    go_roundw
    case rel => exact ⟨pre ++ [x], N3, by rw [List.length_append]; have := Hx.out; simp; omega, by rw [List.length_append]; have := Hx.out; congr 1; simp; omega, hJ3⟩
    case measure => simp [intOf]
   ·gi_wp2
    refine bodyPost_ret (results_none rfl _ _ _) rfl ?_
    exact ⟨⟨_, rfl⟩, .inr hJ3⟩
  ·have hxi : (n : Int) - 1 - (pre.length : Int) = -1 := by omega
   have hneg : ¬ (0 : Int) ≤ -1 := by decide
   rw [hxi]
   clear hxi
   gi_wp2
   go_end0
   exact ⟨⟨_, rfl⟩, .inl ⟨pre, ⟨N', hJ⟩, (by omega)⟩⟩
end Go.Proofs.YtnbddiiedagllaaGreat

/- The walk of readParts: the segments of a log, from the last one back to its first. -/
namespace Go.Proofs.YtnbddiiedagllaaGreat
open Go.RowKit Go.Maps Go.Shelf

attribute [local go_sem] Oper.semAt_some

def RpY (w : World) (ps : List PS) (d B : Nat) (pre : List Nat) (_ : Nat) (W : World) : Prop :=
 (∃ v xs, Boxed W B 163 v ∧ OwnParts5 (w.heap.size + 3) W v xs (backL ps pre.length)) ∧ (∀ i (h : i < ps.length), ps.length ≤ i + pre.length → ps[i].mark = false) ∧ W.cell? ⟨w.heap.size, 0, none⟩ = some (.pointer (some ⟨d, 0, none⟩)) ∧ Below w.heap.size w W ∧ w.heap.size + 3 ≤ W.heap.size

def RpX (w : World) (ps : List PS) (B : Nat) (c : Code) (W : World) : Prop :=
 c = .exit 0 ∧ ∃ k v xs, FirstAt ps k ∧ Boxed W B 163 v ∧ OwnParts5 (w.heap.size + 3) W v xs (ps.drop k).reverse ∧ Below w.heap.size w W

theorem boxed_putObj {W : World} {B l : Nat} {t : TypeId} {v : Value} {o o' : Obj} (h : Boxed W B t v) (hl : W.heap[l]? = some o) (ho : o.isCells = false) : Boxed (W.putObj l o') B t v := by
 refine (World.putObj_heap_other (fun e => ?_)).trans h
 rw [← e, show W.heap[B]? = _ from h] at hl
 cases hl
 cases ho

theorem rpY_stands (w : World) (ps : List PS) (d B B2 : Nat) (hB : w.heap.size ≤ B2) : StandsL B2 (RpY w ps d B) (RpX w ps B) := by
 refine ⟨?_, ?_, ?_, ?_, ?_⟩
 ·rintro s N W W' ⟨⟨v, xs, h1, h2⟩, h3, h5, h6, h7⟩ hb
  exact ⟨⟨v, xs, (hb.block _ h1.lt).trans h1, h2.grow hb⟩, h3, cell_keep hb h5, h6.trans (hb.mono h6.size), Nat.le_trans h7 hb.size⟩
 ·rintro s N W h
  exact h
 ·rintro s N W l o o' ⟨⟨v, xs, h1, h2⟩, h3, h5, h6, h7⟩ hl hlo ho
  refine ⟨⟨v, xs, boxed_putObj h1 hlo ho, h2.putObj hlo ho⟩, h3, ?_, ?_, by simpa using h7⟩
  ·refine (World.cell?_of_block (a := ⟨w.heap.size, 0, none⟩) (World.putObj_heap_other fun e => ?_)).trans h5
   subst e
   unfold World.cell? at h5
   simp only at h5
   rw [hlo] at h5
   cases o <;> simp_all [Obj.isCells]
  ·exact h6.grown (grownBy_putObj' W l o') h6.size (fun k e => by cases e; omega)
 ·rintro c W W' ⟨h0, k, v, xs, h1, h2, h3, h4⟩ hb
  exact ⟨h0, k, v, xs, h1, (hb.block _ h2.lt).trans h2, h3.grow hb, h4.trans (hb.mono h4.size)⟩
 ·rintro c W l o o' ⟨h0, k, v, xs, h1, h2, h3, h4⟩ hl hlo ho
  exact ⟨h0, k, v, xs, h1, boxed_putObj h2 hlo ho, h3.putObj hlo ho, h4.grown (grownBy_putObj' W l o') h4.size (fun k e => by cases e; omega)⟩

def RPartsEnd (w : World) (ps : List PS) (e : Ending) (w' : World) : Prop :=
 ∃ k a c xs, FirstAt ps k ∧ e = .returned (.slice a (ps.length - k) c) ∧ Row5 (fun b => w.heap.size ≤ b) w' a (ps.length - k) c xs (ps.drop k) ∧ Below w.heap.size w w'

theorem partEnd_at {w w' : World} {N : Nat} {L : List Nat} {p : PS} {e : Ending} (hs : Splits L p.ls p.t) (hn : p.n = (N : Int)) (h : PartEnd w N L e w') : ∃ x, e = .returned (partV x) ∧ PartAt (fun b => w.heap.size ≤ b) w' x p ∧ Below w.heap.size w w' := by
 obtain ⟨x, ls, t, h1, he, h2, h3, h4, h5, h6, h7, h8⟩ := h
 obtain ⟨rfl, rfl⟩ := splits_uniq h1 hs
 have hj : L.take (sizeL p.ls) = joinL p.ls := by
  conv => lhs; rw [hs.eq]
  rw [← joinL_len, List.take_left]
 rw [hj] at h5
 refine ⟨x, he, ⟨h2.trans hn.symm, h3, h4, h5, fun y hy h0 => h7 y hy h0, ?_⟩, h8⟩
 have hl := congrArg List.length hs.eq
 rw [List.length_append, joinL_len] at hl
 rw [h6]
 omega

theorem keepsFrom_below {n : Nat} {W W' : World} (h : Below W.heap.size W W') : KeepsFrom n W W' :=
 ⟨h.size, fun k _ _ hk _ => (h.block k (Array.getElem?_eq_some_iff.1 hk).1).trans hk⟩

theorem keepsFrom_trans {n : Nat} {A B C : World} (h : KeepsFrom n A B) (k : KeepsFrom n B C) : KeepsFrom n A C := h.trans k

theorem own_lt5 {w : World} {base n size : Nat} {e : TypeId} {v : Value} {xs : List Value} (h : w.ownsRow base e size v n xs) : ∀ k, v.ownBlock = some k → k < w.heap.size := by
 intro k hk
 rcases h.2 with ⟨rfl, _⟩ | ⟨g, cap, cur, rfl, _, hg, _⟩
 ·cases hk
 ·cases hk
  exact (Array.getElem?_eq_some_iff.1 hg).1

theorem own_ge5 {w : World} {base n size : Nat} {e : TypeId} {v : Value} {xs : List Value} (h : w.ownsRow base e size v n xs) : ∀ k, v.ownBlock = some k → base ≤ k := by
 intro k hk
 rcases h.2 with ⟨rfl, _⟩ | ⟨g, cap, cur, rfl, hb, _⟩
 ·cases hk
 ·cases hk
  exact hb

theorem own_base5 {w : World} {base b n size : Nat} {e : TypeId} {v : Value} {xs : List Value} (h : w.ownsRow base e size v n xs) (hb : b ≤ base) : w.ownsRow b e size v n xs :=
 ⟨h.1, h.2.imp id (fun ⟨g, cap, cur, e1, e2, r⟩ => ⟨g, cap, cur, e1, Nat.le_trans hb e2, r⟩)⟩

theorem five_new {w : World} {g : Nat} {a b c d e : Value} {t : TypeId} {m : Nat × Nat} (h : w.heap[g]? = some (.cells #[a, b, c, d, e] t m)) :
  w.cell? ⟨g, 0, none⟩ = some a ∧ w.cell? ⟨g, 1, none⟩ = some b ∧ w.cell? ⟨g, 2, none⟩ = some c ∧ w.cell? ⟨g, 3, none⟩ = some d ∧ w.cell? ⟨g, 4, none⟩ = some e := by
 refine ⟨?_, ?_, ?_, ?_, ?_⟩ <;> rw [cell_of_row _ _ _ _ _ m h] <;> rfl

set_option maxRecDepth 100000 in
set_option maxHeartbeats 6400000 in
theorem readParts_any {w0 : World} {X : Nat → Prop} {w : World} {d : Nat} {M : DM} (hO : Own w0 X w d M) (hu : usedF M.fs ≤ 10000000) (ps : List PS) (hA : AllOf M ps) (h0 : 0 < ps.length) (hm : ps.length ≤ 1000) (p : Option Addr) (c : Nat) (hI : Ints w p ps.length c (ps.map PS.n)) :
  Calls Tryz.prog 103 #[.pointer (some ⟨d, 0, none⟩), .slice p ps.length c] w (RPartsEnd w ps) := by
 refine (callsIn_wide (n := 6)).1 ?_
 have HO := Lib.hid hO
 have HA := Lib.hid hA
 have HI := Lib.hid hI
 obtain ⟨i0, hi, hz0, hz1, hz2⟩ := info_parts info_part
 clear hO hA hI
 refine callsIn_of_wp_marks Tryz.func103 rfl trivial ?_ rfl
 simp only [Tryz.ntmps103, List.size_toArray, List.length_cons, List.length_nil, Nat.reduceAdd, Nat.reduceSub, Array.replicate_succ, Array.replicate_zero, List.push_toArray, List.append_toArray, List.nil_append, List.cons_append]
 gi_wp2_with (refine ⟨trivial, ?_⟩; gi_at_call 143; refine (callsIn_wide.2 (backward_any p _ c _)).mono ?_; rintro e w' ⟨rfl, rfl⟩)
 obtain ⟨w1, hw1⟩ : ∃ w1, w1 = ((w.alloc (.cells #[.pointer (some ⟨d, 0, none⟩)] 23)).alloc (.cells #[.slice none 0 0] 163)).alloc (.cells #[.slice p ps.length c] 33) := ⟨_, rfl⟩
 have hb1 : Below w.heap.size w w1 := by rw [hw1]; exact (((Below.refl _ _).alloc (Nat.le_refl _) _).alloc (by simp) _).alloc (by simp; omega) _
 have hz1w : w1.heap.size = w.heap.size + 3 := by rw [hw1]; simp
 have hbd : w1.cell? ⟨w.heap.size, 0, none⟩ = some (.pointer (some ⟨d, 0, none⟩)) := by
  rw [hw1]
  exact (((Boxed.new w 23 (.pointer (some ⟨d, 0, none⟩))).alloc _).alloc _).cell
 have hbp : Boxed w1 (w.heap.size + 1) 163 (.slice none 0 0) := by
  have h := (Boxed.new (w.alloc (.cells #[.pointer (some ⟨d, 0, none⟩)] 23)) 163 (.slice none 0 0)).alloc (.cells #[.slice p ps.length c] 33)
  rw [World.size_alloc] at h
  rw [hw1]
  exact h
 have hbs : w1.cell? ⟨w.heap.size + 1 + 1, 0, none⟩ = some (.slice p ps.length c) := by
  have h := (Boxed.new ((w.alloc (.cells #[.pointer (some ⟨d, 0, none⟩)] 23)).alloc (.cells #[.slice none 0 0] 163)) 33 (.slice p ps.length c)).cell
  rw [World.size_alloc, World.size_alloc] at h
  rw [hw1]
  exact h
 rw [← hw1]
 clear hw1
 have h00 : RpY w ps d (w.heap.size + 1) [] 0 w1 := ⟨⟨_, [], hbp, by unfold backL; simpa using OwnParts5.nil _ _⟩, fun i h hh => by simp at hh; omega, hbd, hb1, by omega⟩
 have Hb1 := Lib.hid hb1
 have hT := back1_told 5 (by omega) (w.heap.size + 1 + 1) p ps.length c (ps.map PS.n) (by omega) (fun s N W => RpY w ps d (w.heap.size + 1) s N W ∧ W.cell? ⟨w.heap.size + 1 + 1, 0, none⟩ = some (.slice p ps.length c)) (fun s N W h => ⟨HI.out.grow h.1.2.2.2.1, h.2⟩)
 refine range_toldL (n := 6) (by omega) (gf := 175) (lb := #[.pointer (some ⟨w.heap.size + 1 + 1, 0, none⟩)]) rfl (enters_of Tryz.func175 (by kernel_rfl) rfl) (encs := backEnc (ps.map PS.n)) (fun _ => rfl)
  (Ix := RpX w ps (w.heap.size + 1)) ?stands hT 0 ⟨h00, hbs⟩
  (fun x => { tmps := #[.pointer (some ⟨d, 0, none⟩), .slice p ps.length c, .pointer (some ⟨w.heap.size, 0, none⟩), undef, .slice none 0 0, .pointer (some ⟨w.heap.size + 1, 0, none⟩), undef, .int .i64 ((ps.map PS.n).getD x 0), undef, .slice p ps.length c, .func (.func 175) #[] #[.pointer (some ⟨w.heap.size + 1 + 1, 0, none⟩)], .int .i64 (x : Int), .int .i64 ((ps.map PS.n).getD x 0), undef, undef, undef, undef, undef, undef, undef, undef, undef, undef, undef, undef], defers := [] }) ?assign ?body ?done ?stop
 case stands =>
  have h := rpY_stands w ps d (w.heap.size + 1) w1.heap.size (by omega)
  refine ⟨fun s N W W' hh hb => ⟨h.grow s N W W' hh.1 hb, cell_keep hb hh.2⟩, fun s N W hh => ⟨h.more s N W hh.1, hh.2⟩, fun s N W l o o' hh hl hlo ho => ⟨h.put s N W l o o' hh.1 hl hlo ho, ?_⟩, h.growX, h.putX⟩
  refine (World.cell?_of_block (a := ⟨w.heap.size + 1 + 1, 0, none⟩) (World.putObj_heap_other fun e => ?_)).trans hh.2
  have e' : w.heap.size + 1 + 1 = l := e
  omega
 case assign =>
  intro l x W K hK
  unfold backEnc
  generalize (ps.map PS.n).getD x 0 = y at hK ⊢
  gi_wp2
  exact hK
 case body =>
  rintro l pre x N W ⟨⟨⟨v, xs, hv, hrow⟩, hmk, hbd, hB, hW⟩, hbs⟩ hx hM
  have hxl : x < ps.length := by omega
  have hgx : (ps.map PS.n).getD x 0 = ps[x].n := by rw [List.getD_eq_getElem?_getD, List.getElem?_map, List.getElem?_eq_getElem hxl]; rfl
  obtain ⟨hN0, hN1⟩ := allOf_pos HA.out ps[x].n (List.mem_map.2 ⟨_, List.getElem_mem hxl, rfl⟩)
  obtain ⟨NN, hNN⟩ : ∃ NN : Nat, ps[x].n = (NN : Int) := ⟨ps[x].n.toNat, by omega⟩
  have hsp := HA.out.2 ps[x] (List.getElem_mem hxl)
  rw [hNN, Int.toNat_natCast] at hsp
  rw [hgx, hNN]
  have HX := Lib.hid ((readPart_any (HO.out.below hB) hu NN (by omega) (by omega)).mono fun e w' h => partEnd_at hsp hNN h)
  have hbn := backL_next (ps := ps) hx
  have Hv := Lib.hid hv
  have Hrow := Lib.hid hrow
  have Hmk := Lib.hid hmk
  have HB := Lib.hid hB
  have Hbs := Lib.hid hbs
  have Hbn := Lib.hid hbn
  have Hx := Lib.hid hx
  clear hsp hbn hgx hN0 hN1 hNN hv hrow hmk hB hbs
  gi_wp2_with fail
  refine ⟨trivial, (CallsIn.inRound l (callsIn_wide.2 HX.out)).mono ?_⟩
  rintro e w3 ⟨xp, rfl, hpt, hb3⟩
  have hbp3 : Boxed w3 (w.heap.size + 1) 163 v := (hb3.block _ Hv.out.lt).trans Hv.out
  have hown3 := Hrow.out.grow hb3
  have hpt3 : PartAt (fun b => w.heap.size + 3 ≤ b ∧ v.ownBlock ≠ some b) w3 xp ps[x] := hpt.moved (fun _ _ _ => rfl) (Nat.le_refl _) (fun b hb _ => ⟨Nat.le_trans hW hb, fun e => by have := own_lt5 Hrow.out.own b e; omega⟩)
  obtain ⟨w5, hw5⟩ : ∃ w5, w5 = w3.alloc (.cells #[.int .i64 xp.n, .bool xp.mark, .slice xp.pa xp.pn xp.pc, .slice xp.wa xp.wn xp.wc, .int .i64 xp.tn] 105) := ⟨_, rfl⟩
  have hb35 : Below w3.heap.size w3 w5 := by rw [hw5]; exact (Below.refl _ _).alloc (Nat.le_refl _) _
  have hx5 : w5.heap[w3.heap.size]? = some (.cells #[.int .i64 xp.n, .bool xp.mark, .slice xp.pa xp.pn xp.pc, .slice xp.wa xp.wn xp.wc, .int .i64 xp.tn] 105 (0, 0)) := by rw [hw5]; exact heap_alloc_new _ _
  obtain ⟨c0, c1, c2, c3, c4⟩ := five_new hx5
  have hbp5 : Boxed w5 (w.heap.size + 1) 163 v := (hb35.block _ hbp3.lt).trans hbp3
  have hcp5 := hbp5.cell
  have Hx5 := Lib.hid hx5
  have Hown5 := Lib.hid (hown3.grow hb35)
  have Hpt5 := Lib.hid (hpt3.grow hb35)
  have HbW5 := Lib.hid (hb3.trans (hb35.mono hb3.size))
  have Hbp5 := Lib.hid hbp5
  have hz35 : w3.heap.size < w5.heap.size := by rw [hw5]; simp
  have hzW3 := hb3.size
  clear hpt hb3 hbp3 hown3 hpt3 hb35 hx5 hbp5
  have hxl : xs.length ≤ 1000 := by rw [Hown5.out.len]; unfold backL; rw [List.length_reverse, List.length_drop]; omega
  have hlb := own_lt5 Hrow.out.own
  have hlb2 : v.ownBlock ≠ some w3.heap.size := fun e => by have := hlb _ e; omega
  have hz5 : w5.heap.size = w3.heap.size + 1 := by rw [hw5]; simp
  have hNews := cells_new w5 #[.int .i64 xp.n, .bool xp.mark, .slice xp.pa xp.pn xp.pc, .slice xp.wa xp.wn xp.wc, .int .i64 xp.tn] 105
  rw [hz5] at hNews
  have HNews := Lib.hid hNews
  have Hmk2 := Lib.hid Hpt5.out.mark
  have hb56 := (Below.refl w5.heap.size w5).alloc (Nat.le_refl _) (.cells #[.int .i64 xp.n, .bool xp.mark, .slice xp.pa xp.pn xp.pc, .slice xp.wa xp.wn xp.wc, .int .i64 xp.tn] 105)
  have Hown6 := Lib.hid (Hown5.out.grow hb56)
  have Hpt6 := Lib.hid (Hpt5.out.grow hb56)
  have Hx6 := Lib.hid ((hb56.block _ hz35).trans Hx5.out)
  have hcat : RecsZ (fun _ => True) w3 none 0 0 [] := ⟨rfl, Nat.le_refl _, by omega, fun h => absurd h (Nat.lt_irrefl _)⟩
  have hbase5 : w.heap.size ≤ w5.heap.size := by omega
  have hbase6 : w.heap.size + 3 ≤ (w5.alloc (.cells #[.int .i64 xp.n, .bool xp.mark, .slice xp.pa xp.pn xp.pc, .slice xp.wa xp.wn xp.wc, .int .i64 xp.tn] 105)).heap.size := by rw [World.size_alloc]; omega
  have hbW6 := HbW5.out.trans (hb56.mono HbW5.out.size)
  have hge := own_ge5 Hrow.out.own
  have Hkp := Lib.hid (fun b (hb : b < w.heap.size + 3) => And.intro (hbW6.block b (Nat.lt_of_lt_of_le hb hW)) (And.intro (Nat.lt_of_lt_of_le (Nat.lt_of_lt_of_le hb hW) hbW6.size) (fun e : some b = v.ownBlock => Nat.lt_irrefl _ (Nat.lt_of_lt_of_le hb (hge b e.symm)))))
  have hne5 : w3.heap.size ≠ w.heap.size + 1 := by omega
  have hlt6 : w3.heap.size < (w5.alloc (.cells #[.int .i64 xp.n, .bool xp.mark, .slice xp.pa xp.pn xp.pc, .slice xp.wa xp.wn xp.wc, .int .i64 xp.tn] 105)).heap.size := by rw [World.size_alloc]; omega
  clear hlb hNews hb56 hcat hge hbW6
  unfold partV
  obtain ⟨xn, xm, xpa, xpn, xpc, xwa, xwn, xwc, xtn⟩ := xp
  simp only at *
  subst hw5
  cases xm
  all_goals
   gi_wp2_with (gi_at_builtin; refine wpListIn_append_own_at _ rfl _ _ 163 rfl (w.heap.size + 3) 105 i0 _ 5 72 Tryz.underlying163 hi hz0 hz1 hz2 rfl (by decide) _ _ _ rfl (Hown5.out.own.alloc _) ⟨w3.heap.size + 1, 0, none⟩ 1 1 _ rfl rfl HNews.out (flatP_one [⟨xn, _, xpa, xpn, xpc, xwa, xwn, xwc, xtn⟩]) (by rw [maxLen_nat]; omega) (by omega) hbase6 ?_; intro v' w7 hown' hgrow _ hblk; have hsn := OwnParts5.snoc Hown6.out Hpt6.out hown' hgrow hblk; obtain ⟨g', cap', rfl⟩ := ownsRow_succ hown'; obtain ⟨hv1, hv2, hr2, hk2, hb2⟩ := Hbp5.out.appended (by decide) (own_base5 Hown5.out.own (Nat.le_add_right _ 3)) hbase5 (Nat.le_succ _) (own_base5 hown' (Nat.le_add_right _ 3)) hgrow; have hc1 := hv1.cell; have hf1 := hv1.frozen; have hx7 := (hgrow.block _ hlt6 (fun e => hlb2 e.symm)).trans Hx6.out; have hx8 := (Below.heap_setCell w7 ⟨w.heap.size + 1, 0, none⟩ (.slice (some ⟨g', 0, none⟩) (xs.length + 1) cap') w3.heap.size hne5).trans hx7; obtain ⟨_, y1, _, _, _⟩ := five_new hx8; have Hend := Lib.hid (And.intro (hsn.setCell (B := w.heap.size + 1) (u := .slice (some ⟨g', 0, none⟩) (xs.length + 1) cap') (by omega)) (And.intro hv2 (And.intro (keepsFrom_trans (keepsFrom_below HbW5.out) (hk2.from w1.heap.size)) (And.intro hb2 (fun b (hb : b < w.heap.size + 3) (hne : b ≠ w.heap.size + 1) => (Below.heap_setCell w7 ⟨w.heap.size + 1, 0, none⟩ (.slice (some ⟨g', 0, none⟩) (xs.length + 1) cap') b hne).trans ((hgrow.block b (Hkp.out b hb).2.1 (Hkp.out b hb).2.2).trans (Hkp.out b hb).1)))))); clear hsn hx7 hx8 hown' hgrow hblk hv1 hv2 hr2 hk2 hb2)
  ·obtain ⟨e1, e2, e3, e4, e5⟩ := Hend.out
   refine ⟨e3, 0, ⟨⟨_, _, e2, by rw [List.length_append, List.length_singleton, Hbn.out]; exact e1⟩, fun i hi hle => ?_, ?_, HB.out.trans ((HbW5.out.mono HB.out.size).trans e4), ?_⟩, ?_⟩
   ·rw [List.length_append, List.length_singleton] at hle
    by_cases h : ps.length ≤ i + pre.length
    ·exact Hmk.out i hi h
    ·obtain rfl : i = x := by have := Hx.out; omega
     exact Hmk2.out.symm
   ·exact (World.cell?_of_block (a := ⟨w.heap.size, 0, none⟩) (e5 _ (by show w.heap.size < _; omega) (by show w.heap.size ≠ _; omega))).trans hbd
   ·exact Nat.le_trans hW e3.size
   ·exact (World.cell?_of_block (a := ⟨w.heap.size + 1 + 1, 0, none⟩) (e5 _ (by show w.heap.size + 1 + 1 < _; omega) (by show w.heap.size + 1 + 1 ≠ _; omega))).trans Hbs.out
  ·obtain ⟨e1, e2, e3, e4, e5⟩ := Hend.out
   have hd : (ps.drop x).reverse = backL ps (pre.length + 1) := by
    unfold backL
    congr 2
    have := Hx.out
    omega
   rw [← Hbn.out, ← hd] at e1
   exact ⟨e3, rfl, x, _, _, ⟨by have := Hx.out; omega, fun i hi hlt => Hmk.out i hi (by have := Hx.out; omega), .inr Hmk2.out.symm⟩, e2, e1, HB.out.trans ((HbW5.out.mono HB.out.size).trans e4)⟩
 case done =>
  rintro D pre N W hD hlen ⟨⟨⟨v, xs, hv, hrow⟩, hmk, hbd, hB, hW⟩, hbs⟩ hK
  obtain ⟨k, hk0⟩ : ∃ k : Nat, k = 0 := ⟨0, rfl⟩
  have hF : FirstAt ps k := by
   subst hk0
   exact ⟨h0, fun i hi _ => hmk i hi (by rw [show pre.length = ps.length from hlen]; omega), .inl rfl⟩
  have hbl : backL ps pre.length = (ps.drop k).reverse := by
   unfold backL
   rw [show pre.length = ps.length from hlen, Nat.sub_self, hk0]
  rw [hbl] at hrow
  clear hmk hbl hbs hbd hlen hk0
  have hdl : (ps.drop k).length = ps.length - k := List.length_drop
  have hkl : k < ps.length := hF.1
  obtain ⟨g, cap, rfl, hbg, hgl, ⟨cur, tg, hgc⟩, hRev⟩ := rev_row hrow (by omega) (by omega)
  have hc := hv.cell
  have HRev := Lib.hid hRev
  have hgB : w.heap.size + 1 ≠ g := by omega
  have hgD : D ≠ g := fun e => by subst e; rw [hK] at hgc; cases hgc
  have HvB := Lib.hid hv
  have HB := Lib.hid hB
  have HK := Lib.hid hK
  have HF := Lib.hid hF
  have hDl := (Array.getElem?_eq_some_iff.1 hK).1
  rw [hdl] at HRev
  have hdl2 : (ps.drop k).length = ps.length - k := hdl
  clear hrow hRev hv hB hK hgc hF
  rw [hdl2] at hc
  rw [hdl2] at HvB
  clear hdl hdl2
  generalize hmk : ps.length - k = m at HRev hc HvB
  have Hmk := Lib.hid hmk
  clear hmk hkl
  gi_wp2_with fail
  refine ⟨trivial, (callsIn_wide.2 HRev.out).mono ?_⟩
  rintro e w4 ⟨⟨u, rfl⟩, hrow4, ho4, hb4⟩
  have hv4 : Boxed w4 (w.heap.size + 1) 163 _ := (ho4 _ hgB HvB.out.lt).trans HvB.out
  have hK4 := (ho4 D hgD hDl).trans HK.out
  have hc4 := hv4.cell
  have Hrow4 := Lib.hid hrow4
  have Hb4 := Lib.hid (HB.out.trans (hb4.mono (by omega)))
  have HK4 := Lib.hid hK4
  clear hrow4 ho4 hv4 hK4 hb4
  gi_wp2
  refine ⟨by simp, .inl ⟨_, _, rfl, run_takeDeferred HK4.out, ?_⟩⟩
  have hmk := Hmk.out
  subst hmk
  refine ⟨_, results_tmp rfl _ _ _, k, some ⟨g, 0, none⟩, cap, xs.reverse, HF.out, rfl, ?_, Hb4.out.trans (belowK_b (w := w) (Nat.le_refl _) _ D _ _ (by omega) HK4.out rfl rfl)⟩
  have hr := Hrow4.out.putObj (o' := .deferred none) HK4.out rfl
  exact ⟨hr.len, hr.lenq, hr.cap, hr.cell, fun i g g' => (hr.part i g g').moved (fun _ _ _ => rfl) (Nat.le_refl _) (fun b hb _ => by omega)⟩
 case stop =>
  rintro D cc W hD ⟨rfl, k, v, xs, hF, hv, hrow, hB⟩ hK
  have hdl : (ps.drop k).length = ps.length - k := List.length_drop
  have hkl : k < ps.length := hF.1
  obtain ⟨g, cap, rfl, hbg, hgl, ⟨cur, tg, hgc⟩, hRev⟩ := rev_row hrow (by omega) (by omega)
  have hc := hv.cell
  have HRev := Lib.hid hRev
  have hgB : w.heap.size + 1 ≠ g := by omega
  have hgD : D ≠ g := fun e => by subst e; rw [hK] at hgc; cases hgc
  have HvB := Lib.hid hv
  have HB := Lib.hid hB
  have HK := Lib.hid hK
  have HF := Lib.hid hF
  have hDl := (Array.getElem?_eq_some_iff.1 hK).1
  rw [hdl] at HRev
  have hdl2 : (ps.drop k).length = ps.length - k := hdl
  clear hrow hRev hv hB hK hgc hF
  rw [hdl2] at hc
  rw [hdl2] at HvB
  clear hdl hdl2
  generalize hmk : ps.length - k = m at HRev hc HvB
  have Hmk := Lib.hid hmk
  clear hmk hkl
  gi_wp2_with fail
  refine ⟨trivial, (callsIn_wide.2 HRev.out).mono ?_⟩
  rintro e w4 ⟨⟨u, rfl⟩, hrow4, ho4, hb4⟩
  have hv4 : Boxed w4 (w.heap.size + 1) 163 _ := (ho4 _ hgB HvB.out.lt).trans HvB.out
  have hK4 := (ho4 D hgD hDl).trans HK.out
  have hc4 := hv4.cell
  have Hrow4 := Lib.hid hrow4
  have Hb4 := Lib.hid (HB.out.trans (hb4.mono (by omega)))
  have HK4 := Lib.hid hK4
  clear hrow4 ho4 hv4 hK4 hb4
  gi_wp2
  refine ⟨by simp, .inl ⟨_, _, rfl, run_takeDeferred HK4.out, ?_⟩⟩
  have hmk := Hmk.out
  subst hmk
  refine ⟨_, results_tmp rfl _ _ _, k, some ⟨g, 0, none⟩, cap, xs.reverse, HF.out, rfl, ?_, Hb4.out.trans (belowK_b (w := w) (Nat.le_refl _) _ D _ _ (by omega) HK4.out rfl rfl)⟩
  have hr := Hrow4.out.putObj (o' := .deferred none) HK4.out rfl
  exact ⟨hr.len, hr.lenq, hr.cap, hr.cell, fun i g g' => (hr.part i g g').moved (fun _ _ _ => rfl) (Nat.le_refl _) (fun b hb _ => by omega)⟩
end Go.Proofs.YtnbddiiedagllaaGreat

/- The walk of find, whatever lies on a disk that is up. -/
namespace Go.Proofs.YtnbddiiedagllaaGreat
open Go.RowKit Go.Maps Go.Shelf

attribute [local go_sem ↓] Go.wp_at_zero Go.wp_at_succ

theorem PartsZ.form {Z : Nat → Prop} {w : World} {B : Nat} {v : Value} {ls : List (List Nat)} (h : PartsZ Z w B v ls) : ∃ a c, v = .slice a ls.length c := by
 obtain ⟨vs, _, h2, _⟩ := h
 rcases h2.2 with ⟨rfl, h0⟩ | ⟨g, cap, cur, rfl, _⟩
 ·exact ⟨none, 0, by rw [h0]⟩
 ·exact ⟨_, cap, rfl⟩

theorem own_same5 {w w' : World} {base n size : Nat} {e : TypeId} {v : Value} {xs : List Value} (h : w.ownsRow base e size v n xs) (hk : ∀ k, v.ownBlock = some k → w'.heap[k]? = w.heap[k]?) : w'.ownsRow base e size v n xs := by
 refine ⟨h.1, ?_⟩
 rcases h.2 with hn | ⟨g, cap, cur, rfl, hbg, hg, rest⟩
 ·exact .inl hn
 ·exact .inr ⟨g, cap, cur, rfl, hbg, (hk g rfl).trans hg, rest⟩

theorem PartsZ.same {Z Z' : Nat → Prop} {w w' : World} {B : Nat} {v : Value} {ls : List (List Nat)} (h : PartsZ Z w B v ls) (hk : ∀ b, B ≤ b → w'.heap[b]? = w.heap[b]?) (hZ : ∀ b, Z b → w'.heap[b]? = w.heap[b]?) (hzz : ∀ b, Z b → Z' b) : PartsZ Z' w' B v ls := by
 obtain ⟨vs, h1, h2, h3⟩ := h
 refine ⟨vs, h1, own_same5 h2 (fun k e => hk k (own_ge5 h2 k e)), fun i hi => ?_⟩
 obtain ⟨a, n, c, h4, h5, h6⟩ := h3 i hi
 exact ⟨a, n, c, h4, h5.moved (fun h0 x hx => hZ _ (h6 h0 x hx).2), fun h0 x hx => ⟨(h6 h0 x hx).1, hzz _ (h6 h0 x hx).2⟩⟩

def putF (w : World) (B : Nat) (v0 v1 v2 v3 v4 v5 v6 v7 : Value) : World :=
 ((((((((w.setCell ⟨B, 0, none⟩ v0).setCell ⟨B, 1, none⟩ v1).setCell ⟨B, 2, none⟩ v2).setCell ⟨B, 3, none⟩ v3).setCell ⟨B, 4, none⟩ v4).setCell ⟨B, 5, none⟩ v5).setCell ⟨B, 6, none⟩ v6).setCell ⟨B, 7, none⟩ v7)

theorem putF_other (w : World) {B b : Nat} (h : b ≠ B) (v0 v1 v2 v3 v4 v5 v6 v7 : Value) : (putF w B v0 v1 v2 v3 v4 v5 v6 v7).heap[b]? = w.heap[b]? := by
 unfold putF
 rw [Below.heap_setCell _ _ _ _ h, Below.heap_setCell _ _ _ _ h, Below.heap_setCell _ _ _ _ h, Below.heap_setCell _ _ _ _ h, Below.heap_setCell _ _ _ _ h, Below.heap_setCell _ _ _ _ h, Below.heap_setCell _ _ _ _ h, Below.heap_setCell _ _ _ _ h]

theorem putF_below {n : Nat} {w0 w : World} {B : Nat} (h : Below n w0 w) (hn : n ≤ B) (v0 v1 v2 v3 v4 v5 v6 v7 : Value) : Below n w0 (putF w B v0 v1 v2 v3 v4 v5 v6 v7) :=
 (((((((h.setCell hn _).setCell hn _).setCell hn _).setCell hn _).setCell hn _).setCell hn _).setCell hn _).setCell hn _

structure FoundAt (B : Nat) (w : World) (ps : List PS) (k : Nat) (x : FD) : Prop where
 recs : PartsZ (fun b => B ≤ b) w B (.slice x.ra x.rn x.rc) (recsL (ps.drop k))
 older : Ints w x.oa x.on x.oc ((ps.take k).map PS.n)
 last : ∃ h : 0 < ps.length, x.n = (ps[ps.length - 1]'(by omega)).n ∧ Bytes w x.wa x.wn x.wc (joinL (ps[ps.length - 1]'(by omega)).ls) ∧ (∀ y, x.wa = some y → 0 < x.wn → B ≤ y.block) ∧ x.tn = ((ps[ps.length - 1]'(by omega)).t.length : Int)
 no : x.no = false

def FindQ (B : Nat) (ps : List PS) (x : FD) (z : Int) (w : World) : Prop :=
 (ps = [] ∧ x = fd1 ∧ z = 0) ∨ ∃ k, FirstAt ps k ∧ ((¬ Good (ps.drop k) ∧ x = fd0 ∧ z = 11) ∨ (Good (ps.drop k) ∧ z = 0 ∧ FoundAt B w ps k x))

theorem PartsZ.upTo {Z : Nat → Prop} {w : World} {B B' : Nat} {v : Value} {ls : List (List Nat)} (h : PartsZ Z w B v ls) (hb : B' ≤ B) : PartsZ Z w B' v ls := h.base hb

theorem prow_of_row5 {Z : Nat → Prop} {w : World} {a : Option Addr} {n c : Nat} {xs : List PD} {qs : List PS} (h : Row5 Z w a n c xs qs) (hm : n ≤ 1000000) : PRow (fun b => Z b ∧ b < w.heap.size) w a n c (xs.zip (qs.map PS.recs)) := by
 have h1 := h.len
 have h2 := h.lenq
 have hzl : (xs.zip (qs.map PS.recs)).length = n := by rw [List.length_zip, List.length_map, h1, h2]; omega
 refine ⟨hzl, hm, fun hn => ?_⟩
 obtain ⟨b, o, e, _, hc⟩ := h.cell hn
 refine ⟨b, o, e, fun i hi => ?_⟩
 have hx : i < xs.length := by rw [h1]; omega
 have hq : i < qs.length := by rw [h2]; omega
 have e1 : (xs.zip (qs.map PS.recs))[i] = (xs[i], qs[i].recs) := by rw [List.getElem_zip, List.getElem_map]
 rw [e1]
 exact ⟨hc i hx, (h.part i hx hq).recs.lt⟩

theorem stands_of_row5 {Z : Nat → Prop} {w : World} {a : Option Addr} {n c : Nat} {xs : List PD} {qs : List PS} (h : Row5 Z w a n c xs qs) : ∀ i (hi : i < (xs.zip (qs.map PS.recs)).length) (h' : i < qs.length), Stands1 (xs.zip (qs.map PS.recs))[i].1 (xs.zip (qs.map PS.recs))[i].2 qs[i] := by
 intro i hi h'
 have hx : i < xs.length := by rw [h.len, ← h.lenq]; exact h'
 have e1 : (xs.zip (qs.map PS.recs))[i] = (xs[i], qs[i].recs) := by rw [List.getElem_zip, List.getElem_map]
 rw [e1]
 have hp := h.part i hx h'
 exact ⟨hp.n, hp.mark, rfl, hp.torn⟩

theorem recs_le (ls : List (List Nat)) : (restOf ls).length ≤ ls.length := by
 unfold restOf
 split
 ·rw [List.length_tail]; omega
 ·exact Nat.le_refl _

theorem allOf_many {M : DM} {ps : List PS} (hA : AllOf M ps) {U : Nat} (hu : usedF M.fs ≤ U) : ∀ p ∈ ps, p.ls.length ≤ U := by
 intro p hp
 have h1 := joinL_many p.ls
 have h2 := congrArg List.length (hA.2 p hp).eq
 rw [List.length_append] at h2
 have h3 := readM_len (nmB p.n.toNat) M
 omega

theorem sumP_le {xs : List (PD × List (List Nat))} {U : Nat} (h : ∀ x ∈ xs, x.2.length ≤ U) : sumP xs ≤ xs.length * U := by
 unfold sumP
 induction xs with
 | nil => simp
 | cons x xs ih =>
  rw [List.map_cons, List.sum_cons, List.length_cons, Nat.succ_mul]
  have h1 := h x (List.mem_cons_self ..)
  have h2 := ih (fun y hy => h y (List.mem_cons_of_mem _ hy))
  omega

set_option maxRecDepth 100000 in
set_option maxHeartbeats 6400000 in
theorem find_up {w0 : World} {X : Nat → Prop} {w : World} {d : Nat} {M : DM} (hO : Own w0 X w d M) (hd : M.down = false) (hl : M.fs.length ≤ 1000) (hu : usedF M.fs ≤ 10000) (hnm : ∀ f ∈ M.fs, f.n.length ≤ 9223372036854775807) (ps : List PS) (hA : AllOf M ps) :
  Calls Tryz.prog 57 #[.pointer (some ⟨d, 0, none⟩)] w (FoundEnd (FindQ w.heap.size ps) w) := by
 by_cases hp0 : ps = []
 ·subst hp0
  exact (find_none hO hd hl hnm hA.1).mono fun e w' h => ⟨fd1, 0, h.1, .inl ⟨rfl, rfl, rfl⟩, h.2⟩
 obtain ⟨w1, hw1⟩ : ∃ w1, w1 = w.alloc (.cells #[.slice none 0 0, .slice none 0 0, .int .i64 0, .bool false, .slice none 0 0, .slice none 0 0, .int .i64 0, .bool false] 107) := ⟨_, rfl⟩
 have hb1 : Below w.heap.size w w1 := by rw [hw1]; exact (Below.refl _ _).alloc (Nat.le_refl _) _
 have hB1 : w1.heap[w.heap.size]? = some (.cells #[.slice none 0 0, .slice none 0 0, .int .i64 0, .bool false, .slice none 0 0, .slice none 0 0, .int .i64 0, .bool false] 107 (0, 0)) := by rw [hw1]; exact heap_alloc_new _ _
 have HD := Lib.hid (own_down (hO.below hb1))
 rw [hd] at HD
 have HLi := Lib.hid (own_list (hO.below hb1) (by omega))
 have hplen : 0 < ps.length := List.length_pos_iff.2 hp0
 have HRP := Lib.hid (fun W (h : Below w.heap.size w W) p c hpn hI => readParts_any (hO.below h) (by omega) ps hA hplen hpn p c hI)
 have Hmany := Lib.hid (allOf_many hA hu)
 have Hnm := Lib.hid hnm
 have HA := Lib.hid hA
 have Hb1 := Lib.hid hb1
 have HB1 := Lib.hid hB1
 have Hw1 := Lib.hid hw1
 clear hO hd hnm hA hb1 hB1 hw1 hu hp0
 go_enter Tryz.func57, Tryz.ntmps57
 go_wp2_with fail
 rw [← Hw1.out]
 refine HD.out.mono ?_
 rintro e w2 ⟨rfl, rfl⟩
 go_wp2_with fail
 refine HLi.out.mono ?_
 rintro e w3 ⟨v3, rfl, hown, hb3⟩
 obtain ⟨p3, k3, rfl, hS3⟩ := strs_row hown (fun n hn => by obtain ⟨f, hf, rfl⟩ := List.mem_map.1 hn; exact Hnm.out f hf)
 have HSl := Lib.hid (seglist_any p3 M.fs.length k3 _ w3 hS3 hl)
 have Hb3 := Lib.hid hb3
 clear hown hS3 hb3
 go_wp2_with fail
 refine HSl.out.mono ?_
 rintro e w4 ⟨v4, out, rfl, hasc, hmem, hol, hown4, hb4⟩
 have hmap : (M.fs.map F.n).map nmL = M.fs.map fun f => nmL f.n := by rw [List.map_map]; rfl
 rw [hmap] at hmem
 obtain rfl : out = ps.map PS.n := segsOf_uniq ⟨hasc, hmem⟩ HA.out.1
 obtain ⟨p4, k4, rfl, hI4⟩ := own_ints hown4
 have hf4 := own_formed_i hown4
 have hb41 := Hb3.out.trans (hb4.mono Hb3.out.size)
 have Hb4 := Lib.hid (Hb1.out.trans (hb41.mono Hb1.out.size))
 have HB4 := Lib.hid ((hb41.block _ (Array.getElem?_eq_some_iff.1 HB1.out).1).trans HB1.out)
 rw [List.length_map] at hI4
 have hI4' := hI4
 have HI4 := Lib.hid hI4
 have Hown4 := Lib.hid hown4
 have hpn : ps.length ≤ 1000 := by simp only [List.length_map] at hol; omega
 have HR4 := Lib.hid (HRP.out w4 Hb4.out p4 k4 hpn hI4)
 have Hf4 := Lib.hid hf4
 clear hasc hmem hol hmap hown4 hb4 hI4 hf4 hb41 hI4'
 have hpz : ((ps.length : Int) == 0) = false := by rw [beq_eq_false_iff_ne]; omega
 rw [List.length_map]
 go_wp2_with fail
 refine HR4.out.mono ?_
 rintro e w5 ⟨k, a5, c5, xs, hF, rfl, hrow5, hb5⟩
 have Hb5 := Lib.hid (Hb4.out.trans (hb5.mono Hb4.out.size))
 have HB45 := Lib.hid hb5
 have HB5 := Lib.hid ((hb5.block _ (Array.getElem?_eq_some_iff.1 HB4.out).1).trans HB4.out)
 have hI5 := HI4.out.grow hb5
 have hkl : k < ps.length := hF.1
 have hle4 := hI5.le
 have hcm4 := hI5.capmax
 obtain ⟨a6, hs6, hI6⟩ := ints_to (P := Tryz.prog) (T := 33) (E := 3) Tryz.underlying33 info_int (a := p4) (n := ps.length) (c := k4) (k := k) (by omega) hle4 Hf4.out
 obtain ⟨a7, hs7, hI7⟩ := ints_from (P := Tryz.prog) (T := 33) (E := 3) Tryz.underlying33 info_int (a := p4) (n := ps.length) (c := k4) (k := k) (by omega) hle4 Hf4.out
 have hg5 := hI7 w5 _ hI5
 have hdropn : (ps.map PS.n).drop k = (ps.drop k).map PS.n := by rw [List.map_drop]
 have hascd : Asc ((ps.drop k).map PS.n) := by rw [← hdropn]; exact List.Pairwise.sublist (List.drop_sublist k _) (allOf_asc HA.out)
 have hposd : ∀ x ∈ (ps.drop k).map PS.n, 0 < x ∧ x ≤ 1000000000 := fun x hx => by
  rw [← hdropn] at hx
  have := allOf_pos HA.out x (List.mem_of_mem_drop hx)
  omega
 rw [hdropn] at hg5
 have HGap := Lib.hid (gap_any a7 (ps.length - k) (k4 - k) _ w5 hg5 (by omega) hascd hposd)
 have Hgi := Lib.hid (good_iff (qs := ps.drop k) (fun x hx => (hposd x hx).1) hascd)
 have Hold := Lib.hid (hI6)
 have hzl : (xs.zip ((ps.drop k).map PS.recs)).length = (ps.drop k).length := by
  rw [List.length_zip, List.length_map, hrow5.len, hrow5.lenq]; omega
 have Hgl := Lib.hid (gathL_good (xs.zip ((ps.drop k).map PS.recs)) (ps.drop k) [] hzl (stands_of_row5 hrow5))
 have hsumP : sumP (xs.zip ((ps.drop k).map PS.recs)) ≤ 10000000 := by
  have h1 := sumP_le (xs := xs.zip ((ps.drop k).map PS.recs)) (U := 10000) (fun x hx => by
   obtain ⟨p, hp, e⟩ := List.mem_map.1 (List.of_mem_zip hx).2
   have h1 := Hmany.out p (List.mem_of_mem_drop hp)
   have h2 := recs_le p.ls
   rw [← e]
   show (restOf p.ls).length ≤ _
   omega)
  have h2 : (xs.zip ((ps.drop k).map PS.recs)).length ≤ 1000 := by rw [hzl, List.length_drop]; omega
  have h3 := Nat.mul_le_mul_right 10000 h2
  omega
 obtain ⟨b5, o5, rfl, hbl5, hc5⟩ := hrow5.cell (by omega)
 have Hrow5 := Lib.hid hrow5
 have hlast := hc5 (ps.length - k - 1) (by rw [hrow5.len]; omega)
 have hpl := hrow5.part (ps.length - k - 1) (by rw [hrow5.len]; omega) (by rw [hrow5.lenq]; omega)
 have hpe : (ps.drop k)[ps.length - k - 1]'(by rw [hrow5.lenq]; omega) = ps[ps.length - 1]'(by omega) := by rw [List.getElem_drop]; congr 1; omega
 rw [hpe] at hpl
 generalize (xs[ps.length - k - 1]'(by rw [hrow5.len]; omega)) = xl at hlast hpl
 have Hlast := Lib.hid hlast
 have Hpl := Lib.hid hpl
 have HF := Lib.hid hF
 have hmi : (ps.length : Int) - ((ps.length - k : Nat) : Int) = (k : Int) := by omega
 have hqi : ((ps.length - k : Nat) : Int) - 1 = ((ps.length - k - 1 : Nat) : Int) := by omega
 have hqm : ((ps.length - k - 1 : Nat) : Int) < ((ps.length - k : Nat) : Int) := by omega
 have hki : (k : Int) ≤ (ps.length : Int) := by omega
 have hps : ps.length - k ≤ 1000 := by omega
 have HsumP := Lib.hid hsumP
 clear hlast hpl hpe hc5 hsumP hzl hposd hascd hdropn hg5 hI5 hI6 hI7 hrow5 hF hb5
 obtain ⟨m, hm⟩ : ∃ m, m = ps.length - k := ⟨_, rfl⟩
 obtain ⟨q, hq⟩ : ∃ q, q = ps.length - k - 1 := ⟨_, rfl⟩
 rw [← hq] at hqi hqm Hlast
 rw [← hm] at hmi hqi hqm hs7 HGap Hrow5 hps
 rw [← hm]
 have Hm := Lib.hid hm
 clear hm hq
 go_wp2_with fail
 refine HGap.out.mono ?_
 rintro e w6 ⟨rfl, hb6⟩
 have Hb6 := Lib.hid (Hb5.out.trans (hb6.mono Hb5.out.size))
 have Hb56 := Lib.hid hb6
 have hB6 := (hb6.block _ (Array.getElem?_eq_some_iff.1 HB5.out).1).trans HB5.out
 have HB6 := Lib.hid hB6
 generalize hG : gapL ((ps.drop k).map PS.n) = G at Hgi
 clear hb6
 by_cases hg0 : G = 0
 ·have HGd := Lib.hid (show Good (ps.drop k) ↔ _ from Hgi.out)
  subst hg0
  have hgb : ((0 : Int) != 0) = false := by decide
  have HGa := Lib.hid (gather_any (some ⟨b5, o5, none⟩) m c5 (xs.zip ((ps.drop k).map PS.recs)) w6 (Z := fun b => w4.heap.size ≤ b ∧ b < w6.heap.size) (fun _ h => h.2) (prow_of_row5 (Hrow5.out.grow Hb56.out) (by omega)) HsumP.out)
  clear hB6
  go_wp2_with fail
  refine HGa.out.mono ?_
  rintro e w7 ⟨hE, hb7⟩
  have Hb7 := Lib.hid (Hb6.out.trans (hb7.mono Hb6.out.size))
  have Hb67 := Lib.hid hb7
  have hB7 := (hb7.block _ (Array.getElem?_eq_some_iff.1 HB6.out).1).trans HB6.out
  obtain ⟨c0, c1, c2, c3, c4, c5', c6, c7, cf⟩ := box8 hB7
  clear hB7 hb7 HGa
  rcases hE with ⟨v, out, hga, rfl, hP⟩ | ⟨hga, rfl⟩
  ·have hgood : Good (ps.drop k) ∧ out = recsL (ps.drop k) := by
    rcases Hgl.out with ⟨h1, h2⟩ | ⟨h1, _⟩
    ·rw [hga] at h1
     exact ⟨HGd.out.2 ⟨trivial, h2⟩, by simpa using h1⟩
    ·rw [hga] at h1; cases h1
   obtain ⟨hgood, rfl⟩ := hgood
   have HGood := Lib.hid hgood
   obtain ⟨ar, cr, rfl⟩ := hP.form
   have HP := Lib.hid hP
   obtain ⟨l0, l1, l2, l3, l4⟩ := Hlast.out
   have hb57 := Hb56.out.trans (Hb67.out.mono Hb56.out.size)
   have l0 := cell_keep hb57 l0
   have l1 := cell_keep hb57 l1
   have l2 := cell_keep hb57 l2
   have l3 := cell_keep hb57 l3
   have l4 := cell_keep hb57 l4
   have Hpl7 := Lib.hid (Hpl.out.grow hb57)
   have hb47 : Below w4.heap.size w4 w7 := HB45.out.trans (hb57.mono HB45.out.size)
   have Hown7 := Lib.hid (own_below Hown4.out hb47)
   have Hs47 := Lib.hid hb47.size
   clear hga hgood hP hb57 hb47 Hlast
   obtain ⟨xn, xm, xpa, xpn, xpc, xwa, xwn, xwc, xtn⟩ := xl
   simp only at *
   go_wp2
   refine bodyPost_ret (v := .tuple #[foundV ⟨ar, (recsL (ps.drop k)).length, cr, a6, k, k4, xn, xm, xpa, xpn, xpc, xwa, xwn, xwc, xtn, false⟩, .int .i64 0]) ?_ rfl ⟨⟨ar, (recsL (ps.drop k)).length, cr, a6, k, k4, xn, xm, xpa, xpn, xpc, xwa, xwn, xwc, xtn, false⟩, 0, rfl, .inr ⟨k, HF.out, .inr ⟨HGood.out, rfl, ?_⟩⟩, putF_below Hb7.out (Nat.le_refl _) _ _ _ _ _ _ _ _⟩
   ·rw [results_cell_tmp rfl]
    go_simp
    rfl
   ·have hz3 : w.heap.size < w3.heap.size := Nat.lt_of_lt_of_le (Array.getElem?_eq_some_iff.1 HB1.out).1 Hb3.out.size
    have hz4 : w.heap.size < w4.heap.size := (Array.getElem?_eq_some_iff.1 HB4.out).1
    have hz6 : w.heap.size < w6.heap.size := (Array.getElem?_eq_some_iff.1 HB6.out).1
    have hoth := fun b (h : b ≠ w.heap.size) => putF_other w7 h (.slice ar (recsL (ps.drop k)).length cr) (.slice a6 k k4) (.int .i64 xn) (.bool xm) (.slice xpa xpn xpc) (.slice xwa xwn xwc) (.int .i64 xtn) (.bool false)
    have hsz : (putF w7 w.heap.size (.slice ar (recsL (ps.drop k)).length cr) (.slice a6 k k4) (.int .i64 xn) (.bool xm) (.slice xpa xpn xpc) (.slice xwa xwn xwc) (.int .i64 xtn) (.bool false)).heap.size = w7.heap.size := by unfold putF; simp
    have hpl := Hpl7.out.moved (w' := putF w7 w.heap.size (.slice ar (recsL (ps.drop k)).length cr) (.slice a6 k k4) (.int .i64 xn) (.bool xm) (.slice xpa xpn xpc) (.slice xwa xwn xwc) (.int .i64 xtn) (.bool false)) (Z' := fun b => w.heap.size ≤ b) (fun b hb _ => hoth b (by omega)) (by rw [hsz]; exact Nat.le_refl _) (fun b hb _ => by omega)
    refine ⟨?_, ?_, ⟨by omega, hpl.n, hpl.whole, hpl.blk, hpl.torn⟩, rfl⟩
    ·exact (HP.out.same (fun b hb => hoth b (by omega)) (fun b hb => hoth b (by have := hb.1; omega)) (fun b hb => by have := hb.1; omega)).base (by omega)
    ·have ho := own_same5 (w' := putF w7 w.heap.size (.slice ar (recsL (ps.drop k)).length cr) (.slice a6 k k4) (.int .i64 xn) (.bool xm) (.slice xpa xpn xpc) (.slice xwa xwn xwc) (.int .i64 xtn) (.bool false)) Hown7.out (fun b hb => hoth b (by have := own_ge5 Hown7.out b hb; omega))
     rw [List.length_map] at ho
     have hi := Hold.out _ _ (ints_of_own ho)
     rw [← List.map_take] at hi
     exact hi
  ·have HBad := Lib.hid (show ¬ Good (ps.drop k) from fun h => by
    rcases Hgl.out with ⟨h1, _⟩ | ⟨_, i, hi, h2⟩
    ·rw [hga] at h1; cases h1
    ·exact h2 ((HGd.out.1 h).2 i hi))
   clear hga
   go_wp2
   refine bodyPost_ret (v := .tuple #[found0, .int .i64 11]) ?_ rfl ⟨fd0, 11, rfl, .inr ⟨k, HF.out, .inl ⟨HBad.out, rfl, rfl⟩⟩, ?_⟩
   ·rw [results_cell_tmp rfl]
    go_simp
    rfl
   ·exact putF_below Hb7.out (Nat.le_refl _) _ _ _ _ _ _ _ _
 ·have HBad := Lib.hid (show ¬ Good (ps.drop k) from fun h => hg0 (Hgi.out.1 h).1)
  have hgb : (G != 0) = true := by simp [hg0]
  obtain ⟨c0, c1, c2, c3, c4, c5', c6, c7, cf⟩ := box8 hB6
  clear hB6 hg0
  go_wp2
  refine bodyPost_ret (v := .tuple #[found0, .int .i64 11]) ?_ rfl ⟨fd0, 11, rfl, .inr ⟨k, HF.out, .inl ⟨HBad.out, rfl, rfl⟩⟩, ?_⟩
  ·rw [results_cell_tmp rfl]
   go_simp
   rfl
  ·exact (((((((Hb6.out.setCell (Nat.le_refl _) _).setCell (Nat.le_refl _) _).setCell (Nat.le_refl _) _).setCell (Nat.le_refl _) _).setCell (Nat.le_refl _) _).setCell (Nat.le_refl _) _).setCell (Nat.le_refl _) _).setCell (Nat.le_refl _) _
end Go.Proofs.YtnbddiiedagllaaGreat

