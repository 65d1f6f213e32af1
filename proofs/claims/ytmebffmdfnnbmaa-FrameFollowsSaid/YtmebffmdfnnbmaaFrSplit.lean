/- The walk of Split, of the code: a loop over the iterator that collects the records. -/
import Derived.Test.YtmebffmdfnnbmaaFrSize
import Derived.Maps.OwnIn
import Derived.BigQuiet
namespace Go.Proofs.Ytmebffmdfnnbmaa
open Go.RowKit Go.Shelf Crc

attribute [local go_sem] Oper.semAt_some

/-- What Split answers. -/
def SplitEnd (w : World) (L : List Nat) (e : Ending) (w' : World) : Prop :=
  ∃ ls t v, Splits L ls t ∧ e = .returned (.tuple #[v, .int .i64 ((sizeL ls : Nat) : Int)]) ∧ OwnParts w' w.heap.size v ls ∧ Below w.heap.size w w'

theorem cell_not_cells {W : World} {l : Nat} {o : Obj} (h : W.heap[l]? = some o) (ho : o.isCells = false) (i : Nat) : W.cell? ⟨l, i, none⟩ = none := by
  unfold World.cell?
  rw [h]
  cases o <;> first | rfl | cases ho

theorem Bytes.not_obj {W : World} {a : Option Addr} {n c l : Nat} {bs : List Nat} {o : Obj} (h : Bytes W a n c bs) (hn : 0 < n) (hl : W.heap[l]? = some o) (ho : o.isCells = false) : ∀ x, a = some x → x.block ≠ l := by
  rintro x rfl e
  obtain ⟨b, off, e2, hc⟩ := h.cell hn
  cases e2
  have e3 : b = l := e
  subst e3
  have h0 := hc 0 hn
  rw [cell_not_cells hl ho] at h0
  cases h0

theorem Bytes.putObj {W : World} {a : Option Addr} {n c l : Nat} {bs : List Nat} {o o' : Obj} (h : Bytes W a n c bs) (hl : W.heap[l]? = some o) (ho : o.isCells = false) : Bytes (W.putObj l o') a n c bs :=
  h.off fun hn x hx _ => World.putObj_heap_other (fun e => h.not_obj hn hl ho x hx e)

theorem OwnParts.putObj {W : World} {base l : Nat} {v : Value} {ls : List (List Nat)} {o o' : Obj} (h : OwnParts W base v ls) (hl : W.heap[l]? = some o) (ho : o.isCells = false) : OwnParts (W.putObj l o') base v ls := by
  obtain ⟨vs, h1, h2, h3⟩ := h
  refine ⟨vs, h1, ownsRow_putObj h2 o' hl ho, fun i hi => ?_⟩
  obtain ⟨a, n, c, h4, h5, h6⟩ := h3 i hi
  exact ⟨a, n, c, h4, h5.putObj hl ho, h6⟩

theorem OwnParts.lt {W : World} {base : Nat} {v : Value} {ls : List (List Nat)} (h : OwnParts W base v ls) : ∀ k, v.ownBlock = some k → base ≤ k ∧ k < W.heap.size := by
  obtain ⟨vs, h1, h2, h3⟩ := h
  exact fun k hk => h2.lt k hk

theorem OwnParts.base {W : World} {b b' : Nat} {v : Value} {ls : List (List Nat)} (h : OwnParts W b v ls) (hb : b' ≤ b) : OwnParts W b' v ls := by
  obtain ⟨vs, h1, h2, h3⟩ := h
  exact ⟨vs, h1, own_base h2 hb, h3⟩

/-- Between two rounds: the records that came, in a row of the call's own; the two boxes. -/
def SplitI (w : World) (a : Option Addr) (k cap : Nat) (pre : List Rec) (N : Nat) (W : World) : Prop :=
  (∃ v, Boxed W w.heap.size 22 v ∧ OwnParts W (w.heap.size + 2) v (pre.map Rec.l) ∧ ∀ j, v.ownBlock = some j → j < N) ∧ Boxed W (w.heap.size + 1) 25 (.slice a k cap) ∧ Below w.heap.size w W ∧ N ≤ W.heap.size ∧ w.heap.size + 2 ≤ W.heap.size

theorem splitI_stands (w : World) (a : Option Addr) (k cap B : Nat) (hB : B = w.heap.size + 2) : Stands B (SplitI w a k cap) RecAt := by
  subst hB
  refine ⟨?_, ?_, ?_, ?_⟩
  · rintro s N W W' ⟨⟨v, h1, h2, h3⟩, h4, h5, h6, h7⟩ hb
    exact ⟨⟨v, (hb.block _ h1.lt).trans h1, h2.grow hb, h3⟩, (hb.block _ h4.lt).trans h4, h5.trans (hb.mono h5.size), Nat.le_trans h6 hb.size, Nat.le_trans h7 hb.size⟩
  · rintro s N W ⟨⟨v, h1, h2, h3⟩, h4, h5, h6, h7⟩
    exact ⟨⟨v, h1, h2, fun j hj => (h2.lt j hj).2⟩, h4, h5, Nat.le_refl _, h7⟩
  · rintro s N W l o o' ⟨⟨v, h1, h2, h3⟩, h4, h5, h6, h7⟩ hl hlo ho
    have hne : ∀ {B t u}, Boxed W B t u → B ≠ l := by
      rintro B t u hbx rfl
      rw [show W.heap[B]? = _ from hbx] at hlo
      cases hlo
      cases ho
    refine ⟨⟨v, (World.putObj_heap_other (hne h1)).trans h1, h2.putObj hlo ho, h3⟩, (World.putObj_heap_other (hne h4)).trans h4, ?_, by simpa using h6, by simpa using h7⟩
    exact h5.grown (grownBy_putObj' W l o') h5.size (fun k e => by cases e; omega)
  · rintro N x W l o o' ⟨h1, h2⟩ hlo ho
    exact ⟨h1.putObj hlo ho, h2⟩

set_option maxRecDepth 100000 in
set_option maxHeartbeats 2000000 in
theorem split_any (a : Option Addr) (k cap : Nat) (L : List Nat) (w : World) (hl : Bytes w a k cap L) (hk : k ≤ 1000000000) :
    Calls Try.prog 12 #[.slice a k cap] w (SplitEnd w L) := by
  refine (callsIn_wide (n := 6)).1 ?_
  have HB := Lib.hid hl
  clear hl
  obtain ⟨i0, hi, hz0, hz1, hz2⟩ := info_parts info_rows
  refine callsIn_of_wp_marks Try.func12 rfl trivial ?_ rfl
  simp only [Try.ntmps12, List.size_toArray, List.length_cons, List.length_nil, Nat.reduceAdd, Nat.reduceSub, Array.replicate_succ, Array.replicate_zero, List.push_toArray, List.append_toArray, List.nil_append, List.cons_append]
  gi_wp2_with (refine ⟨trivial, ?_⟩; gi_at_call 24; refine (callsIn_wide.2 (each_any a k cap _)).mono ?_; rintro e w' ⟨rfl, rfl⟩)
  have bO := Boxed.new w 22 (.slice none 0 0)
  have bN := Boxed.new (w.alloc (.cells #[.slice none 0 0] 22)) 25 (.slice a k cap)
  rw [World.size_alloc] at bN
  have hB0 : Below w.heap.size w ((w.alloc (.cells #[.slice none 0 0] 22)).alloc (.cells #[.slice a k cap] 25)) := ((Below.refl _ w).alloc (Nat.le_refl _) _).alloc (by simp) _
  have hsz : ((w.alloc (.cells #[.slice none 0 0] 22)).alloc (.cells #[.slice a k cap] 25)).heap.size = w.heap.size + 2 := by simp
  have h0 : SplitI w a k cap [] (w.heap.size + 2) ((w.alloc (.cells #[.slice none 0 0] 22)).alloc (.cells #[.slice a k cap] 25)) :=
    ⟨⟨_, bO.alloc _, OwnParts.nil _ _, fun j h => by cases h⟩, bN, hB0, by rw [hsz]; exact Nat.le_refl _, by rw [hsz]; exact Nat.le_refl _⟩
  have hT := each1_told 5 (by omega) (w.heap.size + 1) a k cap L (by omega) (SplitI w a k cap) (fun s N W h => ⟨HB.out.grow h.2.2.1, h.2.1.cell⟩)
  refine range_told (n := 6) (by omega) (gf := 35) (lb := #[.pointer (some ⟨w.heap.size + 1, 0, none⟩)]) rfl (enters_of Try.func35 (by kernel_rfl) rfl) (encs := recEnc) (fun _ => rfl)
    (splitI_stands w a k cap _ hsz) hT (w.heap.size + 2) h0
    (fun x => { tmps := #[.slice a k cap, undef, .slice none 0 0, .int .i64 0, .pointer (some ⟨w.heap.size, 0, none⟩), .slice x.p x.l.length x.cp, .slice a k cap, .func (.func 35) #[] #[.pointer (some ⟨w.heap.size + 1, 0, none⟩)], .slice x.p x.l.length x.cp, undef, undef, undef, undef, undef, undef, undef], defers := [] }) ?assign ?body ?done
  case assign =>
    intro l x W K hK
    simp only [recEnc]
    gi_wp2
    exact hK
  case body =>
    rintro l pre x N W ⟨⟨v, hv, hrow, hvN⟩, hbn, hB, hN, hW⟩ ⟨hx, hxN⟩ hM
    have hc := hv.cell
    have hrow0 := hrow
    obtain ⟨vs, hlen, hown, hel⟩ := hrow.grow ((Below.refl W.heap.size W).alloc (Nat.le_refl _) (.cells #[.slice x.p x.l.length x.cp] 25))
    have hx' := hx.grow ((Below.refl W.heap.size W).alloc (Nat.le_refl _) (.cells #[.slice x.p x.l.length x.cp] 25))
    have Hx := Lib.hid hx'
    have Hel := Lib.hid hel
    have Hrow := Lib.hid hrow0
    have hpl : (pre.map Rec.l).length = pre.length := List.length_map _
    rw [hpl] at hown
    clear hel hx' hx hrow0 hrow
    gi_wp2_with (gi_at_builtin; refine wpListIn_append_own_at _ rfl _ _ 22 rfl (w.heap.size + 2) 25 i0 (.slice none 0 0) 1 24 Try.underlying22 hi hz0 hz1 hz2 rfl (by decide) _ _ _ rfl hown ⟨W.heap.size, 0, none⟩ 1 1 [.slice x.p x.l.length x.cp] rfl rfl (cell_one_new _ _ _) (by simp [Value.oneCell']) (by rw [maxLen_nat]; omega) (by omega) (by simp; omega) ?_; intro v' w1 hown' hgrow _ hblk; obtain ⟨g', cap', rfl⟩ := ownsRow_succ hown'; obtain ⟨hv1, hv2, hr2, hk2, hb2⟩ := hv.appended (n₀ := w.heap.size) (by decide) (own_base Hrow.out.choose_spec.2.1 (by omega)) hB.size (Nat.le_refl _) (own_base hown' (by omega)) hgrow; have hc1 := hv1.cell; have hf1 := hv1.frozen)
    have hs1 : OwnParts w1 (w.heap.size + 2) (.slice (some ⟨g', 0, none⟩) (pre.length + 1) cap') ((pre ++ [x]).map Rec.l) := by
      rw [List.map_append, List.map_cons, List.map_nil]
      refine OwnParts.snoc hlen Hel.out Hx.out (fun _ y hy e => ?_) (by rw [hpl]; exact hown') hgrow hblk
      have := hvN y.block e.symm
      have := hxN y hy
      omega
    have hg' := hs1.lt g' rfl
    have hs2 : OwnParts (w1.setCell ⟨w.heap.size, 0, none⟩ (.slice (some ⟨g', 0, none⟩) (pre.length + 1) cap')) (w.heap.size + 2) (.slice (some ⟨g', 0, none⟩) (pre.length + 1) cap') ((pre ++ [x]).map Rec.l) := by
      obtain ⟨p0, c0, hp0, _⟩ := OwnParts.parts ⟨vs, hlen, by rw [hpl]; exact hown, Hel.out⟩
      refine hs1.kept (grownBy_setCell' w1 w.heap.size _) (.inl (fun e => ?_)) (fun k' e a' n' c' l' hB' hn' y hy => ?_)
      · have e2 : w.heap.size = g' := Option.some.inj e
        omega
      · cases e
        rw [hp0] at hv1
        exact hB'.not_box hn' hv1 y hy
    have hsz1 := hb2.size
    refine ⟨hk2.from _, _, ⟨_, hv2, hs2, fun j hj => (hs2.lt j hj).2⟩, ?_, hB.trans hb2, Nat.le_refl _, by omega⟩
    have hb1 : Boxed w1 (w.heap.size + 1) 25 (.slice a k cap) := (hbn.alloc _).kept hgrow (fun e => by have := (Hrow.out.lt _ e.symm).1; omega)
    exact hb1.kept (grownBy_setCell' w1 w.heap.size _) (fun e => by have e2 := Option.some.inj e; omega)
  case done =>
    rintro D xs N W hD ⟨t, hS⟩ ⟨⟨v, hv, hrow, _⟩, hbn, hB, hN, hW⟩ hK
    rw [hsz] at hD
    obtain ⟨p, cp, rfl, hP⟩ := hrow.parts
    rw [List.length_map] at hP hv hrow
    have hc := hv.cell
    have HP := Lib.hid hP
    have Hrow := Lib.hid hrow
    have hle : sizeL (xs.map Rec.l) ≤ 100000000000000 := by
      have := congrArg List.length hS.eq
      rw [List.length_append, joinL_len, HB.out.len] at this
      omega
    have HZ := Lib.hid (fun q => (size_any p _ cp (xs.map Rec.l) (W.drewN q) (hP.grow (below_drewN (Below.refl _ _) q)) hle).mono (R' := fun e w' => e = .returned (.int .i64 (sizeL (xs.map Rec.l) : Nat)) ∧ ∃ n, w' = (W.drewN q).drewN n) (by rintro e w' ⟨h1, rfl⟩; exact ⟨h1, 0, rfl⟩))
    have HS := Lib.hid hS
    have Hv := Lib.hid hv
    clear hP hrow hle hv hbn hN
    gi_wp2_with fail
    refine wpIn_wide.2 ?_
    go_quiet (first | (go_at_call 15; exact Calls.quiet_of (HZ.out _)))
    have hK2 : (W.drewN nq).heap[D]? = some (.deferred (some [])) := hK
    have Hb := Lib.hid (below_drewN (Below.refl W.heap.size W) nq)
    gi_wp2
    refine ⟨by simp, .inl ⟨_, _, rfl, run_takeDeferred hK2, ?_⟩⟩
    refine ⟨_, results_tmp2 rfl _ _ _, xs.map Rec.l, t, _, HS.out, rfl, ?_, ?_⟩
    · exact ((Hrow.out.grow Hb.out).putObj hK2 rfl).base (by omega)
    · exact (hB.trans (Hb.out.mono hB.size)).trans (belowK_b (w := w) (Nat.le_refl _) (W.drewN nq) D _ _ (by omega) hK2 rfl rfl)
end Go.Proofs.Ytmebffmdfnnbmaa
