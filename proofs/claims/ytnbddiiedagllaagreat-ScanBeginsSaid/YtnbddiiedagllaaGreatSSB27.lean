import Derived.Test.YtnbddiiedagllaaGreatSSB26
import Derived.Test.YtnbddiiedagllaaGreatSSB14
import Derived.Test.YtnbddiiedagllaaGreatSSB1
import Derived.Test.YtnbddiiedagllaaGreatSSB7
import Derived.SliceStrings
import Derived.WalkMore
import Derived.Lib.MapLaws
import Derived.Lib.IndexAny
import Derived.Laws.Runes
import Derived.Test.YtnbddiiedagllaaGreatSSB22
import Derived.Test.YtnbddiiedagllaaGreatShelf
import Derived.Laws.RangeString
import Derived.Laws.RangeAny
import Derived.Deep.LoopGhost
/- The walks of Split once more, of the code and of the reference: the records' bytes lie in blocks of which Z holds. -/
namespace Go.Proofs.YtnbddiiedagllaaGreat
open Go.RowKit Go.Shelf Crc

attribute [local go_sem] Oper.semAt_some

def PartsZ (Z : Nat → Prop) (w : World) (base : Nat) (v : Value) (ls : List (List Nat)) : Prop :=
 ∃ vs : List Value, vs.length = ls.length ∧ w.ownsRow base 58 1 v ls.length vs ∧
  ∀ i, i < ls.length → ∃ a n c, vs[i]? = some (.slice a n c) ∧ Bytes w a n c (ls.getD i []) ∧ (0 < n → ∀ x, a = some x → some x.block ≠ v.ownBlock ∧ Z x.block)

theorem PartsZ.own {Z : Nat → Prop} {w : World} {base : Nat} {v : Value} {ls : List (List Nat)} (h : PartsZ Z w base v ls) : OwnParts w base v ls := by
 obtain ⟨vs, h1, h2, h3⟩ := h
 refine ⟨vs, h1, h2, fun i hi => ?_⟩
 obtain ⟨a, n, c, h4, h5, h6⟩ := h3 i hi
 exact ⟨a, n, c, h4, h5, fun hn x hx => (h6 hn x hx).1⟩

theorem PartsZ.nil (Z : Nat → Prop) (w : World) (base : Nat) : PartsZ Z w base (.slice none 0 0) [] :=
 ⟨[], rfl, World.ownsRow_nil _ _ _ _, fun _ h => absurd h (Nat.not_lt_zero _)⟩

theorem PartsZ.lt {Z : Nat → Prop} {W : World} {base : Nat} {v : Value} {ls : List (List Nat)} (h : PartsZ Z W base v ls) : ∀ k, v.ownBlock = some k → base ≤ k ∧ k < W.heap.size := h.own.lt

theorem PartsZ.base {Z : Nat → Prop} {W : World} {b b' : Nat} {v : Value} {ls : List (List Nat)} (h : PartsZ Z W b v ls) (hb : b' ≤ b) : PartsZ Z W b' v ls := by
 obtain ⟨vs, h1, h2, h3⟩ := h
 exact ⟨vs, h1, own_base h2 hb, h3⟩

theorem PartsZ.imp {Z Z' : Nat → Prop} {W : World} {b : Nat} {v : Value} {ls : List (List Nat)} (h : PartsZ Z W b v ls) (hz : ∀ k, Z k → Z' k) : PartsZ Z' W b v ls := by
 obtain ⟨vs, h1, h2, h3⟩ := h
 refine ⟨vs, h1, h2, fun i hi => ?_⟩
 obtain ⟨a, n, c, h4, h5, h6⟩ := h3 i hi
 exact ⟨a, n, c, h4, h5, fun hn x hx => ⟨(h6 hn x hx).1, hz _ (h6 hn x hx).2⟩⟩

theorem PartsZ.grow {Z : Nat → Prop} {w w' : World} {base : Nat} {v : Value} {ls : List (List Nat)} (h : PartsZ Z w base v ls) (hb : Below w.heap.size w w') : PartsZ Z w' base v ls := by
 obtain ⟨vs, h1, h2, h3⟩ := h
 refine ⟨vs, h1, own_below h2 hb, fun i hi => ?_⟩
 obtain ⟨a, n, c, h4, h5, h6⟩ := h3 i hi
 exact ⟨a, n, c, h4, h5.grow hb, h6⟩

theorem PartsZ.putObj {Z : Nat → Prop} {W : World} {base l : Nat} {v : Value} {ls : List (List Nat)} {o o' : Obj} (h : PartsZ Z W base v ls) (hl : W.heap[l]? = some o) (ho : o.isCells = false) : PartsZ Z (W.putObj l o') base v ls := by
 obtain ⟨vs, h1, h2, h3⟩ := h
 refine ⟨vs, h1, ownsRow_putObj h2 o' hl ho, fun i hi => ?_⟩
 obtain ⟨a, n, c, h4, h5, h6⟩ := h3 i hi
 exact ⟨a, n, c, h4, h5.putObj hl ho, h6⟩

theorem PartsZ.app {Z : Nat → Prop} {w w' : World} {base : Nat} {v v' : Value} {ls ms : List (List Nat)} {vs us : List Value} (hlen : vs.length = ls.length)
  (hel : ∀ i, i < ls.length → ∃ a n c, vs[i]? = some (.slice a n c) ∧ Bytes w a n c (ls.getD i []) ∧ (0 < n → ∀ x, a = some x → some x.block ≠ v.ownBlock ∧ Z x.block))
  (hlen2 : us.length = ms.length) (hel2 : ∀ i, i < ms.length → ∃ a n c, us[i]? = some (.slice a n c) ∧ Bytes w a n c (ms.getD i []) ∧ (0 < n → ∀ x, a = some x → some x.block ≠ v.ownBlock ∧ Z x.block))
  (hown : w'.ownsRow base 58 1 v' (ls.length + ms.length) (vs ++ us)) (hg : w.grownBy w' v.ownBlock) (hb : v'.ownBlock = v.ownBlock ∨ v'.ownBlock = some w.heap.size) : PartsZ Z w' base v' (ls ++ ms) := by
 have turn : ∀ (a : Option Addr) (n c : Nat) (l : List Nat), Bytes w a n c l → (0 < n → ∀ x, a = some x → some x.block ≠ v.ownBlock ∧ Z x.block) → Bytes w' a n c l ∧ (0 < n → ∀ x, a = some x → some x.block ≠ v'.ownBlock ∧ Z x.block) := by
  intro a n c l hB ho
  refine ⟨hB.off fun hn x hx hlt => hg.block _ hlt (ho hn x hx).1, fun hn x hx => ⟨fun e => ?_, (ho hn x hx).2⟩⟩
  rcases hb with e2 | e2
  ·exact (ho hn x hx).1 (e.trans e2)
  ·rw [e2] at e
   have e3 := Option.some.inj e
   obtain ⟨b, o, rfl, hc⟩ := hB.cell hn
   have h0 := World.block_lt_of_cell? _ _ (hc 0 hn)
   have e4 : b = x.block := by cases hx; rfl
   simp only at h0
   omega
 refine ⟨vs ++ us, by rw [List.length_append, List.length_append, hlen, hlen2], by rw [List.length_append]; exact hown, fun i hi => ?_⟩
 rw [List.length_append] at hi
 rcases Nat.lt_or_ge i ls.length with h | h
 ·obtain ⟨a, n, c, h1, h2, h3⟩ := hel i h
  obtain ⟨h4, h5⟩ := turn a n c _ h2 h3
  refine ⟨a, n, c, by rw [List.getElem?_append_left (by omega)]; exact h1, ?_, h5⟩
  rw [List.getD_eq_getElem?_getD, List.getElem?_append_left h, ← List.getD_eq_getElem?_getD]
  exact h4
 ·obtain ⟨a, n, c, h1, h2, h3⟩ := hel2 (i - ls.length) (by omega)
  obtain ⟨h4, h5⟩ := turn a n c _ h2 h3
  refine ⟨a, n, c, by rw [List.getElem?_append_right (by omega), hlen]; exact h1, ?_, h5⟩
  rw [List.getD_eq_getElem?_getD, List.getElem?_append_right h, ← List.getD_eq_getElem?_getD]
  exact h4

theorem PartsZ.snoc {Z : Nat → Prop} {w w' : World} {base : Nat} {v v' : Value} {ls : List (List Nat)} {vs : List Value} (hlen : vs.length = ls.length)
  (hel : ∀ i, i < ls.length → ∃ a n c, vs[i]? = some (.slice a n c) ∧ Bytes w a n c (ls.getD i []) ∧ (0 < n → ∀ x, a = some x → some x.block ≠ v.ownBlock ∧ Z x.block))
  {a : Option Addr} {n c : Nat} {l : List Nat} (hB : Bytes w a n c l) (ho : 0 < n → ∀ x, a = some x → some x.block ≠ v.ownBlock ∧ Z x.block)
  (hown : w'.ownsRow base 58 1 v' (ls.length + 1) (vs ++ [.slice a n c])) (hg : w.grownBy w' v.ownBlock) (hb : v'.ownBlock = v.ownBlock ∨ v'.ownBlock = some w.heap.size) : PartsZ Z w' base v' (ls ++ [l]) := by
 refine PartsZ.app (ms := [l]) (us := [.slice a n c]) hlen hel rfl (fun i hi => ?_) hown hg hb
 obtain rfl : i = 0 := by simp at hi; exact hi
 exact ⟨a, n, c, rfl, hB, ho⟩

theorem PartsZ.kept {Z : Nat → Prop} {w w' : World} {base : Nat} {v : Value} {ls : List (List Nat)} (h : PartsZ Z w base v ls) {row : Option Nat} (hg : w.grownBy w' row) (hr : row ≠ v.ownBlock ∨ row = none) (hb : ∀ k, row = some k → ∀ a n c l, Bytes w a n c l → 0 < n → ∀ x, a = some x → x.block ≠ k) : PartsZ Z w' base v ls := by
 obtain ⟨vs, h1, h2, h3⟩ := h
 refine ⟨vs, h1, h2.kept hg ?_, fun i hi => ?_⟩
 ·rcases hr with hr | rfl
  ·exact .inr (fun e => hr e.symm)
  ·rcases h2.2 with ⟨rfl, _⟩ | ⟨g, cap, cur, rfl, _⟩
   ·exact .inl rfl
   ·exact .inr (fun e => by cases e)
 ·obtain ⟨a, n, c, h4, h5, h6⟩ := h3 i hi
  exact ⟨a, n, c, h4, h5.off (fun hn x hx hlt => hg.block _ hlt (fun e => hb _ e.symm a n c _ h5 hn x hx rfl)), h6⟩

section
variable {P : Program}
theorem slice_from_at {T E : TypeId} (hT : P.underlying T = some (.slice E)) (hin : (P.info? E).map (fun i => (i.zero, i.size, i.bytes)) = some (some (.int .u8 0), 1, 1)) {a : Option Addr} {n c k : Nat} (hk : k ≤ n) (hn : n ≤ c) (hf : Formed a c) :
  ∃ a', (∀ (w : World) (kl : IntKind), (Instr.slice T (.slice a n c) (some (.int kl (k : Int))) none none).run P w = .ok (.slice a' (n - k) (c - k)) w) ∧ Formed a' (c - k) ∧ (∀ (w : World) (l : List Nat), Bytes w a n c l → Bytes w a' (n - k) (c - k) (l.drop k)) ∧
   ∀ x, a' = some x → ∃ z, a = some z ∧ x.block = z.block := by
 obtain ⟨i, hi, _, hsz, _⟩ := info_parts hin
 have hT' : P.underlying T = some (.slice (P.elem T)) := by rw [hT]; simp [Program.elem, hT]
 have hE : P.elem T = E := by simp [Program.elem, hT]
 have hsize : ∀ w : World, (sizeOf (P.elem T)).run P w = .ok 1 w := fun w => by rw [hE]; simp [sizeOf, typeInfo, hi, hsz]
 refine ⟨if c = k then a else a.map (·.add (k * 1)), fun w kl => ?_, ?_, fun w l hl => ?_, fun x hx => ?_⟩
 ·rw [run_slice_l w T a n c hT' kl (k : Int) (by omega) (by omega), hsize]
  rfl
 ·intro h
  rw [if_neg (by omega)]
  obtain ⟨b, o, rfl⟩ := hf (by omega)
  exact ⟨b, o + k * 1, by simp [addr_add]⟩
 ·have hcm := hl.capmax
  by_cases e : k = n
  ·subst e
   rw [Nat.sub_self, List.drop_eq_nil_of_le (by rw [hl.len]; exact Nat.le_refl _)]
   refine bytes_none (by omega) (fun h => ?_)
   by_cases hck : c = k
   ·omega
   ·rw [if_neg hck] at h
    obtain ⟨b, o, rfl⟩ := hf (by omega)
    cases h
  ·obtain ⟨b, o, rfl⟩ := hf (by omega)
   rw [if_neg (by omega), Nat.mul_one]
   simp only [Option.map_some, addr_add]
   exact hl.dropTo (by omega)
 ·by_cases hck : c = k
  ·rw [if_pos hck] at hx
   exact ⟨x, hx, rfl⟩
  ·rw [if_neg hck] at hx
   obtain ⟨b, o, rfl⟩ := hf (by omega)
   simp only [Option.map_some, addr_add] at hx
   cases hx
   exact ⟨_, rfl, rfl⟩
end

def SplitEndZ (Z : Nat → Prop) (w : World) (L : List Nat) (e : Ending) (w' : World) : Prop :=
 ∃ ls t v, Splits L ls t ∧ e = .returned (.tuple #[v, .int .i64 ((sizeL ls : Nat) : Int)]) ∧ PartsZ Z w' w.heap.size v ls ∧ Below w.heap.size w w'

def SplitY (w : World) (a : Option Addr) (k cap : Nat) (pre : List Rec) (N : Nat) (W : World) : Prop :=
 (∃ v, Boxed W w.heap.size 29 v ∧ PartsZ (fun b => w.heap.size ≤ b) W (w.heap.size + 2) v (pre.map Rec.l) ∧ w.heap.size ≤ N ∧ ∀ j, v.ownBlock = some j → j < N) ∧ Boxed W (w.heap.size + 1) 58 (.slice a k cap) ∧ Below w.heap.size w W ∧ N ≤ W.heap.size ∧ w.heap.size + 2 ≤ W.heap.size

theorem splitY_stands (w : World) (a : Option Addr) (k cap B : Nat) (hB : B = w.heap.size + 2) : Stands B (SplitY w a k cap) RecAt := by
 subst hB
 refine ⟨?_, ?_, ?_, ?_⟩
 ·rintro s N W W' ⟨⟨v, h1, h2, h3⟩, h4, h5, h6, h7⟩ hb
  exact ⟨⟨v, (hb.block _ h1.lt).trans h1, h2.grow hb, h3⟩, (hb.block _ h4.lt).trans h4, h5.trans (hb.mono h5.size), Nat.le_trans h6 hb.size, Nat.le_trans h7 hb.size⟩
 ·rintro s N W ⟨⟨v, h1, h2, h3⟩, h4, h5, h6, h7⟩
  exact ⟨⟨v, h1, h2, h5.size, fun j hj => (h2.lt j hj).2⟩, h4, h5, Nat.le_refl _, h7⟩
 ·rintro s N W l o o' ⟨⟨v, h1, h2, h3⟩, h4, h5, h6, h7⟩ hl hlo ho
  have hne : ∀ {B t u}, Boxed W B t u → B ≠ l := by
   rintro B t u hbx rfl
   rw [show W.heap[B]? = _ from hbx] at hlo
   cases hlo
   cases ho
  refine ⟨⟨v, (World.putObj_heap_other (hne h1)).trans h1, h2.putObj hlo ho, h3⟩, (World.putObj_heap_other (hne h4)).trans h4, ?_, by simpa using h6, by simpa using h7⟩
  exact h5.grown (grownBy_putObj' W l o') h5.size (fun k e => by cases e; omega)
 ·rintro N x W l o o' ⟨h1, h2⟩ hlo ho
  exact ⟨h1.putObj hlo ho, h2⟩

set_option maxRecDepth 100000 in
set_option maxHeartbeats 2000000 in
theorem splitZ_any (a : Option Addr) (k cap : Nat) (L : List Nat) (w : World) (hl : Bytes w a k cap L) (hk : k ≤ 1000000000) :
  Calls Tryz.prog 176 #[.slice a k cap] w (SplitEndZ (fun b => w.heap.size ≤ b) w L) := by
 refine (callsIn_wide (n := 6)).1 ?_
 have HB := Lib.hid hl
 clear hl
 obtain ⟨i0, hi, hz0, hz1, hz2⟩ := info_parts info_rows
 refine callsIn_of_wp_marks Tryz.func176 rfl trivial ?_ rfl
 simp only [Tryz.ntmps176, List.size_toArray, List.length_cons, List.length_nil, Nat.reduceAdd, Nat.reduceSub, Array.replicate_succ, Array.replicate_zero, List.push_toArray, List.append_toArray, List.nil_append, List.cons_append]
 gi_wp2_with (refine ⟨trivial, ?_⟩; gi_at_call 199; refine (callsIn_wide.2 (each_any a k cap _)).mono ?_; rintro e w' ⟨rfl, rfl⟩)
 have bO := Boxed.new w 29 (.slice none 0 0)
 have bN := Boxed.new (w.alloc (.cells #[.slice none 0 0] 29)) 58 (.slice a k cap)
 rw [World.size_alloc] at bN
 have hB0 : Below w.heap.size w ((w.alloc (.cells #[.slice none 0 0] 29)).alloc (.cells #[.slice a k cap] 58)) := ((Below.refl _ w).alloc (Nat.le_refl _) _).alloc (by simp) _
 have hsz : ((w.alloc (.cells #[.slice none 0 0] 29)).alloc (.cells #[.slice a k cap] 58)).heap.size = w.heap.size + 2 := by simp
 have h0 : SplitY w a k cap [] (w.heap.size + 2) ((w.alloc (.cells #[.slice none 0 0] 29)).alloc (.cells #[.slice a k cap] 58)) :=
  ⟨⟨_, bO.alloc _, PartsZ.nil _ _ _, by omega, fun j h => by cases h⟩, bN, hB0, by rw [hsz]; exact Nat.le_refl _, by rw [hsz]; exact Nat.le_refl _⟩
 have hT := each1_told 5 (by omega) (w.heap.size + 1) a k cap L (by omega) (SplitY w a k cap) (fun s N W h => ⟨HB.out.grow h.2.2.1, h.2.1.cell⟩)
 refine range_told (n := 6) (by omega) (gf := 208) (lb := #[.pointer (some ⟨w.heap.size + 1, 0, none⟩)]) rfl (enters_of Tryz.func208 (by kernel_rfl) rfl) (encs := recEnc) (fun _ => rfl)
  (splitY_stands w a k cap _ hsz) hT (w.heap.size + 2) h0
  (fun x => { tmps := #[.slice a k cap, undef, .slice none 0 0, .int .i64 0, .pointer (some ⟨w.heap.size, 0, none⟩), .slice x.p x.l.length x.cp, .slice a k cap, .func (.func 208) #[] #[.pointer (some ⟨w.heap.size + 1, 0, none⟩)], .slice x.p x.l.length x.cp, undef, undef, undef, undef, undef, undef, undef], defers := [] }) ?assign ?body ?done
 case assign =>
  intro l x W K hK
  simp only [recEnc]
  gi_wp2
  exact hK
 case body =>
  rintro l pre x N W ⟨⟨v, hv, hrow, hwN, hvN⟩, hbn, hB, hN, hW⟩ ⟨hx, hxN⟩ hM
  have hc := hv.cell
  have hrow0 := hrow
  obtain ⟨vs, hlen, hown, hel⟩ := hrow.grow ((Below.refl W.heap.size W).alloc (Nat.le_refl _) (.cells #[.slice x.p x.l.length x.cp] 58))
  have hx' := hx.grow ((Below.refl W.heap.size W).alloc (Nat.le_refl _) (.cells #[.slice x.p x.l.length x.cp] 58))
  have Hx := Lib.hid hx'
  have Hel := Lib.hid hel
  have Hrow := Lib.hid hrow0
  have hpl : (pre.map Rec.l).length = pre.length := List.length_map _
  rw [hpl] at hown
  clear hel hx' hx hrow0 hrow
  gi_wp2_with (gi_at_builtin; refine wpListIn_append_own_at _ rfl _ _ 29 rfl (w.heap.size + 2) 58 i0 (.slice none 0 0) 1 24 Tryz.underlying29 hi hz0 hz1 hz2 rfl (by decide) _ _ _ rfl hown ⟨W.heap.size, 0, none⟩ 1 1 [.slice x.p x.l.length x.cp] rfl rfl (cell_one_new _ _ _) (by simp [Value.oneCell']) (by rw [maxLen_nat]; omega) (by omega) (by simp; omega) ?_; intro v' w1 hown' hgrow _ hblk; obtain ⟨g', cap', rfl⟩ := ownsRow_succ hown'; obtain ⟨hv1, hv2, hr2, hk2, hb2⟩ := hv.appended (n₀ := w.heap.size) (by decide) (own_base Hrow.out.choose_spec.2.1 (by omega)) hB.size (Nat.le_refl _) (own_base hown' (by omega)) hgrow; have hc1 := hv1.cell; have hf1 := hv1.frozen)
  have hs1 : PartsZ (fun b => w.heap.size ≤ b) w1 (w.heap.size + 2) (.slice (some ⟨g', 0, none⟩) (pre.length + 1) cap') ((pre ++ [x]).map Rec.l) := by
   rw [List.map_append, List.map_cons, List.map_nil]
   refine PartsZ.snoc hlen Hel.out Hx.out (fun _ y hy => ⟨fun e => ?_, Nat.le_trans hwN (hxN y hy)⟩) (by rw [hpl]; exact hown') hgrow hblk
   have := hvN y.block e.symm
   have := hxN y hy
   omega
  have hg' := hs1.lt g' rfl
  have hs2 : PartsZ (fun b => w.heap.size ≤ b) (w1.setCell ⟨w.heap.size, 0, none⟩ (.slice (some ⟨g', 0, none⟩) (pre.length + 1) cap')) (w.heap.size + 2) (.slice (some ⟨g', 0, none⟩) (pre.length + 1) cap') ((pre ++ [x]).map Rec.l) := by
   obtain ⟨p0, c0, hp0, _⟩ := OwnParts.parts (PartsZ.own ⟨vs, hlen, by rw [hpl]; exact hown, Hel.out⟩)
   refine hs1.kept (grownBy_setCell' w1 w.heap.size _) (.inl (fun e => ?_)) (fun k' e a' n' c' l' hB' hn' y hy => ?_)
   ·have e2 : w.heap.size = g' := Option.some.inj e
    omega
   ·cases e
    rw [hp0] at hv1
    exact hB'.not_box hn' hv1 y hy
  have hsz1 := hb2.size
  refine ⟨hk2.from _, _, ⟨_, hv2, hs2, by omega, fun j hj => (hs2.lt j hj).2⟩, ?_, hB.trans hb2, Nat.le_refl _, by omega⟩
  have hb1 : Boxed w1 (w.heap.size + 1) 58 (.slice a k cap) := (hbn.alloc _).kept hgrow (fun e => by have := (Hrow.out.lt _ e.symm).1; omega)
  exact hb1.kept (grownBy_setCell' w1 w.heap.size _) (fun e => by have e2 := Option.some.inj e; omega)
 case done =>
  rintro D xs N W hD ⟨t, hS⟩ ⟨⟨v, hv, hrow, _, _⟩, hbn, hB, hN, hW⟩ hK
  rw [hsz] at hD
  obtain ⟨p, cp, rfl, hP⟩ := hrow.own.parts
  rw [List.length_map] at hP hv hrow
  have hc := hv.cell
  have HP := Lib.hid hP
  have Hrow := Lib.hid hrow
  have hle : sizeL (xs.map Rec.l) ≤ 100000000000000 := by
   have := congrArg List.length hS.eq
   rw [List.length_append, joinL_len, HB.out.len] at this
   omega
  have HZ := Lib.hid (fun q => (size_any p _ cp (xs.map Rec.l) (W.drewN q) (hP.grow (below_drewN (Below.refl _ _) q)) hle).mono (R' := fun e w' => e = .returned (.int .i64 (sizeL (xs.map Rec.l) : Nat)) ∧ ∃ n, w' = (W.drewN q).drewN n) (by rintro e w' ⟨h1, rfl⟩; exact ⟨h1, 0, rfl⟩))
  have HS := Lib.hid hS
  have Hv := Lib.hid hv
  clear hP hrow hle hv hbn hN
  gi_wp2_with fail
  refine wpIn_wide.2 ?_
  go_quiet (first | (go_at_call 51; exact Calls.quiet_of (HZ.out _)))
  have hK2 : (W.drewN nq).heap[D]? = some (.deferred (some [])) := hK
  have Hb := Lib.hid (below_drewN (Below.refl W.heap.size W) nq)
  gi_wp2
  refine ⟨by simp, .inl ⟨_, _, rfl, run_takeDeferred hK2, ?_⟩⟩
  refine ⟨_, results_tmp2 rfl _ _ _, xs.map Rec.l, t, _, HS.out, rfl, ?_, ?_⟩
  ·exact ((Hrow.out.grow Hb.out).putObj hK2 rfl).base (by omega)
  ·exact (hB.trans (Hb.out.mono hB.size)).trans (belowK_b (w := w) (Nat.le_refl _) (W.drewN nq) D _ _ (by omega) hK2 rfl rfl)

def RSplitRelZ (Z : Nat → Prop) (w : World) (L : List Nat) (n : Nat) (v i : Value) (wr : World) : Prop :=
 ∃ (ls : List (List Nat)) (j : Nat), i = .int .i64 j ∧ j ≤ n ∧ PartsZ Z wr w.heap.size v ls ∧ L = joinL ls ++ L.drop j ∧ (∀ r ∈ ls, r.length ≤ 1048576) ∧ j = sizeL ls ∧ Below w.heap.size w wr

set_option maxHeartbeats 1600000 in
theorem rsplitZ_any (a : Option Addr) (n cap : Nat) (L : List Nat) (w : World) (hl : Bytes w a n cap L) (hf : Formed a cap) (hn : n ≤ 1000000000) :
  Calls Tryz.prog 61 #[.slice a n cap] w (SplitEndZ (fun b => ∃ z, a = some z ∧ b = z.block) w L) := by
 have HB := Lib.hid hl
 have hle := hl.le
 have Hf := Lib.hid hf
 obtain ⟨i0, hi, hz0, hz1, hz2⟩ := info_parts info_rows
 clear hl hf
 go_enter Tryz.func61, Tryz.ntmps61
 go_wp2
 go_loopw [4, 5] (fun v i wr => RSplitRelZ (fun b => ∃ z, a = some z ∧ b = z.block) w L n v i wr) (fun _ i _ => n - (intOf i).toNat)
 case atStart => exact ⟨[], 0, rfl, Nat.zero_le _, PartsZ.nil _ _ _, rfl, fun r h => (by cases h), rfl, Below.refl _ _⟩
 case round =>
  obtain ⟨ls, j, rfl, hj, hrow, hL, hr, hjs, hbel⟩ := hrel
  obtain ⟨a', hsl0, _, hR, hat⟩ := slice_from_at (P := Tryz.prog) (T := 58) (E := 5) Tryz.underlying58 info_u8 (a := a) (n := n) (c := cap) (k := j) hj hle Hf.out
  have hsl := fun w => hsl0 w .i64
  have hBw := hR w L HB.out
  have hBr := hR wr L (HB.out.grow hbel)
  have HX := Lib.hid (rnext_any a' (n - j) (cap - j) (L.drop j) wr hBr (by omega))
  have Hrow := Lib.hid hrow
  have Hr := Lib.hid hr
  have HL := Lib.hid hL
  have Hjs := Lib.hid hjs
  have HBw := Lib.hid hBw
  clear hrow hr hL hR hBr hsl0 hjs hBw
  go_wp2_with fail
  refine HX.out.mono ?_
  rintro e w1 ⟨hb1, ⟨r, t, p, cp, hd, hrm, rfl, hBx, hpb⟩ | ⟨hno, rfl⟩⟩
  ·have hz : (((r.length : Int) + 8) == 0) = false := by rw [beq_eq_false_iff_ne]; omega
   have hm := rsplit_more (by rw [HB.out.len]; exact hj) HL.out hd
   rw [HB.out.len] at hm
   have hb2 := hbel.trans (hb1.mono hbel.size)
   have hb3 : Below w1.heap.size w1 (w1.alloc (.cells #[.slice p r.length cp] 58)) := (Below.refl _ _).alloc (Nat.le_refl _) _
   obtain ⟨vs, hlen, hown, hel⟩ := (Hrow.out.grow hb1).grow hb3
   have Hx := Lib.hid (hBx.grow hb3)
   have Hown := Lib.hid hown
   have Hel := Lib.hid hel
   have Hb3 := Lib.hid (hb2.trans (hb3.mono hb2.size))
   have Hm := Lib.hid hm.2
   have hm1 := hm.1
   have hll : ls.length ≤ n := by
    have h1 := joinL_many ls
    have h2 := congrArg List.length HL.out
    rw [List.length_append, HB.out.len] at h2
    omega
   have Hpb := Lib.hid hpb
   have Hlt := Lib.hid (Hrow.out.lt)
   have Hat := Lib.hid hat
   clear HX hd hBx hown hel hb2 hb3 hm hb1 hpb hat
   go_wp2_with (at_builtin; refine wpList_append_own_at _ rfl _ _ 29 rfl w.heap.size 58 i0 (.slice none 0 0) 1 24 Tryz.underlying29 hi hz0 hz1 hz2 rfl (by decide) _ _ _ rfl Hown.out ⟨w1.heap.size, 0, none⟩ 1 1 [.slice p r.length cp] rfl rfl (cell_one_new _ _ _) (by simp [Value.oneCell']) (by rw [maxLen_nat]; omega) (by omega) Hb3.out.size ?_; intro v' w2 hown' hgrow _ hblk)
   go_roundw
   case rel =>
    refine ⟨ls ++ [r], j + (r.length + 8), by go_num, hm1, ?_, Hm.out, fun x hx => ?_, ?_, Hb3.out.grown hgrow Hb3.out.size (fun k hk => (Hown.out.lt k hk).1)⟩
    ·refine PartsZ.snoc hlen Hel.out Hx.out (fun hn' y hy => ⟨fun e => ?_, by
      obtain ⟨z, hz1, hz2⟩ := Hpb.out y hy
      obtain ⟨z', hz3, hz4⟩ := Hat.out z hz1
      exact ⟨z', hz3, hz2.trans hz4⟩⟩) hown' hgrow hblk
     obtain ⟨z, hz1, hz2⟩ := Hpb.out y hy
     have hlt := (Hlt.out y.block e.symm).1
     obtain ⟨b', o', e2, hc'⟩ := HBw.out.cell (by omega)
     rw [hz1] at e2
     cases e2
     have := World.block_lt_of_cell? _ _ (hc' 0 (by omega))
     simp only at hz2 this
     omega
    ·rcases List.mem_append.1 hx with hx | hx
     ·exact Hr.out x hx
     ·rw [List.mem_singleton.1 hx]; exact hrm
    ·rw [sizeL_append, sizeL_cons, sizeL_nil, ← Hjs.out]
   case measure => simp [intOf]; omega
  ·have Hno := Lib.hid hno
   clear HX hno
   go_wp2
   go_ret2
   refine ⟨ls, L.drop j, _, ⟨HL.out, Hr.out, Hno.out⟩, by rw [← Hjs.out]; rfl, Hrow.out.grow hb1, hbel.trans (hb1.mono hbel.size)⟩
end Go.Proofs.YtnbddiiedagllaaGreat

/- Slices of ints as lists of integers: rows of the call's own, and appending to them; slices of strings that came in. -/
namespace Go.Proofs.YtnbddiiedagllaaGreat
open Go.ChangeShapes Go.WideShapes Go.ChangeAt Go.RowKit Go.Deep

def intsE (l : List Int) : List Value := l.map (Value.int .i64)

theorem intsE_get {l : List Int} {i : Nat} {u : Value} (h : (intsE l)[i]? = some u) : i < l.length ∧ u = .int .i64 (l.getD i 0) := by
 unfold intsE at h
 rw [List.getElem?_map] at h
 obtain ⟨x, hx, rfl⟩ := Option.map_eq_some_iff.1 h
 obtain ⟨hi, rfl⟩ := List.getElem?_eq_some_iff.1 hx
 exact ⟨hi, by rw [List.getD_eq_getElem?_getD, hx]; rfl⟩

theorem intsE_one (l : List Int) : ∀ u ∈ intsE l, u.oneCell' = true := by
 intro u hu
 obtain ⟨x, _, rfl⟩ := List.mem_map.1 hu
 rfl

theorem intsE_append (a b : List Int) : intsE (a ++ b) = intsE a ++ intsE b := List.map_append

structure Ints (w : World) (a : Option Addr) (n cap : Nat) (l : List Int) : Prop where
 len : l.length = n
 le : n ≤ cap
 capmax : cap ≤ 9223372036854775807
 nil : a = none → cap = 0
 cell : 0 < n → ∃ b o, a = some ⟨b, o, none⟩ ∧ ∀ i, i < n → w.cell? ⟨b, o + i, none⟩ = some (.int .i64 (l.getD i 0))

theorem Ints.grow {w w' : World} {a : Option Addr} {n cap : Nat} {l : List Int} (h : Ints w a n cap l) (hw : Below w.heap.size w w') : Ints w' a n cap l := by
 obtain ⟨h1, h2, h3, h4, h6⟩ := h
 refine ⟨h1, h2, h3, h4, fun hn => ?_⟩
 obtain ⟨b, o, rfl, hc⟩ := h6 hn
 exact ⟨b, o, rfl, fun i hi => by rw [hw.cell (p := ⟨b, o + i, none⟩) (World.block_lt_of_cell? _ _ (hc i hi))]; exact hc i hi⟩

theorem ints_of_own {w : World} {base : Nat} {e : TypeId} {a : Option Addr} {n cap m : Nat} {l : List Int} (h : w.ownsRow base e 1 (.slice a n cap) m (intsE l)) : Ints w a n cap l := by
 have hlen : l.length = m := by have := h.1; simpa [intsE] using this
 rcases h.2 with ⟨hv, rfl⟩ | ⟨g, cap', cur, hv, _, hg, hle, hcm, hsz, htake⟩
 ·cases hv
  exact ⟨hlen, Nat.le_refl _, Nat.zero_le _, fun _ => rfl, fun h => absurd h (Nat.lt_irrefl _)⟩
 ·cases hv
  refine ⟨hlen, hle, hcm, fun h => (by cases h), fun _ => ⟨g, 0, rfl, fun i hi => ?_⟩⟩
  rw [Nat.zero_add, cell_of_row w g i cur e (0, 0) hg]
  have e1 : (intsE l)[i]? = some (.int .i64 (l.getD i 0)) := by
   unfold intsE
   rw [List.getElem?_map, List.getElem?_eq_getElem (by omega), List.getD_eq_getElem?_getD, List.getElem?_eq_getElem (by omega)]; rfl
  rw [← htake, List.getElem?_take, if_pos (by omega)] at e1
  simpa using e1

theorem own_ints {w : World} {base : Nat} {e : TypeId} {v : Value} {m : Nat} {l : List Int} (h : w.ownsRow base e 1 v m (intsE l)) :
  ∃ p cp, v = .slice p m cp ∧ Ints w p m cp l := by
 have h0 := h
 rcases h.2 with ⟨rfl, rfl⟩ | ⟨g, cap', cur, rfl, _⟩
 ·exact ⟨none, 0, rfl, ints_of_own h0⟩
 ·exact ⟨_, _, rfl, ints_of_own h0⟩

theorem info_int : (Tryz.prog.info? 3).map (fun i => (i.zero, i.size, i.bytes)) = some (some (.int .i64 0), 1, 8) := by kernel_rfl

section
variable {P : Program} (w : World)

theorem wpList_append_ints {ops : Array Oper} {rest : List Oper} {o : Oper} {a : Act} {Q : Exit → Act → World → Prop} (hgd : o.guard = none) (s x : Operand) (t : TypeId)
  (ho : o.op = .call { callee := .builtin .append, args := #[s, x], argTypes := #[t, t] })
  (base : Nat) (e : TypeId) (ht : P.underlying t = some (.slice e)) (hinfo : (P.info? e).map (fun i => (i.zero, i.size, i.bytes)) = some (some (.int .i64 0), 1, 8))
  (v : Value) (n : Nat) (l : List Int) (hs : a.eval s = v) (hown : w.ownsRow base e 1 v n (intsE l))
  (p : Option Addr) (m c : Nat) (l' : List Int) (hx : a.eval x = .slice p m c) (hB : Ints w p m c l')
  (hbytes : (n + m) * 8 ≤ 140737488355328) (hbase : base ≤ w.heap.size)
  (h : ∀ v' w', w'.ownsRow base e 1 v' (n + m) (intsE (l ++ l')) → w.grownBy w' v.ownBlock → wpList P ops Q rest (a.put o.dst v') w') : wpList P ops Q (o :: rest) a w := by
 obtain ⟨i, hi, hz, hsz, hby⟩ := info_parts hinfo
 cases p with
 | none =>
  obtain rfl : c = 0 := hB.nil rfl
  obtain rfl : m = 0 := by have := hB.le; omega
  obtain rfl : l' = [] := List.length_eq_zero_iff.1 hB.len
  refine wpList_append_own_none hgd s x t ho base e i 1 ht hi v n (intsE l) hs hown hx ?_
  have := h v w (by simpa using hown) ⟨rfl, rfl, rfl, Nat.le_refl _, fun _ _ _ => rfl⟩
  exact this
 | some ad =>
  refine wpList_append_own w hgd s x t ho base e i (.int .i64 0) 1 8 ht hi hz hsz hby rfl (by omega) v n (intsE l) hs hown ad m c (intsE l') hx (by simp [intsE, hB.len]) ?_ (intsE_one l') (by rw [maxLen_nat]; omega) (by omega) hbase ?_
  ·intro j u hu
   obtain ⟨hj, rfl⟩ := intsE_get hu
   have hj' : j < m := by rw [← hB.len]; exact hj
   obtain ⟨b, o', e1, hc⟩ := hB.cell (by omega)
   cases e1
   have hadd : (⟨b, o', none⟩ : Addr).add j = ⟨b, o' + j, none⟩ := by unfold Addr.add; split <;> simp_all
   rw [hadd]
   exact hc j hj'
  ·intro v' w' g1 g2 _
   rw [← intsE_append] at g1
   exact h v' w' g1 g2
end

theorem int_row (w : World) (x : Int) : Ints (w.alloc (.cells #[.int .i64 x] 3)) (some ⟨w.heap.size, 0, none⟩) 1 1 [x] :=
 ⟨rfl, Nat.le_refl _, by omega, fun h => (by cases h), fun _ => ⟨w.heap.size, 0, rfl, fun i hi => by
  obtain rfl : i = 0 := by omega
  rw [Nat.zero_add, cell_of_row _ _ _ _ _ (0, 0) (heap_alloc_new _ _)]; rfl⟩⟩

structure Strs (w : World) (a : Option Addr) (n cap : Nat) (ls : List (List Nat)) : Prop where
 len : ls.length = n
 le : n ≤ cap
 capmax : cap ≤ 9223372036854775807
 byte : ∀ l ∈ ls, (∀ x ∈ l, x < 256) ∧ l.length ≤ 9223372036854775807
 cell : 0 < n → ∃ b o, a = some ⟨b, o, none⟩ ∧ ∀ i, i < n → w.cell? ⟨b, o + i, none⟩ = some (.string (str (ls.getD i [])))

theorem Strs.grow {w w' : World} {a : Option Addr} {n cap : Nat} {l : List (List Nat)} (h : Strs w a n cap l) (hw : Below w.heap.size w w') : Strs w' a n cap l := by
 obtain ⟨h1, h2, h3, h4, h6⟩ := h
 refine ⟨h1, h2, h3, h4, fun hn => ?_⟩
 obtain ⟨b, o, rfl, hc⟩ := h6 hn
 exact ⟨b, o, rfl, fun i hi => by rw [hw.cell (p := ⟨b, o + i, none⟩) (World.block_lt_of_cell? _ _ (hc i hi))]; exact hc i hi⟩

end Go.Proofs.YtnbddiiedagllaaGreat

/- How a string's range steps over bytes above 127: the rune is valid, and none of its bytes is below 128. -/
namespace Go.Proofs.YtnbddiiedagllaaGreat

theorem high_step (s : ByteArray) (i : Nat) (hi : i < s.size) (h : 128 ≤ (s.data.toList.getD i 0).toNat) :
  128 ≤ (Utf8.decode s i).1 ∧ Utf8.valid ((Utf8.decode s i).1 : Int) = true ∧ 1 ≤ (Utf8.decode s i).2 ∧ i + (Utf8.decode s i).2 ≤ s.size ∧
   ∀ j b, i ≤ j → j < i + (Utf8.decode s i).2 → s.data.toList[j]? = some b → 128 ≤ b.toNat := by
 have hsz : s.data.toList.length = s.size := (Lib.size_eq s).symm
 have hget : ∀ j b, s.data.toList[j]? = some b → s.data.toList.getD j 0 = b := fun j b hb => by rw [List.getD, hb]; rfl
 rw [Lib.decode_N]
 have hv : ∀ r : Nat, (r < 55296 ∨ 57344 ≤ r) → r ≤ 1114111 → Utf8.valid (r : Int) = true := by
  intro r h1 h2
  unfold Utf8.valid
  rcases h1 with h1 | h1
  ·rw [show decide ((0 : Int) ≤ (r : Int)) = true from decide_eq_true (by omega), show decide ((r : Int) < 0xD800) = true from decide_eq_true (by omega)]; rfl
  ·rw [show decide ((0xE000 : Int) ≤ (r : Int)) = true from decide_eq_true (by omega), show decide ((r : Int) ≤ 0x10FFFF) = true from decide_eq_true (by omega)]; simp
 have l0 := (s.data.toList.getD i 0).toNat_lt
 have l1 := (s.data.toList.getD (i + 1) 0).toNat_lt
 have l2 := (s.data.toList.getD (i + 2) 0).toNat_lt
 have l3 := (s.data.toList.getD (i + 3) 0).toNat_lt
 rcases Lib.decodeN_shape (s.data.toList.length - i) (s.data.toList.getD i 0).toNat (s.data.toList.getD (i + 1) 0).toNat (s.data.toList.getD (i + 2) 0).toNat (s.data.toList.getD (i + 3) 0).toNat with
  ⟨a, e⟩ | ⟨a, b, c, d, e⟩ | ⟨a, b, c, d, f, g, e⟩ | ⟨a, b, c, d, f, g, k, e⟩ | e
 ·omega
 ·rw [e]
  refine ⟨d, hv _ (by omega) (by omega), by show 1 ≤ 2; omega, by show i + 2 ≤ _; omega, fun j x h1 h2 hx => ?_⟩
  have h2 : j < i + 2 := h2
  rcases (show j = i ∨ j = i + 1 by omega) with rfl | rfl
  ·rw [← hget _ _ hx]; exact h
  ·rw [← hget _ _ hx]; omega
 ·rw [e]
  refine ⟨by show 128 ≤ _; omega, hv _ (by omega) (by omega), by show 1 ≤ 3; omega, by show i + 3 ≤ _; omega, fun j x h1 h2 hx => ?_⟩
  have h2 : j < i + 3 := h2
  rcases (show j = i ∨ j = i + 1 ∨ j = i + 2 by omega) with rfl | rfl | rfl
  ·rw [← hget _ _ hx]; exact h
  ·rw [← hget _ _ hx]; omega
  ·rw [← hget _ _ hx]; omega
 ·rw [e]
  refine ⟨by show 128 ≤ _; omega, hv _ (by omega) (by omega), by show 1 ≤ 4; omega, by show i + 4 ≤ _; omega, fun j x h1 h2 hx => ?_⟩
  have h2 : j < i + 4 := h2
  rcases (show j = i ∨ j = i + 1 ∨ j = i + 2 ∨ j = i + 3 by omega) with rfl | rfl | rfl | rfl
  ·rw [← hget _ _ hx]; exact h
  ·rw [← hget _ _ hx]; omega
  ·rw [← hget _ _ hx]; omega
  ·rw [← hget _ _ hx]; omega
 ·rw [e]
  refine ⟨by show 128 ≤ 65533; omega, hv _ (by omega) (by omega), by show 1 ≤ 1; omega, by show i + 1 ≤ _; omega, fun j x h1 h2 hx => ?_⟩
  have h2 : j < i + 1 := h2
  obtain rfl : j = i := by omega
  rw [← hget _ _ hx]; exact h
end Go.Proofs.YtnbddiiedagllaaGreat

/- The walk of the code's Number of segments. -/
namespace Go.Proofs.YtnbddiiedagllaaGreat
open Go.RowKit

theorem segname_no (n : Int) (w : World) (h : ¬ (1 ≤ n ∧ n ≤ 99999999)) :
  Calls Tryz.prog 48 #[.int .i64 n] w fun e w' => e = .returned (.tuple #[.string (str []), .bool false]) ∧ Below w.heap.size w w' := by
 have he : str [] = ⟨#[]⟩ := rfl
 rw [he]
 have HI := Lib.hid (seginrange_any n w)
 rw [decide_eq_false h] at HI
 clear h he
 go_enter Tryz.func48, Tryz.ntmps48
 go_wp2_with fail
 refine HI.out.mono ?_
 rintro e w' ⟨rfl, rfl⟩
 go_wp2
 go_ret2
 exact ⟨rfl, Below.refl _ _⟩

theorem logL_byte : ∀ x ∈ logL, x < 256 := by decide

theorem cut_log_yes {l : List Nat} (w : World) (h : l.take 4 = logL) :
  Calls Tryz.prog 139 #[.string (str l), .string (str logL)] w fun e w' => e = .returned (.tuple #[.string (str (l.drop 4)), .bool true]) ∧ w = w' := by
 have hc := Tryz.strings_CutPrefix (str l) (str logL) w
 have h1 : (str l).data.toList = l.map UInt8.ofNat := rfl
 have h2 : (str logL).data.toList = logL.map UInt8.ofNat := rfl
 have h3 : Lib.hasPrefix (str l).data.toList (str logL).data.toList = true := by
  rw [h1, h2]
  unfold Lib.hasPrefix
  rw [List.isPrefixOf_iff_prefix]
  refine ⟨(l.drop 4).map UInt8.ofNat, ?_⟩
  rw [← List.map_append, ← h, List.take_append_drop]
 have h4 : Lib.trimPrefix (str l).data.toList (str logL).data.toList = (l.drop 4).map UInt8.ofNat := by
  unfold Lib.trimPrefix
  rw [if_pos h3, h1, h2, List.map_drop]
  rfl
 rw [h3, h4] at hc
 refine hc.mono ?_
 rintro e w' ⟨rfl, rfl⟩
 exact ⟨rfl, rfl⟩

theorem cut_log_no {l : List Nat} (w : World) (hl : ∀ x ∈ l, x < 256) (h : l.take 4 ≠ logL) :
  Calls Tryz.prog 139 #[.string (str l), .string (str logL)] w fun e w' => (∃ s, e = .returned (.tuple #[.string s, .bool false])) ∧ w = w' := by
 have hc := Tryz.strings_CutPrefix (str l) (str logL) w
 have h1 : (str l).data.toList = l.map UInt8.ofNat := rfl
 have h2 : (str logL).data.toList = logL.map UInt8.ofNat := rfl
 have h3 : Lib.hasPrefix (str l).data.toList (str logL).data.toList = false := by
  rw [h1, h2]
  unfold Lib.hasPrefix
  rw [Bool.eq_false_iff]
  intro e
  rw [List.isPrefixOf_iff_prefix] at e
  obtain ⟨r, hr⟩ := e
  have e2 := congrArg (List.take 4) hr
  rw [List.take_left' (by rfl), ← List.map_take] at e2
  exact h (ofNat_inj (fun x hx => hl x (List.mem_of_mem_take hx)) logL_byte e2.symm)
 rw [h3] at hc
 refine hc.mono ?_
 rintro e w' ⟨rfl, rfl⟩
 exact ⟨⟨_, rfl⟩, rfl⟩

theorem sg_byte {l : List Nat} (hl : ∀ x ∈ l, x < 256) (k : Nat) (hk : k < l.length) : (str l).data.toList.getD k 0 = UInt8.ofNat (l.getD k 0) ∧ (UInt8.ofNat (l.getD k 0)).toNat = l.getD k 0 := by
 have h0 : (str l).data.toList = l.map UInt8.ofNat := rfl
 constructor
 ·rw [h0, List.getD_eq_getElem?_getD, List.getElem?_map, List.getElem?_eq_getElem hk, List.getD_eq_getElem?_getD, List.getElem?_eq_getElem hk]; rfl
 ·have h4 : l.getD k 0 < 256 := by
   rw [List.getD_eq_getElem?_getD, List.getElem?_eq_getElem hk]
   exact hl _ (List.getElem_mem _)
  rw [UInt8.toNat_ofNat']
  omega

theorem take_val {t : List Nat} {k : Nat} (ht : t.length = 8) (hk : k ≤ 8) (hd : Digits (t.take k)) : valD (t.take k) 0 < 100000000 := by
 have h1 := (dig_valD k (t.take k) (by rw [List.length_take]; omega) hd).2
 have h2 : 10 ^ k ≤ 10 ^ 8 := Nat.pow_le_pow_right (by omega) hk
 omega

theorem take_snocS {t : List Nat} {k : Nat} (hk : k < t.length) : t.take (k + 1) = t.take k ++ [t.getD k 0] := by
 rw [List.take_succ_eq_append_getElem hk, List.getD_eq_getElem?_getD, List.getElem?_eq_getElem hk]
 rfl

set_option maxRecDepth 100000 in
set_option maxHeartbeats 3200000 in
theorem segnum_8 (l : List Nat) (w : World) (hl : ∀ x ∈ l, x < 256) (h4 : l.take 4 = logL) (h8 : (l.drop 4).length = 8) :
  Calls Tryz.prog 92 #[.string (str l)] w fun e w' => NumEnd l e ∧ Below w.heap.size w w' := by
 have HC := Lib.hid (cut_log_yes w h4)
 have Hno := Lib.hid (fun k (hk : k < 8) (hc : (l.drop 4).getD k 0 < 48 ∨ 57 < (l.drop 4).getD k 0) => no_digit (l := l) (k := k + 4) (by omega) (by rw [List.length_drop] at h8; omega) (by
  have e : l.getD (k + 4) 0 = (l.drop 4).getD k 0 := by
   rw [List.getD_eq_getElem?_getD, List.getD_eq_getElem?_getD, List.getElem?_drop, Nat.add_comm]
  rw [e]; exact hc))
 have Hyes := Lib.hid (show Digits (l.drop 4) → segNum l = valD (l.drop 4) 0 from fun h => by
  unfold segNum
  rw [if_pos ⟨h4, h8, h⟩])
 have hlt : ∀ x ∈ l.drop 4, x < 256 := fun x hx => hl x (List.mem_of_mem_drop hx)
 clear hl h4
 generalize l.drop 4 = t at *
 have hsz : (str t).size = 8 := by rw [str_size]; exact h8
 have hb8 := fun k (hk : k < 8) => sg_byte hlt k (by rw [h8]; exact hk)
 have HL := Lib.hid (show str logL = ⟨#[108, 111, 103, 45]⟩ from rfl)
 rw [HL.out] at HC
 have Hb0 := Lib.hid (fun k => (Below.refl w.heap.size w).alloc (Nat.le_refl _) (.stringIter (str t) k))
 have H8 := Lib.hid h8
 have Hb8 := Lib.hid hb8
 clear HL h8 hb8 hlt
 generalize str l = s at *
 go_enter Tryz.func92, Tryz.ntmps92
 go_wp2_with fail
 refine HC.out.mono ?_
 rintro e w' ⟨rfl, rfl⟩
 go_wp2
 go_loopg [6] 8 (fun g n wr => ∃ k : Nat, k ≤ 8 ∧ 8 - k ≤ g ∧ n = .int .i64 ((valD (t.take k) 0 : Nat) : Int) ∧ Digits (t.take k) ∧ wr = w.iter (str t) k)
 case atStart => exact ⟨0, by omega, by omega, by simp [valD], by simp [Digits], rfl⟩
 case round =>
  obtain ⟨k, hk, hg, rfl, hd, rfl⟩ := hrel
  have hv := take_val H8.out hk hd
  have Hd := Lib.hid hd
  clear hd
  by_cases hlt : k < 8
  ·obtain ⟨hx1, hx2⟩ := Hb8.out k hlt
   have hks : k < (str t).size := by rw [hsz]; exact hlt
   have hget : (((str t)[k]'hks).toNat) = t.getD k 0 := by
    have e1 : (str t)[k]'hks = (str t).data.toList.getD k 0 := by
     rw [List.getD_eq_getElem?_getD, Lib.data_getElem? (str t) k hks]; rfl
    rw [e1, hx1, hx2]
   have HNo := Lib.hid (Hno.out k hlt)
   have Htk := Lib.hid (take_snocS (t := t) (k := k) (by rw [H8.out]; exact hlt))
   by_cases hc : t.getD k 0 < 128
   ·have hnx := fun ty => run_next_ascii (P := Tryz.prog) w (str t) k ty hks (by rw [hget]; exact hc)
    rw [hget] at hnx
    have HB1 := Lib.hid (Hb0.out (k + 1))
    generalize hV : valD (t.take k) 0 = v at *
    have HV := Lib.hid hV
    have Hlt := Lib.hid hlt
    have Hg := Lib.hid hg
    clear hx1 hx2 hget hV hg
    generalize t.getD k 0 = c at *
    by_cases c1 : c < 48
    ·go_wp2
     go_ret2
     exact ⟨numEnd_no (HNo.out (.inl c1)), HB1.out⟩
    ·by_cases c2 : 57 < c
     ·go_wp2
      go_ret2
      exact ⟨numEnd_no (HNo.out (.inr c2)), HB1.out⟩
     ·have Hv := Lib.hid (show (((10 * v + (c - 48) : Nat)) : Int) = 10 * (v : Int) + ((c : Int) - 48) by omega)
      have Hc1 := Lib.hid c1
      have Hc2 := Lib.hid c2
      have hc3 : (48 : Int) ≤ c := by omega
      have hc4 : (c : Int) ≤ 57 := by omega
      go_wp2
      go_roundg (8 - (k + 1))
      case measure => have := Hg.out; have := Hlt.out; omega
      case rel =>
       refine ⟨k + 1, Hlt.out, Nat.le_refl _, ?_, ?_, rfl⟩
       ·rw [Htk.out, valD_snoc, HV.out, Hv.out]
       ·rw [Htk.out]; exact digits_snoc Hd.out (by have := Hc1.out; omega) (by have := Hc2.out; omega)
   ·have hnx := fun ty => run_next_any (P := Tryz.prog) w (str t) k ty hks
    obtain ⟨d1, d2, d3, d4, _⟩ := high_step (str t) k hks (by rw [hx1, hx2]; omega)
    have HB1 := Lib.hid (Hb0.out (k + (Utf8.decode (str t) k).2))
    obtain ⟨r, n, hdec⟩ : ∃ r n, Utf8.decode (str t) k = (r, n) := ⟨_, _, rfl⟩
    rw [hdec] at hnx d1 d2 HB1
    have hr1 : ¬ ((r : Int) < 48) := by have : 128 ≤ r := d1; omega
    have hr2 : (57 : Int) < (r : Int) := by have : 128 ≤ r := d1; omega
    clear hx1 hx2 hget d1 d2 d3 d4 hdec hg
    generalize valD (t.take k) 0 = v at *
    have HNo2 := Lib.hid (HNo.out (.inr (by omega)))
    clear hc
    go_wp2
    go_ret2
    exact ⟨numEnd_no HNo2.out, HB1.out⟩
  ·obtain rfl : k = 8 := by omega
   have hte : t.take 8 = t := List.take_of_length_le (by rw [H8.out]; omega)
   have hnx := fun ty => run_next_end (P := Tryz.prog) w (str t) 8 ty (by rw [hsz]; omega)
   have HB1 := Lib.hid (Hb0.out 8)
   have Hseg := Lib.hid (Hyes.out (by have := Hd.out; rwa [hte] at this))
   rw [hte] at hv ⊢
   clear hte hg
   generalize valD t 0 = v at *
   have HI := Lib.hid (seginrange_any (v : Int) (w.iter (str t) 8))
   rw [show decide (1 ≤ (v : Int) ∧ (v : Int) ≤ 99999999) = decide (0 < v) by rw [decide_eq_decide]; omega] at HI
   have HE := Lib.hid (show NumEnd l (.returned (.tuple #[.int .i64 (v : Int), .bool (decide (0 < v))])) by unfold NumEnd; rw [Hseg.out])
   generalize decide (0 < v) = b at *
   go_wp2_with fail
   refine HI.out.mono ?_
   rintro e w' ⟨rfl, rfl⟩
   go_wp2
   go_ret2
   exact ⟨HE.out, HB1.out⟩

theorem segnum_any (l : List Nat) (w : World) (hl : ∀ x ∈ l, x < 256) (hmax : l.length ≤ 9223372036854775807) :
  Calls Tryz.prog 92 #[.string (str l)] w fun e w' => NumEnd l e ∧ Below w.heap.size w w' := by
 by_cases h4 : l.take 4 = logL
 ·by_cases h8 : (l.drop 4).length = 8
  ·exact segnum_8 l w hl h4 h8
  ·have HC := Lib.hid (cut_log_yes w h4)
   have HL := Lib.hid (show str logL = ⟨#[108, 111, 103, 45]⟩ from rfl)
   rw [HL.out] at HC
   have Hf := Lib.hid (numEnd_no (l := l) (by
    unfold segNum
    rw [if_neg]
    rintro ⟨_, h2, _⟩
    exact h8 h2))
   have hsz : (str (l.drop 4)).size = (l.drop 4).length := str_size _
   have hne : (((str (l.drop 4)).size : Int) != 8) = true := by rw [bne_iff_ne]; omega
   have hm : (str (l.drop 4)).size ≤ 9223372036854775807 := by rw [hsz, List.length_drop]; omega
   clear hl h4 h8 hsz HL hmax
   generalize str (l.drop 4) = t at *
   generalize str l = s at *
   go_enter Tryz.func92, Tryz.ntmps92
   go_wp2_with fail
   refine HC.out.mono ?_
   rintro e w' ⟨rfl, rfl⟩
   go_wp2
   go_ret2
   exact ⟨Hf.out, Below.refl _ _⟩
 ·have HC := Lib.hid (cut_log_no w hl h4)
  have HL := Lib.hid (show str logL = ⟨#[108, 111, 103, 45]⟩ from rfl)
  rw [HL.out] at HC
  have Hf := Lib.hid (numEnd_no (l := l) (by
   unfold segNum
   rw [if_neg]
   rintro ⟨h1, _⟩
   exact h4 h1))
  clear hl h4 HL hmax
  generalize str l = s at *
  go_enter Tryz.func92, Tryz.ntmps92
  go_wp2_with fail
  refine HC.out.mono ?_
  rintro e w' ⟨⟨t, rfl⟩, rfl⟩
  go_wp2
  go_ret2
  exact ⟨Hf.out, Below.refl _ _⟩
end Go.Proofs.YtnbddiiedagllaaGreat

