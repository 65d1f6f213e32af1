/- The reference of the wheel: New, Find, Schedule, Cancel, Advance. No condition but what each states. -/
import Derived.Test.YthidinaflaogfaaWhCode
import Derived.Test.YthidinaflaogfaaWhApp
import Derived.Deep.RegionLaw
import Derived.Test.YthidinaflaogfaaWhAdv
namespace Go.Proofs.Ythidinaflaogfaa
open Go.RowKit

section
variable {P : Program}
theorem res_ct {fn : Func} {p u : Tmp} {ty : TypeId} (h : fn.results = #[.cell p ty, .tmp u]) (tmps : Array Value) (w : World) (g : Nat) (t : TypeId) (cs : Array Value) (fr : Nat × Nat) (d : TypeDesc)
    (hp : tmps.getD p undef = .pointer (some ⟨g, 0, none⟩)) (hg : w.heap[g]? = some (.cells cs t fr))
    (hu : P.underlying ty = some d) (hd : (match d with | .struct _ | .array _ _ => true | _ => false) = true) (hi : (P.info? ty).map (·.size) = some cs.size) :
    (results fn tmps).run P w = .ok (.tuple #[.agg cs, tmps.getD u undef]) w := by
  rw [results_cell_tmp h, hp]
  simp [asAddr, run_loadVar_row w g t ty cs fr d hg hu hd hi, Result.andThen]
theorem res_ctt {fn : Func} {p u v : Tmp} {ty : TypeId} (h : fn.results = #[.cell p ty, .tmp u, .tmp v]) (tmps : Array Value) (w : World) (g : Nat) (t : TypeId) (cs : Array Value) (fr : Nat × Nat) (d : TypeDesc)
    (hp : tmps.getD p undef = .pointer (some ⟨g, 0, none⟩)) (hg : w.heap[g]? = some (.cells cs t fr))
    (hu : P.underlying ty = some d) (hd : (match d with | .struct _ | .array _ _ => true | _ => false) = true) (hi : (P.info? ty).map (·.size) = some cs.size) :
    (results fn tmps).run P w = .ok (.tuple #[.agg cs, tmps.getD u undef, tmps.getD v undef]) w := by
  have hp' : tmps[p]?.getD undef = .pointer (some ⟨g, 0, none⟩) := by simpa using hp
  simp [results, h, hp', asAddr, run_loadVar_row w g t ty cs fr d hg hu hd hi]
end

theorem infoW : ∀ u v : Value, (Try.prog.info? 29).map (·.size) = some (#[u, v] : Array Value).size := fun u v => by kernel_rfl

/-- A box of two cells has been written. -/
theorem put2 {w : World} {g : Nat} {a b u v : Value} {ty : TypeId} (hg : w.heap[g]? = some (.cells #[a, b] ty (0, 0))) : ((w.setCell ⟨g, 0, none⟩ u).setCell ⟨g, 1, none⟩ v).heap[g]? = some (.cells #[u, v] ty (0, 0)) := by
  rw [Joins.block_setCell (i := 1) (Joins.block_setCell (i := 0) hg u) v]
  rfl

/-- The items T, in a row that lies in Y. -/
structure RowAt (Y : Nat → Prop) (w : World) (p : Option Addr) (n c : Nat) (T : List It) : Prop where
  items : Items w p n c T
  zero : p = none → c = 0
  form : ∀ a, p = some a → ∃ b o, a = ⟨b, o, none⟩
  mem : ∀ b o, p = some ⟨b, o, none⟩ → Y b ∧ b < w.heap.size

theorem items_same {w w' : World} {p : Option Addr} {n c : Nat} {T : List It} (h : Items w p n c T) (hk : ∀ b o, p = some ⟨b, o, none⟩ → w'.heap[b]? = w.heap[b]?) : Items w' p n c T :=
  ⟨h.len, h.le, h.max, fun hn => by
    obtain ⟨b, o, e, hc⟩ := h.cell hn
    have h1 := hk b o e
    refine ⟨b, o, e, fun i x hi => ?_⟩
    obtain ⟨c0, c1⟩ := hc i x hi
    constructor
    · rw [← c0]; unfold World.cell?; rw [h1]
    · rw [← c1]; unfold World.cell?; rw [h1]⟩

theorem RowAt.kept {Y : Nat → Prop} {w w' : World} {p : Option Addr} {n c : Nat} {T : List It} (h : RowAt Y w p n c T) (hk : ∀ b, Y b → w'.heap[b]? = w.heap[b]?) (hs : w.heap.size ≤ w'.heap.size) : RowAt Y w' p n c T :=
  ⟨items_same h.items (fun b o e => hk b (h.mem b o e).1), h.zero, h.form, fun b o e => ⟨(h.mem b o e).1, Nat.lt_of_lt_of_le (h.mem b o e).2 hs⟩⟩
theorem RowAt.below {Y : Nat → Prop} {w w' : World} {p : Option Addr} {n c : Nat} {T : List It} (h : RowAt Y w p n c T) (hb : Below w.heap.size w w') : RowAt Y w' p n c T :=
  ⟨h.items.below hb, h.zero, h.form, fun b o e => ⟨(h.mem b o e).1, Nat.lt_of_lt_of_le (h.mem b o e).2 hb.size⟩⟩
theorem RowAt.mono {Y Z : Nat → Prop} {w : World} {p : Option Addr} {n c : Nat} {T : List It} (h : RowAt Y w p n c T) (hYZ : ∀ b, Y b → Z b) : RowAt Z w p n c T := ⟨h.items, h.zero, h.form, fun b o e => ⟨hYZ b (h.mem b o e).1, (h.mem b o e).2⟩⟩

theorem rowAt_nil (Y : Nat → Prop) (w : World) : RowAt Y w none 0 0 [] := ⟨items_zero w none 0 (by decide), fun _ => rfl, fun a h => (by cases h), fun b o h => (by cases h)⟩

/-- A row of the call's own. -/
theorem rowAt_own {w : World} {base : Nat} {v : Value} {T : List It} (h : OwnI w base v T) {n : Nat} (hn : T.length = n) : ∃ p c, v = .slice p n c ∧ RowAt (fun b => base ≤ b) w p n c T := by
  have hlt := World.ownsRow.lt h
  subst hn
  obtain ⟨p, c, rfl, hI⟩ := OwnI.items h rfl
  refine ⟨p, c, rfl, hI, ?_, ?_, fun b o e => ?_⟩
  · intro hp
    obtain ⟨_, g1 | ⟨g, cap, cur, g1, _⟩⟩ := h
    · have := g1.1; rw [Value.slice.injEq] at this; exact this.2.2
    · rw [hp] at g1; simp at g1
  · intro a ha
    obtain ⟨_, g1 | ⟨g, cap, cur, g1, _⟩⟩ := h
    · have := g1.1; rw [Value.slice.injEq, ha] at this; cases this.1
    · rw [Value.slice.injEq, ha] at g1; cases g1.1; exact ⟨g, 0, rfl⟩
  · have := hlt b (by rw [e]; rfl)
    exact this

set_option maxRecDepth 100000 in
theorem rnew16_any (now : Nat) (w : World) : Calls Try.prog 11 #[.int .u64 (now : Int)] w fun r w' => r = .returned (.agg #[.int .u64 ((min now 9223372036854775807 : Nat) : Int), .slice none 0 0]) ∧ Below w.heap.size w w' := by
  obtain ⟨m, hm⟩ : ∃ m, m = min now 9223372036854775807 := ⟨_, rfl⟩
  have hmi : min (now : Int) 9223372036854775807 = (m : Int) := by rw [hm]; omega
  rw [← hm]
  clear hm
  go_enter Try.func11, Try.ntmps11
  go_wp2
  refine bodyPost_ret (results_cell_row rfl _ _ w.heap.size _ _ _ _ rfl (heap_alloc_new _ _) Try.underlying29 rfl (infoW _ _)) rfl ?_
  exact ⟨rfl, (Below.refl _ _).alloc (Nat.le_refl _) _⟩

/-- The first place of a timer with an ID. -/
def IsFind (T : List It) (id : Nat) (x : Int) : Prop := (x = -1 ∧ ∀ t ∈ T, t.1 ≠ id) ∨ ∃ (i : Nat) (t : It), x = (i : Int) ∧ T[i]? = some t ∧ t.1 = id

theorem IsFind.has {T : List It} {id : Nat} {x : Int} (h : IsFind T id x) : (0 ≤ x ↔ hasW T id = true) := by
  rcases h with ⟨rfl, h⟩ | ⟨i, t, rfl, h1, h2⟩
  · constructor
    · intro h3; omega
    · intro h3; rw [hasW_no.2 h] at h3; cases h3
  · exact ⟨fun _ => hasW_iff.2 ⟨t, List.mem_of_getElem? h1, h2⟩, fun _ => by omega⟩

set_option maxRecDepth 100000 in
set_option maxHeartbeats 3200000 in
theorem rfind16_any (now id : Nat) (p : Option Addr) (n c : Nat) (T : List It) (w : World) (h : Items w p n c T) :
    Calls Try.prog 29 #[.agg #[.int .u64 (now : Int), .slice p n c], .int .u64 (id : Int)] w fun r w' => ∃ x, r = .returned (.int .i64 x) ∧ IsFind T id x ∧ Below w.heap.size w w' := by
  have hlen := h.len
  have hle := h.le
  have hmx := h.max
  obtain ⟨w1, hw1⟩ : ∃ w1, w1 = w.alloc (.cells #[.int .u64 (now : Int), .slice p n c] 29) := ⟨_, rfl⟩
  have hb1 : Below w.heap.size w w1 := by rw [hw1]; exact (Below.refl _ _).alloc (Nat.le_refl _) _
  obtain ⟨d0, d1⟩ := box2 w (.int .u64 (now : Int)) (.slice p n c) 29
  rw [← hw1] at d0 d1
  have HI := Lib.hid (h.below hb1)
  have Hb1 := Lib.hid hb1
  clear h hb1 d0
  go_enter Try.func29, Try.ntmps29
  go_upto_region 1 with fail
  rw [← hw1]
  clear hw1
  go_wp2_with fail
  go_loopw [5] (fun i wr => ∃ j : Nat, j ≤ n ∧ i = .int .i64 (j : Int) ∧ RowKit.Hid (∀ k y, k < j → T[k]? = some y → y.1 ≠ id) ∧ wr = w1) (fun i _ => n - (intOf i).toNat)
  case atStart => exact ⟨0, Nat.zero_le _, rfl, Lib.hid (fun k y hk => absurd hk (by omega)), rfl⟩
  case round =>
    obtain ⟨j, hj, rfl, Hno, rfl⟩ := hrel
    by_cases hlt : j < n
    · have hji : (j : Int) < (n : Int) := by omega
      obtain ⟨b, o, rfl, hc⟩ := HI.out.cell (by omega)
      obtain ⟨y, hy⟩ : ∃ y, T[j]? = some y := ⟨_, List.getElem?_eq_getElem (by omega)⟩
      obtain ⟨c0, _⟩ := hc j y hy
      have Hy := Lib.hid hy
      obtain ⟨y1, y2⟩ := y
      change wr.cell? _ = some (.int .u64 (y1 : Int)) at c0
      clear hc hy
      by_cases he : y1 = id
      · have hei : (y1 : Int) = (id : Int) := by omega
        go_wp2
        go_ret
        exact ⟨_, rfl, .inr ⟨j, _, rfl, Hy.out, he⟩, Hb1.out⟩
      · have hei : ¬ (y1 : Int) = (id : Int) := by omega
        have hei2 : ((y1 : Int) == (id : Int)) = false := beq_eq_false_iff_ne.2 hei
        have Hn2 := Lib.hid (show ∀ k y, k < j + 1 → T[k]? = some y → y.1 ≠ id from fun k y hk hy => by
          rcases Nat.lt_or_eq_of_le (Nat.le_of_lt_succ hk) with h1 | rfl
          · exact Hno.out k y h1 hy
          · rw [Hy.out] at hy; cases hy; exact he)
        clear he
        go_wp2
        go_roundw
        case rel => exact ⟨j + 1, by omega, by go_num, Hn2, trivial⟩
        case measure => simp [intOf]; omega
    · have hji : ¬ (j : Int) < (n : Int) := by omega
      obtain rfl : j = n := by omega
      have Hn2 := Lib.hid (show ∀ t ∈ T, t.1 ≠ id from fun t ht => by
        obtain ⟨k, hk⟩ := List.mem_iff_getElem?.1 ht
        refine Hno.out k t ?_ hk
        have := (List.getElem?_eq_some_iff.1 hk).1
        omega)
      go_wp2
      go_ret
      exact ⟨_, rfl, .inl ⟨rfl, Hn2.out⟩, Hb1.out⟩
end Go.Proofs.Ythidinaflaogfaa
namespace Go.Proofs.Ythidinaflaogfaa
open Go.RowKit

/-- A state of the reference: its tick and its timers, in a row that lies in Y. -/
def RefV (Y : Nat → Prop) (w : World) (now : Nat) (T : List It) (v : Value) : Prop := ∃ p c, v = .agg #[.int .u64 (now : Int), .slice p T.length c] ∧ RowAt Y w p T.length c T

theorem RefV.below {Y : Nat → Prop} {w w' : World} {now : Nat} {T : List It} {v : Value} (h : RefV Y w now T v) (hb : Below w.heap.size w w') : RefV Y w' now T v := by
  obtain ⟨p, c, e, h⟩ := h
  exact ⟨p, c, e, h.below hb⟩
theorem RefV.kept {Y : Nat → Prop} {w w' : World} {now : Nat} {T : List It} {v : Value} (h : RefV Y w now T v) (hk : ∀ b, Y b → w'.heap[b]? = w.heap[b]?) (hs : w.heap.size ≤ w'.heap.size) : RefV Y w' now T v := by
  obtain ⟨p, c, e, h⟩ := h
  exact ⟨p, c, e, h.kept hk hs⟩
theorem RefV.mono {Y Z : Nat → Prop} {w : World} {now : Nat} {T : List It} {v : Value} (h : RefV Y w now T v) (hYZ : ∀ b, Y b → Z b) : RefV Z w now T v := by
  obtain ⟨p, c, e, h⟩ := h
  exact ⟨p, c, e, h.mono hYZ⟩

/-- Two boxes, as they lie at the beginning. -/
theorem boxes_new (w : World) (u v : Value) : (((w.alloc (.cells #[u, v] 29)).alloc (.cells #[.int .u64 0, .slice none 0 0] 29)).heap[w.heap.size]? = some (.cells #[u, v] 29 (0, 0))) ∧ (((w.alloc (.cells #[u, v] 29)).alloc (.cells #[.int .u64 0, .slice none 0 0] 29)).heap[w.heap.size + 1]? = some (.cells #[.int .u64 0, .slice none 0 0] 29 (0, 0))) :=
  ⟨(heap_alloc_old _ _ (by simp)).trans (heap_alloc_new _ _), by have h := heap_alloc_new (w.alloc (.cells #[u, v] 29)) (.cells #[.int .u64 0, .slice none 0 0] 29); rw [World.size_alloc] at h; exact h⟩

theorem cells_of2 {w : World} {g : Nat} {a b : Value} {ty : TypeId} (hg : w.heap[g]? = some (.cells #[a, b] ty (0, 0))) : w.cell? ⟨g, 0, none⟩ = some a ∧ w.cell? ⟨g, 1, none⟩ = some b ∧ w.frozen? ⟨g, 0, none⟩ = false ∧ w.frozen? ⟨g, 1, none⟩ = false := by
  refine ⟨by rw [cell_of_row _ _ _ _ _ (0, 0) hg]; rfl, by rw [cell_of_row _ _ _ _ _ (0, 0) hg]; rfl, ?_, ?_⟩ <;> simp [World.frozen?, hg]

/-- What Schedule of the reference answers. -/
def RSchedEnd (Y : Nat → Prop) (w : World) (now : Nat) (T : List It) (t : It) (r : Ending) (w' : World) : Prop :=
  ∃ v, r = .returned (.tuple #[v, .int .i64 (schedC T t)]) ∧ RefV (fun b => Y b ∨ w.heap.size ≤ b) w' now (schedT T t) v ∧ Below w.heap.size w w'

set_option maxRecDepth 100000 in
set_option maxHeartbeats 3200000 in
theorem rsched16_any (Y : Nat → Prop) (now : Nat) (T : List It) (v : Value) (t : It) (w : World) (h : RefV Y w now T v) (hs : srtI T) (hl : T.length ≤ 990) (_ : t.2 < 18446744073709551616) :
    Calls Try.prog 12 #[v, .int .u64 (t.1 : Int), .int .u64 (t.2 : Int)] w (RSchedEnd Y w now T t) := by
  obtain ⟨p, c, rfl, hR⟩ := h
  obtain ⟨n, hn⟩ : ∃ n, n = T.length := ⟨_, rfl⟩
  rw [← hn] at hR ⊢
  have hbb : Below w.heap.size w ((w.alloc (.cells #[.int .u64 (now : Int), .slice p n c] 29)).alloc (.cells #[.int .u64 0, .slice none 0 0] 29)) := ((Below.refl _ _).alloc (Nat.le_refl _) _).alloc (by simp) _
  unfold RSchedEnd
  by_cases hbig : 9223372036854775807 < t.2
  · have e1 : schedC T t = 2 := if_pos hbig
    have e2 : schedT T t = T := if_pos hbig
    rw [e1, e2]
    clear e1 e2
    have hb : (9223372036854775807 : Int) < (t.2 : Int) := by omega
    obtain ⟨t1, t2⟩ := t
    have Hfin := Lib.hid (show ∀ W, Below w.heap.size w W → ∃ v, Ending.returned (.tuple #[.agg #[.int .u64 (now : Int), .slice p n c], .int .i64 2]) = .returned (.tuple #[v, .int .i64 2]) ∧ RefV (fun b => Y b ∨ w.heap.size ≤ b) W now T v ∧ Below w.heap.size w W from fun W hW =>
      ⟨_, rfl, ⟨p, c, by rw [hn], by rw [← hn]; exact (hR.below hW).mono (fun b e => .inl e)⟩, hW⟩)
    clear hR hbig hbb hn hs
    go_enter Try.func12, Try.ntmps12
    go_wp2
    refine bodyPost_ret (res_ct rfl _ _ (w.heap.size + 1) _ _ _ _ rfl (heap_alloc2_new _ _ _) Try.underlying29 rfl (infoW _ _)) rfl ?_
    exact Hfin.out _ (((Below.refl _ _).alloc (Nat.le_refl _) _).alloc (by simp) _)
  · have Hyes := Lib.hid (show hasW T t.1 = true → schedC T t = 7 ∧ schedT T t = T from fun e => ⟨by unfold schedC; rw [if_neg hbig, if_pos e], by unfold schedT; rw [if_neg hbig, if_pos e]⟩)
    have Hnot := Lib.hid (show hasW T t.1 = false → schedC T t = 0 ∧ schedT T t = insI t T from fun e => ⟨by unfold schedC; rw [if_neg hbig, if_neg (by rw [e]; decide)], by unfold schedT; rw [if_neg hbig, if_neg (by rw [e]; decide)]⟩)
    have hb : ¬ (9223372036854775807 : Int) < (t.2 : Int) := by omega
    obtain ⟨g0, g1⟩ := boxes_new w (.int .u64 (now : Int)) (.slice p n c)
    obtain ⟨W0, hW0⟩ : ∃ W0, W0 = (w.alloc (.cells #[.int .u64 (now : Int), .slice p n c] 29)).alloc (.cells #[.int .u64 0, .slice none 0 0] 29) := ⟨_, rfl⟩
    rw [← hW0] at g0 g1 hbb
    have HF := Lib.hid (rfind16_any now t.1 p n c T W0 (hR.items.below hbb))
    obtain ⟨a0, a1, _, _⟩ := cells_of2 g0
    have HR := Lib.hid (fun W hW => hR.below (w' := W) hW)
    have HG := Lib.hid (And.intro g0 (And.intro g1 hbb))
    have HS := Lib.hid (And.intro hs (And.intro hl hn))
    have Hlt := Lib.hid (show w.heap.size + 1 < W0.heap.size from (Array.getElem?_eq_some_iff.1 g1).1)
    obtain ⟨t1, t2⟩ := t
    clear hR hbig g0 g1 hbb hs hl hn
    go_enter Try.func12, Try.ntmps12
    go_upto_region 1 with fail
    rw [← hW0]
    clear hW0
    go_wp2_with fail
    refine HF.out.mono ?_
    rintro r w2 ⟨x, rfl, hx, hb2⟩
    have k0 := (hb2.block w.heap.size (by have := Hlt.out; omega)).trans HG.out.1
    have k1 := (hb2.block (w.heap.size + 1) Hlt.out).trans HG.out.2.1
    have Hbw2 := Lib.hid (HG.out.2.2.trans (hb2.mono HG.out.2.2.size))
    have Hk := Lib.hid (And.intro k0 k1)
    obtain ⟨b0, b1, _, _⟩ := cells_of2 k0
    obtain ⟨s0, s1, s2, s3⟩ := cells_of2 k1
    have hx0 := hx.has
    clear hb2 k0 k1 a0 a1 hx
    by_cases hxp : 0 ≤ x
    · have Hh := Lib.hid (Hyes.out (show hasW T t1 = true from hx0.1 hxp))
      clear hx0
      go_wp2
      refine bodyPost_ret (res_ct rfl _ _ (w.heap.size + 1) _ _ _ _ rfl (put2 (w := w2) Hk.out.2) Try.underlying29 rfl (infoW _ _)) rfl ?_
      rw [Hh.out.1, Hh.out.2]
      have hB : Below w.heap.size w ((w2.setCell ⟨w.heap.size + 1, 0, none⟩ (.int .u64 (now : Int))).setCell ⟨w.heap.size + 1, 1, none⟩ (.slice p n c)) := (Hbw2.out.setCell (by show w.heap.size ≤ w.heap.size + 1; omega) _).setCell (by show w.heap.size ≤ w.heap.size + 1; omega) _
      exact ⟨_, rfl, ⟨p, c, by rw [← HS.out.2.2], by rw [← HS.out.2.2]; exact (HR.out _ hB).mono (fun b e => .inl e)⟩, hB⟩
    · have Hh := Lib.hid (Hnot.out (show hasW T t1 = false from by
        cases e : hasW T t1 with
        | false => rfl
        | true => exact absurd (hx0.2 e) hxp))
      clear hx0
      have hR2 := HR.out w2 Hbw2.out
      have HIns := Lib.hid (rinsert_any p n c T (t1, t2) (cntI (t1, t2) T) w2 hR2.items hR2.zero hR2.form (by have := HS.out; omega) (by have h5 := cntI_le (t1, t2) T; have := HS.out; omega) (srt_idx HS.out.1 (t1, t2)))
      clear hR2
      go_wp2_with fail
      refine HIns.out.mono ?_
      rintro r w3 ⟨v3, rfl, hown, hb3⟩
      obtain ⟨N3, hN3⟩ : ∃ N3, (insI (t1, t2) T).length = N3 := ⟨_, rfl⟩
      obtain ⟨p3, c3, hv3, _⟩ := OwnI.items hown hN3
      subst hv3
      have j0 := (hb3.block w.heap.size (Array.getElem?_eq_some_iff.1 Hk.out.1).1).trans Hk.out.1
      have j1 := (hb3.block (w.heap.size + 1) (Array.getElem?_eq_some_iff.1 Hk.out.2).1).trans Hk.out.2
      have Hj := Lib.hid (And.intro j0 j1)
      obtain ⟨d0, d1, d2, d3⟩ := cells_of2 j0
      obtain ⟨f0, f1, f2, f3⟩ := cells_of2 j1
      have Hown := Lib.hid hown
      have Hb3 := Lib.hid (And.intro hb3 (Hbw2.out.trans (hb3.mono Hbw2.out.size)))
      have Hlt2 := Lib.hid (Array.getElem?_eq_some_iff.1 Hk.out.2).1
      clear j0 j1 hown hb3 b0 b1 s0 s1 s2 s3
      go_wp2
      refine bodyPost_ret (res_ct rfl _ _ (w.heap.size + 1) _ _ _ _ rfl (put2 (w := w3.setCell ⟨w.heap.size, 1, none⟩ (.slice p3 N3 c3)) ((heap_setCell_other _ _ _ _ (by show w.heap.size + 1 ≠ w.heap.size; omega)).trans Hj.out.2)) Try.underlying29 rfl (infoW _ _)) rfl ?_
      rw [Hh.out.1, Hh.out.2]
      have hB : Below w.heap.size w (((w3.setCell ⟨w.heap.size, 1, none⟩ (.slice p3 N3 c3)).setCell ⟨w.heap.size + 1, 0, none⟩ (.int .u64 (now : Int))).setCell ⟨w.heap.size + 1, 1, none⟩ (.slice p3 N3 c3)) := ((Hb3.out.2.setCell (Nat.le_refl _) _).setCell (by show w.heap.size ≤ w.heap.size + 1; omega) _).setCell (by show w.heap.size ≤ w.heap.size + 1; omega) _
      have hown2 : OwnI (((w3.setCell ⟨w.heap.size, 1, none⟩ (.slice p3 N3 c3)).setCell ⟨w.heap.size + 1, 0, none⟩ (.int .u64 (now : Int))).setCell ⟨w.heap.size + 1, 1, none⟩ (.slice p3 N3 c3)) w2.heap.size (.slice p3 N3 c3) (insI (t1, t2) T) := by
        refine OwnI.kept Hown.out (fun b e => ?_)
        have h7 := (World.ownsRow.lt Hown.out b e).1
        have h8 := Hlt2.out
        rw [heap_setCell_other _ _ _ _ (by show b ≠ w.heap.size + 1; omega), heap_setCell_other _ _ _ _ (by show b ≠ w.heap.size + 1; omega), heap_setCell_other _ _ _ _ (by show b ≠ w.heap.size; omega)]
      obtain ⟨p', c', e', hA⟩ := rowAt_own hown2 rfl
      rw [Value.slice.injEq] at e'
      obtain ⟨rfl, e', rfl⟩ := e'
      have hsz : w.heap.size ≤ w2.heap.size := Hbw2.out.size
      exact ⟨_, rfl, ⟨p3, c3, by rw [e'], hA.mono (fun b e => .inr (Nat.le_trans hsz e))⟩, hB⟩
end Go.Proofs.Ythidinaflaogfaa
namespace Go.Proofs.Ythidinaflaogfaa
open Go.RowKit

theorem wrap_succ (i : Nat) (h : i < 1000000) : IntKind.i64.wrap ((i : Int) + 1) = (i : Int) + 1 := by
  have h1 : ((2 : Int) ^ IntKind.i64.bits) = 18446744073709551616 := by decide
  have h2 : ((2 : Int) ^ (IntKind.i64.bits - 1)) = 9223372036854775808 := by decide
  simp only [IntKind.wrap, h1, h2]
  rw [if_neg (by simp; omega)]
  omega

theorem cancT_at {T : List It} (h : TimW T) {i : Nat} {t : It} (ht : T[i]? = some t) : T.take i ++ T.drop (i + 1) = cancT T t.1 := by
  obtain ⟨hi, rfl⟩ := List.getElem?_eq_some_iff.1 ht
  have e : T = T.take i ++ T[i] :: T.drop (i + 1) := by rw [← List.drop_eq_getElem_cons hi, List.take_append_drop]
  have hn := srt_nodup h.srt
  have hall : ∀ a ∈ T.take i ++ T.drop (i + 1), a.1 ≠ T[i].1 := fun a ha e' => by
    have ha' : a ∈ T := by
      rcases List.mem_append.1 ha with h1 | h1
      · exact List.mem_of_mem_take h1
      · exact List.mem_of_mem_drop h1
    have e2 := h.ids a ha' T[i] (List.getElem_mem hi) e'
    rw [e] at hn
    rw [List.nodup_append, List.nodup_cons] at hn
    rcases List.mem_append.1 ha with h1 | h1
    · exact hn.2.2 a h1 T[i] List.mem_cons_self e2
    · exact hn.2.1.1 (e2 ▸ h1)
  have e3 : cancT T T[i].1 = cancT (T.take i ++ T[i] :: T.drop (i + 1)) T[i].1 := by rw [← e]
  rw [e3]
  unfold cancT
  rw [List.filter_append, List.filter_cons, if_neg (by simp), ← List.filter_append]
  exact (List.filter_eq_self.2 fun a ha => by rw [decide_eq_false (hall a ha)]; rfl).symm

/-- What Cancel of the reference answers. -/
def RCancEnd (Y : Nat → Prop) (w : World) (now : Nat) (cd : Int) (T' : List It) (r : Ending) (w' : World) : Prop :=
  ∃ v, r = .returned (.tuple #[v, .int .i64 cd]) ∧ RefV (fun b => Y b ∨ w.heap.size ≤ b) w' now T' v ∧ Below w.heap.size w w'

set_option maxRecDepth 100000 in
set_option maxHeartbeats 6400000 in
theorem rcanc16_any (Y : Nat → Prop) (now : Nat) (T : List It) (v : Value) (id : Nat) (w : World) (h : RefV Y w now T v) (hs : TimW T) (hl : T.length ≤ 990) (cd : Int) (hcd : cd = if hasW T id = true then 0 else 6) (T' : List It) (hT' : T' = cancT T id) :
    Calls Try.prog 27 #[v, .int .u64 (id : Int)] w (RCancEnd Y w now cd T') := by
  obtain ⟨p, c, rfl, hR⟩ := h
  obtain ⟨n, hn⟩ : ∃ n, n = T.length := ⟨_, rfl⟩
  rw [← hn] at hR ⊢
  have hbb : Below w.heap.size w ((w.alloc (.cells #[.int .u64 (now : Int), .slice p n c] 29)).alloc (.cells #[.int .u64 0, .slice none 0 0] 29)) := ((Below.refl _ _).alloc (Nat.le_refl _) _).alloc (by simp) _
  have Hcd := Lib.hid (And.intro hcd hT')
  obtain ⟨g0, g1⟩ := boxes_new w (.int .u64 (now : Int)) (.slice p n c)
  obtain ⟨W0, hW0⟩ : ∃ W0, W0 = (w.alloc (.cells #[.int .u64 (now : Int), .slice p n c] 29)).alloc (.cells #[.int .u64 0, .slice none 0 0] 29) := ⟨_, rfl⟩
  rw [← hW0] at g0 g1 hbb
  have HF := Lib.hid (rfind16_any now id p n c T W0 (hR.items.below hbb))
  obtain ⟨a0, a1, _, _⟩ := cells_of2 g0
  have HR := Lib.hid (fun W hW => hR.below (w' := W) hW)
  have HG := Lib.hid (And.intro g0 (And.intro g1 hbb))
  have HS := Lib.hid (And.intro hs (And.intro hl hn))
  have Hlt := Lib.hid (show w.heap.size + 1 < W0.heap.size from (Array.getElem?_eq_some_iff.1 g1).1)
  clear hR g0 g1 hbb hs hl hn hcd hT'
  go_enter Try.func27, Try.ntmps27
  go_upto_region 1 with fail
  rw [← hW0]
  clear hW0
  go_wp2_with fail
  refine HF.out.mono ?_
  rintro r w2 ⟨x, rfl, hx, hb2⟩
  have k0 := (hb2.block w.heap.size (by have := Hlt.out; omega)).trans HG.out.1
  have k1 := (hb2.block (w.heap.size + 1) Hlt.out).trans HG.out.2.1
  have Hbw2 := Lib.hid (HG.out.2.2.trans (hb2.mono HG.out.2.2.size))
  have Hk := Lib.hid (And.intro k0 k1)
  obtain ⟨b0, b1, b2, b3⟩ := cells_of2 k0
  obtain ⟨s0, s1, s2, s3⟩ := cells_of2 k1
  have Hx := Lib.hid hx
  clear hb2 k0 k1 a0 a1 hx
  by_cases hxp : 0 ≤ x
  · obtain ⟨i, t, hxi, hit, hid⟩ : ∃ (i : Nat) (t : It), x = (i : Int) ∧ T[i]? = some t ∧ t.1 = id := by
      rcases Hx.out with ⟨e, _⟩ | h
      · omega
      · exact h
    have Hfin := Lib.hid (show cd = 0 ∧ T' = T.take i ++ T.drop (i + 1) from by
      have h5 : hasW T id = true := hasW_iff.2 ⟨t, List.mem_of_getElem? hit, hid⟩
      rw [Hcd.out.1, Hcd.out.2, if_pos h5, cancT_at HS.out.1 hit, hid]
      exact ⟨rfl, rfl⟩)
    have hin : i < n := by rw [HS.out.2.2]; exact (List.getElem?_eq_some_iff.1 hit).1
    have hR2 := HR.out w2 Hbw2.out
    have hle := hR2.items.le
    have hmx := hR2.items.max
    obtain ⟨g, o, rfl, _⟩ := hR2.items.cell (by omega)
    have Hxi := Lib.hid hxi
    have hni : ¬ x < 0 := by omega
    clear hit hid hR2 Hx hxi hxp
    go_wp2_with fail
    obtain rfl := Hxi.out
    generalize w2 = wz at *
    have HT := Lib.hid (fun W (hW : Below wz.heap.size wz W) => items_take (HR.out W (Hbw2.out.trans (hW.mono Hbw2.out.size))).items (K := i) (by omega))
    have HO3 := Lib.hid (show OwnI (wz.alloc (.cells #[] 36)).drew wz.heap.size (.slice (some ⟨wz.heap.size, 0, none⟩) 0 0) [] from own_none wz _ (Nat.le_refl _))
    have HB3 := Lib.hid (show Below wz.heap.size wz (wz.alloc (.cells #[] 36)).drew from ((Below.refl _ _).alloc (Nat.le_refl _) _).drew)
    have HZ := Lib.hid (And.intro b1 (And.intro b3 (show w.heap.size < wz.heap.size from (Array.getElem?_eq_some_iff.1 Hk.out.1).1)))
    have HLe := Lib.hid (show ([] : List It).length + i ≤ 100000 ∧ ([] ++ T.take i).length + (n - (i + 1)) ≤ 100000 from by have h5 := HS.out.2; rw [List.nil_append, List.length_take, List.length_nil]; constructor <;> omega)
    have q1 : (wz.alloc (.cells #[] 36)).cell? ⟨w.heap.size, 1, none⟩ = _ := cell_below ((Below.refl _ _).alloc (Nat.le_refl _) _) b1
    have Hend := Lib.hid (show ∀ v6 w6, OwnI w6 wz.heap.size v6 ([] ++ T.take i ++ T.drop (i + 1)) → Below wz.heap.size wz w6 → ∃ p6 n6 c6, v6 = .slice p6 n6 c6 ∧ (w6.cell? ⟨w.heap.size, 0, none⟩ = some (.int .u64 (now : Int)) ∧ w6.cell? ⟨w.heap.size + 1, 0, none⟩ = some (.int .u64 0) ∧ w6.cell? ⟨w.heap.size + 1, 1, none⟩ = some (.slice none 0 0) ∧ w6.frozen? ⟨w.heap.size + 1, 0, none⟩ = false ∧ w6.frozen? ⟨w.heap.size + 1, 1, none⟩ = false) ∧ (w6.setCell ⟨w.heap.size, 1, none⟩ (.slice p6 n6 c6)).heap[w.heap.size + 1]? = some (.cells #[.int .u64 0, .slice none 0 0] 29 (0, 0)) ∧ RCancEnd Y w now cd T' (.returned (.tuple #[.agg #[.int .u64 (now : Int), .slice p6 n6 c6], .int .i64 0])) (((w6.setCell ⟨w.heap.size, 1, none⟩ (.slice p6 n6 c6)).setCell ⟨w.heap.size + 1, 0, none⟩ (.int .u64 (now : Int))).setCell ⟨w.heap.size + 1, 1, none⟩ (.slice p6 n6 c6)) from fun v6 w6 hown hb => by
      obtain ⟨N, hN⟩ : ∃ N, ([] ++ T.take i ++ T.drop (i + 1)).length = N := ⟨_, rfl⟩
      obtain ⟨p6, c6, rfl, _⟩ := OwnI.items hown hN
      have hlt1 := (Array.getElem?_eq_some_iff.1 Hk.out.2).1
      have j1 := (hb.block (w.heap.size + 1) hlt1).trans Hk.out.2
      have j0 := (hb.block w.heap.size (by omega)).trans Hk.out.1
      refine ⟨p6, N, c6, rfl, ⟨(cells_of2 j0).1, (cells_of2 j1).1, (cells_of2 j1).2.1, (cells_of2 j1).2.2.1, (cells_of2 j1).2.2.2⟩, (heap_setCell_other _ _ _ _ (by show w.heap.size + 1 ≠ w.heap.size; omega)).trans j1, ?_⟩
      have hB0 : Below w.heap.size w w6 := Hbw2.out.trans (hb.mono Hbw2.out.size)
      have hB : Below w.heap.size w (((w6.setCell ⟨w.heap.size, 1, none⟩ (.slice p6 N c6)).setCell ⟨w.heap.size + 1, 0, none⟩ (.int .u64 (now : Int))).setCell ⟨w.heap.size + 1, 1, none⟩ (.slice p6 N c6)) := ((hB0.setCell (Nat.le_refl _) _).setCell (by show w.heap.size ≤ w.heap.size + 1; omega) _).setCell (by show w.heap.size ≤ w.heap.size + 1; omega) _
      have hown2 : OwnI (((w6.setCell ⟨w.heap.size, 1, none⟩ (.slice p6 N c6)).setCell ⟨w.heap.size + 1, 0, none⟩ (.int .u64 (now : Int))).setCell ⟨w.heap.size + 1, 1, none⟩ (.slice p6 N c6)) wz.heap.size (.slice p6 N c6) ([] ++ T.take i ++ T.drop (i + 1)) := by
        refine OwnI.kept hown (fun b e => ?_)
        have h7 := (World.ownsRow.lt hown b e).1
        rw [heap_setCell_other _ _ _ _ (by show b ≠ w.heap.size + 1; omega), heap_setCell_other _ _ _ _ (by show b ≠ w.heap.size + 1; omega), heap_setCell_other _ _ _ _ (by show b ≠ w.heap.size; omega)]
      rw [List.nil_append, ← Hfin.out.2] at hown2 hN
      obtain ⟨p', c', e', hA⟩ := rowAt_own hown2 rfl
      rw [Value.slice.injEq] at e'
      obtain ⟨rfl, e', rfl⟩ := e'
      have hsz : w.heap.size ≤ wz.heap.size := Hbw2.out.size
      exact ⟨_, by rw [Hfin.out.1], ⟨p6, c6, by rw [e'], hA.mono (fun b e => .inr (Nat.le_trans hsz e))⟩, hB⟩)
    clear b0 b2 s0 s1 s2 s3
    by_cases hce : c = i + 1
    · have HDr := Lib.hid (fun W (_ : Below wz.heap.size wz W) => (show Items W (some ⟨g, o, none⟩) 0 0 (T.drop (i + 1)) from by rw [List.drop_eq_nil_of_le (by have h5 := HS.out.2.2; omega)]; exact items_zero W _ 0 (by decide)))
      have hni2 : n = i + 1 := by omega
      subst hce
      subst hni2
      have hic : (i : Int) ≤ (i : Int) + 1 := by omega
      have hz1 : (0 : Int) ≤ (i : Int) + 1 := by omega
      have HLe2 := Lib.hid (show ([] ++ T.take i).length + 0 ≤ 100000 from by have h5 := HLe.out.2; omega)
      have hwr : IntKind.i64.wrap ((i : Int) + 1) = (i : Int) + 1 := wrap_succ i (by have h5 := HS.out; omega)
      go_region_law (first
        | (refine step_app rfl (.tmp 13) (.tmp 17) rfl (base := wz.heap.size) (v := .slice (some ⟨wz.heap.size, 0, none⟩) 0 0) (l := []) (by first | rfl | (simp [Act.eval, Act.put]; done)) HO3.out (p := (some ⟨g, o, none⟩)) (m := i) (c := (i + 1)) (ms := T.take i) (by first | rfl | (simp [Act.eval, Act.put]; done)) (HT.out _ HB3.out) (fun h => by cases h) HB3.out.size HLe.out.1 ?_; intro v5 w5 hown5 hb5 hg5; have hw5 := HB3.out.trans hb5; have a5 := cell_below hw5 HZ.out.1)
        | (refine step_app rfl (.tmp 18) (.tmp 23) rfl (base := wz.heap.size) (v := v5) (l := [] ++ T.take i) (by first | rfl | (simp [Act.eval, Act.put]; done)) hown5 (p := (some ⟨g, o, none⟩)) (m := 0) (c := 0) (ms := T.drop (i + 1)) (by first | rfl | (simp [Act.eval, Act.put]; done)) (HDr.out _ hw5) (fun h => by cases h) hw5.size HLe2.out ?_; intro v6 w6 hown6 hb6 hg6; have hw6 := hw5.trans hb6; have a6 := cell_below hw6 HZ.out.1; have f6 := (World.frozen?_of_block (hw6.block w.heap.size HZ.out.2.2)).trans HZ.out.2.1; obtain ⟨p6, n6, c6, rfl, ⟨y1, y2, y3, y4, y5⟩, hh6, hE⟩ := Hend.out _ _ hown6 hw6; have HE6 := Lib.hid (And.intro hh6 hE); clear hh6 hE))
      all_goals
        go_wp2
        refine bodyPost_ret (res_ct rfl _ _ (w.heap.size + 1) _ _ _ _ rfl (put2 (w := w6.setCell ⟨w.heap.size, 1, none⟩ (.slice p6 n6 c6)) HE6.out.1) Try.underlying29 rfl (infoW _ _)) rfl ?_
        exact HE6.out.2
    · have hic : i ≤ c := by omega
      have hz1 : (0 : Int) ≤ (i : Int) + 1 := by omega
      have hz2 : (i : Int) + 1 ≤ (n : Int) := by omega
      have hwr : IntKind.i64.wrap ((i : Int) + 1) = ((i + 1 : Nat) : Int) := wrap_succ i (by have h5 := HS.out; omega)
      have HDr := Lib.hid (fun W (hW : Below wz.heap.size wz W) => (items_drop (HR.out W (Hbw2.out.trans (hW.mono Hbw2.out.size))).items (show i + 1 ≤ n by omega) : Items W (some ⟨g, o + (i + 1) * 2, none⟩) (n - (i + 1)) (c - (i + 1)) (T.drop (i + 1))))
      go_region_law (first
        | (refine step_app rfl (.tmp 13) (.tmp 17) rfl (base := wz.heap.size) (v := .slice (some ⟨wz.heap.size, 0, none⟩) 0 0) (l := []) (by first | rfl | (simp [Act.eval, Act.put]; done)) HO3.out (p := (some ⟨g, o, none⟩)) (m := i) (c := c) (ms := T.take i) (by first | rfl | (simp [Act.eval, Act.put]; done)) (HT.out _ HB3.out) (fun h => by cases h) HB3.out.size HLe.out.1 ?_; intro v5 w5 hown5 hb5 hg5; have hw5 := HB3.out.trans hb5; have a5 := cell_below hw5 HZ.out.1)
        | (refine step_app rfl (.tmp 18) (.tmp 23) rfl (base := wz.heap.size) (v := v5) (l := [] ++ T.take i) (by first | rfl | (simp [Act.eval, Act.put]; done)) hown5 (p := (some ⟨g, o + (i + 1) * 2, none⟩)) (m := (n - (i + 1))) (c := (c - (i + 1))) (ms := T.drop (i + 1)) (by first | rfl | (simp [Act.eval, Act.put]; done)) (HDr.out _ hw5) (fun h => by cases h) hw5.size HLe.out.2 ?_; intro v6 w6 hown6 hb6 hg6; have hw6 := hw5.trans hb6; have a6 := cell_below hw6 HZ.out.1; have f6 := (World.frozen?_of_block (hw6.block w.heap.size HZ.out.2.2)).trans HZ.out.2.1; obtain ⟨p6, n6, c6, rfl, ⟨y1, y2, y3, y4, y5⟩, hh6, hE⟩ := Hend.out _ _ hown6 hw6; have HE6 := Lib.hid (And.intro hh6 hE); clear hh6 hE))
      all_goals
        go_wp2
        refine bodyPost_ret (res_ct rfl _ _ (w.heap.size + 1) _ _ _ _ rfl (put2 (w := w6.setCell ⟨w.heap.size, 1, none⟩ (.slice p6 n6 c6)) HE6.out.1) Try.underlying29 rfl (infoW _ _)) rfl ?_
        exact HE6.out.2
  · have Hfin := Lib.hid (show cd = 6 ∧ T' = T from by
      have h5 : hasW T id = false := by
        cases e : hasW T id with
        | false => rfl
        | true => exact absurd (Hx.out.has.2 e) hxp
      rw [Hcd.out.1, Hcd.out.2, h5, cancT_no h5]
      exact ⟨rfl, rfl⟩)
    have hxn : x < 0 := by omega
    clear Hx
    go_wp2
    refine bodyPost_ret (res_ct rfl _ _ (w.heap.size + 1) _ _ _ _ rfl (put2 (w := w2) Hk.out.2) Try.underlying29 rfl (infoW _ _)) rfl ?_
    have hB : Below w.heap.size w ((w2.setCell ⟨w.heap.size + 1, 0, none⟩ (.int .u64 (now : Int))).setCell ⟨w.heap.size + 1, 1, none⟩ (.slice p n c)) := (Hbw2.out.setCell (by show w.heap.size ≤ w.heap.size + 1; omega) _).setCell (by show w.heap.size ≤ w.heap.size + 1; omega) _
    rw [Hfin.out.1, Hfin.out.2]
    exact ⟨_, rfl, ⟨p, c, by rw [← HS.out.2.2], by rw [← HS.out.2.2]; exact (HR.out _ hB).mono (fun b e => .inl e)⟩, hB⟩
end Go.Proofs.Ythidinaflaogfaa
namespace Go.Proofs.Ythidinaflaogfaa
open Go.RowKit

theorem take_due {T : List It} (hs : srtI T) {now' k : Nat} (h1 : ∀ i t, i < k → T[i]? = some t → t.2 ≤ now') (h2 : ∀ t, T[k]? = some t → now' < t.2) : T.filter (fun t => decide (t.2 ≤ now')) = T.take k ∧ T.filter (fun t => decide (now' < t.2)) = T.drop k := by
  have ha : ∀ t ∈ T.take k, t.2 ≤ now' := fun t ht => by
    obtain ⟨i, hi⟩ := List.mem_iff_getElem?.1 ht
    rw [List.getElem?_take] at hi
    split at hi
    · rename_i h; exact h1 i t h hi
    · cases hi
  have hb : ∀ t ∈ T.drop k, now' < t.2 := fun t ht => by
    have hsd : srtI (T.drop k) := hs.sublist (List.drop_sublist _ _)
    cases hd : T.drop k with
    | nil => rw [hd] at ht; cases ht
    | cons a R =>
      have hak : T[k]? = some a := by
        have : (T.drop k)[0]? = some a := by rw [hd]; rfl
        rwa [List.getElem?_drop, Nat.add_zero] at this
      have h3 := h2 a hak
      rw [hd] at ht hsd
      rcases List.mem_cons.1 ht with rfl | h4
      · exact h3
      · have := (List.pairwise_cons.1 hsd).1 t h4
        rw [ltI_iff] at this
        omega
  have e : T = T.take k ++ T.drop k := (List.take_append_drop _ _).symm
  constructor
  · rw [congrArg (List.filter _) e, List.filter_append, List.filter_eq_self.2 (fun t ht => decide_eq_true (ha t ht)), List.filter_eq_nil_iff.2 (fun t ht => by have := hb t ht; simp; omega), List.append_nil]
  · rw [congrArg (List.filter _) e, List.filter_append, List.filter_eq_nil_iff.2 (fun t ht => by have := ha t ht; simp; omega), List.filter_eq_self.2 (fun t ht => decide_eq_true (hb t ht)), List.nil_append]

/-- What Advance of the reference answers. -/
def RAdvEnd (Y : Nat → Prop) (w : World) (nw : Nat) (T' D : List It) (cd : Int) (r : Ending) (w' : World) : Prop :=
  ∃ v pp cc, r = .returned (.tuple #[v, .slice pp D.length cc, .int .i64 cd]) ∧ RefV (fun b => Y b ∨ w.heap.size ≤ b) w' nw T' v ∧ RowAt Y w' pp D.length cc D ∧ Below w.heap.size w w'

set_option maxRecDepth 100000 in
set_option maxHeartbeats 6400000 in
theorem radv16_any (Y : Nat → Prop) (now : Nat) (T : List It) (v : Value) (now' : Nat) (w : World) (h : RefV Y w now T v) (hs : srtI T) (hl : T.length ≤ 990) (_ : now' < 18446744073709551616) (nw : Nat) (hnw : nw = advN now now') (T' : List It) (hT' : T' = advT now now' T) (D : List It) (hD : D = advD now now' T) (cd : Int) (hcd : cd = advC now now') :
    Calls Try.prog 19 #[v, .int .u64 (now' : Int)] w (RAdvEnd Y w nw T' D cd) := by
  obtain ⟨p, c, rfl, hR⟩ := h
  obtain ⟨n, hn⟩ : ∃ n, n = T.length := ⟨_, rfl⟩
  rw [← hn] at hR ⊢
  have hle := hR.items.le
  have hmx := hR.items.max
  have hbb : Below w.heap.size w ((w.alloc (.cells #[.int .u64 (now : Int), .slice p n c] 29)).alloc (.cells #[.int .u64 0, .slice none 0 0] 29)) := ((Below.refl _ _).alloc (Nat.le_refl _) _).alloc (by simp) _
  have Href := Lib.hid (show ∀ c0, c0 ≠ 0 → advC now now' = c0 → ∀ W, Below w.heap.size w W → RAdvEnd Y w nw T' D cd (.returned (.tuple #[.agg #[.int .u64 (now : Int), .slice p n c], .slice none 0 0, .int .i64 c0])) W from fun c0 hc0 hc W hW => by
    have hne : advC now now' ≠ 0 := by rw [hc]; exact hc0
    have e1 : D = [] := by rw [hD]; exact if_neg hne
    have e2 : T' = T := by rw [hT']; exact if_neg hne
    have e3 : nw = now := by rw [hnw]; exact if_neg hne
    rw [e1, e2, e3, hcd, hc]
    exact ⟨_, none, 0, rfl, ⟨p, c, by rw [hn], by rw [← hn]; exact (hR.below hW).mono (fun b e => .inl e)⟩, rowAt_nil _ _, hW⟩)
  by_cases hbig : 9223372036854775807 < now'
  · have hb : (9223372036854775807 : Int) < (now' : Int) := by omega
    have Hf := Lib.hid (Href.out 2 (by decide) (if_pos hbig))
    clear hR hbig hbb hn hs hnw hT' hD hcd
    go_enter Try.func19, Try.ntmps19
    go_wp2
    refine bodyPost_ret (res_ctt rfl _ _ (w.heap.size + 1) _ _ _ _ rfl (heap_alloc2_new _ _ _) Try.underlying29 rfl (infoW _ _)) rfl ?_
    exact Hf.out _ (((Below.refl _ _).alloc (Nat.le_refl _) _).alloc (by simp) _)
  · by_cases hlt : now' < now
    · have hb : ¬ (9223372036854775807 : Int) < (now' : Int) := by omega
      have hb2 : (now' : Int) < (now : Int) := by omega
      have Hf := Lib.hid (Href.out 12 (by decide) (by unfold advC; rw [if_neg hbig, if_pos hlt]))
      obtain ⟨k0, k1⟩ := boxes_new w (.int .u64 (now : Int)) (.slice p n c)
      obtain ⟨a0, a1, _, _⟩ := cells_of2 k0
      clear hR hbig hlt hbb hn hs hnw hT' hD hcd k0 k1
      go_enter Try.func19, Try.ntmps19
      go_wp2
      refine bodyPost_ret (res_ctt rfl _ _ (w.heap.size + 1) _ _ _ _ rfl (heap_alloc2_new _ _ _) Try.underlying29 rfl (infoW _ _)) rfl ?_
      exact Hf.out _ (((Below.refl _ _).alloc (Nat.le_refl _) _).alloc (by simp) _)
    · have hb : ¬ (9223372036854775807 : Int) < (now' : Int) := by omega
      have hb2 : ¬ (now' : Int) < (now : Int) := by omega
      have hc0 : advC now now' = 0 := by unfold advC; rw [if_neg hbig, if_neg hlt]
      have Heq := Lib.hid (show nw = now' ∧ T' = T.filter (fun t => decide (now' < t.2)) ∧ D = T.filter (fun t => decide (t.2 ≤ now')) ∧ cd = 0 from ⟨by rw [hnw]; exact if_pos hc0, by rw [hT']; exact if_pos hc0, by rw [hD]; exact if_pos hc0, by rw [hcd, hc0]⟩)
      obtain ⟨g0, g1⟩ := boxes_new w (.int .u64 (now : Int)) (.slice p n c)
      obtain ⟨W0, hW0⟩ : ∃ W0, W0 = (w.alloc (.cells #[.int .u64 (now : Int), .slice p n c] 29)).alloc (.cells #[.int .u64 0, .slice none 0 0] 29) := ⟨_, rfl⟩
      rw [← hW0] at g0 g1 hbb
      obtain ⟨a0, a1, _, _⟩ := cells_of2 g0
      have HR := Lib.hid (fun W hW => hR.below (w' := W) hW)
      have HG := Lib.hid (And.intro g0 (And.intro g1 hbb))
      have HS := Lib.hid (And.intro hs (And.intro hl hn))
      have HI := Lib.hid (hR.items.below hbb)
      clear hR hbig hlt hc0 hbb hs hl hn hnw hT' hD hcd g0 g1
      go_enter Try.func19, Try.ntmps19
      go_upto_region 1 with fail
      rw [← hW0]
      clear hW0
      go_wp2_with fail
      go_loopw [7] (fun i wr => ∃ j : Nat, j ≤ n ∧ i = .int .i64 (j : Int) ∧ RowKit.Hid (∀ k t, k < j → T[k]? = some t → t.2 ≤ now') ∧ wr = W0) (fun i _ => n - (intOf i).toNat)
      case atStart => exact ⟨0, Nat.zero_le _, rfl, Lib.hid (fun k t hk => absurd hk (by omega)), rfl⟩
      case round =>
        obtain ⟨k, hk, rfl, Hdue, rfl⟩ := hrel
        have hout : (∃ t, T[k]? = some t ∧ t.2 ≤ now') ∨ (∀ t, T[k]? = some t → now' < t.2) := by
          cases e : T[k]? with
          | none => exact .inr (fun t h => by cases h)
          | some t =>
            rcases Nat.lt_or_ge now' t.2 with h | h
            · exact .inr (fun u hu => by cases hu; exact h)
            · exact .inl ⟨t, rfl, h⟩
        rcases hout with ⟨t, ht, hle'⟩ | hend
        · have hkn : k < n := by rw [HS.out.2.2]; exact (List.getElem?_eq_some_iff.1 ht).1
          have hki : (k : Int) < (n : Int) := by omega
          obtain ⟨b, o, rfl, hcc⟩ := HI.out.cell (by omega)
          obtain ⟨_, c1⟩ := hcc k t ht
          have Hd2 := Lib.hid (show ∀ i u, i < k + 1 → T[i]? = some u → u.2 ≤ now' from fun i u hi hu => by
            rcases Nat.lt_or_eq_of_le (Nat.le_of_lt_succ hi) with h | rfl
            · exact Hdue.out i u h hu
            · rw [ht] at hu; cases hu; exact hle')
          obtain ⟨t1, t2⟩ := t
          change wr.cell? _ = some (.int .u64 (t2 : Int)) at c1
          have hti : (t2 : Int) ≤ (now' : Int) := by change t2 ≤ now' at hle'; omega
          clear hcc ht hle'
          go_wp2
          go_roundw
          case rel => exact ⟨k + 1, by omega, by go_num, Hd2, trivial⟩
          case measure => simp [intOf]; omega
        · have Hparts := Lib.hid (take_due HS.out.1 Hdue.out hend)
          have hkc : k ≤ c := by omega
          have hk0 : (0 : Int) ≤ (k : Int) := by omega
          have hkni : (k : Int) ≤ (n : Int) := by omega
          have HO3 := Lib.hid (show OwnI (wr.alloc (.cells #[] 36)) wr.heap.size (.slice (some ⟨wr.heap.size, 0, none⟩) 0 0) [] from own_none wr _ (Nat.le_refl _))
          have HB3 := Lib.hid (show Below wr.heap.size wr (wr.alloc (.cells #[] 36)) from (Below.refl _ _).alloc (Nat.le_refl _) _)
          have hguard : (n = k) ∨ (∃ b o t1 t2, p = some ⟨b, o, none⟩ ∧ k < n ∧ wr.cell? ⟨b, o + k * 2 + 1, none⟩ = some (.int .u64 ((t2 : Nat) : Int)) ∧ now' < t2 ∧ T[k]? = some (t1, t2)) := by
            rcases Nat.lt_or_ge k n with h | h
            · obtain ⟨b, o, e, hcc⟩ := HI.out.cell (by omega)
              obtain ⟨t, ht⟩ : ∃ t, T[k]? = some t := ⟨_, List.getElem?_eq_getElem (by rw [← HS.out.2.2]; exact h)⟩
              exact .inr ⟨b, o, t.1, t.2, e, h, (hcc k t ht).2, hend t ht, ht⟩
            · exact .inl (by omega)
          have Hguard := Lib.hid hguard
          have HLe := Lib.hid (show ([] : List It).length + (n - k) ≤ 100000 from by have h5 := HS.out.2; rw [List.length_nil]; omega)
          have q1 : (wr.alloc (.cells #[] 36)).cell? ⟨w.heap.size, 1, none⟩ = some (.slice p n c) := cell_below ((Below.refl _ _).alloc (Nat.le_refl _) _) a1
          have Hend := Lib.hid (show ∀ v6 w6, OwnI w6 wr.heap.size v6 ([] ++ T.drop k) → (wr.alloc (.cells #[] 36)).grownBy w6 (Value.slice (some ⟨wr.heap.size, 0, none⟩) 0 0).ownBlock →
              ∃ p6 n6 c6, v6 = .slice p6 n6 c6 ∧ (w6.cell? ⟨w.heap.size + 1, 0, none⟩ = some (.int .u64 0) ∧ w6.cell? ⟨w.heap.size + 1, 1, none⟩ = some (.slice none 0 0) ∧ w6.frozen? ⟨w.heap.size + 1, 0, none⟩ = false ∧ w6.frozen? ⟨w.heap.size + 1, 1, none⟩ = false) ∧ w6.heap[w.heap.size + 1]? = some (.cells #[.int .u64 0, .slice none 0 0] 29 (0, 0)) ∧
              ∀ pp cc, (∀ W, Below w.heap.size w W → RowAt Y W pp k cc (T.take k)) → RAdvEnd Y w nw T' D cd (.returned (.tuple #[.agg #[.int .u64 (now' : Int), .slice p6 n6 c6], .slice pp k cc, .int .i64 0])) ((w6.setCell ⟨w.heap.size + 1, 0, none⟩ (.int .u64 (now' : Int))).setCell ⟨w.heap.size + 1, 1, none⟩ (.slice p6 n6 c6)) from fun v6 w6 hown hg => by
            rw [List.nil_append] at hown
            obtain ⟨N, hN⟩ : ∃ N, (T.drop k).length = N := ⟨_, rfl⟩
            obtain ⟨p6, c6, rfl, _⟩ := OwnI.items hown hN
            have hlt0 := (Array.getElem?_eq_some_iff.1 HG.out.2.1).1
            have hbW : Below wr.heap.size wr w6 := (HB3.out).trans ⟨hg.os, hg.tape, hg.output, hg.size, fun b hb => hg.block b (by simp; omega) (fun e => by have e5 : b = wr.heap.size := Option.some.inj e; omega)⟩
            have hB0 : Below w.heap.size w w6 := HG.out.2.2.trans (hbW.mono HG.out.2.2.size)
            have j1 := (hbW.block (w.heap.size + 1) hlt0).trans HG.out.2.1
            refine ⟨p6, N, c6, rfl, ⟨(cells_of2 j1).1, (cells_of2 j1).2.1, (cells_of2 j1).2.2.1, (cells_of2 j1).2.2.2⟩, j1, fun pp cc hrow => ?_⟩
            have hB : Below w.heap.size w ((w6.setCell ⟨w.heap.size + 1, 0, none⟩ (.int .u64 (now' : Int))).setCell ⟨w.heap.size + 1, 1, none⟩ (.slice p6 N c6)) := (hB0.setCell (by show w.heap.size ≤ w.heap.size + 1; omega) _).setCell (by show w.heap.size ≤ w.heap.size + 1; omega) _
            have hown2 : OwnI ((w6.setCell ⟨w.heap.size + 1, 0, none⟩ (.int .u64 (now' : Int))).setCell ⟨w.heap.size + 1, 1, none⟩ (.slice p6 N c6)) wr.heap.size (.slice p6 N c6) (T.drop k) := by
              refine OwnI.kept hown (fun b e => ?_)
              have h7 := (World.ownsRow.lt hown b e).1
              rw [heap_setCell_other _ _ _ _ (by show b ≠ w.heap.size + 1; omega), heap_setCell_other _ _ _ _ (by show b ≠ w.heap.size + 1; omega)]
            have hD : D = T.take k := Heq.out.2.2.1.trans Hparts.out.1
            have hT : T' = T.drop k := Heq.out.2.1.trans Hparts.out.2
            have hDl : D.length = k := by rw [hD, List.length_take, ← HS.out.2.2]; omega
            obtain ⟨p', c', e', hA⟩ := rowAt_own hown2 rfl
            rw [Value.slice.injEq] at e'
            obtain ⟨rfl, e', rfl⟩ := e'
            have hsz : w.heap.size ≤ wr.heap.size := HG.out.2.2.size
            exact ⟨_, pp, cc, by rw [hDl, Heq.out.2.2.2], ⟨p6, c6, by rw [Heq.out.1, e', hT], by rw [hT]; exact hA.mono (fun b e => .inr (Nat.le_trans hsz e))⟩, by rw [hDl, hD]; exact hrow _ hB, hB⟩)
          have HR2 := Lib.hid (HR.out wr HG.out.2.2)
          have Hk := Lib.hid hk
          clear hguard hend Hdue
          cases p with
          | none =>
            have hc0 : c = 0 := HR2.out.zero rfl
            subst hc0
            obtain rfl : n = 0 := by omega
            obtain rfl : k = 0 := by omega
            have HDr := Lib.hid (show Items (wr.alloc (.cells #[] 36)) none 0 0 (T.drop 0) from by rw [List.drop_eq_nil_of_le (by have h5 := HS.out.2.2; omega)]; exact items_zero _ _ 0 (by decide))
            go_wp2_with (at_builtin; refine wpl_app2 rfl _ _ rfl (by first | rfl | go_simp) HO3.out (p := none) (m := 0) (c := 0) (ms := T.drop 0) (by first | rfl | go_simp) HDr.out HB3.out.size HLe.out ?_; intro v6 w6 hown6 hg6 ho6; obtain ⟨p6, n6, c6, rfl, ⟨y1, y2, y3, y4⟩, hh6, hE⟩ := Hend.out _ _ hown6 hg6; have HE6 := Lib.hid (And.intro hh6 hE); clear hh6 hE hown6 hg6 ho6)
            refine bodyPost_ret (res_ctt rfl _ _ (w.heap.size + 1) _ _ _ _ rfl (put2 (w := w6) HE6.out.1) Try.underlying29 rfl (infoW _ _)) rfl ?_
            exact HE6.out.2 _ 0 (fun W hW => by have h5 := HS.out.2.2; rw [List.take_zero]; exact rowAt_nil _ _)
          | some ad =>
            obtain ⟨b, o, rfl⟩ := HR2.out.form ad rfl
            have HTk := Lib.hid (show ∀ W, Below w.heap.size w W → RowAt Y W (some ⟨b, o, none⟩) k c (T.take k) from fun W hW => by
              have h5 := HR.out W hW
              exact ⟨items_take h5.items Hk.out, h5.zero, h5.form, h5.mem⟩)
            by_cases hce : c = k
            · obtain rfl : n = k := by omega
              have HDr := Lib.hid (show Items (wr.alloc (.cells #[] 36)) (some ⟨b, o, none⟩) 0 0 (T.drop n) from by rw [List.drop_eq_nil_of_le (by have h5 := HS.out.2.2; omega)]; exact items_zero _ _ 0 (by decide))
              have hkn2 : ¬ (n : Int) < (n : Int) := by omega
              subst hce
              have hnil : T.drop c = [] := List.drop_eq_nil_of_le (by have h5 := HS.out.2.2; omega)
              obtain ⟨p6, n6, c6, e6, ⟨y1, y2, y3, y4⟩, hh6, hE⟩ := Hend.out (.slice (some ⟨wr.heap.size, 0, none⟩) 0 0) (wr.alloc (.cells #[] 36)) (by rw [hnil]; exact HO3.out) ⟨rfl, rfl, rfl, Nat.le_refl _, fun _ _ _ => rfl⟩
              rw [Value.slice.injEq] at e6
              obtain ⟨rfl, rfl, rfl⟩ := e6
              have HE6 := Lib.hid (And.intro hh6 hE)
              clear hh6 hE hnil HDr
              go_wp2
              refine bodyPost_ret (res_ctt rfl _ _ (w.heap.size + 1) _ _ _ _ rfl (put2 HE6.out.1) Try.underlying29 rfl (infoW _ _)) rfl ?_
              exact HE6.out.2 _ _ (fun W hW => HTk.out W hW)
            · have HDr := Lib.hid (items_drop (HR2.out.below ((Below.refl _ _).alloc (Nat.le_refl _) _)).items Hk.out : Items (wr.alloc (.cells #[] 36)) (some ⟨b, o + k * 2, none⟩) (n - k) (c - k) (T.drop k))
              rcases Hguard.out with hkn | ⟨b2, o2, t1, t2, e2, hkn, hc2, hgt, _⟩
              · have hkn2 : ¬ (k : Int) < (n : Int) := by omega
                go_wp2_with (at_builtin; refine wpl_app2 rfl _ _ rfl (by first | rfl | go_simp) HO3.out (p := (some ⟨b, o + k * 2, none⟩)) (m := (n - k)) (c := (c - k)) (ms := T.drop k) (by first | rfl | go_simp) HDr.out HB3.out.size HLe.out ?_; intro v6 w6 hown6 hg6 ho6; obtain ⟨p6, n6, c6, rfl, ⟨y1, y2, y3, y4⟩, hh6, hE⟩ := Hend.out _ _ hown6 hg6; have HE6 := Lib.hid (And.intro hh6 hE); clear hh6 hE hown6 hg6 ho6)
                refine bodyPost_ret (res_ctt rfl _ _ (w.heap.size + 1) _ _ _ _ rfl (put2 (w := w6) HE6.out.1) Try.underlying29 rfl (infoW _ _)) rfl ?_
                exact HE6.out.2 _ _ (fun W hW => HTk.out W hW)

              · cases e2
                have hkn2 : (k : Int) < (n : Int) := by omega
                have hgt2 : ¬ (t2 : Int) ≤ (now' : Int) := by omega
                go_wp2_with (at_builtin; refine wpl_app2 rfl _ _ rfl (by first | rfl | go_simp) HO3.out (p := (some ⟨b, o + k * 2, none⟩)) (m := (n - k)) (c := (c - k)) (ms := T.drop k) (by first | rfl | go_simp) HDr.out HB3.out.size HLe.out ?_; intro v6 w6 hown6 hg6 ho6; obtain ⟨p6, n6, c6, rfl, ⟨y1, y2, y3, y4⟩, hh6, hE⟩ := Hend.out _ _ hown6 hg6; have HE6 := Lib.hid (And.intro hh6 hE); clear hh6 hE hown6 hg6 ho6)
                refine bodyPost_ret (res_ctt rfl _ _ (w.heap.size + 1) _ _ _ _ rfl (put2 (w := w6) HE6.out.1) Try.underlying29 rfl (infoW _ _)) rfl ?_
                exact HE6.out.2 _ _ (fun W hW => HTk.out W hW)

end Go.Proofs.Ythidinaflaogfaa
