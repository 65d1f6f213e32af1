import Derived.Test.YtcapbaocchaenaaGreatDoorSG28
import Derived.Test.YtcapbaocchaenaaGreatDoorSG29
import Derived.Test.YtcapbaocchaenaaGreatDoorSG1
import Derived.Lib.AppendZeros
import Derived.Test.YtcapbaocchaenaaGreatDoorSG14
import Derived.Deep.RegionHeld
import Derived.Test.YtcapbaocchaenaaGreatDoorSG25
/- The walk of the code's formOf. -/
namespace Go.Proofs.YtcapbaocchaenaaGreatDoor
open Go.RowKit Go.Shelf Fl

/-- What formOf returns for a valid event. -/
def FormEnd (w : World) (e : Ev) (r : Ending) (w' : World) : Prop := ∃ p n cap, r = .returned (.slice p n cap) ∧ Bytes w' p n cap (formE e) ∧ Below w.heap.size w w'

set_option maxRecDepth 100000 in
theorem formof_any (e : Ev) (x : Array Value) (w : World) (hf : fewE e = true) (hok : okE e = true) (h : EvIn w e x) :
    Calls Tryz.prog 24 #[.agg x] w (FormEnd w e) := by
  have HV := Lib.hid (fun W (hW : Below w.heap.size w W) => evbytes_few e x W hf (h.below hW))
  have Hby := Lib.hid (formE_byte h)
  have Hok := Lib.hid hok
  obtain ⟨_, _, _, _, _, _, a, cap, hx, _⟩ := id h
  have Hal := Lib.hid ((Below.refl w.heap.size w).alloc (Nat.le_refl _) (.cells (evC e.k e.id e.n e.t e.nm e.tx e.v.kind e.v.n e.v.f e.v.s a e.v.l.length cap) 45))
  subst hx
  clear h hf hok
  go_enter Tryz.func24, Tryz.ntmps24
  go_wp2_with fail
  refine (HV.out _ Hal.out).mono ?_
  intro r w1 hr
  obtain ⟨p, n, cap', L, rfl, hB, hb, hL⟩ := ebytes_slice hr Hby.out
  obtain rfl := hL Hok.out
  have Hb := Lib.hid (Hal.out.trans (hb.mono Hal.out.size))
  have HB := Lib.hid hB
  clear hb hB hL hr
  go_wp2
  go_ret
  exact ⟨p, n, cap', rfl, HB.out, Hb.out⟩
end Go.Proofs.YtcapbaocchaenaaGreatDoor

/- The walk of the code's mapped with formOf: the forms of valid events. -/
namespace Go.Proofs.YtcapbaocchaenaaGreatDoor
open Go.RowKit Go.Shelf Fl

theorem info_u8s : (Tryz.prog.info? 28).map (fun i => (i.zero, i.size, i.bytes)) = some (some (.slice none 0 0), 1, 24) := by kernel_rfl

/-- A slice. -/
def IsSl (y : Value) : Prop := ∃ p m c, y = .slice p m c

/-- The first j cells of a row of slices hold the forms of the first j events. -/
def FormRow (w : World) (M : Nat) (es : List Ev) (n j : Nat) : Prop := ∃ x, w.heap[M]? = some (.cells x 28 (0, 0)) ∧ x.size = n ∧ (∀ (i : Nat) (y : Value), x[i]? = some y → IsSl y) ∧
  ∀ (k : Nat) (e : Ev), k < j → es[k]? = some e → ∃ p m c, x[k]? = some (.slice p m c) ∧ Bytes w p m c (formE e)

theorem bytes_set {w : World} {M i : Nat} {x : Array Value} {t : TypeId} {p : Option Addr} {m c : Nat} {L : List Nat} (hM : w.heap[M]? = some (.cells x t (0, 0))) (hx : ∀ (i : Nat) (y : Value), x[i]? = some y → IsSl y) (h : Bytes w p m c L) (v : Value) :
    Bytes (w.setCell ⟨M, i, none⟩ v) p m c L := by
  refine ⟨h.len, h.le, h.capmax, h.byte, h.nil, fun hm => ?_⟩
  obtain ⟨b, o, e, hc⟩ := h.cell hm
  refine ⟨b, o, e, fun k hk => ?_⟩
  have h1 := hc k hk
  by_cases hb : M = b
  · subst hb
    rw [cell_of_row _ _ _ _ _ _ hM] at h1
    obtain ⟨_, _, _, h2⟩ := hx _ _ h1
    cases h2
  · rw [World.cell?_setCell_far _ _ _ _ hb]
    exact h1

theorem FormRow.below {w w' : World} {M : Nat} {es : List Ev} {n j : Nat} (h : FormRow w M es n j) (hb : Below w.heap.size w w') : FormRow w' M es n j := by
  obtain ⟨x, h1, h2, h3, h4⟩ := h
  refine ⟨x, (hb.block _ (Array.getElem?_eq_some_iff.1 h1).1).trans h1, h2, h3, fun k e hk he => ?_⟩
  obtain ⟨p, m, c, g1, g2⟩ := h4 k e hk he
  exact ⟨p, m, c, g1, g2.grow hb⟩

theorem FormRow.set {w : World} {M : Nat} {es : List Ev} {n j : Nat} (h : FormRow w M es n j) {e : Ev} (he : es[j]? = some e) (hj : j < n) {p : Option Addr} {m c : Nat} (hB : Bytes w p m c (formE e)) :
    FormRow (w.setCell ⟨M, j, none⟩ (.slice p m c)) M es n (j + 1) := by
  obtain ⟨x, h1, h2, h3, h4⟩ := h
  refine ⟨x.setIfInBounds j (.slice p m c), Joins.block_setCell h1 _, by rw [Array.size_setIfInBounds, h2], fun i y hy => ?_, fun k e' hk he' => ?_⟩
  · rw [Array.getElem?_setIfInBounds] at hy
    split at hy
    · split at hy
      · cases hy
        exact ⟨_, _, _, rfl⟩
      · cases hy
    · exact h3 i y hy
  · by_cases hkj : k = j
    · subst hkj
      rw [he] at he'
      cases he'
      exact ⟨p, m, c, by rw [Array.getElem?_setIfInBounds, if_pos rfl, if_pos (by omega)], bytes_set h1 h3 hB _⟩
    · obtain ⟨p', m', c', g1, g2⟩ := h4 k e' (by omega) he'
      exact ⟨p', m', c', by rw [Array.getElem?_setIfInBounds, if_neg (fun h => hkj h.symm)]; exact g1, bytes_set h1 h3 g2 _⟩

theorem formRow_zero (w : World) (es : List Ev) (n : Nat) : FormRow (w.alloc (.cells (madeCells #[Value.slice none 0 0] n) 28)) w.heap.size es n 0 :=
  ⟨_, heap_alloc_new w _, size_madeCells _ _, fun i y hy => by
    obtain ⟨hi, rfl⟩ := Array.getElem?_eq_some_iff.1 hy
    exact ⟨none, 0, 0, by simp [madeCells, Nat.mod_one]⟩, fun k _ hk => absurd hk (by omega)⟩

/-- What mapped returns. -/
def MapEnd (w : World) (es : List Ev) (r : Ending) (w' : World) : Prop := ∃ a n c, r = .returned (.slice a n c) ∧ Parts w' a n c (es.map formE) ∧ Below w.heap.size w w'

set_option maxRecDepth 100000 in
set_option maxHeartbeats 3200000 in
theorem mapform_any (a : Option Addr) (n c : Nat) (es : List Ev) (w : World) (hn : n ≤ 1048576) (hf : es.all fewE = true) (hok : es.all okE = true) (h : Evs w a n c es) :
    Calls Tryz.prog 23 #[.slice a n c, fnV 24] w (MapEnd w es) := by
  have hlen := h.len
  have hcm := h.max
  have hle := h.le
  have H := Lib.hid h
  have HF := Lib.hid hf
  have HO := Lib.hid hok
  have hent := fun W args => enters_of Tryz.func24 (by kernel_rfl) rfl args W
  have hsf := fun (W : World) (A : Addr) (f : Nat) (m : Mode) => (run_store Tryz.prog W A (.float .f64 f) m rfl)
  have hmk := run_make_row' (P := Tryz.prog) 49 28 (.slice none 0 0) 24 Tryz.underlying49 info_u8s rfl .i64 .i64 n (by omega) (by omega)
  have H0 := Lib.hid (formRow_zero w es n)
  have Hb0 := Lib.hid ((Below.refl w.heap.size w).alloc (Nat.le_refl _) (.cells (madeCells #[Value.slice none 0 0] n) 28))
  have Hq := Lib.hid (show w.heap.size < (w.alloc (.cells (madeCells #[Value.slice none 0 0] n) 28)).heap.size from by simp)
  clear h hf hok
  go_enter Tryz.func23, Tryz.ntmps23
  go_wp2_with fail
  generalize w.alloc (.cells (madeCells #[Value.slice none 0 0] n) 28) = w1 at *
  go_loopw [13] (fun i wr => ∃ j : Nat, j ≤ n ∧ i = .int .i64 (j : Int) ∧ FormRow wr w.heap.size es n j ∧ Below w.heap.size w wr) (fun i _ => n - (intOf i).toNat)
  case atStart => exact ⟨0, Nat.zero_le _, rfl, H0.out, Hb0.out⟩
  case round =>
    obtain ⟨j, hj, rfl, hrow, hb⟩ := hrel
    have Hrow := Lib.hid hrow
    have Hb := Lib.hid hb
    clear hrow hb
    by_cases hlt : j < n
    · have hl1 : j < es.length := by omega
      obtain ⟨b, o, rfl, hc⟩ := H.out.cell (by omega)
      obtain ⟨p, cap, hI, ⟨g0, g1, g2, g3, g4, g5⟩, g6, g7, g8, g9, g10⟩ := ((hc j hl1).below Hb.out).all
      have HC := Lib.hid (fun W hb1 => formof_any es[j] _ W (List.all_eq_true.1 HF.out _ (List.getElem_mem hl1)) (List.all_eq_true.1 HO.out _ (List.getElem_mem hl1)) (hI.below (w' := W) hb1))
      have Hje := Lib.hid (List.getElem?_eq_getElem hl1)
      have hji : (j : Int) < (n : Int) := by omega
      have Hlt := Lib.hid hlt
      generalize es[j] = e at *
      have Hal := Lib.hid ((Below.refl wr.heap.size wr).alloc (Nat.le_refl _) (.cells (evC e.k e.id e.n e.t e.nm e.tx e.v.kind e.v.n e.v.f e.v.s p e.v.l.length cap) 45))
      clear hc hI hlt hl1
      go_wp2_with fail
      refine (HC.out _ Hal.out).mono ?_
      rintro r w2 ⟨q, m, c2, rfl, hB, hb2⟩
      have hrow2 := Hrow.out.below (Hal.out.trans (hb2.mono Hal.out.size))
      have Hb2 := Lib.hid (Hb.out.trans ((Hal.out.trans (hb2.mono Hal.out.size)).mono Hb.out.size))
      have Hset := Lib.hid (hrow2.set Hje.out Hlt.out hB)
      obtain ⟨x, hx, hxs, hxi, _⟩ := hrow2
      obtain ⟨y, hy⟩ : ∃ y, w2.cell? ⟨w.heap.size, j, none⟩ = some y := by
        rw [cell_of_row _ _ _ _ _ _ hx]
        exact ⟨_, Array.getElem?_eq_getElem (by rw [hxs]; exact Hlt.out)⟩
      have hfr : w2.frozen? ⟨w.heap.size, j, none⟩ = false := by simp [World.frozen?, hx]
      clear hb2 hB hx hxs hxi g0 g1 g2 g3 g4 g5 g6 g7 g8 g9 g10 HC
      go_wp2
      go_roundw
      case rel => exact ⟨j + 1, Hlt.out, by go_num, Hset.out, Hb2.out.setCell (Nat.le_refl _) _⟩
      case measure => simp [intOf]; have := Hlt.out; omega
    · have hjn : j = n := by omega
      have hji : ¬ ((j : Int) < (n : Int)) := by omega
      have Hlen := Lib.hid hlen
      clear hlt
      go_wp2
      go_ret
      refine ⟨_, _, _, rfl, ⟨by rw [List.length_map]; exact Hlen.out, Nat.le_refl _, by omega, fun h0 => ?_⟩, Hb.out⟩
      obtain ⟨x, hx, hxs, _, hxk⟩ := Hrow.out
      refine ⟨_, _, rfl, (Array.getElem?_eq_some_iff.1 hx).1, fun i hi => ?_⟩
      have hil : i < es.length := by have := Hlen.out; omega
      obtain ⟨p, m, c2, g1, g2⟩ := hxk i es[i] (by omega) (List.getElem?_eq_getElem hil)
      refine ⟨p, m, c2, by rw [cell_of_row _ _ _ _ _ _ hx, Nat.zero_add]; exact g1, ?_⟩
      rw [List.getD_eq_getElem?_getD, List.getElem?_map, List.getElem?_eq_getElem hil]
      exact g2
end Go.Proofs.YtcapbaocchaenaaGreatDoor

/- Parts of byte slices: 's[k:]' and 's[:k]' as one equation each, whatever the capacity is. -/
namespace Go.Proofs.YtcapbaocchaenaaGreatDoor
open Go.RowKit

/-- The address of a slice that has room. -/
def Formed (a : Option Addr) (c : Nat) : Prop := 0 < c → ∃ b o, a = some ⟨b, o, none⟩

end Go.Proofs.YtcapbaocchaenaaGreatDoor

/- The walks of slices.Grow of no slice and of slices.Concat, of bytes. -/
namespace Go.Proofs.YtcapbaocchaenaaGreatDoor
open Go.RowKit

theorem flat_one {ls : List (List Nat)} {k : Nat} (hk : k < ls.length) : (ls.take (k + 1)).flatten = (ls.take k).flatten ++ ls.getD k [] := by
  rw [List.take_succ_eq_append_getElem hk, List.flatten_append, List.getD_eq_getElem?_getD, List.getElem?_eq_getElem hk]
  simp

theorem flat_le {ls : List (List Nat)} {k : Nat} : (ls.take k).flatten.length ≤ ls.flatten.length := by
  conv => rhs; rw [← List.take_append_drop k ls, List.flatten_append, List.length_append]
  omega

theorem parts_at {w : World} {a : Option Addr} {n cap : Nat} {ls : List (List Nat)} (h : Parts w a n cap ls) {k : Nat} (hk : k < n) : ∃ b o a' n' c', a = some ⟨b, o, none⟩ ∧ w.cell? ⟨b, o + k, none⟩ = some (.slice a' n' c') ∧ Bytes w a' n' c' (ls.getD k []) := by
  obtain ⟨b, o, e, _, hc⟩ := h.cell (by omega)
  obtain ⟨a', n', c', g1, g2⟩ := hc k hk
  exact ⟨b, o, a', n', c', e, g1, g2⟩

set_option maxRecDepth 100000 in
theorem grow_none (n : Nat) (w : World) (hn : n ≤ 100000000000000) :
    Calls Tryz.prog 51 #[.slice none 0 0, .int .i64 (n : Int)] w (NewBytes w []) := by
  by_cases h0 : 0 < n
  · obtain ⟨i0, hi, hz0, hz1, hz2⟩ := info_parts info_u8
    have hge := grownCap_ge w n 0 5
    have hcm := grownCap_le_maxLen w n 0 5 (by rw [maxLen_nat]; omega)
    have hr := fun ty => Lib.run_append_nil_zeros (P := Tryz.prog) w 28 3 ty 5 i0 (.int .u8 0) .i64 .i64 Tryz.underlying28 Tryz.underlying3 hi hz0 n h0 (by omega) (by omega) (by rw [hz2]; omega)
    obtain ⟨G, hG⟩ : ∃ G, G = grownCap w n 0 5 := ⟨_, rfl⟩
    rw [← hG] at hr hge hcm
    rw [maxLen_nat] at hcm
    have Hr := Lib.hid hr
    clear hG hr hz0 hz1 hz2 hi
    have hown : (w.drew.alloc (.cells (Builtin.zeroCells (Value.int .u8 0).cells n ++ Builtin.zeroCells (Value.int .u8 0).cells (G - n)) 5)).ownsRow w.heap.size 5 1 (.slice (some ⟨w.heap.size, 0, none⟩) 0 G) 0 (u8s []) := by
      refine ⟨rfl, .inr ⟨w.heap.size, G, _, rfl, Nat.le_refl _, heap_alloc_new w.drew _, Nat.zero_le _, hcm, ?_, rfl⟩⟩
      have h1 : (Value.int IntKind.u8 0).cells.size = 1 := rfl
      simp only [Array.size_append, size_zeroCells, h1]
      omega
    have Hown := Lib.hid hown
    clear hown
    go_enter Tryz.func51, Tryz.ntmps51
    go_wp2_with (at_builtin; refine Lib.wpList_append_run _ rfl _ _ 28 3 rfl _ _ rfl rfl _ _ (Hr.out _) ?_)
    go_ret
    exact ⟨_, rfl, Hown.out, ((Below.refl _ _).drew).alloc (Nat.le_refl _) _⟩
  · obtain rfl : n = 0 := by omega
    go_enter Tryz.func51, Tryz.ntmps51
    go_wp2
    go_ret
    exact ⟨_, rfl, World.ownsRow_nil _ _ _ _, Below.refl _ _⟩

def CatSum (ls : List (List Nat)) (z i : Value) : Prop := ∃ k : Nat, k ≤ ls.length ∧ i = .int .i64 k ∧ z = .int .i64 ((ls.take k).flatten.length : Nat)

def CatTo (w : World) (ls : List (List Nat)) (v i : Value) (wr : World) : Prop :=
  ∃ k : Nat, k ≤ ls.length ∧ i = .int .i64 k ∧ wr.ownsRow w.heap.size 5 1 v (ls.take k).flatten.length (u8s (ls.take k).flatten) ∧ Below w.heap.size w wr

theorem catTo_step {w wr w1 : World} {ls : List (List Nat)} {v v' : Value} {k n' : Nat} {l : List Nat} (hk : k < ls.length) (hl : ls.getD k [] = l) (hn : l.length = n')
    (hown : wr.ownsRow w.heap.size 5 1 v (ls.take k).flatten.length (u8s (ls.take k).flatten)) (hbel : Below w.heap.size w wr)
    (g1 : w1.ownsRow w.heap.size 5 1 v' ((ls.take k).flatten.length + n') (u8s ((ls.take k).flatten ++ l))) (g2 : wr.grownBy w1 v.ownBlock) : CatTo w ls v' (.int .i64 ((k : Int) + 1)) w1 := by
  subst hl
  subst hn
  refine ⟨k + 1, hk, by go_num, ?_, hbel.grown g2 hbel.size (fun x hx => (hown.lt x hx).1)⟩
  rw [flat_one hk, List.length_append]
  exact g1

set_option maxRecDepth 100000 in
set_option maxHeartbeats 800000 in
theorem concat_any (a : Option Addr) (n cap : Nat) (ls : List (List Nat)) (w : World) (hl : Parts w a n cap ls) (hmax : ls.flatten.length ≤ 100000000000000) :
    Calls Tryz.prog 20 #[.slice a n cap] w (NewBytes w ls.flatten) := by
  have hls := Lib.hid hl.len
  have hnb := hl.max
  have hP := Lib.hid hl
  clear hl
  go_enter Tryz.func20, Tryz.ntmps20
  go_wp2
  go_loop [3, 11] (fun z i => CatSum ls z i) (fun _ i => n - (intOf i).toNat)
  case atStart => exact ⟨0, Nat.zero_le _, rfl, rfl⟩
  case round =>
    obtain ⟨k, hk, rfl, rfl⟩ := hrel
    by_cases hlt : k < n
    · obtain ⟨b, o, a', n', c', rfl, hc, hB⟩ := parts_at hP.out hlt
      have hfl := flat_le (ls := ls) (k := k)
      have hfl2 := flat_le (ls := ls) (k := k + 1)
      have hf1 := flat_one (show k < ls.length by rw [hls.out]; exact hlt)
      rw [hf1, List.length_append, hB.len] at hfl2
      have Hf1 := Lib.hid (show (ls.take (k + 1)).flatten.length = (ls.take k).flatten.length + n' by rw [hf1, List.length_append, hB.len])
      clear hB hf1
      generalize (ls.take k).flatten.length = s at hfl hfl2 Hf1
      have hs0 : ¬ ((s : Int) + (n' : Int) < 0) := by omega
      go_wp2
      go_round
      case rel => exact ⟨k + 1, by rw [hls.out]; exact hlt, by go_num, by rw [Hf1.out]; go_num⟩
      case measure => simp [intOf]; omega
    · have hkn : k = ls.length := by have := hls.out; omega
      have ht : ls.take k = ls := by rw [hkn, List.take_length]
      rw [ht]
      have Hmax := Lib.hid hmax
      have hfn : ls.flatten.length ≤ 100000000000000 := hmax
      clear ht hkn hmax
      generalize ls.flatten.length = F at hfn ⊢
      go_wp2_with fail
      refine (grow_none F w hfn).mono ?_
      rintro e w1 ⟨v, rfl, hown, hb⟩
      have Hown := Lib.hid hown
      clear hown
      go_wp2_with fail
      go_loopw [6, 27] (fun v i wr => CatTo w ls v i wr) (fun _ i _ => n - (intOf i).toNat)
      case atStart => exact ⟨0, Nat.zero_le _, rfl, Hown.out, hb⟩
      case round =>
        obtain ⟨j, hj, rfl, hown, hbel⟩ := hrel
        by_cases hlt2 : j < n
        · obtain ⟨b, o, a', n', c', rfl, hc, hB⟩ := parts_at (hP.out.grow hbel) hlt2
          have hmax := Hmax.out
          have hfl := flat_le (ls := ls) (k := j)
          have hfl2 := flat_le (ls := ls) (k := j + 1)
          rw [flat_one (by rw [hls.out]; exact hlt2), List.length_append, hB.len] at hfl2
          have hc5 : (ls.take j).flatten.length + n' ≤ 140737488355328 := by omega
          have hB' := Lib.hid hB
          generalize hgl : ls.getD j [] = l at hB'
          have Hgl := Lib.hid hgl
          clear hB hgl hmax hfl hfl2
          go_wp2_with (at_builtin; refine wpList_append_bytes _ rfl _ _ 28 rfl w.heap.size 5 Tryz.underlying28 info_u8 _ _ _ rfl hown a' n' c' l rfl hB'.out hc5 hbel.size ?_; intro v' w1 g1 g2)
          go_roundw
          case rel => exact catTo_step (by rw [hls.out]; exact hlt2) Hgl.out hB'.out.len hown hbel g1 g2
          case measure => simp [intOf]; omega
        · have hkn : j = ls.length := by have := hls.out; omega
          have ht : ls.take j = ls := by rw [hkn, List.take_length]
          rw [ht] at hown
          have Hown2 := Lib.hid hown
          clear ht hkn hown
          go_wp2
          go_ret
          exact ⟨_, rfl, Hown2.out, hbel⟩

end Go.Proofs.YtcapbaocchaenaaGreatDoor

/- The walk of the code's Bytes of a batch. -/
namespace Go.Proofs.YtcapbaocchaenaaGreatDoor
open Go.RowKit Go.Shelf Fl

/-- The form of a batch. -/
def headB (t : Bt) : List Nat := formB t.flow ++ (form t.at_ ++ form t.es.length)
def formBt (t : Bt) : List Nat := headB t ++ (t.es.map formE).flatten

theorem evFields_len (k : Int) : (evFields k).length ≤ 6 := by
  unfold evFields
  repeat' split
  all_goals decide

theorem flat_max {B : Nat} : ∀ (ls : List (List Nat)), (∀ l ∈ ls, l.length ≤ B) → ls.flatten.length ≤ ls.length * B
  | [], _ => Nat.zero_le _
  | l :: r, h => by
    have h1 := h l (by simp)
    have h2 := flat_max r (fun x hx => h x (by simp [hx]))
    rw [List.flatten_cons, List.length_append, List.length_cons, Nat.succ_mul]
    omega

theorem formE_len {e : Ev} {w : World} {x : Array Value} (h : EvIn w e x) (hf : fewE e = true) (hr : rightN 8 e.v = true) : (formE e).length ≤ 60000020 := by
  obtain ⟨_, _, f3, f4⟩ := few_parts hf
  obtain ⟨g1, _⟩ := form_few h hf hr
  obtain ⟨_, i2, i3, i4, _⟩ := h
  have hp : ∀ l ∈ (evFields e.k).map (pieceE e), l.length ≤ 10000000 := by
    intro l hl
    obtain ⟨i, _, rfl⟩ := List.mem_map.1 hl
    unfold pieceE
    have n1 := form_len (x := e.nm.length) (by omega)
    have n2 := form_len (x := e.tx.length) (by omega)
    repeat' split
    · have := form_len (x := e.id) (by omega); omega
    · have := form_len (x := e.n.toNat) (by omega); omega
    · have := form_len (x := e.t) (by omega); omega
    · unfold formB; rw [List.length_append]; omega
    · unfold formB; rw [List.length_append]; omega
    · exact g1
  have h2 := flat_max _ hp
  rw [List.length_map] at h2
  have h3 := evFields_len e.k
  have h4 := form_len (x := 1) (by decide)
  have h5 := form_len (x := e.k.toNat) (by omega)
  unfold formE
  rw [List.length_append, List.length_append]
  have h6 : (evFields e.k).length * 10000000 ≤ 6 * 10000000 := Nat.mul_le_mul_right _ h3
  omega

theorem forms_max {w : World} {a : Option Addr} {n c : Nat} {es : List Ev} (h : Evs w a n c es) (hn : n ≤ 1048576) (hf : es.all fewE = true) (hok : es.all okE = true) : (es.map formE).flatten.length ≤ 80000000000000 := by
  have h1 := flat_max (B := 60000020) (es.map formE) (fun l hl => by
    obtain ⟨e, he, rfl⟩ := List.mem_map.1 hl
    obtain ⟨i, hi, rfl⟩ := List.getElem_of_mem he
    obtain ⟨b, o, _, hc⟩ := h.cell (by have := h.len; omega)
    obtain ⟨a', cap', hI, _⟩ := hc i hi
    exact formE_len hI (List.all_eq_true.1 hf _ he) (ok_right (List.all_eq_true.1 hok _ he)))
  rw [List.length_map, h.len] at h1
  have h2 : n * 60000020 ≤ 1048576 * 60000020 := Nat.mul_le_mul_right _ hn
  omega

theorem forms_byte {w : World} {a : Option Addr} {n c : Nat} {es : List Ev} (h : Evs w a n c es) : ∀ x ∈ (es.map formE).flatten, x < 256 := by
  intro x hx
  obtain ⟨l, hl, hx⟩ := List.mem_flatten.1 hx
  obtain ⟨e, he, rfl⟩ := List.mem_map.1 hl
  obtain ⟨i, hi, rfl⟩ := List.getElem_of_mem he
  obtain ⟨b, o, _, hc⟩ := h.cell (by have := h.len; omega)
  obtain ⟨a', cap', hI, _⟩ := hc i hi
  exact formE_byte hI x hx

theorem parts_three {w : World} {a1 a2 a3 : Option Addr} {n1 n2 n3 c1 c2 c3 : Nat} {l1 l2 l3 : List Nat} (h1 : Bytes w a1 n1 c1 l1) (h2 : Bytes w a2 n2 c2 l2) (h3 : Bytes w a3 n3 c3 l3) (t : TypeId) :
    Parts (w.alloc (.cells #[.slice a1 n1 c1, .slice a2 n2 c2, .slice a3 n3 c3] t)) (some ⟨w.heap.size, 0, none⟩) 3 3 [l1, l2, l3] := by
  refine ⟨rfl, Nat.le_refl _, by omega, fun _ => ⟨w.heap.size, 0, rfl, by simp, fun i hi => ?_⟩⟩
  have hb : Below w.heap.size w (w.alloc (.cells #[.slice a1 n1 c1, .slice a2 n2 c2, .slice a3 n3 c3] t)) := (Below.refl _ _).alloc (Nat.le_refl _) _
  rcases (show i = 0 ∨ i = 1 ∨ i = 2 by omega) with rfl | rfl | rfl
  · exact ⟨a1, n1, c1, by rw [Nat.zero_add, cell_of_row _ _ _ _ _ (0, 0) (heap_alloc_new _ _)]; rfl, h1.grow hb⟩
  · exact ⟨a2, n2, c2, by rw [Nat.zero_add, cell_of_row _ _ _ _ _ (0, 0) (heap_alloc_new _ _)]; rfl, h2.grow hb⟩
  · exact ⟨a3, n3, c3, by rw [Nat.zero_add, cell_of_row _ _ _ _ _ (0, 0) (heap_alloc_new _ _)]; rfl, h3.grow hb⟩

/-- What Bytes of a batch returns. -/
def BBytesEnd (w : World) (t : Bt) (r : Ending) (w' : World) : Prop :=
  (okB t = false ∧ r = .returned (.tuple #[.slice none 0 0, .bool false]) ∧ Below w.heap.size w w') ∨
  (okB t = true ∧ ∃ u, r = .returned (.tuple #[u, .bool true]) ∧ OwnBytes w w' u (formBt t))

theorem okB_parts {t : Bt} (h : okB t = true) : t.flow.length ≤ 1000 ∧ t.at_ ≤ 9223372036854775807 ∧ t.es.all okE = true := by
  unfold okB at h
  simp only [Bool.and_eq_true, decide_eq_true_eq] at h
  exact ⟨h.1.1.1.2, h.1.1.2, h.2⟩

set_option maxRecDepth 100000 in
set_option maxHeartbeats 3200000 in
theorem bbytes_any (t : Bt) (x : Array Value) (w : World) (hn : t.es.length ≤ 1048576) (hf : t.es.all fewE = true) (h : BtIn w t x) :
    Calls Tryz.prog 7 #[.agg x] w (BBytesEnd w t) := by
  have HV := Lib.hid (fun W (hW : Below w.heap.size w W) => bvalid_any 20 (by omega) t x W (fun e he => (few_parts (List.all_eq_true.1 hf e he)).2.1) (h.below hW))
  obtain ⟨fl, at_, es⟩ := t
  obtain ⟨⟨hb1, hb2⟩, hat, a, n, c, rfl, hE⟩ := h
  change ∀ c ∈ fl, c < 256 at hb1
  change at_ < 18446744073709551616 at hat
  change Evs w a n c es at hE
  change es.all fewE = true at hf
  have hlen := hE.len
  change es.length ≤ 1048576 at hn
  have hal := (Below.refl w.heap.size w).alloc (Nat.le_refl _) (.cells #[.string (str fl), .int .u64 (at_ : Int), .slice a n c] 25)
  have Hal := Lib.hid hal
  have HB := Lib.hid (heap_alloc_new w (.cells #[.string (str fl), .int .u64 (at_ : Int), .slice a n c] 25))
  obtain ⟨y0, y1, y2⟩ := box3 HB.out
  have HE := Lib.hid hE
  have HF := Lib.hid hf
  have Hby := Lib.hid hb1
  clear hal hE hf hb1
  cases hok : okB ⟨fl, at_, es⟩ with
  | false =>
    rw [hok] at HV
    have Hok := Lib.hid hok
    clear hok
    go_enter Tryz.func7, Tryz.ntmps7
    go_wp2_with fail
    refine (HV.out _ Hal.out).mono ?_
    rintro r w1 ⟨rfl, hb⟩
    have Hb := Lib.hid (Hal.out.trans (hb.mono Hal.out.size))
    clear hb
    go_wp2
    refine bodyPost_ret (v := .tuple #[.slice none 0 0, .bool false]) (by simp [results, Tryz.results7, go_sem, *]) rfl ?_
    exact .inl ⟨Hok.out, rfl, Hb.out⟩
  | true =>
    rw [hok] at HV
    obtain ⟨k1, k2, k3⟩ := okB_parts hok
    change fl.length ≤ 1000 at k1
    have Hok := Lib.hid hok
    have HO := Lib.hid k3
    have Hk1 := Lib.hid k1
    clear hok k3 k2
    go_enter Tryz.func7, Tryz.ntmps7
    go_wp2_with fail
    refine (HV.out _ Hal.out).mono ?_
    rintro r w1 ⟨rfl, hb⟩
    have HB1 := Lib.hid ((hb.block _ (Array.getElem?_eq_some_iff.1 HB.out).1).trans HB.out)
    have Hb := Lib.hid (Hal.out.trans (hb.mono Hal.out.size))
    clear hb y0 y1 y2 HB Hal
    have hd1 : Below w.heap.size w w1.drew := Hb.out.drew
    have HU3 := Lib.hid (fun W => show Calls Tryz.prog 22 #[.int .u64 (IntKind.u64.wrap (n : Int))] W (NewBytes W (form n)) from by
      rw [show IntKind.u64.wrap (n : Int) = (n : Int) from by rw [IntKind.wrap_u64]; omega]
      exact uint_any n W (by omega))
    have hq0 := box3 (show w1.drew.heap[w.heap.size]? = some (.cells #[.string (str fl), .int .u64 (at_ : Int), .slice a n c] 25 (0, 0)) from HB1.out)
    go_wp2
    go_region_held (fun w' => w'.cell? ⟨w.heap.size, 0, none⟩ = some (.string (str fl)) ∧ w'.cell? ⟨w.heap.size, 1, none⟩ = some (.int .u64 (at_ : Int)) ∧ w'.cell? ⟨w.heap.size, 2, none⟩ = some (.slice a n c))
      (first | exact hq0 | exact hq1 | exact hq2 | exact hq3 | exact ⟨cell_below ((Below.refl _ _).alloc (Nat.le_refl _) _) hq3.1, cell_below ((Below.refl _ _).alloc (Nat.le_refl _) _) hq3.2.1, cell_below ((Below.refl _ _).alloc (Nat.le_refl _) _) hq3.2.2⟩ | exact hq4)
      (first
        | (go_at_call 21; (with_reducible refine (textF_any fl w1.drew Hby.out (by have := Hk1.out; omega)).mono ?_); rintro e w2 ⟨v, rfl, hown, hb⟩; have hd2 := hd1.trans (hb.mono hd1.size); obtain ⟨p1, c1, rfl, hA⟩ := own_slice hown (formB_byte Hby.out); have HA1 := Lib.hid hA; have hq1 := And.intro (cell_below hb hq0.1) (And.intro (cell_below hb hq0.2.1) (cell_below hb hq0.2.2)); clear hA hown hb hq0)
        | (go_at_call 22; (with_reducible refine (uint_any at_ w2 hat).mono ?_); rintro e w3 ⟨v, rfl, hown, hb⟩; have hd3 := hd2.trans (hb.mono hd2.size); obtain ⟨p2, c2, rfl, hA⟩ := own_slice hown (form_byte at_); have HA2 := Lib.hid hA; have HA1b := Lib.hid (HA1.out.grow hb); have hq2 := And.intro (cell_below hb hq1.1) (And.intro (cell_below hb hq1.2.1) (cell_below hb hq1.2.2)); clear hA hown hb hq1 HA1)
        | (go_at_call 22; (with_reducible refine (HU3.out w3).mono ?_); rintro e w4 ⟨v, rfl, hown, hb⟩; have hd4 := hd3.trans (hb.mono hd3.size); obtain ⟨p3, c3, rfl, hA⟩ := own_slice hown (form_byte n); have HA3 := Lib.hid hA; have HA1c := Lib.hid (HA1b.out.grow hb); have HA2b := Lib.hid (HA2.out.grow hb); have hq3 := And.intro (cell_below hb hq2.1) (And.intro (cell_below hb hq2.2.1) (cell_below hb hq2.2.2)); clear hA hown hb hq2 HA1b HA2)
        | (go_at_call 20; (with_reducible refine (concat_any _ 3 3 _ _ (parts_three HA1c.out HA2b.out HA3.out _) (by simp only [List.flatten_cons, List.flatten_nil, List.length_append, List.length_nil, formB]; have := form_len (x := fl.length) (by omega); have := form_len (x := at_) (by omega); have := form_len (x := n) (by omega); have := Hk1.out; omega)).mono ?_); rintro e w5 ⟨v, rfl, hown, hb⟩; have HA5 := Lib.hid hown; have hd4b := hd4.alloc hd4.size (.cells #[.slice p1 (formB fl).length c1, .slice p2 (form at_).length c2, .slice p3 (form n).length c3] 28); have hd5 := hd4b.trans (hb.mono hd4b.size); have hq4 := And.intro (cell_below (((Below.refl _ _).alloc (Nat.le_refl _) _).trans (hb.mono (by simp))) hq3.1) (And.intro (cell_below (((Below.refl _ _).alloc (Nat.le_refl _) _).trans (hb.mono (by simp))) hq3.2.1) (cell_below (((Below.refl _ _).alloc (Nat.le_refl _) _).trans (hb.mono (by simp))) hq3.2.2)); clear hown hb hq3 HA1c HA2b HA3))
    have HOn := Lib.hid (show w5.ownsRow w.heap.size 5 1 v (headB ⟨fl, at_, es⟩).length (u8s (headB ⟨fl, at_, es⟩)) from by
      have e : headB ⟨fl, at_, es⟩ = [formB fl, form at_, form n].flatten := by
        show formB fl ++ (form at_ ++ form es.length) = _
        rw [hlen]
        simp
      rw [e]
      exact own_base HA5.out (by simpa using hd4b.size))
    have Hhl := Lib.hid (show (headB ⟨fl, at_, es⟩).length ≤ 2000 from by
      have h1 := form_len (x := fl.length) (by have := Hk1.out; omega)
      have h2 := form_len (x := at_) (by omega)
      have h3 := form_len (x := es.length) (by omega)
      have h4 := Hk1.out
      show (formB fl ++ (form at_ ++ form es.length)).length ≤ 2000
      unfold formB
      simp only [List.length_append]
      omega)
    have Hd5 := Lib.hid hd5
    have y2 := hq4.2.2
    have HM := Lib.hid (mapform_any a n c es w5 (by omega) HF.out HO.out (HE.out.below hd5))
    have Hmx := Lib.hid (forms_max HE.out (by omega) HF.out HO.out)
    have Hfb := Lib.hid (forms_byte HE.out)
    clear hq4 hd5 hd4 hd4b hd3 hd2 hd1 HA5 HU3
    have HFB := Lib.hid (show formBt ⟨fl, at_, es⟩ = headB ⟨fl, at_, es⟩ ++ (es.map formE).flatten from rfl)
    generalize headB ⟨fl, at_, es⟩ = hd at *
    go_wp2_with fail
    refine HM.out.mono ?_
    rintro r w6 ⟨p6, n6, c6, rfl, hP, hb6⟩
    have HC := Lib.hid (concat_any p6 n6 c6 _ w6 hP (by have := Hmx.out; omega))
    have Hr6 := Lib.hid (own_below HOn.out hb6)
    have Hb6 := Lib.hid (Hd5.out.trans (hb6.mono Hd5.out.size))
    clear hP hb6 y2 HM
    generalize (es.map formE).flatten = L at HC Hmx Hfb HFB
    go_wp2_with fail
    refine HC.out.mono ?_
    rintro r w7 ⟨v7, rfl, hown, hb7⟩
    obtain ⟨p7, c7, rfl, hB7⟩ := own_slice hown Hfb.out
    have HB7 := Lib.hid hB7
    have Hr7 := Lib.hid (own_below Hr6.out hb7)
    have Hb7 := Lib.hid (Hb6.out.trans (hb7.mono Hb6.out.size))
    clear hown hb7 hB7 HC
    go_wp2_with (at_builtin; refine wpList_append_bytes _ rfl _ _ 28 rfl w.heap.size 5 Tryz.underlying28 info_u8 _ _ _ rfl Hr7.out _ _ _ _ rfl HB7.out (by have := Hmx.out; have := Hhl.out; omega) Hb7.out.size ?_; intro v' w9 g1 g2)
    have Hg1 := Lib.hid g1
    have Hg2 := Lib.hid (show Below w.heap.size w w9 from Hb7.out.grown g2 Hb7.out.size (fun k hk => (Hr7.out.lt k hk).1))
    clear g1 g2
    go_wp2
    refine bodyPost_ret (v := .tuple #[v', .bool true]) (by simp [results, Tryz.results7, go_sem, *]) rfl ?_
    exact .inr ⟨Hok.out, _, rfl, by rw [HFB.out, List.length_append]; exact Hg1.out, Hg2.out⟩
end Go.Proofs.YtcapbaocchaenaaGreatDoor

/- The walk of slices.Equal of bytes. -/
namespace Go.Proofs.YtcapbaocchaenaaGreatDoor
open Go.RowKit

theorem equal_len (a a' : Option Addr) (n cap n' cap' : Nat) (w : World) (hn : n ≠ n') :
    Calls Tryz.prog 10 #[.slice a n cap, .slice a' n' cap'] w fun e w' => e = .returned (.bool false) ∧ w = w' := by
  have hq : ((n : Int) != (n' : Int)) = true := by rw [bne_iff_ne]; omega
  go_enter Tryz.func10, Tryz.ntmps10
  go_wp2
  go_ret
  exact ⟨rfl, rfl⟩

theorem take_next {l l' : List Nat} {k : Nat} (h : k < l.length) (h' : k < l'.length) (ht : l.take k = l'.take k) (hx : l.getD k 0 = l'.getD k 0) : l.take (k + 1) = l'.take (k + 1) := by
  rw [List.take_succ_eq_append_getElem h, List.take_succ_eq_append_getElem h', ht]
  rw [List.getD_eq_getElem?_getD, List.getElem?_eq_getElem h, List.getD_eq_getElem?_getD, List.getElem?_eq_getElem h'] at hx
  have hx : l[k] = l'[k] := hx
  rw [hx]

def EqRel (w : World) (n : Nat) (l l' : List Nat) (i : Value) (wr : World) : Prop := ∃ k : Nat, k ≤ n ∧ i = .int .i64 k ∧ l.take k = l'.take k ∧ Below w.heap.size w wr

set_option maxHeartbeats 800000 in
theorem equal_same (a a' : Option Addr) (n cap cap' : Nat) (l l' : List Nat) (w : World) (hl : Bytes w a n cap l) (hl' : Bytes w a' n cap' l') :
    Calls Tryz.prog 10 #[.slice a n cap, .slice a' n cap'] w fun e w' => e = .returned (.bool (decide (l = l'))) ∧ Below w.heap.size w w' := by
  have hnm := hl.max
  have hB := Lib.hid hl
  have hB' := Lib.hid hl'
  clear hl hl'
  have hq : ((n : Int) != (n : Int)) = false := by simp
  go_enter Tryz.func10, Tryz.ntmps10
  go_wp2
  go_loopw [13] (fun i wr => EqRel w n l l' i wr) (fun i _ => n - (intOf i).toNat)
  case atStart => exact ⟨0, Nat.zero_le _, rfl, rfl, Below.refl _ _⟩
  case round =>
    obtain ⟨k, hk, rfl, ht, hbel⟩ := hrel
    have ht := Lib.hid ht
    rename_i ht0; clear ht0
    by_cases hlt : k < n
    · obtain ⟨b, o, rfl, hc0⟩ := (hB.out.grow hbel).cell (by omega)
      obtain ⟨b', o', rfl, hc0'⟩ := (hB'.out.grow hbel).cell (by omega)
      have hc := hc0 k hlt
      have hc' := hc0' k hlt
      clear hc0 hc0'
      have hx := Lib.hid (show l.getD k 0 = l.getD k 0 from rfl)
      generalize hy : l.getD k 0 = x at hc
      generalize hy' : l'.getD k 0 = x' at hc'
      have hy := Lib.hid hy
      have hy' := Lib.hid hy'
      rename_i hy0 hy0'; clear hy0 hy0' hx
      by_cases hxx : x = x'
      · have hq2 : ((x : Int) != (x' : Int)) = false := by rw [bne_eq_false_iff_eq]; omega
        have hxx := Lib.hid hxx
        rename_i hxx0; clear hxx0
        go_wp2
        go_quiet (fail)
        go_wp2
        go_roundw
        case rel => exact ⟨k + 1, by omega, by go_num, take_next (by rw [hB.out.len]; exact hlt) (by rw [hB'.out.len]; exact hlt) ht.out (by rw [hy.out, hy'.out, hxx.out]), below_drewN hbel _⟩
        case measure => simp [intOf]; omega
      · have hq2 : ((x : Int) != (x' : Int)) = true := by rw [bne_iff_ne]; omega
        go_wp2
        go_quiet (fail)
        go_wp2
        go_ret
        exact ⟨ret_bool (decide_eq_false (fun e => hxx (by rw [← hy.out, ← hy'.out, e]))).symm, below_drewN hbel _⟩
    · obtain rfl : k = n := by omega
      go_wp2
      go_ret
      exact ⟨ret_bool (decide_eq_true (by rw [← List.take_length (l := l), ← List.take_length (l := l'), hB.out.len, hB'.out.len]; exact ht.out)).symm, hbel⟩

theorem equal_any (a a' : Option Addr) (n cap n' cap' : Nat) (l l' : List Nat) (w : World) (hl : Bytes w a n cap l) (hl' : Bytes w a' n' cap' l') :
    Calls Tryz.prog 10 #[.slice a n cap, .slice a' n' cap'] w fun e w' => e = .returned (.bool (decide (l = l'))) ∧ Below w.heap.size w w' := by
  by_cases h : n = n'
  · subst h
    exact equal_same a a' n cap cap' l l' w hl hl'
  · refine (equal_len a a' n cap n' cap' w h).mono ?_
    rintro e w' ⟨rfl, rfl⟩
    exact ⟨ret_bool (decide_eq_false (fun e => h (by rw [← hl.len, ← hl'.len, e]))).symm, Below.refl _ _⟩
end Go.Proofs.YtcapbaocchaenaaGreatDoor

/- The example of the chapter of batches. -/
namespace Go.Proofs.YtcapbaocchaenaaGreatDoor
open Go.RowKit Go.Shelf Fl

/-- The example's batch. -/
def exB : Bt := ⟨[119], 3, [exE]⟩

theorem exB_ok : okB exB = true := by
  unfold okB exB
  simp [exE_ok]

theorem exB_form : formBt exB = [1, 119, 3, 1, 1, 5, 5] := by
  unfold formBt headB exB formB
  simp [exE_form, form_small]

theorem exB_few : exB.es.all fewE = true := by decide +kernel

theorem exB_in {w : World} {g : Nat} {t : TypeId} (h : w.heap[g]? = some (.cells exC t (0, 0))) : BtIn w exB #[.string (str [119]), .int .u64 3, .slice (some ⟨g, 0, none⟩) 1 1] := by
  refine ⟨⟨by unfold exB; decide, by unfold exB; decide⟩, by unfold exB; decide, some ⟨g, 0, none⟩, 1, 1, rfl, rfl, Nat.le_refl _, by omega, fun _ => ⟨g, 0, rfl, fun i hi => ?_⟩⟩
  have hi0 : i = 0 := by have : i < 1 := hi; omega
  subst hi0
  refine ⟨none, 0, exE_in w, fun j hj => ?_⟩
  rw [cell_of_row _ _ _ _ _ (0, 0) h]
  simp [exB]
  rfl

set_option maxRecDepth 100000 in
theorem alive13_any (w : World) : Calls Tryz.prog 6 #[] w fun e w' => e = .returned (.bool true) ∧ Below w.heap.size w w' := by
  have hal := (Below.refl w.heap.size w).alloc (Nat.le_refl _) (.cells exC 45)
  have HB := Lib.hid (show Calls Tryz.prog 7 #[.agg #[.string ⟨#[119]⟩, .int .u64 3, .slice (some ⟨w.heap.size, 0, none⟩) 1 1]] (w.alloc (.cells exC 45)) (BBytesEnd _ exB) from bbytes_any exB _ _ (by decide) exB_few (exB_in (heap_alloc_new w (.cells exC 45))))
  have Hal := Lib.hid hal
  clear hal
  go_enter Tryz.func6, Tryz.ntmps6
  go_wp2_with fail
  refine HB.out.mono ?_
  rintro r w2 (⟨h0, _⟩ | ⟨_, u, rfl, hown, hb⟩)
  · rw [exB_ok] at h0; cases h0
  rw [exB_form] at hown
  obtain ⟨p, cp, rfl, hB2⟩ := own_slice hown (by decide)
  have HB2 := Lib.hid hB2
  have Hb2 := Lib.hid (Hal.out.trans (hb.mono Hal.out.size))
  clear hown hB2 hb HB
  go_wp2_with fail
  have hal2 := (Below.refl w2.heap.size w2).alloc (Nat.le_refl _) (.cells #[.int .u8 1, .int .u8 119, .int .u8 3, .int .u8 1, .int .u8 1, .int .u8 5, .int .u8 5] 5)
  have hn := heap_alloc_new w2 (.cells #[.int .u8 1, .int .u8 119, .int .u8 3, .int .u8 1, .int .u8 1, .int .u8 5, .int .u8 5] 5)
  have hL : Bytes (w2.alloc (.cells #[.int .u8 1, .int .u8 119, .int .u8 3, .int .u8 1, .int .u8 1, .int .u8 5, .int .u8 5] 5)) (some ⟨w2.heap.size, 0, none⟩) 7 7 [1, 119, 3, 1, 1, 5, 5] :=
    ⟨rfl, Nat.le_refl _, by omega, by decide, fun h => by (cases h), fun _ => ⟨w2.heap.size, 0, rfl, fun k hk => by
      rw [cell_of_row _ _ _ _ _ (0, 0) hn]
      rcases (show k = 0 ∨ k = 1 ∨ k = 2 ∨ k = 3 ∨ k = 4 ∨ k = 5 ∨ k = 6 by omega) with rfl | rfl | rfl | rfl | rfl | rfl | rfl <;> rfl⟩⟩
  refine (equal_any p _ 7 cp 7 7 _ _ _ (HB2.out.grow hal2) hL).mono ?_
  rintro r w3 ⟨rfl, hb3⟩
  have Hb3 := Lib.hid (Hb2.out.trans ((hal2.trans (hb3.mono hal2.size)).mono Hb2.out.size))
  clear hal2 hn hL hb3
  go_wp2
  go_ret
  exact ⟨rfl, Hb3.out⟩
end Go.Proofs.YtcapbaocchaenaaGreatDoor

/- The walks of a reader's methods: what they return, and what they leave of it. -/
namespace Go.Proofs.YtcapbaocchaenaaGreatDoor
open Go.RowKit

/-- A reader in block g: the bytes that are left, and whether it is ok. -/
def Rd (w : World) (g : Nat) (l : List Nat) (ok : Bool) : Prop :=
  ∃ a n c, w.heap[g]? = some (.cells #[.slice a n c, .bool ok] 103 (0, 0)) ∧ Bytes w a n c l ∧ Formed a c

theorem Rd.below {w w' : World} {g : Nat} {l : List Nat} {ok : Bool} (h : Rd w g l ok) (hb : Below w.heap.size w w') : Rd w' g l ok := by
  obtain ⟨a, n, c, h1, h2, h3⟩ := h
  exact ⟨a, n, c, (hb.block g (Array.getElem?_eq_some_iff.1 h1).1).trans h1, h2.grow hb, h3⟩

/-- What a method of a reader leaves: only its block has turned. -/
def RdEnd (w : World) (g : Nat) (s : List Nat × Bool) (w' : World) : Prop := Rd w' g s.1 s.2 ∧ w.grownBy w' (some g)

end Go.Proofs.YtcapbaocchaenaaGreatDoor

