/- The walks of slices.Grow of no slice and of slices.Concat of two slices, of byte slices. -/
import Derived.Test.YtmebffmdfnnbmaaFrSplit
import Derived.Test.YtmebffmdfnnbmaaFrMake
import Derived.Maps.AppendAt
import Derived.Lib.AppendZeros
namespace Go.Proofs.Ytmebffmdfnnbmaa
open Go.RowKit

section
variable {P : Program}

/-- 'append(out, p...)': out a slice of byte slices of the call's own, p one that lay there when the call began. -/
theorem wpList_append_rows {w : World} {ops : Array Oper} {rest : List Oper} {o : Oper} {a : Act} {Q : Exit → Act → World → Prop} (hgd : o.guard = none) (s x : Operand) (t : TypeId)
    (ho : o.op = .call { callee := .builtin .append, args := #[s, x], argTypes := #[t, t] })
    (ht : P.underlying t = some (.slice 25)) (hinfo : (P.info? 25).map (fun i => (i.zero, i.size, i.bytes)) = some (some (.slice none 0 0), 1, 24))
    {w0 : World} {v : Value} {ls ms : List (List Nat)} (hs : a.eval s = v) (hown : OwnParts w w0.heap.size v ls)
    {p : Option Addr} {m c : Nat} (hx : a.eval x = .slice p m c) (hP : Parts w0 p m c ms) (hb : Below w0.heap.size w0 w) (hn : ls.length + m ≤ 1000000000)
    (h : ∀ v' w', OwnParts w' w0.heap.size v' (ls ++ ms) → Below w0.heap.size w0 w' → wpList P ops Q rest (a.put o.dst v') w') : wpList P ops Q (o :: rest) a w := by
  obtain ⟨i, hi, hz, hsz, hby⟩ := info_parts hinfo
  rcases Nat.eq_zero_or_pos m with rfl | hm
  · have hm0 : ms = [] := List.length_eq_zero_iff.1 hP.len
    obtain ⟨q, k, rfl, hq⟩ := hown.parts
    have hr : (Builtin.append_ #[t, t] o.type #[.slice q ls.length k, .slice p 0 c]).run P w = .ok (.slice q ls.length k) w := by
      refine run_append_nothing w t t o.type 25 i ht hi q ls.length k hq.le (.slice p 0 c) ?_
      cases p with
      | none => exact Src.ofNil w ht c
      | some ad => exact Src.ofSlice w ht ad 0 c [] (by simp) (fun j u h => by simp at h) (fun u h => by simp at h)
    refine wpList_plain hgd fun K hK => ?_
    unfold Oper.wp execOp
    simp only [ho, resolve, invoke, builtin, Sem.run_bind, Sem.run_pure, Result.andThen_ok, List.map_toArray, List.map_cons, List.map_nil, hs, hx, hr]
    refine hK _ _ (h _ w ?_ hb)
    rw [hm0, List.append_nil]
    exact hown
  · obtain ⟨b, off, rfl, hblt, hc⟩ := hP.cell hm
    obtain ⟨vs, hlen, hrow, hel⟩ := hown
    have hadd : ∀ (x y j : Nat), (⟨x, y, none⟩ : Addr).add j = ⟨x, y + j, none⟩ := fun x y j => by unfold Addr.add; split <;> simp_all
    obtain ⟨us, hus⟩ : ∃ us : List Value, us = (List.range m).map fun i => (w0.cell? ⟨b, off + i, none⟩).getD undef := ⟨_, rfl⟩
    have hul : us.length = m := by rw [hus]; simp
    have hu : ∀ i, i < m → ∃ a' n' c', us[i]? = some (.slice a' n' c') ∧ w.cell? ⟨b, off + i, none⟩ = some (.slice a' n' c') ∧ Bytes w0 a' n' c' (ms.getD i []) := by
      intro i hi
      obtain ⟨a', n', c', h1, h2⟩ := hc i hi
      refine ⟨a', n', c', ?_, by rw [hb.cell (p := ⟨b, off + i, none⟩) hblt]; exact h1, h2⟩
      rw [hus, List.getElem?_map, List.getElem?_range hi]
      simp [h1]
    refine wpList_append_own_at w hgd s x t ho w0.heap.size 25 i (.slice none 0 0) 1 24 ht hi hz hsz hby rfl (by decide) v ls.length vs hs hrow ⟨b, off, none⟩ m c us hx (by rw [hul]; omega) ?_ ?_ (by rw [maxLen_nat]; omega) (by omega) hb.size ?_
    · intro j u hj
      have hjm : j < m := by rw [← hul]; exact (List.getElem?_eq_some_iff.1 hj).1
      obtain ⟨a', n', c', h1, h2, _⟩ := hu j hjm
      rw [hadd, h2, ← h1, hj]
    · intro u huu
      obtain ⟨j, hj, rfl⟩ := List.getElem_of_mem huu
      obtain ⟨a', n', c', h1, _, _⟩ := hu j (by rw [← hul]; exact hj)
      rw [List.getElem?_eq_getElem hj] at h1
      rw [Option.some.inj h1]
      rfl
    · intro v' w' g1 g2 _ g4
      refine h v' w' (OwnParts.app hlen hel (by rw [hul]; exact hP.len.symm) (fun i hi => ?_) (by rw [hP.len]; exact g1) g2 g4) (hb.grown g2 hb.size (fun k hk => (hrow.lt k hk).1))
      obtain ⟨a', n', c', h1, _, h3⟩ := hu i (by rw [← hP.len]; exact hi)
      refine ⟨a', n', c', h1, h3.grow hb, fun hn' y hy e => ?_⟩
      have h4 := (hrow.lt y.block e.symm).1
      obtain ⟨b', o', e2, hc'⟩ := h3.cell hn'
      have h5 := World.block_lt_of_cell? _ _ (hc' 0 hn')
      rw [hy] at e2
      cases e2
      simp only at h4 h5
      omega
end

set_option maxRecDepth 100000 in
theorem growRows_none (n : Nat) (w : World) (hn : n ≤ 1000000000) :
    Calls Try.prog 30 #[.slice none 0 0, .int .i64 (n : Int)] w fun e w' => ∃ v, e = .returned v ∧ OwnParts w' w.heap.size v [] ∧ Below w.heap.size w w' := by
  by_cases h0 : 0 < n
  · obtain ⟨i0, hi, hz0, hz1, hz2⟩ := info_parts info_rows
    have hge := grownCap_ge w n 0 25
    have hcm := grownCap_le_maxLen w n 0 25 (by rw [maxLen_nat]; omega)
    have hr := fun ty => Lib.run_append_nil_zeros (P := Try.prog) w 22 3 ty 25 i0 (.slice none 0 0) .i64 .i64 Try.underlying22 Try.underlying3 hi hz0 n h0 (by omega) (by omega) (by rw [hz2]; omega)
    obtain ⟨G, hG⟩ : ∃ G, G = grownCap w n 0 25 := ⟨_, rfl⟩
    rw [← hG] at hr hge hcm
    rw [maxLen_nat] at hcm
    have Hr := Lib.hid hr
    clear hG hr hz0 hz1 hz2 hi
    have hown : (w.drew.alloc (.cells (Builtin.zeroCells (Value.slice none 0 0).cells n ++ Builtin.zeroCells (Value.slice none 0 0).cells (G - n)) 25)).ownsRow w.heap.size 25 1 (.slice (some ⟨w.heap.size, 0, none⟩) 0 G) 0 [] := by
      refine ⟨rfl, .inr ⟨w.heap.size, G, _, rfl, Nat.le_refl _, heap_alloc_new w.drew _, Nat.zero_le _, hcm, ?_, rfl⟩⟩
      have h1 : (Value.slice none 0 0).cells.size = 1 := rfl
      simp only [Array.size_append, size_zeroCells, h1]
      omega
    have Hown := Lib.hid hown
    clear hown
    go_enter Try.func30, Try.ntmps30
    go_wp2_with (at_builtin; refine Lib.wpList_append_run _ rfl _ _ 22 3 rfl _ _ rfl rfl _ _ (Hr.out _) ?_)
    go_ret
    exact ⟨_, rfl, ⟨[], rfl, Hown.out, fun i h => absurd h (Nat.not_lt_zero _)⟩, ((Below.refl _ _).drew).alloc (Nat.le_refl _) _⟩
  · obtain rfl : n = 0 := by omega
    go_enter Try.func30, Try.ntmps30
    go_wp2
    go_ret
    exact ⟨_, rfl, OwnParts.nil _ _, Below.refl _ _⟩

def upTwo (n y : Nat) : Nat → Nat
  | 0 => 0
  | 1 => n
  | _ => n + y

def twoOf (ls ms : List (List Nat)) : Nat → List (List Nat)
  | 0 => []
  | 1 => ls
  | _ => ls ++ ms

set_option maxRecDepth 100000 in
set_option maxHeartbeats 1600000 in
theorem concatRows_any (g : Nat) (a p : Option Addr) (n c y k : Nat) (ls ms : List (List Nat)) (w : World) (h0 : w.cell? ⟨g, 0, none⟩ = some (.slice a n c)) (h1 : w.cell? ⟨g, 1, none⟩ = some (.slice p y k))
    (hl : Parts w a n c ls) (hm : Parts w p y k ms) (hn : n + y ≤ 1000000000) :
    Calls Try.prog 20 #[.slice (some ⟨g, 0, none⟩) 2 2] w fun e w' => ∃ v, e = .returned v ∧ OwnParts w' w.heap.size v (ls ++ ms) ∧ Below w.heap.size w w' := by
  have HL := Lib.hid hl
  have HM := Lib.hid hm
  have H0 := Lib.hid h0
  have H1 := Lib.hid h1
  clear hl hm h0 h1
  go_enter Try.func20, Try.ntmps20
  go_wp2
  go_loop [3, 11] (fun z i => ∃ j : Nat, j ≤ 2 ∧ i = .int .i64 j ∧ z = .int .i64 (upTwo n y j : Nat)) (fun _ i => 2 - (intOf i).toNat)
  case atStart => exact ⟨0, Nat.zero_le _, rfl, rfl⟩
  case round =>
    obtain ⟨j, hj, rfl, rfl⟩ := hrel
    rcases (show j = 0 ∨ j = 1 ∨ j = 2 by omega) with rfl | rfl | rfl
    · have hc := H0.out
      have hs0 : ¬ ((0 : Int) + (n : Int) < 0) := by omega
      rw [show upTwo n y 0 = 0 from rfl]
      go_wp2
      go_round
      case rel => exact ⟨1, by omega, by go_num, by show _ = Value.int .i64 ((n : Nat) : Int); go_num⟩
      case measure => simp [intOf]
    · have hc := H1.out
      rw [show upTwo n y 1 = n from rfl]
      have hs0 : ¬ ((n : Int) + (y : Int) < 0) := by omega
      go_wp2
      go_round
      case rel => exact ⟨2, by omega, by go_num, by show _ = Value.int .i64 ((n + y : Nat) : Int); go_num⟩
      case measure => simp [intOf]
    · rw [show upTwo n y 2 = n + y from rfl]
      have HG := Lib.hid (growRows_none (n + y) w hn)
      go_wp2_with fail
      refine HG.out.mono ?_
      rintro e w1 ⟨v, rfl, hown, hb⟩
      have Hown := Lib.hid hown
      clear hown HG
      go_wp2_with fail
      go_loopw [6, 27] (fun v i wr => ∃ j : Nat, j ≤ 2 ∧ i = .int .i64 j ∧ OwnParts wr w.heap.size v (twoOf ls ms j) ∧ Below w.heap.size w wr) (fun _ i _ => 2 - (intOf i).toNat)
      case atStart => exact ⟨0, Nat.zero_le _, rfl, Hown.out, hb⟩
      case round =>
        obtain ⟨j, hj, rfl, hown, hbel⟩ := hrel
        rcases (show j = 0 ∨ j = 1 ∨ j = 2 by omega) with rfl | rfl | rfl
        · have hc : wr.cell? ⟨g, 0, none⟩ = some (.slice a n c) := by rw [hbel.cell (p := ⟨g, 0, none⟩) (World.block_lt_of_cell? _ _ H0.out)]; exact H0.out
          have Hown2 := Lib.hid (show OwnParts wr w.heap.size _ [] from hown)
          clear hown
          go_wp2_with (at_builtin; refine wpList_append_rows rfl _ _ 22 rfl Try.underlying22 info_rows (w0 := w) rfl Hown2.out (p := a) (m := n) (c := c) rfl HL.out hbel (by simp; omega) ?_; intro v' w3 g1 g2)
          go_roundw
          case rel => exact ⟨1, by omega, by go_num, g1, g2⟩
          case measure => simp [intOf]
        · have hc : wr.cell? ⟨g, 1, none⟩ = some (.slice p y k) := by rw [hbel.cell (p := ⟨g, 1, none⟩) (World.block_lt_of_cell? _ _ H1.out)]; exact H1.out
          have Hown2 := Lib.hid (show OwnParts wr w.heap.size _ ls from hown)
          have hln : ls.length + y ≤ 1000000000 := by rw [HL.out.len]; exact hn
          clear hown
          go_wp2_with (at_builtin; refine wpList_append_rows rfl _ _ 22 rfl Try.underlying22 info_rows (w0 := w) rfl Hown2.out (p := p) (m := y) (c := k) rfl HM.out hbel hln ?_; intro v' w3 g1 g2)
          go_roundw
          case rel => exact ⟨2, by omega, by go_num, g1, g2⟩
          case measure => simp [intOf]
        · have Hown2 := Lib.hid (show OwnParts wr w.heap.size _ (ls ++ ms) from hown)
          clear hown
          go_wp2
          go_ret
          exact ⟨_, rfl, Hown2.out, hbel⟩
end Go.Proofs.Ytmebffmdfnnbmaa
