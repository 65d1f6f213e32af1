import Derived.Test.YtjoolocdejnohaaGreatSSB26
import Derived.Test.YtjoolocdejnohaaGreatSSB17
import Derived.Maps.AppendAt
import Derived.Lib.AppendZeros
import Derived.Test.YtjoolocdejnohaaGreatSSB13
import Derived.Test.YtjoolocdejnohaaGreatSSB37
import Derived.Test.YtjoolocdejnohaaGreatSSB29
import Derived.Test.YtjoolocdejnohaaGreatSSB25
import Derived.Test.YtjoolocdejnohaaGreatSSB28
/- The walks of slices.Grow of no slice and of slices.Concat of two slices, of byte slices. -/
namespace Go.Proofs.YtjoolocdejnohaaGreat
open Go.RowKit

section
variable {P : Program}

/-- 'append(out, p...)': out a slice of byte slices of the call's own, p one that lay there when the call began. -/
theorem wpList_append_rows {w : World} {ops : Array Oper} {rest : List Oper} {o : Oper} {a : Act} {Q : Exit → Act → World → Prop} (hgd : o.guard = none) (s x : Operand) (t : TypeId)
    (ho : o.op = .call { callee := .builtin .append, args := #[s, x], argTypes := #[t, t] })
    (ht : P.underlying t = some (.slice 58)) (hinfo : (P.info? 58).map (fun i => (i.zero, i.size, i.bytes)) = some (some (.slice none 0 0), 1, 24))
    {w0 : World} {v : Value} {ls ms : List (List Nat)} (hs : a.eval s = v) (hown : OwnParts w w0.heap.size v ls)
    {p : Option Addr} {m c : Nat} (hx : a.eval x = .slice p m c) (hP : Parts w0 p m c ms) (hb : Below w0.heap.size w0 w) (hn : ls.length + m ≤ 1000000000)
    (h : ∀ v' w', OwnParts w' w0.heap.size v' (ls ++ ms) → Below w0.heap.size w0 w' → wpList P ops Q rest (a.put o.dst v') w') : wpList P ops Q (o :: rest) a w := by
  obtain ⟨i, hi, hz, hsz, hby⟩ := info_parts hinfo
  rcases Nat.eq_zero_or_pos m with rfl | hm
  · have hm0 : ms = [] := List.length_eq_zero_iff.1 hP.len
    obtain ⟨q, k, rfl, hq⟩ := hown.parts
    have hr : (Builtin.append_ #[t, t] o.type #[.slice q ls.length k, .slice p 0 c]).run P w = .ok (.slice q ls.length k) w := by
      refine run_append_nothing w t t o.type 58 i ht hi q ls.length k hq.le (.slice p 0 c) ?_
      cases p with
      | none => exact Src.ofNil w ht c
      | some ad => exact Src.ofSlice w ht ad 0 c [] (by simp) (fun j u h => by simp at h) (fun u h => by simp at h)
    refine wpList_plain hgd fun K hK => ?_
    unfold Oper.wp execOp
    simp only [ho, resolve, invoke, builtin, Sem.run_bind, Sem.run_pure, Result.andThen_ok, List.map_toArray, List.map_cons, List.map_nil, hs, hx, hr]
    refine hK _ _ (h _ w ?_ hb)
    rw [hm0, List.append_nil]
    exact hown
  · obtain ⟨b, off, rfl, hblt, hc⟩ := hP.cell hm
    obtain ⟨vs, hlen, hrow, hel⟩ := hown
    have hadd : ∀ (x y j : Nat), (⟨x, y, none⟩ : Addr).add j = ⟨x, y + j, none⟩ := fun x y j => by unfold Addr.add; split <;> simp_all
    obtain ⟨us, hus⟩ : ∃ us : List Value, us = (List.range m).map fun i => (w0.cell? ⟨b, off + i, none⟩).getD undef := ⟨_, rfl⟩
    have hul : us.length = m := by rw [hus]; simp
    have hu : ∀ i, i < m → ∃ a' n' c', us[i]? = some (.slice a' n' c') ∧ w.cell? ⟨b, off + i, none⟩ = some (.slice a' n' c') ∧ Bytes w0 a' n' c' (ms.getD i []) := by
      intro i hi
      obtain ⟨a', n', c', h1, h2⟩ := hc i hi
      refine ⟨a', n', c', ?_, by rw [hb.cell (p := ⟨b, off + i, none⟩) hblt]; exact h1, h2⟩
      rw [hus, List.getElem?_map, List.getElem?_range hi]
      simp [h1]
    refine wpList_append_own_at w hgd s x t ho w0.heap.size 58 i (.slice none 0 0) 1 24 ht hi hz hsz hby rfl (by decide) v ls.length vs hs hrow ⟨b, off, none⟩ m c us hx (by rw [hul]; omega) ?_ ?_ (by rw [maxLen_nat]; omega) (by omega) hb.size ?_
    · intro j u hj
      have hjm : j < m := by rw [← hul]; exact (List.getElem?_eq_some_iff.1 hj).1
      obtain ⟨a', n', c', h1, h2, _⟩ := hu j hjm
      rw [hadd, h2, ← h1, hj]
    · intro u huu
      obtain ⟨j, hj, rfl⟩ := List.getElem_of_mem huu
      obtain ⟨a', n', c', h1, _, _⟩ := hu j (by rw [← hul]; exact hj)
      rw [List.getElem?_eq_getElem hj] at h1
      rw [Option.some.inj h1]
      rfl
    · intro v' w' g1 g2 _ g4
      refine h v' w' (OwnParts.app hlen hel (by rw [hul]; exact hP.len.symm) (fun i hi => ?_) (by rw [hP.len]; exact g1) g2 g4) (hb.grown g2 hb.size (fun k hk => (hrow.lt k hk).1))
      obtain ⟨a', n', c', h1, _, h3⟩ := hu i (by rw [← hP.len]; exact hi)
      refine ⟨a', n', c', h1, h3.grow hb, fun hn' y hy e => ?_⟩
      have h4 := (hrow.lt y.block e.symm).1
      obtain ⟨b', o', e2, hc'⟩ := h3.cell hn'
      have h5 := World.block_lt_of_cell? _ _ (hc' 0 hn')
      rw [hy] at e2
      cases e2
      simp only at h4 h5
      omega
end

end Go.Proofs.YtjoolocdejnohaaGreat

/- The walks of Join, of the code and of the reference. -/
namespace Go.Proofs.YtjoolocdejnohaaGreat
open Go.RowKit Crc

def JoinRel (w : World) (ls : List (List Nat)) (v i : Value) (wr : World) : Prop :=
  ∃ k : Nat, k ≤ ls.length ∧ i = .int .i64 k ∧ wr.ownsRow w.heap.size 5 1 v (joinL (ls.take k)).length (u8s (joinL (ls.take k))) ∧ Below w.heap.size w wr

theorem joinL_take {ls : List (List Nat)} {k : Nat} (h : k < ls.length) : joinL (ls.take (k + 1)) = joinL (ls.take k) ++ frameL (ls.getD k []) := by
  rw [List.take_succ_eq_append_getElem h, joinL_snoc, List.getD_eq_getElem?_getD, List.getElem?_eq_getElem h]
  rfl

theorem joinL_take_le {ls : List (List Nat)} {k : Nat} : (joinL (ls.take k)).length ≤ (joinL ls).length := by
  conv => rhs; rw [← List.take_append_drop k ls, joinL_append, List.length_append]
  omega

theorem joinRel_step {w wr w1 : World} {ls : List (List Nat)} {v v' : Value} {k n' : Nat} {l : List Nat} (hk : k < ls.length) (hl : ls.getD k [] = l) (hn : (frameL l).length = n')
    (hown : wr.ownsRow w.heap.size 5 1 v (joinL (ls.take k)).length (u8s (joinL (ls.take k)))) (hbel : Below w.heap.size w wr)
    (g1 : w1.ownsRow w.heap.size 5 1 v' ((joinL (ls.take k)).length + n') (u8s (joinL (ls.take k) ++ frameL l))) (g2 : wr.grownBy w1 v.ownBlock) : JoinRel w ls v' (.int .i64 ((k : Int) + 1)) w1 := by
  subst hl
  subst hn
  refine ⟨k + 1, hk, by go_num, ?_, hbel.grown g2 hbel.size (fun x hx => (hown.lt x hx).1)⟩
  rw [joinL_take hk, List.length_append]
  exact g1

/-- What Join answers. -/
def JoinEnd (w : World) (ls : List (List Nat)) (e : Ending) (w' : World) : Prop :=
  ∃ v, e = .returned (.tuple #[v, .bool true]) ∧ OwnBytes w w' v (joinL ls)

theorem rec_at {ls : List (List Nat)} {k : Nat} (h : ∀ r ∈ ls, r.length ≤ 1048576) : (ls.getD k []).length ≤ 1048576 := by
  rw [List.getD_eq_getElem?_getD]
  by_cases hk : k < ls.length
  · rw [List.getElem?_eq_getElem hk]
    exact h _ (List.getElem_mem _)
  · rw [List.getElem?_eq_none (by omega)]
    exact Nat.zero_le _

set_option maxHeartbeats 800000 in
theorem join_any (a : Option Addr) (n cap : Nat) (ls : List (List Nat)) (w : World) (hl : Parts w a n cap ls) (hr : ∀ r ∈ ls, r.length ≤ 1048576) (hm : (joinL ls).length ≤ 100000000000000) :
    Calls Tryz.prog 86 #[.slice a n cap] w (JoinEnd w ls) := by
  have hls := Lib.hid hl.len
  have hnb := hl.max
  have hP := Lib.hid hl
  have Hr := Lib.hid hr
  clear hl hr
  go_enter Tryz.func86, Tryz.ntmps86
  go_wp2
  go_loopw [4, 11] (fun v i wr => JoinRel w ls v i wr) (fun _ i _ => n - (intOf i).toNat)
  case atStart => exact ⟨0, Nat.zero_le _, rfl, World.ownsRow_nil _ _ _ _, Below.refl _ _⟩
  case round =>
    obtain ⟨k, hk, rfl, hown, hbel⟩ := hrel
    by_cases hlt : k < n
    · obtain ⟨b, o, a', n', c', rfl, hc, hB⟩ := bytes_get_all (hP.out.grow hbel) hlt
      have h1 := joinL_take_le (ls := ls) (k := k + 1)
      rw [joinL_take (by rw [hls.out]; exact hlt), List.length_append, frameL_len, hB.len] at h1
      have hc5 : (joinL (ls.take k)).length + (n' + 8) ≤ 140737488355328 := by omega
      have hn' : n' ≤ 1048576 := by rw [← hB.len]; exact rec_at Hr.out
      have HB := Lib.hid hB
      generalize hgl : ls.getD k [] = l at HB
      have Hgl := Lib.hid hgl
      have Hown := Lib.hid hown
      have HM := Lib.hid (make_yes a' n' c' l wr HB.out hn')
      have Hfl : (frameL l).length = n' + 8 := by rw [frameL_len, HB.out.len]
      have Hfl := Lib.hid Hfl
      clear hB hgl h1 hown
      go_wp2_with fail
      refine HM.out.mono ?_
      rintro e w1 ⟨v2, rfl, hown2, hb2⟩
      obtain ⟨p, cp, rfl, hC⟩ := own_slice hown2 (frameL_byte HB.out.byte (by rw [HB.out.len]; omega))
      have hown1 := own_below Hown.out hb2
      have hb1 := hbel.trans (hb2.mono hbel.size)
      rw [Hfl.out] at hC ⊢
      have HC := Lib.hid hC
      have Hown1 := Lib.hid hown1
      clear hown2 hC hown1 HM
      go_wp2_with (at_builtin; refine wpList_append_bytes _ rfl _ _ 58 rfl w.heap.size 5 Tryz.underlying58 info_u8 _ _ _ rfl Hown1.out p (n' + 8) cp (frameL l) rfl HC.out hc5 hb1.size ?_; intro v' w3 g1 g2)
      go_roundw
      case rel => exact joinRel_step (by rw [hls.out]; exact hlt) Hgl.out Hfl.out Hown1.out hb1 g1 g2
      case measure => simp [intOf]; omega
    · have hkn : k = ls.length := by have := hls.out; omega
      have ht : ls.take k = ls := by rw [hkn, List.take_length]
      rw [ht] at hown
      have Hown := Lib.hid hown
      clear ht hkn hown
      go_wp2
      go_ret2
      exact ⟨_, rfl, Hown.out, hbel⟩

set_option maxHeartbeats 800000 in
theorem rjoin_any (a : Option Addr) (n cap : Nat) (ls : List (List Nat)) (w : World) (hl : Parts w a n cap ls) (hr : ∀ r ∈ ls, r.length ≤ 1048576) (hm : (joinL ls).length ≤ 100000000000000) :
    Calls Tryz.prog 91 #[.slice a n cap] w (JoinEnd w ls) := by
  have hls := Lib.hid hl.len
  have hnb := hl.max
  have hP := Lib.hid hl
  have Hr := Lib.hid hr
  clear hl hr
  go_enter Tryz.func91, Tryz.ntmps91
  go_wp2
  go_loopw [4, 5] (fun v i wr => JoinRel w ls v i wr) (fun _ i _ => n - (intOf i).toNat)
  case atStart => exact ⟨0, Nat.zero_le _, rfl, World.ownsRow_nil _ _ _ _, Below.refl _ _⟩
  case round =>
    obtain ⟨k, hk, rfl, hown, hbel⟩ := hrel
    by_cases hlt : k < n
    · obtain ⟨b, o, a', n', c', rfl, hc, hB⟩ := bytes_get_all (hP.out.grow hbel) hlt
      have h1 := joinL_take_le (ls := ls) (k := k + 1)
      rw [joinL_take (by rw [hls.out]; exact hlt), List.length_append, frameL_len, hB.len] at h1
      have hc5 : (joinL (ls.take k)).length + (n' + 8) ≤ 140737488355328 := by omega
      have hn' : n' ≤ 1048576 := by rw [← hB.len]; exact rec_at Hr.out
      have HB := Lib.hid hB
      generalize hgl : ls.getD k [] = l at HB
      have Hgl := Lib.hid hgl
      have Hown := Lib.hid hown
      have HM := Lib.hid (rmake_yes a' n' c' l wr HB.out hn')
      have Hfl : (frameL l).length = n' + 8 := by rw [frameL_len, HB.out.len]
      have Hfl := Lib.hid Hfl
      clear hB hgl h1 hown
      go_wp2_with fail
      refine HM.out.mono ?_
      rintro e w1 ⟨v2, rfl, hown2, hb2⟩
      obtain ⟨p, cp, rfl, hC⟩ := own_slice hown2 (frameL_byte HB.out.byte (by rw [HB.out.len]; omega))
      have hown1 := own_below Hown.out hb2
      have hb1 := hbel.trans (hb2.mono hbel.size)
      rw [Hfl.out] at hC ⊢
      have HC := Lib.hid hC
      have Hown1 := Lib.hid hown1
      clear hown2 hC hown1 HM
      go_wp2_with (at_builtin; refine wpList_append_bytes _ rfl _ _ 58 rfl w.heap.size 5 Tryz.underlying58 info_u8 _ _ _ rfl Hown1.out p (n' + 8) cp (frameL l) rfl HC.out hc5 hb1.size ?_; intro v' w3 g1 g2)
      go_roundw
      case rel => exact joinRel_step (by rw [hls.out]; exact hlt) Hgl.out Hfl.out Hown1.out hb1 g1 g2
      case measure => simp [intOf]; omega
    · have hkn : k = ls.length := by have := hls.out; omega
      have ht : ls.take k = ls := by rw [hkn, List.take_length]
      rw [ht] at hown
      have Hown := Lib.hid hown
      clear ht hkn hown
      go_wp2
      go_ret2
      exact ⟨_, rfl, Hown.out, hbel⟩
end Go.Proofs.YtjoolocdejnohaaGreat

/- The walks of what Compact asks of the records: whether one is a mark, the records behind a mark, their size. -/
namespace Go.Proofs.YtjoolocdejnohaaGreat
open Go.RowKit

theorem tismark_any (a : Option Addr) (n c : Nat) (w : World) : Calls Tryz.prog 85 #[.slice a n c] w fun e w' => e = .returned (.bool (decide (n = 0))) ∧ w = w' := by
  have h9 : ((n : Int) == 0) = decide (n = 0) := by
    by_cases e : n = 0
    · subst e; rfl
    · rw [decide_eq_false e, beq_eq_false_iff_ne]
      omega
  go_enter Tryz.func85, Tryz.ntmps85
  go_wp2
  go_ret
  exact ⟨by first | rfl | rw [← h9], rfl⟩

def markV : Value := .func (.func 85) #[] #[]

/-- Where the first mark is. -/
def IdxEnd (ls : List (List Nat)) (e : Ending) : Prop := ∃ z : Int, e = .returned (.int .i64 z) ∧ (0 ≤ z ↔ [] ∈ ls) ∧ -1 ≤ z ∧ z ≤ 9223372036854775807

set_option maxRecDepth 100000 in
theorem indexMark_any (a : Option Addr) (n cap : Nat) (ls : List (List Nat)) (w : World) (hl : Parts w a n cap ls) :
    Calls Tryz.prog 129 #[.slice a n cap, markV] w fun e w' => IdxEnd ls e ∧ w = w' := by
  have hls := Lib.hid hl.len
  have hnb := hl.max
  have hP := Lib.hid hl
  clear hl
  unfold markV
  go_enter Tryz.func129, Tryz.ntmps129
  go_wp2
  go_loop [8] (fun i => ∃ k : Nat, k ≤ n ∧ i = .int .i64 k ∧ [] ∉ ls.take k) (fun i => n - (intOf i).toNat)
  case atStart => exact ⟨0, Nat.zero_le _, rfl, by simp⟩
  case round =>
    obtain ⟨k, hk, rfl, hno⟩ := hrel
    by_cases hlt : k < n
    · obtain ⟨b, o, a', n', c', rfl, hc, hB⟩ := bytes_get_all hP.out hlt
      have hkl : k < ls.length := by rw [hls.out]; exact hlt
      have hts := List.take_succ_eq_append_getElem hkl
      have hgd : ls.getD k [] = ls[k] := by rw [List.getD_eq_getElem?_getD, List.getElem?_eq_getElem hkl]; rfl
      rw [hgd] at hB
      have hln := hB.len
      have hin := List.getElem_mem hkl
      generalize ls[k] = l at *
      have HM := Lib.hid (fun W => tismark_any a' n' c' W)
      by_cases h0 : n' = 0
      · have hl0 : l = [] := List.length_eq_zero_iff.1 (by omega)
        have Hin := Lib.hid (show ([] : List Nat) ∈ ls from by rw [← hl0]; exact hin)
        have hd : decide (n' = 0) = true := decide_eq_true h0
        rw [hd] at HM
        clear hts hgd hB hln hin hno hl0 h0 hd hkl
        go_wp2_with fail
        refine (HM.out _).mono ?_
        rintro e w' ⟨rfl, rfl⟩
        go_wp2
        go_ret
        exact ⟨⟨(k : Int), rfl, ⟨fun _ => Hin.out, fun _ => by omega⟩, by omega, by omega⟩, rfl⟩
      · have hd : decide (n' = 0) = false := decide_eq_false h0
        rw [hd] at HM
        have Hno := Lib.hid (show ([] : List Nat) ∉ ls.take (k + 1) from by
          rw [hts]
          intro h
          rcases List.mem_append.1 h with h | h
          · exact hno h
          · have := List.mem_singleton.1 h
            rw [← this] at hln
            exact h0 hln.symm)
        clear hts hgd hB hln hin hno h0 hd hkl
        go_wp2_with fail
        refine (HM.out _).mono ?_
        rintro e w' ⟨rfl, rfl⟩
        go_wp2
        go_round
        case rel => exact ⟨k + 1, by omega, by go_num, Hno.out⟩
        case measure => simp [intOf]; omega
    · obtain rfl : k = n := by omega
      have Hno := Lib.hid (show ([] : List Nat) ∉ ls from by rw [← hls.out, List.take_length] at hno; exact hno)
      clear hno hlt
      go_wp2
      go_ret
      exact ⟨⟨-1, rfl, ⟨fun h => by omega, fun h => absurd h Hno.out⟩, by omega, by omega⟩, rfl⟩

set_option maxRecDepth 100000 in
theorem hasMark_any (a : Option Addr) (n cap : Nat) (ls : List (List Nat)) (w : World) (hl : Parts w a n cap ls) :
    Calls Tryz.prog 84 #[.slice a n cap, markV] w fun e w' => e = .returned (.bool (decide ([] ∈ ls))) ∧ w = w' := by
  have HI := Lib.hid (indexMark_any a n cap ls w hl)
  unfold markV at *
  clear hl
  go_enter Tryz.func84, Tryz.ntmps84
  go_wp2_with fail
  refine HI.out.mono ?_
  rintro e w' ⟨⟨z, rfl, hz, h1, h2⟩, rfl⟩
  by_cases h0 : 0 ≤ z
  · have hd := Lib.hid (decide_eq_true (hz.1 h0))
    clear hz
    go_wp2
    go_ret
    rw [hd.out]
    exact ⟨rfl, rfl⟩
  · have hd := Lib.hid (decide_eq_false (fun h => h0 (hz.2 h)))
    have hz0 : decide (0 ≤ z) = false := decide_eq_false h0
    clear hz
    go_wp2
    go_ret
    rw [hd.out]
    exact ⟨by first | rfl | rw [hz0], rfl⟩

theorem ownRow_one (w : World) : OwnParts (w.alloc (.cells #[.slice none 0 0] 58)) w.heap.size (.slice (some ⟨w.heap.size, 0, none⟩) 1 1) [[]] := by
  refine ⟨[.slice none 0 0], rfl, ⟨rfl, .inr ⟨w.heap.size, 1, _, rfl, Nat.le_refl _, heap_alloc_new _ _, Nat.le_refl _, by rw [maxLen_nat]; omega, rfl, rfl⟩⟩, fun i hi => ?_⟩
  obtain rfl : i = 0 := by simpa using hi
  exact ⟨none, 0, 0, rfl, ⟨rfl, Nat.le_refl _, Nat.zero_le _, (fun _ h => by cases h), fun _ => rfl, fun h => absurd h (Nat.lt_irrefl _)⟩, fun h => absurd h (Nat.lt_irrefl _)⟩

set_option maxRecDepth 100000 in
theorem marked_any (a : Option Addr) (n cap : Nat) (ls : List (List Nat)) (w : World) (hl : Parts w a n cap ls) (hn : n ≤ 1000000) :
    Calls Tryz.prog 87 #[.slice a n cap] w fun e w' => ∃ a' c', e = .returned (.slice a' (n + 1) c') ∧ Parts w' a' (n + 1) c' ([] :: ls) ∧ Below w.heap.size w w' := by
  have hP := Lib.hid hl
  have hls := Lib.hid hl.len
  have Ho := Lib.hid (ownRow_one w)
  have Hb := Lib.hid ((Below.refl w.heap.size w).alloc (Nat.le_refl _) (.cells #[.slice none 0 0] 58))
  clear hl
  go_enter Tryz.func87, Tryz.ntmps87
  go_wp2_with (at_builtin; refine wpList_append_rows rfl _ _ 29 rfl Tryz.underlying29 info_rows rfl Ho.out rfl hP.out Hb.out (by show 1 + n ≤ 1000000000; omega) ?_; intro v' w' h1 h2)
  obtain ⟨a', c', rfl, hQ⟩ := h1.parts
  have HQ := Lib.hid hQ
  have Hb2 := Lib.hid h2
  have hl2 : ([[]] ++ ls).length = n + 1 := by rw [List.length_append, hls.out]; show 1 + n = n + 1; omega
  rw [hl2] at HQ ⊢
  clear h1 h2 hQ hl2
  go_wp2
  go_ret
  exact ⟨_, _, rfl, HQ.out, Hb2.out⟩

theorem sizeL_mark (ls : List (List Nat)) : sizeL ([] :: ls) = sizeL ls + 8 := by rw [sizeL_cons]; simp; omega

end Go.Proofs.YtjoolocdejnohaaGreat

/- The walk of Compact. -/
namespace Go.Proofs.YtjoolocdejnohaaGreat
open Go.RowKit Go.Maps Go.Shelf

/-- What compacting a log makes of its disk. -/
def CompOf (W : WM) (recs : List (List Nat)) (r : DM × Int) : Prop :=
  (([] ∈ recs ∨ 99999999 ≤ W.n) ∧ r = (W.D, 2)) ∨ (([] ∉ recs ∧ W.n < 99999999) ∧ IsComp W.D (W.n + 1) (joinL ([] :: recs)) r)

theorem compOf_uniq {W : WM} {recs : List (List Nat)} {r r' : DM × Int} (h : CompOf W recs r) (h' : CompOf W recs r') : r = r' := by
  rcases h with ⟨h1, rfl⟩ | ⟨⟨h1, h2⟩, h3⟩
  · rcases h' with ⟨_, rfl⟩ | ⟨⟨k1, k2⟩, _⟩
    · rfl
    · rcases h1 with h1 | h1
      · exact absurd h1 k1
      · omega
  · rcases h' with ⟨k1, _⟩ | ⟨_, k3⟩
    · rcases k1 with k1 | k1
      · exact absurd k1 h1
      · omega
    · exact isComp_uniq h3 k3

/-- The log behind it. -/
def compW (W : WM) (most : Int) (recs : List (List Nat)) (M : DM) : WM := ⟨M, most, W.n + 1, sizeL recs + 8, 0⟩

/-- What Compact answers and leaves. -/
def CompEnd (w0 : World) (Y : Nat → Prop) (w : World) (d : Nat) (most : Int) (W : WM) (recs : List (List Nat)) (e : Ending) (w' : World) : Prop :=
  ∃ r, CompOf W recs r ∧ ((r.2 ≠ 0 ∧ e = .returned (.tuple #[.pointer none, .int .i64 r.2]) ∧ OwnEnd w0 Y w d r.1 w') ∨
    (r.2 = 0 ∧ ∃ g, e = .returned (.tuple #[.pointer (some ⟨g, 0, none⟩), .int .i64 0]) ∧ w.heap.size ≤ g ∧ LogAt w0 (fun b => Y b ∨ b = g) w' g d (compW W most recs r.1) ∧ (∀ b, Y b → w'.heap[b]? = w.heap[b]?) ∧ Below w0.heap.size w w' ∧ w.heap.size ≤ w'.heap.size))

section
variable {w0 : World} {Y : Nat → Prop} {w : World} {g d : Nat} {W : WM}

theorem OwnEnd.ofBelow {X : Nat → Prop} {M : DM} (h : Own w0 X w d M) {w' : World} (hb : Below w.heap.size w w') : OwnEnd w0 X w d M w' :=
  ⟨h.below hb, fun b hx => hb.block b (h.blocks b hx), hb.mono h.base.size, hb.size⟩

set_option maxRecDepth 100000 in
set_option maxHeartbeats 6400000 in
theorem compact_any (h : LogAt w0 Y w g d W) {U : Nat} (hnt : Neat W.D 900 U) (hU : U ≤ 10000000) (hnm : Named W.D) (h1 : 1 ≤ W.n) (hN : W.n ≤ 99999999) (most : Int) (p : Option Addr) (m c : Nat) (recs : List (List Nat)) (hP : Parts w p m c recs) (hm : m ≤ 1000) (hs : sizeL recs ≤ 1000000) :
    Calls Tryz.prog 38 #[.pointer (some ⟨d, 0, none⟩), .pointer (some ⟨g, 0, none⟩), .int .i64 most, .slice p m c] w (CompEnd w0 Y w d most W recs) := by
  have hc0 := h.cell.1
  have HO := Lib.hid (fun w' (hb : Below w.heap.size w w') => OwnEnd.ofBelow h.own hb)
  have hrl : ∀ r ∈ ([] : List Nat) :: recs, r.length ≤ 1048576 := by
    intro r hr
    rcases List.mem_cons.1 hr with rfl | hr
    · exact Nat.zero_le _
    · have key : ∀ (ls : List (List Nat)) (r : List Nat), r ∈ ls → r.length ≤ sizeL ls := by
        intro ls
        induction ls with
        | nil => intro r h; cases h
        | cons l ls ih =>
          intro r h
          rw [sizeL_cons]
          rcases List.mem_cons.1 h with rfl | h
          · omega
          · have := ih r h; omega
      have := key recs r hr
      omega
  have hjl : (joinL ([] :: recs)).length = sizeL recs + 8 := by rw [joinL_len, sizeL_mark]
  have Hjb := Lib.hid (joinL_byte (ls := [] :: recs) (fun r hr x hx => by
    rcases List.mem_cons.1 hr with rfl | hr
    · cases hx
    · exact hP.byte r hr x hx) hrl)
  have HSeg := Lib.hid ((segment_any hc0).mono fun e w' hq => (show e = .returned (.int .i64 (W.n : Int)) ∧ w = w' from ⟨hq.1, hq.2.symm⟩))
  have HNx := Lib.hid (fun w1 b (hb : w1.cell? ⟨b, 0, none⟩ = some (.int .i64 (W.n : Int))) => segnext_one b 1 W.n w1 hN hb)
  have HMk := Lib.hid (fun w1 (hb : Below w.heap.size w w1) => hasMark_any p m c recs w1 (hP.grow hb))
  have HMd := Lib.hid (fun w1 (hb : Below w.heap.size w w1) => marked_any p m c recs w1 (hP.grow hb) (by omega))
  have HJ := Lib.hid (fun a c w1 hQ => join_any a (m + 1) c ([] :: recs) w1 hQ hrl (by rw [hjl]; omega))
  have HTk := Lib.hid (fun (X : Nat → Prop) w1 (hO : Own w0 X w1 d W.D) (hlt : W.n < 99999999) a n c hB hp => t_take hO hnt hU hnm (W.n + 1) (by omega) (by omega) a n c (joinL ([] :: recs)) (by rw [hjl]; omega) hB hp)
  have Hjl := Lib.hid hjl
  have HL := Lib.hid h
  have hNn := Lib.hid hN
  have hY := Lib.hid h.own.blocks
  clear h hnt hU hnm hP hrl hjl hs hN
  by_cases hlt : W.n < 99999999
  case neg =>
    have hif : (if W.n < 99999999 then Value.tuple #[.int .i64 ((W.n + 1 : Nat) : Int), .bool true] else .tuple #[.int .i64 0, .bool false]) = .tuple #[.int .i64 0, .bool false] := if_neg hlt
    rw [hif] at HNx
    have HC := Lib.hid (show CompOf W recs (W.D, 2) from .inl ⟨.inr (by omega), rfl⟩)
    clear hif hlt
    go_enter Tryz.func38, Tryz.ntmps38
    go_wp2_with fail
    refine HSeg.out.mono ?_
    rintro e w1 ⟨rfl, rfl⟩
    have Hb := Lib.hid ((Below.refl w.heap.size w).alloc (Nat.le_refl _) (.cells #[.int .i64 (W.n : Int)] 3))
    have HN2 := Lib.hid (HNx.out (w.alloc (.cells #[.int .i64 (W.n : Int)] 3)) w.heap.size (by rw [cell_of_row _ _ _ _ _ (0, 0) (heap_alloc_new _ _)]; rfl))
    go_wp2_with fail
    refine HN2.out.mono ?_
    rintro e w2 ⟨rfl, rfl⟩
    go_wp2
    go_ret2
    exact ⟨_, HC.out, .inl ⟨(by show (2 : Int) ≠ 0; decide), rfl, HO.out _ Hb.out⟩⟩
  case pos =>
    have hif : (if W.n < 99999999 then Value.tuple #[.int .i64 ((W.n + 1 : Nat) : Int), .bool true] else .tuple #[.int .i64 0, .bool false]) = .tuple #[.int .i64 ((W.n + 1 : Nat) : Int), .bool true] := if_pos hlt
    rw [hif] at HNx
    have Hlt := Lib.hid hlt
    have hNl : W.n + 1 ≤ 99999999 := by omega
    clear hif hlt
    obtain ⟨NN, hNN⟩ : ∃ NN, NN = W.n + 1 := ⟨_, rfl⟩
    rw [← hNN] at HNx HTk hNl
    have HNN := Lib.hid hNN
    clear hNN
    by_cases hmk : [] ∈ recs
    · have hd : decide ([] ∈ recs) = true := decide_eq_true hmk
      rw [hd] at HMk
      have HC := Lib.hid (show CompOf W recs (W.D, 2) from .inl ⟨.inl hmk, rfl⟩)
      clear hd hmk
      go_enter Tryz.func38, Tryz.ntmps38
      go_wp2_with fail
      refine HSeg.out.mono ?_
      rintro e w1 ⟨rfl, rfl⟩
      have Hb := Lib.hid ((Below.refl w.heap.size w).alloc (Nat.le_refl _) (.cells #[.int .i64 (W.n : Int)] 3))
      have HN2 := Lib.hid (HNx.out (w.alloc (.cells #[.int .i64 (W.n : Int)] 3)) w.heap.size (by rw [cell_of_row _ _ _ _ _ (0, 0) (heap_alloc_new _ _)]; rfl))
      go_wp2_with fail
      refine HN2.out.mono ?_
      rintro e w2 ⟨rfl, rfl⟩
      have HMk2 := Lib.hid (HMk.out _ Hb.out)
      unfold markV at HMk2
      go_wp2_with fail
      refine HMk2.out.mono ?_
      rintro e w3 ⟨rfl, rfl⟩
      go_wp2
      go_ret2
      exact ⟨_, HC.out, .inl ⟨(by show (2 : Int) ≠ 0; decide), rfl, HO.out _ Hb.out⟩⟩
    · have hd : decide ([] ∈ recs) = false := decide_eq_false hmk
      rw [hd] at HMk
      have HC := Lib.hid (fun r (hr : IsComp W.D (W.n + 1) (joinL ([] :: recs)) r) => (show CompOf W recs r from .inr ⟨⟨hmk, Hlt.out⟩, hr⟩))
      clear hd hmk
      go_enter Tryz.func38, Tryz.ntmps38
      go_wp2_with fail
      refine HSeg.out.mono ?_
      rintro e w1 ⟨rfl, rfl⟩
      have Hb := Lib.hid ((Below.refl w.heap.size w).alloc (Nat.le_refl _) (.cells #[.int .i64 (W.n : Int)] 3))
      have HN2 := Lib.hid (HNx.out (w.alloc (.cells #[.int .i64 (W.n : Int)] 3)) w.heap.size (by rw [cell_of_row _ _ _ _ _ (0, 0) (heap_alloc_new _ _)]; rfl))
      go_wp2_with fail
      refine HN2.out.mono ?_
      rintro e w2 ⟨rfl, rfl⟩
      have HMk2 := Lib.hid (HMk.out _ Hb.out)
      unfold markV at HMk2
      go_wp2_with fail
      refine HMk2.out.mono ?_
      rintro e w3 ⟨rfl, rfl⟩
      have HMd2 := Lib.hid (HMd.out _ Hb.out)
      clear HMk HMk2 HN2 HNx HSeg HMd
      go_wp2_with fail
      refine HMd2.out.mono ?_
      rintro e w4 ⟨a4, c4, rfl, hP4, hb4⟩
      have HJ2 := Lib.hid (HJ.out a4 c4 w4 hP4)
      have Hb4 := Lib.hid (Hb.out.trans (hb4.mono Hb.out.size))
      clear hP4 hb4 HMd2 HJ Hb
      go_wp2_with fail
      refine HJ2.out.mono ?_
      rintro e w5 ⟨v5, rfl, hown5, hb5⟩
      obtain ⟨p5, c5, rfl, hB5⟩ := own_slice hown5 Hjb.out
      have hp5 : ∀ a, p5 = some a → 0 < (joinL ([] :: recs)).length → w.heap.size ≤ a.block ∧ a.block < w5.heap.size := by
        rintro a rfl h0
        obtain ⟨b, o, e, _⟩ := hB5.cell h0
        cases e
        obtain ⟨g1, g2⟩ := hown5.lt b rfl
        exact ⟨Nat.le_trans Hb4.out.size g1, g2⟩
      rw [Hjl.out] at hB5 hp5 ⊢
      have hb05 := Hb4.out.trans (hb5.mono Hb4.out.size)
      obtain ⟨w6, hw6⟩ : ∃ w6, w6 = w5.alloc (.cells #[.pointer (some ⟨d, 0, none⟩), .int .i64 (NN : Int), .slice p5 (sizeL recs + 8) c5] 150) := ⟨_, rfl⟩
      have hb56 : Below w5.heap.size w5 w6 := by rw [hw6]; exact (Below.refl _ _).alloc (Nat.le_refl _) _
      have hB6 : w6.heap[w5.heap.size]? = some (.cells #[.pointer (some ⟨d, 0, none⟩), .int .i64 (NN : Int), .slice p5 (sizeL recs + 8) c5] 150 (0, 0)) := by rw [hw6]; exact heap_alloc_new _ _
      obtain ⟨k0, k1, k2, kf⟩ := box3c hB6
      have hb06 := hb05.trans (hb56.mono hb05.size)
      have hO6 : Own w0 (fun b => Y b ∨ (w.heap.size ≤ b ∧ b < w6.heap.size)) w6 d W.D := HL.out.own.more hb06 (fun b hb => hb)
      have HT6 := Lib.hid (HTk.out _ w6 hO6 Hlt.out p5 (sizeL recs + 8) c5 (hB5.grow hb56) (fun h0 a ha => .inr ⟨(hp5 a ha h0).1, Nat.lt_of_lt_of_le (hp5 a ha h0).2 hb56.size⟩))
      have Hend := Lib.hid (fun M' w' (hE : OwnEnd w0 (fun b => Y b ∨ (w.heap.size ≤ b ∧ b < w6.heap.size)) w6 d M' w') => (show OwnEnd w0 Y w d M' w' from OwnEnd.past HL.out.own.blocks HL.out.own.base.size hb06 (fun _ h => .inl h) hE))
      have HWn := Lib.hid (fun W' => wnew_any d NN (sizeL recs + 8) most W')
      have HX := Lib.hid (fun w7 (hE : OwnEnd w0 (fun b => Y b ∨ (w.heap.size ≤ b ∧ b < w6.heap.size)) w6 d W.D w7) => hE)
      clear hown5 hb5 hB5 hp5 hb05 hb56 hB6 hb06 hO6 HX HTk HL HJ2 Hjb
      have Hw6 := Lib.hid hw6
      clear hw6
      unfold compV at HT6
      go_wp2_with fail
      rw [← Hw6.out]
      refine HT6.out.mono ?_
      rintro e w7 ⟨r, hr, rfl, hE⟩
      have HC2 := Lib.hid (HC.out r (by rw [← HNN.out]; exact hr))
      have HE := Lib.hid (Hend.out _ _ hE)
      clear hr hE k0 k1 k2 kf Hend HC
      by_cases hz : r.2 = 0
      · have hz1 : (r.2 != 0) = false := by simp [hz]
        have Hz := Lib.hid hz
        have HWn2 := Lib.hid (HWn.out w7)
        clear hz
        go_wp2_with fail
        refine HWn2.out.mono ?_
        rintro e w8 ⟨rfl, hw8⟩
        have Hw8 := Lib.hid hw8
        clear hw8
        go_wp2
        go_ret2
        obtain ⟨hO7, hk7, hb7, hs7⟩ := HE.out
        have hb78 : Below w7.heap.size w7 w8 := by rw [Hw8.out]; exact (Below.refl _ _).alloc (Nat.le_refl _) _
        have hB8 : w8.heap[w7.heap.size]? = some (.cells #[.int .i64 (NN : Int), .int .i64 ((sizeL recs + 8 : Nat) : Int), .int .i64 0, .pointer (some ⟨d, 0, none⟩), .int .i64 most] 129 (0, 0)) := by rw [Hw8.out]; exact heap_alloc_new _ _
        have hlt8 := (Array.getElem?_eq_some_iff.1 hB8).1
        rw [HNN.out] at hB8
        exact ⟨r, HC2.out, .inr ⟨Hz.out, w7.heap.size, rfl, hs7, ⟨hO7.more hb78 (fun b hb => hb.imp id (fun e => ⟨by omega, by omega⟩)), .inr rfl, hO7.base.size, hB8⟩, fun b hb => (hb78.block b (hO7.blocks b hb)).trans (hk7 b hb), hb7.trans (hb78.mono hO7.base.size), Nat.le_trans hs7 hb78.size⟩⟩
      · have hz1 : (r.2 != 0) = true := by simp [hz]
        have Hz := Lib.hid hz
        clear hz
        go_wp2
        go_ret2
        exact ⟨r, HC2.out, .inl ⟨Hz.out, rfl, HE.out⟩⟩
end
end Go.Proofs.YtjoolocdejnohaaGreat

/- A log beside the reference's, while a statement runs. -/
namespace Go.Proofs.YtjoolocdejnohaaGreat
open Go.RowKit Go.Maps Go.Shelf

theorem RBox.shift {X : Nat → Prop} {w w' : World} {B : Nat} {W : WM} (h : RBox X w B W) (hk : ∀ b, X b ∨ b = B → w'.heap[b]? = w.heap[b]?) (hs : w.heap.size ≤ w'.heap.size) : RBox X w' B W := by
  obtain ⟨a, n, c, R, h1, h2, h3, h4, h5⟩ := h
  exact ⟨a, n, c, R, (hk B (.inr rfl)).trans h1, h2.mono (fun b hb => hk b (.inl hb)) (fun _ h => h), h3, h4, fun b hx => ⟨Nat.lt_of_lt_of_le (h5 b hx).1 hs, (h5 b hx).2⟩⟩

theorem RBox.plan {X : Nat → Prop} {w : World} {B : Nat} {W : WM} (h : RBox X w B W) (k : Int) (hk : 0 ≤ k) : RBox X (w.setCell ⟨B, 2, none⟩ (.int .i64 k)) B { W with D := armM k W.D } := by
  obtain ⟨a, n, c, R, h1, h2, h3, h4, h5⟩ := h
  refine ⟨a, n, c, R, ?_, h2.mono (fun b hb => Below.heap_setCell w ⟨B, 2, none⟩ _ b (h5 b hb).2) (fun _ h => h), h3, h4, fun b hx => ⟨by simp; exact (h5 b hx).1, (h5 b hx).2⟩⟩
  have h6 := set_head (i := 2) h1 (.int .i64 k)
  have e : k = ((k.toNat : Nat) : Int) := by omega
  rw [e] at h6 ⊢
  simpa [logO, armM] using h6

/-- A disk beside a log of the reference in a box; the blocks of T stay as they were in wT. -/
structure DB (w0 : World) (T : Nat → Prop) (wT : World) (d B : Nat) (M : DM) (Wb : WM) (wr : World) : Prop where
  own : ∃ Y : Nat → Prop, Own w0 Y wr d M ∧ Y B ∧ (∀ b, T b → Y b) ∧ ∃ X : Nat → Prop, RBox X wr B Wb ∧ ∀ b, X b → Y b ∧ ¬ T b
  ne : w0.heap.size ≤ B ∧ ¬ T B
  tb : ∀ b, T b → b < wT.heap.size
  keep : ∀ b, T b → wr.heap[b]? = wT.heap[b]?
  size : wT.heap.size ≤ wr.heap.size

/-- .. and a log on it. -/
structure Both (w0 : World) (T : Nat → Prop) (wT : World) (g d B : Nat) (W Wb : WM) (wr : World) : Prop where
  log : ∃ Y : Nat → Prop, LogAt w0 Y wr g d W ∧ Y B ∧ (∀ b, T b → Y b) ∧ ∃ X : Nat → Prop, RBox X wr B Wb ∧ ∀ b, X b → Y b ∧ b ≠ g ∧ ¬ T b
  ne : B ≠ g ∧ w0.heap.size ≤ B ∧ ¬ T B ∧ ¬ T g
  tb : ∀ b, T b → b < wT.heap.size
  keep : ∀ b, T b → wr.heap[b]? = wT.heap[b]?
  size : wT.heap.size ≤ wr.heap.size

section
variable {w0 : World} {T : Nat → Prop} {wT : World} {g d B : Nat} {W Wb : WM} {M : DM} {wr : World}

theorem DB.base (h : DB w0 T wT d B M Wb wr) : Below w0.heap.size w0 wr := by
  obtain ⟨Y, h1, _⟩ := h.own
  exact h1.base

theorem Both.base (h : Both w0 T wT g d B W Wb wr) : Below w0.heap.size w0 wr := by
  obtain ⟨Y, h1, _⟩ := h.log
  exact h1.own.base

theorem Both.lt (h : Both w0 T wT g d B W Wb wr) : B < wr.heap.size ∧ g < wr.heap.size := by
  obtain ⟨Y, h1, h2, _⟩ := h.log
  exact ⟨h1.own.blocks B h2, h1.lt⟩

theorem DB.lt (h : DB w0 T wT d B M Wb wr) : B < wr.heap.size := by
  obtain ⟨Y, h1, h2, _⟩ := h.own
  exact h1.blocks B h2

/-- A call on the disk. -/
theorem DB.stepOwn (h : DB w0 T wT d B M Wb wr) {wa : World} (hb : Below wr.heap.size wr wa) : ∃ Y' : Nat → Prop, Own w0 Y' wa d M ∧ (∀ b, wr.heap.size ≤ b → b < wa.heap.size → Y' b) ∧ ∀ M' w3, OwnEnd w0 Y' wa d M' w3 → DB w0 T wT d B M' Wb w3 := by
  obtain ⟨Y, h1, h2, h3, X, h4, h5⟩ := h.own
  refine ⟨_, h1.more hb (fun b hb => hb), fun b g1 g2 => .inr ⟨g1, g2⟩, fun M' w3 hE => ?_⟩
  have hbk : ∀ b, Y b → w3.heap[b]? = wr.heap[b]? := fun b hy => (hE.2.1 b (.inl hy)).trans (hb.block b (h1.blocks b hy))
  refine ⟨⟨_, hE.1, .inl h2, fun b hb => .inl (h3 b hb), X, h4.shift (fun b hx => ?_) (Nat.le_trans hb.size hE.2.2.2), fun b hx => ⟨.inl (h5 b hx).1, (h5 b hx).2⟩⟩, h.ne, h.tb, fun b ht => (hbk b (h3 b ht)).trans (h.keep b ht), Nat.le_trans h.size (Nat.le_trans hb.size hE.2.2.2)⟩
  rcases hx with hx | rfl
  · exact hbk b (h5 b hx).1
  · exact hbk _ h2

theorem DB.grow (h : DB w0 T wT d B M Wb wr) {wa : World} (hb : Below wr.heap.size wr wa) : DB w0 T wT d B M Wb wa := by
  obtain ⟨Y, h1, _, h2⟩ := h.stepOwn hb
  exact h2 M wa ⟨h1, fun _ _ => rfl, Below.refl _ _, Nat.le_refl _⟩

/-- A call on the log. -/
theorem Both.stepLog (h : Both w0 T wT g d B W Wb wr) {wa : World} (hb : Below wr.heap.size wr wa) : ∃ Y' : Nat → Prop, LogAt w0 Y' wa g d W ∧ (∀ b, wr.heap.size ≤ b → b < wa.heap.size → Y' b) ∧ (∀ W' w3, LogEnd w0 Y' wa g d W' w3 → Both w0 T wT g d B W' Wb w3) ∧
    ∀ g2 W2 w3, wa.heap.size ≤ g2 → LogAt w0 (fun b => Y' b ∨ b = g2) w3 g2 d W2 → (∀ b, Y' b → w3.heap[b]? = wa.heap[b]?) → wa.heap.size ≤ w3.heap.size → Both w0 T wT g2 d B W2 Wb w3 := by
  obtain ⟨Y, h1, h2, h3, X, h4, h5⟩ := h.log
  obtain ⟨n1, n2, n3, n4⟩ := h.ne
  have hlt := h1.own.blocks
  refine ⟨_, h1.all hb, fun b g1 g2 => .inr ⟨g1, g2⟩, fun W' w3 hE => ?_, fun g2 W2 w3 hg hL hk hs => ?_⟩
  · have hbk : ∀ b, Y b → b ≠ g → w3.heap[b]? = wr.heap[b]? := fun b hy hg => (hE.2.1 b (.inl hy) hg).trans (hb.block b (hlt b hy))
    refine ⟨⟨_, hE.1, .inl h2, fun b hb => .inl (h3 b hb), X, h4.shift (fun b hx => ?_) (Nat.le_trans hb.size hE.2.2.2), fun b hx => ⟨.inl (h5 b hx).1, (h5 b hx).2⟩⟩, h.ne, h.tb, fun b ht => (hbk b (h3 b ht) (fun e => n4 (e ▸ ht))).trans (h.keep b ht), Nat.le_trans h.size (Nat.le_trans hb.size hE.2.2.2)⟩
    rcases hx with hx | rfl
    · exact hbk b (h5 b hx).1 (h5 b hx).2.1
    · exact hbk _ h2 n1
  · have hbk : ∀ b, Y b → w3.heap[b]? = wr.heap[b]? := fun b hy => (hk b (.inl hy)).trans (hb.block b (hlt b hy))
    have hg2 : wr.heap.size ≤ g2 := Nat.le_trans hb.size hg
    have hT : ¬ T g2 := fun ht => by have := hlt _ (h3 _ ht); omega
    refine ⟨⟨_, hL, .inl (.inl h2), fun b hb => .inl (.inl (h3 b hb)), X, h4.shift (fun b hx => ?_) (Nat.le_trans hb.size hs), fun b hx => ⟨.inl (.inl (h5 b hx).1), fun e => ?_, (h5 b hx).2.2⟩⟩, ⟨fun e => ?_, n2, n3, hT⟩, h.tb, fun b ht => (hbk b (h3 b ht)).trans (h.keep b ht), Nat.le_trans h.size (Nat.le_trans hb.size hs)⟩
    · rcases hx with hx | rfl
      · exact hbk b (h5 b hx).1
      · exact hbk _ h2
    · have := hlt _ (h5 b hx).1; omega
    · have := hlt _ h2; omega

theorem Both.grow (h : Both w0 T wT g d B W Wb wr) {wa : World} (hb : Below wr.heap.size wr wa) : Both w0 T wT g d B W Wb wa := by
  obtain ⟨Y', h1, _, h2, _⟩ := h.stepLog hb
  exact h2 W wa h1.refl

/-- A call on the log's disk. -/
theorem Both.stepDisk (h : Both w0 T wT g d B W Wb wr) {wa : World} (hb : Below wr.heap.size wr wa) : ∃ Y' : Nat → Prop, Own w0 Y' wa d W.D ∧ (∀ b, wr.heap.size ≤ b → b < wa.heap.size → Y' b) ∧ ∀ M' w3, OwnEnd w0 Y' wa d M' w3 → Both w0 T wT g d B { W with D := M' } Wb w3 := by
  obtain ⟨Y', h1, h0, h2, _⟩ := h.stepLog hb
  exact ⟨Y', h1.own, h0, fun M' w3 hE => h2 _ w3 ⟨⟨hE.1, h1.inY, h1.new, (hE.2.1 g h1.inY).trans h1.cells⟩, fun b hb _ => hE.2.1 b hb, hE.2.2.1, hE.2.2.2⟩⟩

theorem logO_ref {X : Nat → Prop} {w : World} (h : RBox X w B Wb) : ∃ a n c, w.heap[B]? = some (logO (Wb.D.room : Int) a n c (Wb.D.plan : Int) Wb.D.down Wb.most (Wb.n : Int) (Wb.size : Int) (Wb.wait : Int)) ∧
    RLogAt X w (logV (Wb.D.room : Int) a n c (Wb.D.plan : Int) Wb.D.down Wb.most (Wb.n : Int) (Wb.size : Int) (Wb.wait : Int)) Wb ∧ RefAt X w (refV (Wb.D.room : Int) a n c (Wb.D.plan : Int) Wb.D.down) Wb.D ∧ ∀ b, X b → b < w.heap.size := by
  obtain ⟨a, n, c, R, h1, h2, h3, _⟩ := h.ref
  exact ⟨a, n, c, h1, h2, h3, fun b hb => by obtain ⟨_, _, _, _, _, _, _, _, hX⟩ := h; exact (hX b hb).1⟩

/-- A call of the reference, whose answer goes into the box. -/
theorem Both.stepBox (h : Both w0 T wT g d B W Wb wr) : ∃ (X : Nat → Prop) (a : Option Addr) (n c : Nat), wr.heap[B]? = some (logO (Wb.D.room : Int) a n c (Wb.D.plan : Int) Wb.D.down Wb.most (Wb.n : Int) (Wb.size : Int) (Wb.wait : Int)) ∧
    RLogAt X wr (logV (Wb.D.room : Int) a n c (Wb.D.plan : Int) Wb.D.down Wb.most (Wb.n : Int) (Wb.size : Int) (Wb.wait : Int)) Wb ∧ RefAt X wr (refV (Wb.D.room : Int) a n c (Wb.D.plan : Int) Wb.D.down) Wb.D ∧ (∀ b, X b → b < wr.heap.size) ∧
    ∀ (r : WM) (w4 : World) (a' : Option Addr) (n' c' : Nat) (R' : List FR), Below wr.heap.size wr w4 → RowF (fun b => (X b ∨ wr.heap.size ≤ b) ∧ b < w4.heap.size) w4 a' n' c' R' → R'.map FR.f = r.D.fs → r.D.fs.length ≤ 1000000 →
      Both w0 T wT g d B W r (set8 w4 B (.int .i64 (r.D.room : Int)) (.slice a' n' c') (.int .i64 (r.D.plan : Int)) (.bool r.D.down) (.int .i64 r.most) (.int .i64 (r.n : Int)) (.int .i64 (r.size : Int)) (.int .i64 (r.wait : Int))) := by
  obtain ⟨Y, h1, h2, h3, X, h4, h5⟩ := h.log
  obtain ⟨n1, n2, n3, n4⟩ := h.ne
  obtain ⟨a, n, c, hc, hrl, hrf, hX⟩ := logO_ref h4
  refine ⟨X, a, n, c, hc, hrl, hrf, hX, fun r w4 a' n' c' R' hb4 hR' hf hn => ?_⟩
  have hC := set8_chg w4 B (.int .i64 (r.D.room : Int)) (.slice a' n' c') (.int .i64 (r.D.plan : Int)) (.bool r.D.down) (.int .i64 r.most) (.int .i64 (r.n : Int)) (.int .i64 (r.size : Int)) (.int .i64 (r.wait : Int))
  have hbx := rbox_put h4 hR' hf hb4 hn
  have hL4 := (h1.all hb4).turned hC (fun b hb => by rw [hb]; exact ⟨.inl h2, n1, n2⟩)
  have hgl := h1.lt
  refine ⟨⟨_, hL4, .inl (.inl h2), fun b hb => .inl (.inl (h3 b hb)), _, hbx, fun b hb => ?_⟩, h.ne, h.tb, fun b ht => ?_, Nat.le_trans h.size (Nat.le_trans hb4.size hC.size)⟩
  · rcases hb.1 with hx | hx
    · exact ⟨.inl (.inl (h5 b hx).1), (h5 b hx).2.1, (h5 b hx).2.2⟩
    · exact ⟨.inl (.inr ⟨hx, hb.2⟩), by omega, fun ht => by have := h1.own.blocks b (h3 b ht); omega⟩
  · have hbl := h1.own.blocks b (h3 b ht)
    have hsz4 := hb4.size
    exact (hC.block b (by omega) (fun e => n3 (e ▸ ht))).trans ((hb4.block b hbl).trans (h.keep b ht))

/-- A call of the reference, whose answer goes into a new box. -/
theorem DB.newBox (h : DB w0 T wT d B M Wb wr) : ∃ (X : Nat → Prop) (a : Option Addr) (n c : Nat), wr.heap[B]? = some (logO (Wb.D.room : Int) a n c (Wb.D.plan : Int) Wb.D.down Wb.most (Wb.n : Int) (Wb.size : Int) (Wb.wait : Int)) ∧
    RLogAt X wr (logV (Wb.D.room : Int) a n c (Wb.D.plan : Int) Wb.D.down Wb.most (Wb.n : Int) (Wb.size : Int) (Wb.wait : Int)) Wb ∧ RefAt X wr (refV (Wb.D.room : Int) a n c (Wb.D.plan : Int) Wb.D.down) Wb.D ∧ (∀ b, X b → b < wr.heap.size) ∧
    ∀ (r : WM) (w4 : World) (a' : Option Addr) (n' c' : Nat) (R' : List FR), Below wr.heap.size wr w4 → RowF (fun b => (X b ∨ wr.heap.size ≤ b) ∧ b < w4.heap.size) w4 a' n' c' R' → R'.map FR.f = r.D.fs → r.D.fs.length ≤ 1000000 →
      DB w0 T wT d w4.heap.size M r (w4.alloc (logO (r.D.room : Int) a' n' c' (r.D.plan : Int) r.D.down r.most (r.n : Int) (r.size : Int) (r.wait : Int))) := by
  obtain ⟨Y, h1, h2, h3, X, h4, h5⟩ := h.own
  obtain ⟨n2, n3⟩ := h.ne
  obtain ⟨a, n, c, hc, hrl, hrf, hX⟩ := logO_ref h4
  refine ⟨X, a, n, c, hc, hrl, hrf, hX, fun r w4 a' n' c' R' hb4 hR' hf hn => ?_⟩
  have hb5 := (Below.refl w4.heap.size w4).alloc (Nat.le_refl _) (logO (r.D.room : Int) a' n' c' (r.D.plan : Int) r.D.down r.most (r.n : Int) (r.size : Int) (r.wait : Int))
  have hb := hb4.trans (hb5.mono hb4.size)
  have hnl : n' ≤ 1000000 := by rw [← hR'.len, ← List.length_map (f := FR.f), hf]; exact hn
  have hs5 : (w4.alloc (logO (r.D.room : Int) a' n' c' (r.D.plan : Int) r.D.down r.most (r.n : Int) (r.size : Int) (r.wait : Int))).heap.size = w4.heap.size + 1 := World.size_alloc _ _
  have hs4 := hb4.size
  refine ⟨⟨_, h1.more hb (fun b hb => hb), .inr ⟨hs4, by omega⟩, fun b hb => .inl (h3 b hb), fun b => (X b ∨ wr.heap.size ≤ b) ∧ b < w4.heap.size, ⟨a', n', c', R', heap_alloc_new _ _, (hR'.below (fun b hb => hb.2) hb5), hf, hnl, fun b hb => ⟨by omega, by omega⟩⟩, fun b hb => ?_⟩, ⟨by have := h1.base.size; omega, fun ht => by have := h1.blocks _ (h3 _ ht); omega⟩, h.tb, fun b ht => (hb.block b (h1.blocks b (h3 b ht))).trans (h.keep b ht), Nat.le_trans h.size hb.size⟩
  rcases hb.1 with hx | hx
  · exact ⟨.inl (h5 b hx).1, (h5 b hx).2⟩
  · exact ⟨.inr ⟨hx, by omega⟩, fun ht => by have := h1.blocks b (h3 b ht); omega⟩

theorem Both.newBox (h : Both w0 T wT g d B W Wb wr) : ∃ (X : Nat → Prop) (a : Option Addr) (n c : Nat), wr.heap[B]? = some (logO (Wb.D.room : Int) a n c (Wb.D.plan : Int) Wb.D.down Wb.most (Wb.n : Int) (Wb.size : Int) (Wb.wait : Int)) ∧
    RLogAt X wr (logV (Wb.D.room : Int) a n c (Wb.D.plan : Int) Wb.D.down Wb.most (Wb.n : Int) (Wb.size : Int) (Wb.wait : Int)) Wb ∧ RefAt X wr (refV (Wb.D.room : Int) a n c (Wb.D.plan : Int) Wb.D.down) Wb.D ∧ (∀ b, X b → b < wr.heap.size) ∧
    ∀ (r : WM) (w4 : World) (a' : Option Addr) (n' c' : Nat) (R' : List FR), Below wr.heap.size wr w4 → RowF (fun b => (X b ∨ wr.heap.size ≤ b) ∧ b < w4.heap.size) w4 a' n' c' R' → R'.map FR.f = r.D.fs → r.D.fs.length ≤ 1000000 →
      Both w0 T wT g d w4.heap.size W r (w4.alloc (logO (r.D.room : Int) a' n' c' (r.D.plan : Int) r.D.down r.most (r.n : Int) (r.size : Int) (r.wait : Int))) := by
  obtain ⟨Y, h1, h2, h3, X, h4, h5⟩ := h.log
  obtain ⟨n1, n2, n3, n4⟩ := h.ne
  obtain ⟨a, n, c, hc, hrl, hrf, hX⟩ := logO_ref h4
  refine ⟨X, a, n, c, hc, hrl, hrf, hX, fun r w4 a' n' c' R' hb4 hR' hf hn => ?_⟩
  have hb5 := (Below.refl w4.heap.size w4).alloc (Nat.le_refl _) (logO (r.D.room : Int) a' n' c' (r.D.plan : Int) r.D.down r.most (r.n : Int) (r.size : Int) (r.wait : Int))
  have hb := hb4.trans (hb5.mono hb4.size)
  have hnl : n' ≤ 1000000 := by rw [← hR'.len, ← List.length_map (f := FR.f), hf]; exact hn
  have hs5 : (w4.alloc (logO (r.D.room : Int) a' n' c' (r.D.plan : Int) r.D.down r.most (r.n : Int) (r.size : Int) (r.wait : Int))).heap.size = w4.heap.size + 1 := World.size_alloc _ _
  have hs4 := hb4.size
  have hgl := h1.lt
  refine ⟨⟨_, h1.all hb, .inr ⟨hs4, by omega⟩, fun b hb => .inl (h3 b hb), fun b => (X b ∨ wr.heap.size ≤ b) ∧ b < w4.heap.size, ⟨a', n', c', R', heap_alloc_new _ _, (hR'.below (fun b hb => hb.2) hb5), hf, hnl, fun b hb => ⟨by omega, by omega⟩⟩, fun b hb => ?_⟩, ⟨by omega, by have := h1.own.base.size; omega, fun ht => by have := h1.own.blocks _ (h3 _ ht); omega, n4⟩, h.tb, fun b ht => (hb.block b (h1.own.blocks b (h3 b ht))).trans (h.keep b ht), Nat.le_trans h.size hb.size⟩
  rcases hb.1 with hx | hx
  · exact ⟨.inl (h5 b hx).1, (h5 b hx).2.1, (h5 b hx).2.2⟩
  · exact ⟨.inr ⟨hx, by omega⟩, by omega, fun ht => by have := h1.own.blocks b (h3 b ht); omega⟩

/-- A failure that is planned, in the box. -/
theorem Both.stepPlan (h : Both w0 T wT g d B W Wb wr) (k : Int) (hk : 0 ≤ k) : Both w0 T wT g d B W { Wb with D := armM k Wb.D } (wr.setCell ⟨B, 2, none⟩ (.int .i64 k)) := by
  obtain ⟨Y, h1, h2, h3, X, h4, h5⟩ := h.log
  obtain ⟨n1, n2, n3, n4⟩ := h.ne
  have hC : Chg (fun b => b = B) wr (wr.setCell ⟨B, 2, none⟩ (.int .i64 k)) := Chg.set (fun b => b = B) wr rfl _
  have hL4 := h1.turned hC (fun b hb => by rw [hb]; exact ⟨h2, n1, n2⟩)
  exact ⟨⟨_, hL4, .inl h2, fun b hb => .inl (h3 b hb), _, h4.plan k hk, fun b hb => ⟨.inl (h5 b hb).1, (h5 b hb).2⟩⟩, h.ne, h.tb, fun b ht => (hC.block b (h1.own.blocks b (h3 b ht)) (fun e => n3 (e ▸ ht))).trans (h.keep b ht), Nat.le_trans h.size hC.size⟩

/-- A log and the reference's, new. -/
theorem Both.new {Y X : Nat → Prop} (hL : LogAt w0 Y wr g d W) (hR : RBox X wr B Wb) (hB : Y B) (hXY : ∀ b, X b → Y b ∧ b ≠ g ∧ ¬ T b) (hne : B ≠ g) (h0 : w0.heap.size ≤ B) (hT : ∀ b, T b → Y b) (hBT : ¬ T B) (hgT : ¬ T g) : Both w0 T wr g d B W Wb wr :=
  ⟨⟨Y, hL, hB, hT, X, hR, hXY⟩, ⟨hne, h0, hBT, hgT⟩, fun b h => hL.own.blocks b (hT b h), fun _ _ => rfl, Nat.le_refl _⟩
end
end Go.Proofs.YtjoolocdejnohaaGreat

