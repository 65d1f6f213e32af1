/- The walks of List and New of strings; the queue beside other blocks. -/
import Derived.Test.YtmmiommfbkcebaaQwPush
import Derived.Maps.AppendAt
namespace Go.Proofs.Ytmmiommfbkcebaa
open Go.RowKit Go.Maps

/-- A row of strings of the call's own. -/
abbrev OwnS (w : World) (base : Nat) (v : Value) (l : List UInt8) : Prop := w.ownsRow base 9 1 v l.length (l.map evS)
theorem info_s : (Try.prog.info? 9).map (fun i => (i.zero, i.size, i.bytes)) = some (some (.string ⟨#[]⟩), 1, 16) := by kernel_rfl

theorem wpl_apps {ops : Array Oper} {rest : List Oper} {o : Oper} {a : Act} {Q : Exit → Act → World → Prop} {w : World} (hgd : o.guard = none) (s x : Operand)
    (ho : o.op = .call { callee := .builtin .append, args := #[s, x], argTypes := #[50, 50] })
    {base : Nat} {v : Value} {l : List UInt8} (hs : a.eval s = v) (hown : OwnS w base v l) {y : UInt8} {q : Nat} (hx : a.eval x = .slice (some ⟨q, 0, none⟩) 1 1) (hq : w.cell? ⟨q, 0, none⟩ = some (evS y)) (hbase : base ≤ w.heap.size) (hl : l.length ≤ 4000000)
    (h : ∀ v' w', OwnS w' base v' (l ++ [y]) → w.grownBy w' v.ownBlock → wpList Try.prog ops Q rest (a.put o.dst v') w') : wpList Try.prog ops Q (o :: rest) a w := by
  obtain ⟨i0, hi, hz, hsz, hby⟩ := info_parts info_s
  refine wpList_append_own_at w hgd s x 50 ho base 9 i0 (.string ⟨#[]⟩) 1 16 Try.underlying50 hi hz hsz hby rfl (by decide) v l.length (l.map evS) hs hown ⟨q, 0, none⟩ 1 1 [evS y] hx rfl (fun j u hj => ?_) (fun u hu => ?_) (by rw [maxLen_nat]; omega) (by omega) hbase (fun v' w' h1 h2 _ _ => h v' w' ?_ h2)
  · match j, hj with
    | 0, hj => cases hj; rw [Addr.add_lit]; exact hq
    | j + 1, hj => cases hj
  · rw [List.mem_singleton] at hu; rw [hu]; rfl
  · show w'.ownsRow base _ 1 v' _ _
    rw [List.length_append, List.map_append]
    exact h1

theorem itemsW_of {w : World} {base : Nat} {v : Value} {l : List (UInt8 × Nat)} (h : ItS w base v l) : ∃ p c, v = .slice p l.length c ∧ l.length ≤ c ∧ c ≤ 9223372036854775807 ∧ (0 < l.length → ∃ g o, p = some ⟨g, o, none⟩ ∧ ∀ (i : Nat) (x : UInt8 × Nat), l[i]? = some x → w.cell? ⟨g, o + i * 2, none⟩ = some (evS x.1) ∧ w.cell? ⟨g, o + i * 2 + 1, none⟩ = some (.int .u64 (x.2 : Int))) := by
  rcases Nat.eq_zero_or_pos l.length with h0 | h0
  · obtain ⟨p, c, rfl, h1, h2⟩ := h.slice
    exact ⟨p, c, rfl, h1, h2, fun h => by omega⟩
  · obtain ⟨g, o, c, rfl, h1, h2, h3⟩ := h.cell h0
    exact ⟨_, c, rfl, h1, h2, fun _ => ⟨g, o, rfl, h3⟩⟩

section
variable {w0 : World} {X : Nat → Prop} {w : World} {m d : Nat} {l : List UInt8} {v : Value} {T : List (UInt8 × Nat)} {mb k : Nat}

set_option maxRecDepth 100000 in
set_option maxHeartbeats 1600000 in
theorem listW_any (h : Qw w0 X w m d l v T mb k) (hm : m ≤ 2000000) :
    Calls Try.prog 27 #[.pointer (some ⟨d, 0, none⟩)] w fun r w' => ∃ u, r = .returned u ∧ OwnS w' w.heap.size u l ∧ Below w.heap.size w w' := by
  have q0 := h.c0
  obtain ⟨p, c, rfl, hle, hmx, hcell⟩ := itemsW_of h.row
  have hlen := h.len
  have hT : T.length ≤ 2000000 := Nat.le_trans h.cnt.2 hm
  have hels := h.els
  obtain ⟨N, hN⟩ : ∃ N, N = T.length := ⟨_, rfl⟩
  rw [← hN] at hcell q0 hle hlen hT
  have HI := Lib.hid hcell
  have HL := Lib.hid (And.intro hels hN)
  clear h hcell hels hN
  go_enter Try.func27, Try.ntmps27
  go_wp2_with fail
  go_loopw [3, 13] (fun u i wr => ∃ j : Nat, j ≤ N ∧ i = .int .i64 (j : Int) ∧ RowKit.Hid (OwnS wr w.heap.size u (l.take j) ∧ Below w.heap.size w wr)) (fun _ i _ => N - (intOf i).toNat)
  case atStart => exact ⟨0, Nat.zero_le _, rfl, Lib.hid ⟨World.ownsRow_nil _ _ _ _, Below.refl _ _⟩⟩
  case round =>
    obtain ⟨j, hj, rfl, HJ⟩ := hrel
    by_cases hlt : j < N
    · have hji : (j : Int) < (N : Int) := by omega
      obtain ⟨g, o, rfl, hc⟩ := HI.out (by omega)
      obtain ⟨t, ht⟩ : ∃ t, T[j]? = some t := ⟨_, List.getElem?_eq_getElem (by rw [← HL.out.2]; exact hlt)⟩
      obtain ⟨x, num⟩ := t
      obtain ⟨c0, c1⟩ := hc j _ ht
      have g0 : wr.cell? ⟨g, o + j * 2, none⟩ = some (.string (strB x)) := cell_below HJ.out.2 c0
      have g1 : wr.cell? ⟨g, o + j * 2 + 1, none⟩ = some (.int .u64 (num : Int)) := cell_below HJ.out.2 c1
      have He := Lib.hid (show l.take (j + 1) = l.take j ++ [x] from by
        have h5 : l[j]? = some x := by rw [HL.out.1, List.getElem?_map, ht]; rfl
        rw [List.take_add_one, h5]; rfl)
      obtain ⟨wq, hwq⟩ : ∃ wq, wq = (wr.alloc (.cells #[.string (strB x), .int .u64 (num : Int)] 70)).alloc (.cells #[.string (strB x)] 9) := ⟨_, rfl⟩
      have Hbx := Lib.hid (show Below wr.heap.size wr wq from by rw [hwq]; exact (((Below.refl wr.heap.size wr).alloc (Nat.le_refl _) _).alloc (by simp) _))
      have Hu3 := Lib.hid (show OwnS wq w.heap.size u3 (l.take j) from World.ownsRow.kept (row := none) HJ.out.1 ⟨Hbx.out.os, Hbx.out.tape, Hbx.out.output, Hbx.out.size, fun k hk _ => Hbx.out.block k hk⟩ (by cases u3.ownBlock <;> simp))
      have Hq := Lib.hid (show wq.cell? ⟨wr.heap.size + 1, 0, none⟩ = some (evS x) from by rw [hwq, show wr.heap.size + 1 = (wr.alloc (.cells #[.string (strB x), .int .u64 (num : Int)] 70)).heap.size by simp]; exact box_new _ _ _ _ rfl)
      have Hl := Lib.hid (show (l.take j).length ≤ 4000000 from by rw [List.length_take]; omega)
      have Hsz := Lib.hid HJ.out.2.size
      clear c0 c1 hc ht
      go_wp2_with (at_builtin; rw [← hwq]; refine wpl_apps rfl _ _ rfl (base := w.heap.size) (l := l.take j) rfl Hu3.out (y := x) (q := wr.heap.size + 1) rfl Hq.out (Nat.le_trans Hsz.out Hbx.out.size) Hl.out ?_; intro u5 w5 g5 gb5; have HG := Lib.hid (And.intro g5 gb5); clear g5 gb5)
      go_roundw
      case rel =>
        refine ⟨j + 1, by omega, by go_num, Lib.hid ⟨by rw [He.out]; exact HG.out.1, ?_⟩⟩
        exact (HJ.out.2.trans (Hbx.out.mono Hsz.out)).trans ((Below.refl w.heap.size wq).grown HG.out.2 (Nat.le_trans Hsz.out Hbx.out.size) (fun k hk => (World.ownsRow.lt Hu3.out k hk).1))
      case measure => simp [intOf]; omega
    · have hji : ¬ (j : Int) < (N : Int) := by omega
      obtain rfl : j = N := by omega
      have HE := Lib.hid (show OwnS wr w.heap.size _ l ∧ _ from by have h5 := HJ.out; rw [List.take_of_length_le (by omega)] at h5; exact h5)
      clear HJ
      go_wp2
      go_ret
      exact ⟨_, rfl, HE.out⟩
end

set_option maxRecDepth 100000 in
theorem newW_any (w : World) : Calls Try.prog 25 #[.slice none 0 0] w fun r w' => ∃ d, r = .returned (.pointer (some ⟨d, 0, none⟩)) ∧ QwS w (fun _ => False) w' 0 d [] := by
  obtain ⟨d, hd⟩ : ∃ d, d = w.heap.size + 1 := ⟨_, rfl⟩
  obtain ⟨w1, hw1⟩ : ∃ w1, w1 = (w.alloc (.map #[] 0)).alloc (.cells #[.slice none 0 0, .map (some w.heap.size), .int .u64 0] 68) := ⟨_, rfl⟩
  have HS0 := Lib.hid (show QwS w (fun _ => False) w1 0 d [] from by
    refine ⟨.slice none 0 0, [], w.heap.size, 0, ?_, itR_nil, ?_, rfl, by simp, by simp, by simp, by simp, ⟨Nat.le_refl _, Nat.le_refl _⟩, ⟨by omega, id⟩, ⟨Nat.le_refl _, id⟩, fun b e => (by cases e), by omega, fun b e => e.elim, ?_⟩
    · rw [hw1, hd, show w.heap.size + 1 = (w.alloc (.map #[] 0)).heap.size by simp]; exact heap_alloc_new _ _
    · rw [hw1]; exact (MapE.made w).below (by simp) _
    · rw [hw1]; exact ((Below.refl _ _).alloc (Nat.le_refl _) _).alloc (by simp) _)
  have hmm := @run_makeMap Try.prog
  go_enter Try.func25, Try.ntmps25
  go_upto_region 2 with fail
  rw [← hw1, ← hd]
  clear hw1 hd
  go_wp2_with fail
  go_loopw [11] (fun i wr => i = .int .i64 0 ∧ wr = w1) (fun _ _ => 0)
  case atStart => exact ⟨rfl, rfl⟩
  case round =>
    obtain ⟨rfl, rfl⟩ := hrel
    go_wp2
    go_ret
    exact ⟨d, rfl, HS0.out⟩

/-- Other blocks are kept aside; a row that is not the queue's may turn. -/
theorem QwS.grown {w0 : World} {X Y : Nat → Prop} {w w' : World} {m d : Nat} {l : List UInt8} {r : Option Nat} (h : QwS w0 X w m d l) (hg : w.grownBy w' r) (hr : ∀ b, r = some b → X b ∧ w0.heap.size ≤ b) (hY : ∀ b, Y b → (X b ∨ w.heap.size ≤ b) ∧ b < w'.heap.size) : QwS w0 Y w' m d l := by
  obtain ⟨v, T, mb, k, h⟩ := h
  refine ⟨v, T, mb, k, h.other (fun b e => ?_) hY ⟨hg.os, hg.tape, hg.output, hg.size, fun b hb => hg.block b (Nat.lt_of_lt_of_le hb h.base.size) (fun e => by have := (hr b e.symm).2; omega)⟩⟩
  have hlt : b < _ ∧ ¬ _ := ⟨by rcases e with rfl | rfl | e; exact h.dlt; exact h.map.lt; exact (h.row.lt e).2, by rcases e with rfl | rfl | e; exact h.dpos.2; exact h.mpos.2; exact (h.vpos b e).1⟩
  exact hg.block b hlt.1 (fun e => hlt.2 (hr b e.symm).1)
theorem QwS.xb {w0 : World} {X : Nat → Prop} {w : World} {m d : Nat} {l : List UInt8} (h : QwS w0 X w m d l) : ∀ b, X b → b < w.heap.size := by obtain ⟨_, _, _, _, h⟩ := h; exact h.xb
theorem QwS.base {w0 : World} {X : Nat → Prop} {w : World} {m d : Nat} {l : List UInt8} (h : QwS w0 X w m d l) : Below w0.heap.size w0 w := by obtain ⟨_, _, _, _, h⟩ := h; exact h.base
end Go.Proofs.Ytmmiommfbkcebaa
