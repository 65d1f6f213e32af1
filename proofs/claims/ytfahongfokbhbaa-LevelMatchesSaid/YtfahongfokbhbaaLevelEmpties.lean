/- The law LevelEmpties walked. -/
import Derived.Test.YtfahongfokbhbaaLvOwn
namespace Go.Proofs.Ytfahongfokbhbaa
open Go.RowKit

theorem OwnI.it {w : World} {base : Nat} {p : Option Addr} {n c : Nat} {l : List It} (h : OwnI w base (.slice p n c) l) : Items w p n c l ∧ (p = none → c = 0) ∧ ∀ a, p = some a → ∃ b o, a = ⟨b, o, none⟩ := by
  obtain ⟨p', c', e, hI⟩ := items_own h
  rw [Value.slice.injEq] at e
  obtain ⟨rfl, rfl, rfl⟩ := e
  refine ⟨hI, ?_⟩
  rcases h.2 with ⟨e, _⟩ | ⟨g, cap, cur, e, _⟩
  · rw [Value.slice.injEq] at e
    obtain ⟨rfl, _, rfl⟩ := e
    exact ⟨fun _ => rfl, fun a h => (by cases h)⟩
  · rw [Value.slice.injEq] at e
    obtain ⟨rfl, _, rfl⟩ := e
    exact ⟨fun h => (by cases h), fun a h => ⟨g, 0, (Option.some.inj h).symm⟩⟩

theorem OwnI.kept {w w' : World} {base : Nat} {v : Value} {l : List It} (h : OwnI w base v l) (hk : ∀ b, v.ownBlock = some b → w'.heap[b]? = w.heap[b]?) : OwnI w' base v l := by
  refine ⟨h.1, ?_⟩
  rcases h.2 with hn | ⟨g, cap, cur, rfl, hb, hg, rest⟩
  · exact .inl hn
  · exact .inr ⟨g, cap, cur, rfl, hb, (hk g rfl).trans hg, rest⟩

/-- 'append(v, x...)': where the row lies behind it. -/
theorem run_app2 {w : World} (ty : TypeId) {base : Nat} {v : Value} {l : List It} (hown : OwnI w base v l) {p : Option Addr} {m c : Nat} {ms : List It} (hI : Items w p m c ms) (hbase : base ≤ w.heap.size) (hl : l.length + m ≤ 100000) :
    ∃ v' w', (Builtin.append_ #[34, 34] ty #[v, .slice p m c]).run Try.prog w = .ok v' w' ∧ OwnI w' base v' (l ++ ms) ∧ w.grownBy w' v.ownBlock ∧ (v'.ownBlock = v.ownBlock ∨ v'.ownBlock = some w.heap.size) := by
  obtain ⟨i0, hi, hz, hsz, hby⟩ := info_parts info_rit
  rcases Nat.eq_zero_or_pos m with rfl | hm
  · have hms : ms = [] := List.length_eq_zero_iff.1 hI.len
    obtain ⟨q, k, rfl, hq⟩ := items_own hown
    refine ⟨_, w, run_append_nothing w 34 34 ty 36 i0 Try.underlying34 hi q l.length k hq.le (.slice p 0 c) ?_, by rw [hms, List.append_nil]; exact hown, ⟨rfl, rfl, rfl, Nat.le_refl _, fun _ _ _ => rfl⟩, .inl rfl⟩
    cases p with
    | none => exact Src.ofNil w Try.underlying34 c
    | some ad => exact Src.ofSlice w Try.underlying34 ad 0 c [] (by simp) (fun j u h => by simp at h) (fun u h => by simp at h)
  · obtain ⟨b, o, rfl, _⟩ := hI.cell hm
    have hlen := hI.len
    obtain ⟨v', w', hr, h2, h3, _, h5⟩ := run_append_own_at (P := Try.prog) w base 34 ty 36 i0 (.agg #[.int .u64 0, .int .u64 0]) 2 16 Try.underlying34 hi hz hsz hby rfl (by decide) v l.length (flatI l) hown ⟨b, o, none⟩ m c (flatI ms) (by rw [flatI_len, hlen])
      (fun j u hj => by rw [Addr.add_lit]; exact items_flat hI hj) (flatI_one _) (by rw [maxLen_nat]; omega) (by omega) hbase
    refine ⟨v', w', hr, ?_, h3, h5⟩
    show w'.ownsRow base _ 2 v' _ _
    rw [flatI_append, List.length_append, hlen]
    exact h2

theorem wpl_app2 {ops : Array Oper} {rest : List Oper} {o : Oper} {a : Act} {Q : Exit → Act → World → Prop} {w : World} (hgd : o.guard = none) (s x : Operand)
    (ho : o.op = .call { callee := .builtin .append, args := #[s, x], argTypes := #[34, 34] })
    {base : Nat} {v : Value} {l : List It} (hs : a.eval s = v) (hown : OwnI w base v l) {p : Option Addr} {m c : Nat} {ms : List It} (hx : a.eval x = .slice p m c) (hI : Items w p m c ms) (hbase : base ≤ w.heap.size) (hl : l.length + m ≤ 100000)
    (h : ∀ v' w', OwnI w' base v' (l ++ ms) → w.grownBy w' v.ownBlock → (v'.ownBlock = v.ownBlock ∨ v'.ownBlock = some w.heap.size) → wpList Try.prog ops Q rest (a.put o.dst v') w') : wpList Try.prog ops Q (o :: rest) a w := by
  obtain ⟨v', w', hr, h2, h3, h4⟩ := run_app2 o.type hown hI hbase hl
  refine wpList_plain hgd fun K hK => ?_
  unfold Oper.wp execOp
  simp only [ho, resolve, invoke, builtin, Sem.run_bind, Sem.run_pure, Result.andThen_ok, List.map_toArray, List.map_cons, List.map_nil, hs, hx, hr]
  exact hK _ _ (h v' w' h2 h3 h4)

/-- The items of all slots ahead of j, slot by slot. -/
def catS (k : Nat) (L : List It) (j : Nat) : List It := (List.range j).flatMap fun t => slF k L t
theorem catS_succ (k : Nat) (L : List It) (j : Nat) : catS k L (j + 1) = catS k L j ++ slF k L j := by
  unfold catS
  rw [List.range_succ, List.flatMap_append]
  simp
theorem catS_len (k : Nat) (L : List It) (j : Nat) : (catS k L j).length ≤ j * L.length := by
  induction j with
  | zero => simp [catS]
  | succ j ih =>
    rw [catS_succ, List.length_append, Nat.succ_mul]
    have := List.length_filter_le (fun y : It => decide ((slotN k y.2 : Int) = (j : Int))) L
    have h2 : (slF k L j).length ≤ L.length := this
    omega

/-- The slots from j on. -/
def fromF (k : Nat) (L : List It) (j t : Nat) : List It := if t < j then [] else slF k L t
theorem fromF_upd (k : Nat) (L : List It) (j : Nat) : upd (fromF k L j) j [] = fromF k L (j + 1) := by
  funext t
  unfold upd fromF
  by_cases h1 : t = j
  · rw [if_pos h1, if_pos (by omega)]
  · rw [if_neg h1]
    by_cases h2 : t < j
    · rw [if_pos h2, if_pos (by omega)]
    · rw [if_neg h2, if_neg (by omega)]

theorem OwnI.aside {w w' : World} {base : Nat} {v : Value} {l : List It} (h : OwnI w base v l) {u : Value} (hg : w.grownBy w' u.ownBlock) (hne : ∀ b, v.ownBlock = some b → u.ownBlock ≠ some b) : OwnI w' base v l :=
  World.ownsRow.kept h hg (by cases hb : v.ownBlock with | none => exact .inl rfl | some b => exact .inr (fun e => hne b hb e.symm))

/-- The rows g and h that are gathered, beside the row v and the level. -/
structure Em2 (w0 : World) (D k : Nat) (L : List It) (v : Value) (a b j : Nat) (g h : Value) (wr : World) : Prop where
  rg : OwnI wr w0.heap.size g (catS k L a)
  rh : OwnI wr w0.heap.size h (catS k L b)
  rv : OwnI wr w0.heap.size v L
  gh : ∀ x, g.ownBlock = some x → h.ownBlock ≠ some x ∧ v.ownBlock ≠ some x
  hv : ∀ x, h.ownBlock = some x → v.ownBlock ≠ some x
  lv : LvO w0 (fun x => g.ownBlock = some x ∨ h.ownBlock = some x ∨ v.ownBlock = some x) wr D k (fromF k L j)

theorem Em2.below {w0 w w' : World} {D k : Nat} {L : List It} {v : Value} {a b j : Nat} {g h : Value} (H : Em2 w0 D k L v a b j g h w) (hb : Below w.heap.size w w') : Em2 w0 D k L v a b j g h w' :=
  ⟨H.rg.below hb, H.rh.below hb, H.rv.below hb, H.gh, H.hv, H.lv.below hb⟩

theorem Em2.take {w0 w w' : World} {D k : Nat} {L : List It} {v : Value} {a b j : Nat} {g h : Value} (H : Em2 w0 D k L v a b j g h w) (hE : LvOEnd w0 (fun x => g.ownBlock = some x ∨ h.ownBlock = some x ∨ v.ownBlock = some x) w D k (upd (fromF k L j) j []) w') : Em2 w0 D k L v a b (j + 1) g h w' :=
  ⟨H.rg.kept (fun x hx => hE.keep x (.inl hx)), H.rh.kept (fun x hx => hE.keep x (.inr (.inl hx))), H.rv.kept (fun x hx => hE.keep x (.inr (.inr hx))), H.gh, H.hv, by rw [← fromF_upd]; exact hE.lv⟩

theorem Em2.app_g {w0 w w' : World} {D k : Nat} {L : List It} {v : Value} {a b j : Nat} {g h g' : Value} (H : Em2 w0 D k L v a b j g h w) (hr : OwnI w' w0.heap.size g' (catS k L a ++ slF k L a)) (hg : w.grownBy w' g.ownBlock) (ho : g'.ownBlock = g.ownBlock ∨ g'.ownBlock = some w.heap.size) : Em2 w0 D k L v (a + 1) b j g' h w' := by
  have hh : ∀ x, h.ownBlock = some x → x < w.heap.size := fun x hx => (World.ownsRow.lt H.rh x hx).2
  have hvv : ∀ x, v.ownBlock = some x → x < w.heap.size := fun x hx => (World.ownsRow.lt H.rv x hx).2
  refine ⟨by rw [catS_succ]; exact hr, H.rh.aside hg (fun x hx e => (H.gh x e).1 hx), H.rv.aside hg (fun x hx e => (H.gh x e).2 hx), fun x hx => ?_, H.hv, H.lv.grown hg (fun x hx => ⟨.inl hx, (World.ownsRow.lt H.rg x hx).1⟩) (fun x hx => ?_)⟩
  · rcases ho with e | e
    · exact H.gh x (e ▸ hx)
    · rw [e] at hx
      cases hx
      exact ⟨fun e => by have := hh _ e; omega, fun e => by have := hvv _ e; omega⟩
  · rcases hx with hx | hx | hx
    · refine ⟨?_, (World.ownsRow.lt hr x hx).2⟩
      rcases ho with e | e
      · exact .inl (.inl (e ▸ hx))
      · rw [e] at hx; cases hx; exact .inr (Nat.le_refl _)
    · exact ⟨.inl (.inr (.inl hx)), Nat.lt_of_lt_of_le (hh x hx) hg.size⟩
    · exact ⟨.inl (.inr (.inr hx)), Nat.lt_of_lt_of_le (hvv x hx) hg.size⟩

theorem Em2.app_h {w0 w w' : World} {D k : Nat} {L : List It} {v : Value} {a b j : Nat} {g h h' : Value} (H : Em2 w0 D k L v a b j g h w) (hr : OwnI w' w0.heap.size h' (catS k L b ++ slF k L b)) (hg : w.grownBy w' h.ownBlock) (ho : h'.ownBlock = h.ownBlock ∨ h'.ownBlock = some w.heap.size) : Em2 w0 D k L v a (b + 1) j g h' w' := by
  have hgg : ∀ x, g.ownBlock = some x → x < w.heap.size := fun x hx => (World.ownsRow.lt H.rg x hx).2
  have hvv : ∀ x, v.ownBlock = some x → x < w.heap.size := fun x hx => (World.ownsRow.lt H.rv x hx).2
  refine ⟨H.rg.aside hg (fun x hx e => (H.gh x hx).1 e), by rw [catS_succ]; exact hr, H.rv.aside hg (fun x hx e => H.hv x e hx), fun x hx => ⟨?_, (H.gh x hx).2⟩, fun x hx => ?_, H.lv.grown hg (fun x hx => ⟨.inr (.inl hx), (World.ownsRow.lt H.rh x hx).1⟩) (fun x hx => ?_)⟩
  · rcases ho with e | e
    · rw [e]; exact (H.gh x hx).1
    · rw [e]; intro e2; cases e2; have := hgg _ hx; omega
  · rcases ho with e | e
    · exact H.hv x (e ▸ hx)
    · rw [e] at hx
      cases hx
      exact fun e => by have := hvv _ e; omega
  · rcases hx with hx | hx | hx
    · exact ⟨.inl (.inl hx), Nat.lt_of_lt_of_le (hgg x hx) hg.size⟩
    · refine ⟨?_, (World.ownsRow.lt hr x hx).2⟩
      rcases ho with e | e
      · exact .inl (.inr (.inl (e ▸ hx)))
      · rw [e] at hx; cases hx; exact .inr (Nat.le_refl _)
    · exact ⟨.inl (.inr (.inr hx)), Nat.lt_of_lt_of_le (hvv x hx) hg.size⟩

/-- Behind j items. -/
def EmR (w0 : World) (D k : Nat) (items : List It) (j : Nat) (v : Value) (wr : World) : Prop := ∃ L : List It, srtI L ∧ L.length ≤ j ∧ (∀ y ∈ L, y ∈ items) ∧ OwnI wr w0.heap.size v L ∧ LvO w0 (fun b => v.ownBlock = some b) wr D k (slF k L)

set_option maxRecDepth 100000 in
set_option maxHeartbeats 12800000 in
theorem levelEmpties_any (m : Nat) (p : Option Addr) (n c : Nat) (items : List It) (w : World) (hI : Items w p n c items) (hw : ∀ y ∈ items, y.2 < 18446744073709551616) (hm : m < 256) :
    Calls Try.prog 6 #[.int .u8 (m : Int), .slice p n c] w fun r w' => r = .returned (.bool true) ∧ Below w.heap.size w w' := by
  have hk : m % 4 < 4 := Nat.mod_lt _ (by decide)
  have e4 : (m : Int) % 4 = ((m % 4 : Nat) : Int) := rfl
  have hlen := hI.len
  have hle := hI.le
  have hmx := hI.max
  generalize m % 4 = k at *
  have HN := Lib.hid (new_any k w hk)
  have HL0 := Lib.hid (own_new k w)
  have hb1 := (Below.refl w.heap.size w).alloc (Nat.le_refl _) (.cells (lvC k nil64) 60)
  obtain ⟨D, hD⟩ : ∃ D, D = w.heap.size := ⟨_, rfl⟩
  rw [← hD] at HN HL0
  generalize hw1 : w.alloc (.cells (lvC k nil64) 60) = w1 at *
  have Hb1 := Lib.hid hb1
  have HA := Lib.hid (fun W => alive_any W)
  have HI := Lib.hid hI
  have HW := Lib.hid hw
  clear hb1 hw1 hI hw hD
  go_enter Try.func6, Try.ntmps6
  go_wp2_with fail
  refine HN.out.mono ?_
  rintro r w2 ⟨rfl, rfl⟩
  by_cases hn : 100 < n
  · have hni : (100 : Int) < (n : Int) := by omega
    go_wp2_with fail
    refine (HA.out _).mono ?_
    rintro r w3 ⟨rfl, hb3⟩
    have Hb3 := Lib.hid (Hb1.out.trans (hb3.mono Hb1.out.size))
    clear hb3
    go_wp2
    go_ret
    exact ⟨rfl, Hb3.out⟩
  have hni : ¬ (100 : Int) < (n : Int) := by omega
  have H0 := Lib.hid (show EmR w D k items 0 (.slice none 0 0) w2 from ⟨[], List.Pairwise.nil, Nat.le_refl _, fun _ h => (by cases h), World.ownsRow_nil _ _ _ _, HL0.out.swap (Below.refl _ _) (fun b hb => (by cases hb))⟩)
  go_wp2
  go_loopw [7, 32] (fun v i wr => ∃ j : Nat, j ≤ n ∧ i = .int .i64 (j : Int) ∧ EmR w D k items j v wr) (fun _ i _ => n - (intOf i).toNat)
  case atStart => exact ⟨0, Nat.zero_le _, rfl, H0.out⟩
  case round =>
    obtain ⟨j, hj, rfl, L, hs, hLl, hLi, hown, hlv⟩ := hrel
    by_cases hlt : j < n
    · have hji : (j : Int) < (n : Int) := by omega
      obtain ⟨g, o, rfl, hc⟩ := HI.out.cell (by omega)
      obtain ⟨y, hy⟩ : ∃ y, items[j]? = some y := ⟨_, List.getElem?_eq_getElem (by omega)⟩
      obtain ⟨c0, c1⟩ := hc j y hy
      have hbase := hlv.base
      have g0 := cell_below hbase c0
      have g1 := cell_below hbase c1
      have hyi := List.mem_of_getElem? hy
      have hy64 := HW.out y hyi
      -- the row in words
      obtain ⟨N, hN⟩ : ∃ N, L.length = N := ⟨_, rfl⟩
      obtain ⟨p', c', rfl, hIt⟩ := hown.items hN
      obtain ⟨wa, hwa⟩ : ∃ wa, wa = wr.alloc (.cells #[.int .u64 (y.1 : Int), .int .u64 (y.2 : Int)] 36) := ⟨_, rfl⟩
      have hba : Below wr.heap.size wr wa := by rw [hwa]; exact (Below.refl _ _).alloc (Nat.le_refl _) _
      have hza : wa.heap.size = wr.heap.size + 1 := by rw [hwa]; simp
      obtain ⟨d0, d1⟩ := box2 wr (.int .u64 (y.1 : Int)) (.int .u64 (y.2 : Int)) 36
      rw [← hwa] at d0 d1
      have hrl : ∀ b, (Value.slice p' N c').ownBlock = some b → w.heap.size ≤ b ∧ b < wr.heap.size := fun b hb => World.ownsRow.lt hown b hb
      have hlva := hlv.swap (Y := fun b => (Value.slice p' N c').ownBlock = some b ∨ b = wr.heap.size) hba (fun b hb => by
        rcases hb with h | rfl
        · exact ⟨.inl h, by have := (hrl b h).2; omega⟩
        · exact ⟨.inr (Nat.le_refl _), by omega⟩)
      have hL999 : L.length ≤ 999 := by omega
      have HPut := Lib.hid (own_put (w := wa.drew) (hlva.below (Below.refl _ _).drew) hk hs hL999 y hy64)
      have HHas := Lib.hid (fun W h => has_any p' N c' L y W h)
      have HIns := Lib.hid (fun W (h : OwnI W w.heap.size (.slice p' N c') L) => rinsert_any p' N c' L y (cntI y L) W h.it.1 h.it.2.1 h.it.2.2 (by omega) (by rw [← hN]; exact cntI_le _ _) (srt_idx hs y))
      have Hown := Lib.hid (hown.below hba)
      have HD := Lib.hid (And.intro d0 d1)
      have Hrl := Lib.hid hrl
      have Hsz := Lib.hid (And.intro hza (Nat.le_trans hbase.size (Nat.le_refl _)))
      have HL := Lib.hid (And.intro hs (And.intro hLl hLi))
      have Hmem := Lib.hid hyi
      have Hlt := Lib.hid hlt
      obtain ⟨b, hb⟩ : ∃ b, b = decide (y ∈ L) := ⟨_, rfl⟩
      rw [← hb] at HPut HHas
      have Hb := Lib.hid hb
      have Hba := Lib.hid (And.intro hba hbase)
      have hbb : ((!b) != (!b)) = false := by simp
      obtain ⟨y1, y2⟩ := y
      change wr.cell? _ = some (.int .u64 (y1 : Int)) at g0
      change wr.cell? _ = some (.int .u64 (y2 : Int)) at g1
      clear c0 c1 hc hy hyi hy64 hIt hba hza d0 d1 hrl hlva hL999 hlt hb hs hLl hLi hown hlv hbase
      go_upto_region 9 with fail
      rw [← hwa]
      clear hwa
      have e0 := HD.out.1
      have e1 := HD.out.2
      go_region_held3 (fun W => W.cell? ⟨wr.heap.size, 0, none⟩ = some (.int .u64 (y1 : Int)) ∧ W.cell? ⟨wr.heap.size, 1, none⟩ = some (.int .u64 (y2 : Int)))
        (first | exact ⟨e0, e1⟩ | exact ⟨k0, k1⟩ | exact ⟨q0, q1⟩)
        (first
          | (go_at_call 17; (with_reducible refine HPut.out.mono ?_); rintro r w3 ⟨rfl, hE⟩; have k0 := (World.cell?_of_block (w := wa) (a := ⟨wr.heap.size, 0, none⟩) (hE.keep wr.heap.size (.inr rfl))).trans HD.out.1; have k1 := (World.cell?_of_block (w := wa) (a := ⟨wr.heap.size, 1, none⟩) (hE.keep wr.heap.size (.inr rfl))).trans HD.out.2; have hown3 := OwnI.kept (w := wa) (w' := w3) Hown.out (fun b hb => hE.keep b (.inl hb)))
          | (go_at_call 16; (with_reducible refine (HHas.out _ hown3.it.1).mono ?_); rintro r w4 ⟨rfl, hb4⟩; have q0 := cell_below hb4 k0; have q1 := cell_below hb4 k1))
      have Hown4 := Lib.hid (hown3.below hb4)
      have Hlv4 := Lib.hid (hE.lv.below hb4)
      have Hw4 := Lib.hid (show w.heap.size ≤ w4.heap.size from Nat.le_trans Hsz.out.2 (Nat.le_trans Hba.out.1.size (Nat.le_trans hE.size hb4.size)))
      clear hE hown3 hb4 e0 e1 g0 g1 k0 k1 HPut Hown HD
      go_wp2_with fail
      refine (HHas.out _ Hown4.out.it.1).mono ?_
      rintro r w5 ⟨rfl, hb5⟩
      have r0 := cell_below hb5 q0
      have r1 := cell_below hb5 q1
      have Hown5 := Lib.hid (Hown4.out.below hb5)
      have Hlv5 := Lib.hid (Hlv4.out.below hb5)
      have Hw5 := Lib.hid (Nat.le_trans Hw4.out hb5.size)
      clear hb5 q0 q1 Hown4 Hlv4 HHas
      cases b with
      | true =>
        have hyL : (y1, y2) ∈ L := of_decide_eq_true Hb.out.symm
        have Hend := Lib.hid (show EmR w D k items (j + 1) (.slice p' N c') w5 from ⟨L, HL.out.1, Nat.le_succ_of_le HL.out.2.1, HL.out.2.2, Hown5.out, by
          have h := Hlv5.out
          rw [if_pos hyL] at h
          exact h.swap (Below.refl _ _) (fun b hb => ⟨.inl (.inl hb), Nat.lt_of_lt_of_le (Hrl.out b hb).2 (by have := h.base.size; have h9 := (World.block_lt_of_cell? _ _ r0); simp only at h9; omega)⟩)⟩)
        clear hyL
        go_wp2
        go_roundw
        case rel => exact ⟨j + 1, Hlt.out, by go_num, Hend.out⟩
        case measure => simp [intOf]; have := Hlt.out; omega
      | false =>
        have hyL : (y1, y2) ∉ L := of_decide_eq_false Hb.out.symm
        have HyL := Lib.hid hyL
        clear hyL
        go_wp2_with fail
        refine (HIns.out w5 Hown5.out).mono ?_
        rintro r w6 ⟨v6, rfl, hown6, hb6⟩
        have Hend := Lib.hid (show EmR w D k items (j + 1) v6 w6 from ⟨insI (y1, y2) L, srt_ins HL.out.1 HyL.out, by rw [len_ins]; have := HL.out.2.1; omega, fun z hz => by
            rcases (mem_ins HL.out.1).1 hz with rfl | h
            · exact Hmem.out
            · exact HL.out.2.2 z h, Joins.ownsRow_le hown6 Hw5.out, by
          have h := Hlv5.out
          rw [if_neg HyL.out] at h
          exact h.swap hb6 (fun b hb => ⟨.inr (World.ownsRow.lt hown6 b hb).1, (World.ownsRow.lt hown6 b hb).2⟩)⟩)
        clear hown6 hb6
        go_wp2
        go_roundw
        case rel => exact ⟨j + 1, Hlt.out, by go_num, Hend.out⟩
        case measure => simp [intOf]; have := Hlt.out; omega
    · have hji : ¬ (j : Int) < (n : Int) := by omega
      obtain ⟨N, hN⟩ : ∃ N, L.length = N := ⟨_, rfl⟩
      obtain ⟨p', c', rfl, hIt⟩ := hown.items hN
      have hN100 : N ≤ 100 := by omega
      have HW2 := Lib.hid (fun y (hy : y ∈ L) => HW.out y (hLi y hy))
      have H2 := Lib.hid (show Em2 w D k L (.slice p' N c') 0 0 0 (.slice none 0 0) (.slice none 0 0) wr from ⟨World.ownsRow_nil _ _ _ _, World.ownsRow_nil _ _ _ _, hown, fun b hb => (by cases hb), fun b hb => (by cases hb), by
        have e : fromF k L 0 = slF k L := by funext t; unfold fromF; rw [if_neg (Nat.not_lt_zero t)]
        rw [e]
        exact hlv.swap (Below.refl _ _) (fun b hb => by
          rcases hb with h | h | h
          · cases h
          · cases h
          · exact ⟨.inl h, (World.ownsRow.lt hown b h).2⟩)⟩)
      have Hsz := Lib.hid hlv.base.size
      have HLN := Lib.hid hN
      clear hs hLl hLi hown hlv hIt hN
      go_wp2
      obtain ⟨wo, hwo⟩ : ∃ wo, wo = wr := ⟨_, rfl⟩
      subst hwo
      go_loopw [10, 11, 52] (fun g h i wr => ∃ t : Nat, t ≤ 64 ∧ i = .int .i64 (t : Int) ∧ Em2 w D k L (.slice p' N c') t t t g h wr) (fun _ _ i _ => 64 - (intOf i).toNat)
      case atStart => exact ⟨0, Nat.zero_le _, rfl, H2.out⟩
      case round =>
        obtain ⟨t, ht, rfl, hE2⟩ := hrel
        have HE2 := Lib.hid hE2
        by_cases hlt : t < 64
        · have hti : (t : Int) < 64 := by omega
          have HTk := Lib.hid (own_take hE2.lv t hlt)
          have Hlt := Lib.hid hlt
          clear hE2
          go_wp2_with fail
          refine HTk.out.mono ?_
          rintro r w3 ⟨pT, nT, cT, rfl, hIT, hE⟩
          have HM := Lib.hid (HE2.out.take hE)
          have hfl : (slF k L t).length ≤ N := by rw [← HLN.out]; exact List.length_filter_le _ _
          have hfe : fromF k L t t = slF k L t := by unfold fromF; rw [if_neg (Nat.lt_irrefl t)]
          rw [hfe] at hIT
          have hnT : nT ≤ 100 := by have := hIT.len; omega
          have HBk := Lib.hid (back_any pT nT cT (slF k L t) w3 hIT (by omega))
          obtain ⟨M, hM⟩ : ∃ M, (slF k L t).length = M := ⟨_, rfl⟩
          have HMl := Lib.hid hM
          have hM100 : M ≤ 100 := by omega
          have Hcat := Lib.hid (show (catS k L t).length + M ≤ 100000 from by have h1 := catS_len k L t; have h2 : t * L.length ≤ 64 * 100 := Nat.mul_le_mul (by omega) (by have := HLN.out; omega); omega)
          clear hE hIT hfe hfl hnT HTk HE2
          go_wp2_with fail
          refine HBk.out.mono ?_
          rintro r w4 ⟨v4, rfl, hown4, hb4⟩
          obtain ⟨p4, c4, rfl, hI4⟩ := hown4.items HMl.out
          have HM4 := Lib.hid (HM.out.below hb4)
          have HI4 := Lib.hid hI4
          have Hz4 := Lib.hid HM4.out.lv.base.size
          clear hown4 hb4 hI4 HM HBk hM
          go_wp2_with (at_builtin; refine wpl_app2 rfl _ _ rfl (by first | rfl | go_simp) HM4.out.rg (p := p4) (m := M) (c := c4) (by first | rfl | go_simp) HI4.out Hz4.out Hcat.out ?_; intro g5 w5 hown5 hg5 ho5)
          have HM5 := Lib.hid (HM4.out.app_g hown5 hg5 ho5)
          have HOf := Lib.hid (of_any k p' N c' L (t : Int) w5 hk HM5.out.rv.it.1 (by omega) HW2.out)
          clear hown5 hg5 ho5 HM4 HI4 Hz4
          refine HOf.out.mono ?_
          rintro r w6 ⟨v6, rfl, hown6, hb6⟩
          obtain ⟨p6, c6, rfl, hI6⟩ := OwnI.items (l := slF k L t) hown6 HMl.out
          have HM6 := Lib.hid (HM5.out.below hb6)
          have HI6 := Lib.hid hI6
          have Hz6 := Lib.hid HM6.out.lv.base.size
          clear hown6 hb6 hI6 HM5 HOf
          go_wp2_with (at_builtin; refine wpl_app2 rfl _ _ rfl (by first | rfl | go_simp) HM6.out.rh (p := p6) (m := M) (c := c6) (by first | rfl | go_simp) HI6.out Hz6.out Hcat.out ?_; intro g7 w7 hown7 hg7 ho7)
          have HM7 := Lib.hid (HM6.out.app_h hown7 hg7 ho7)
          clear hown7 hg7 ho7 HM6 HI6 Hz6
          go_wp2
          go_roundw
          case rel => exact ⟨t + 1, Hlt.out, by go_num, HM7.out⟩
          case measure => simp [intOf]; have := Hlt.out; omega
        · have hti : ¬ (t : Int) < 64 := by omega
          obtain rfl : t = 64 := by omega
          obtain ⟨M, hM⟩ : ∃ M, (catS k L 64).length = M := ⟨_, rfl⟩
          obtain ⟨p8, c8, rfl, hI8⟩ := hE2.rg.items hM
          obtain ⟨p9, c9, rfl, hI9⟩ := hE2.rh.items hM
          have HEq := Lib.hid (fun W (h : Items W p8 M c8 (catS k L 64)) h' => (equal_any p8 p9 M M c8 c9 _ _ W h h').mono (R' := fun r w' => r = .returned (.bool true) ∧ Below W.heap.size W w') (by rintro r w' ⟨e, hb⟩; exact ⟨by rw [e, decide_eq_true rfl], hb⟩))
          have HI8 := Lib.hid (And.intro hI8 hI9)
          have Hbase := Lib.hid hE2.lv.base
          have Hlv := Lib.hid hE2.lv
          have hz : ∀ u, fromF k L 64 u = [] := fun u => by
            unfold fromF
            split
            · rfl
            · refine List.filter_eq_nil_iff.2 fun y _ e => ?_
              have := slotN_lt k y.2
              rw [decide_eq_true_eq] at e
              omega
          have hcnt : cntF (fromF k L 64) 64 = 0 := by
            unfold cntF
            simp only [hz, List.length_nil]
            decide
          have Hz := Lib.hid hz
          have HCnt := Lib.hid (fun W (h : LvO w (fun x => (Value.slice p8 M c8).ownBlock = some x ∨ (Value.slice p9 M c9).ownBlock = some x ∨ (Value.slice p' N c').ownBlock = some x) W D k (fromF k L 64)) => by
            obtain ⟨V, h1, _⟩ := h
            exact (count_any h1 (fun u => by rw [Hz.out]; exact Nat.zero_le _)).mono (R' := fun r w' => r = .returned (.int .i64 0) ∧ w' = W) (by rintro r w' ⟨e, h⟩; exact ⟨by rw [e, hcnt]; rfl, h⟩))
          have HFst := Lib.hid (fun W (h : LvO w (fun x => (Value.slice p8 M c8).ownBlock = some x ∨ (Value.slice p9 M c9).ownBlock = some x ∨ (Value.slice p' N c').ownBlock = some x) W D k (fromF k L 64)) => by
            obtain ⟨V, h1, _⟩ := h
            exact (first_any h1 0 0 (by decide)).mono (R' := fun r w' => r = .returned (.int .i64 (-1)) ∧ w' = W) (by
              rintro r w' ⟨x, e, hx, h⟩
              refine ⟨?_, h⟩
              rcases hx with ⟨rfl, _⟩ | ⟨u, _, _, _, hne, _⟩
              · exact e
              · exact absurd (Hz.out u) hne))
          clear hE2 HE2 hI8 hI9 hM hz hcnt
          go_wp2_with fail
          refine (HA.out _).mono ?_
          rintro r w3 ⟨rfl, hb3⟩
          have HI3 := Lib.hid (And.intro (HI8.out.1.below hb3) (HI8.out.2.below hb3))
          have Hlv3 := Lib.hid (Hlv.out.below hb3)
          clear hb3
          go_wp2_with fail
          refine (HEq.out _ HI3.out.1 HI3.out.2).mono ?_
          rintro r w4 ⟨rfl, hb4⟩
          have Hlv4 := Lib.hid (Hlv3.out.below hb4)
          clear hb4
          go_wp2_with fail
          refine (HCnt.out _ Hlv4.out).mono ?_
          rintro r w5 ⟨rfl, rfl⟩
          go_wp2_with fail
          refine (HFst.out _ Hlv4.out).mono ?_
          rintro r w5 ⟨rfl, rfl⟩
          go_wp2
          go_ret
          exact ⟨rfl, Hlv4.out.base⟩
end Go.Proofs.Ytfahongfokbhbaa
