/- The walk of the reference's Insert. -/
import Derived.Test.YthidinaflaogfaaLvNil
import Derived.Deep.RegionLaw
import Derived.Deep.Upon
import Derived.Lib.SmallJoins
namespace Go.Proofs.Ythidinaflaogfaa
open Go.RowKit

/-- An item in the cells of a row, by the cell's number. -/
theorem items_flat {w : World} {b o n c : Nat} {l : List It} (h : Items w (some ⟨b, o, none⟩) n c l) {j : Nat} {u : Value} (hu : (flatI l)[j]? = some u) : w.cell? ⟨b, o + j, none⟩ = some u := by
  have hj : j < l.length * 2 := by rw [← flatI_len]; exact (List.getElem?_eq_some_iff.1 hu).1
  obtain ⟨b', o', e, hc⟩ := h.cell (by have := h.len; omega)
  cases e
  obtain ⟨y, hy⟩ : ∃ y, l[j / 2]? = some y := ⟨_, List.getElem?_eq_getElem (by omega)⟩
  obtain ⟨h1, h2⟩ := hc _ y hy
  obtain ⟨f1, f2⟩ := flatI_get l _ y hy
  rcases Nat.mod_two_eq_zero_or_one j with hm | hm
  · rw [show j = j / 2 * 2 by omega] at hu ⊢
    rw [f1] at hu
    cases hu
    exact h1
  · rw [show j = j / 2 * 2 + 1 by omega] at hu ⊢
    rw [f2] at hu
    cases hu
    exact h2

/-- 'append(v, x...)': v a row of the call's own, x any items. -/
theorem run_app_items {w : World} (ty : TypeId) {base : Nat} {v : Value} {l : List It} (hown : OwnI w base v l) {p : Option Addr} {m c : Nat} {ms : List It} (hI : Items w p m c ms) (hp : p = none → c = 0) (hbase : base ≤ w.heap.size) (hl : l.length + m ≤ 100000) :
    ∃ v' w', (Builtin.append_ #[27, 27] ty #[v, .slice p m c]).run Try.prog w = .ok v' w' ∧ OwnI w' base v' (l ++ ms) ∧ Below base w w' ∧ w.grownBy w' v.ownBlock := by
  obtain ⟨i0, hi, hz, hsz, hby⟩ := info_parts info_rit
  rcases Nat.eq_zero_or_pos m with rfl | hm
  · have hms : ms = [] := List.length_eq_zero_iff.1 hI.len
    obtain ⟨q, k, rfl, hq⟩ := items_own hown
    refine ⟨_, w, run_append_nothing w 27 27 ty 36 i0 Try.underlying27 hi q l.length k hq.le (.slice p 0 c) ?_, by rw [hms, List.append_nil]; exact hown, Below.refl _ _, ⟨rfl, rfl, rfl, Nat.le_refl _, fun _ _ _ => rfl⟩⟩
    cases p with
    | none => exact Src.ofNil w Try.underlying27 c
    | some ad => exact Src.ofSlice w Try.underlying27 ad 0 c [] (by simp) (fun j u h => by simp at h) (fun u h => by simp at h)
  · obtain ⟨b, o, rfl, _⟩ := hI.cell hm
    have hlen := hI.len
    obtain ⟨v', w', hr, h2, h3, _, _⟩ := run_append_own_at (P := Try.prog) w base 27 ty 36 i0 (.agg #[.int .u64 0, .int .u64 0]) 2 16 Try.underlying27 hi hz hsz hby rfl (by decide) v l.length (flatI l) hown ⟨b, o, none⟩ m c (flatI ms) (by rw [flatI_len, hlen])
      (fun j u hj => by rw [Addr.add_lit]; exact items_flat hI hj) (flatI_one _) (by rw [maxLen_nat]; omega) (by omega) hbase
    refine ⟨v', w', hr, ?_, (Below.refl base w).grown h3 hbase (fun k hk => (World.ownsRow.lt hown k hk).1), h3⟩
    show w'.ownsRow base _ 2 v' _ _
    rw [flatI_append, List.length_append, hlen]
    exact h2

theorem step_app {ops : Array Oper} {o : Oper} {a : Act} {w : World} {K : Act → World → Prop} {Q : Exit → Act → World → Prop} {E : Prop} (hw : Region.wanted o (yielded ops a.tmps) = true) (s x : Operand)
    (ho : o.op = .call { callee := .builtin .append, args := #[s, x], argTypes := #[27, 27] })
    {base : Nat} {v : Value} {l : List It} (hs : a.eval s = v) (hown : OwnI w base v l) {p : Option Addr} {m c : Nat} {ms : List It} (hx : a.eval x = .slice p m c) (hI : Items w p m c ms) (hp : p = none → c = 0) (hbase : base ≤ w.heap.size) (hl : l.length + m ≤ 100000)
    (h : ∀ v' w', OwnI w' base v' (l ++ ms) → Below base w w' → w.grownBy w' v.ownBlock → K (a.put o.dst v') w') : if Region.wanted o (yielded ops a.tmps) = true then Oper.wp Try.prog o a w K Q else E := by
  rw [if_pos hw]
  obtain ⟨v', w', hr, h2, h3, h4⟩ := run_app_items o.type hown hI hp hbase hl
  unfold Oper.wp execOp
  simp only [ho, resolve, invoke, builtin, Sem.run_bind, Sem.run_pure, Result.andThen_ok, List.map_toArray, List.map_cons, List.map_nil, hs, hx, hr]
  exact h v' w' h2 h3 h4

theorem wpl_app {ops : Array Oper} {rest : List Oper} {o : Oper} {a : Act} {Q : Exit → Act → World → Prop} {w : World} (hgd : o.guard = none) (s x : Operand)
    (ho : o.op = .call { callee := .builtin .append, args := #[s, x], argTypes := #[27, 27] })
    {base : Nat} {v : Value} {l : List It} (hs : a.eval s = v) (hown : OwnI w base v l) {p : Option Addr} {m c : Nat} {ms : List It} (hx : a.eval x = .slice p m c) (hI : Items w p m c ms) (hp : p = none → c = 0) (hbase : base ≤ w.heap.size) (hl : l.length + m ≤ 100000)
    (h : ∀ v' w', OwnI w' base v' (l ++ ms) → Below base w w' → w.grownBy w' v.ownBlock → wpList Try.prog ops Q rest (a.put o.dst v') w') : wpList Try.prog ops Q (o :: rest) a w := by
  obtain ⟨v', w', hr, h2, h3, h4⟩ := run_app_items o.type hown hI hp hbase hl
  refine wpList_plain hgd fun K hK => ?_
  unfold Oper.wp execOp
  simp only [ho, resolve, invoke, builtin, Sem.run_bind, Sem.run_pure, Result.andThen_ok, List.map_toArray, List.map_cons, List.map_nil, hs, hx, hr]
  exact hK _ _ (h v' w' h2 h3 h4)

theorem Items.grown {w w' : World} {b o n c : Nat} {l : List It} {r : Option Nat} (h : Items w (some ⟨b, o, none⟩) n c l) (hg : w.grownBy w' r) (hne : some b ≠ r) : Items w' (some ⟨b, o, none⟩) n c l :=
  ⟨h.len, h.le, h.max, fun hn => by
    obtain ⟨b', o', e, hc⟩ := h.cell hn
    cases e
    exact ⟨b, o, rfl, fun i x hi => ⟨hg.cell (hc i x hi).1 hne, hg.cell (hc i x hi).2 hne⟩⟩⟩

theorem own_none (w : World) (base : Nat) (hb : base ≤ w.heap.size) : OwnI (w.alloc (.cells #[] 36)) base (.slice (some ⟨w.heap.size, 0, none⟩) 0 0) [] :=
  World.ownsRow_lit w #[] 0 hb (Nat.zero_le _) rfl

/-- The two new blocks of the last line, in whatever order they are laid. -/
structure TwoNew (w0 wz W : World) (A B : Nat) (x1 x2 : Nat) : Prop where
  own : OwnI W w0.heap.size (.slice (some ⟨A, 0, none⟩) 0 0) []
  one : Items W (some ⟨B, 0, none⟩) 1 1 [(x1, x2)]
  ne : B ≠ A
  old : wz.heap.size ≤ A ∧ wz.heap.size ≤ B ∧ B < W.heap.size
  below : Below wz.heap.size wz W

theorem twoNew_ab {w0 wz : World} (h : w0.heap.size ≤ wz.heap.size) (x1 x2 : Nat) : TwoNew w0 wz ((wz.alloc (.cells #[] 36)).alloc (.cells #[.int .u64 (x1 : Int), .int .u64 (x2 : Int)] 36)) wz.heap.size (wz.heap.size + 1) x1 x2 := by
  have hb1 := (Below.refl wz.heap.size wz).alloc (Nat.le_refl _) (.cells #[] 36)
  have c := box2 (wz.alloc (.cells #[] 36)) (.int .u64 (x1 : Int)) (.int .u64 (x2 : Int)) 36
  rw [World.size_alloc] at c
  exact ⟨(own_none wz _ h).below ((Below.refl _ _).alloc (Nat.le_refl _) _), items_one c.1 c.2, by omega, ⟨Nat.le_refl _, by omega, by simp⟩, hb1.alloc hb1.size _⟩

theorem twoNew_ba {w0 wz : World} (h : w0.heap.size ≤ wz.heap.size) (x1 x2 : Nat) : TwoNew w0 wz ((wz.alloc (.cells #[.int .u64 (x1 : Int), .int .u64 (x2 : Int)] 36)).alloc (.cells #[] 36)) (wz.heap.size + 1) wz.heap.size x1 x2 := by
  have hb1 := (Below.refl wz.heap.size wz).alloc (Nat.le_refl _) (.cells #[.int .u64 (x1 : Int), .int .u64 (x2 : Int)] 36)
  have c := box2 wz (.int .u64 (x1 : Int)) (.int .u64 (x2 : Int)) 36
  have o := own_none (wz.alloc (.cells #[.int .u64 (x1 : Int), .int .u64 (x2 : Int)] 36)) w0.heap.size (Nat.le_trans h hb1.size)
  rw [World.size_alloc] at o
  exact ⟨o, (items_one c.1 c.2).below ((Below.refl _ _).alloc (Nat.le_refl _) _), by omega, ⟨by omega, Nat.le_refl _, by simp; omega⟩, hb1.alloc hb1.size _⟩

theorem TwoNew.drew {w0 wz W : World} {A B x1 x2 : Nat} (h : TwoNew w0 wz W A B x1 x2) : TwoNew w0 wz W.drew A B x1 x2 := ⟨h.own, ⟨h.one.len, h.one.le, h.one.max, h.one.cell⟩, h.ne, h.old, h.below.drew⟩

theorem items_take {w : World} {p : Option Addr} {n c : Nat} {l : List It} (h : Items w p n c l) {K : Nat} (hK : K ≤ n) : Items w p K c (l.take K) :=
  ⟨by rw [List.length_take, h.len]; omega, Nat.le_trans hK h.le, h.max, fun hn => by
    obtain ⟨b, o, e, hc⟩ := h.cell (by omega)
    refine ⟨b, o, e, fun i x hi => ?_⟩
    rw [List.getElem?_take] at hi
    split at hi
    · exact hc i x hi
    · cases hi⟩

theorem items_drop {w : World} {b o n c : Nat} {l : List It} (h : Items w (some ⟨b, o, none⟩) n c l) {K : Nat} (hK : K ≤ n) : Items w (some ⟨b, o + K * 2, none⟩) (n - K) (c - K) (l.drop K) :=
  ⟨by rw [List.length_drop, h.len], by have := h.le; omega, by have := h.max; omega, fun hn => by
    obtain ⟨b', o', e, hc⟩ := h.cell (by omega)
    cases e
    refine ⟨b, o + K * 2, rfl, fun i x hi => ?_⟩
    rw [List.getElem?_drop] at hi
    obtain ⟨h1, h2⟩ := hc _ x hi
    rw [show o + K * 2 + i * 2 = o + (K + i) * 2 by omega]
    exact ⟨h1, h2⟩⟩

theorem items_zero (w : World) (p : Option Addr) (c : Nat) (hc : c ≤ 9223372036854775807) : Items w p 0 c [] := ⟨rfl, Nat.zero_le _, hc, fun h => absurd h (Nat.lt_irrefl _)⟩

/-- The row whose first j items are l's, and behind it what the last append takes: what the three appends leave. -/
theorem OwnI.ne {w : World} {base : Nat} {v : Value} {l : List It} (h : OwnI w base v l) {b : Nat} (hb : w.heap.size ≤ b) : some b ≠ v.ownBlock := fun e => by
  have := (World.ownsRow.lt h b e.symm).2
  omega

set_option maxRecDepth 100000 in
set_option maxHeartbeats 6400000 in
theorem rinsert_any (p : Option Addr) (n c : Nat) (l : List It) (x : It) (K : Nat) (w : World) (h : Items w p n c l) (hp : p = none → c = 0) (hpf : ∀ a, p = some a → ∃ b o, a = ⟨b, o, none⟩) (hn : n ≤ 1000) (hK : K ≤ n) (hlt : ∀ i y, l[i]? = some y → (cmpI y.1 y.2 x.1 x.2 < 0 ↔ i < K)) :
    Calls Try.prog 30 #[.slice p n c, .agg #[.int .u64 (x.1 : Int), .int .u64 (x.2 : Int)]] w (NewRow w (l.take K ++ x :: l.drop K)) := by
  have hlen := h.len
  have hle := h.le
  have hmx := h.max
  have Hlt := Lib.hid hlt
  obtain ⟨x1, x2⟩ := x
  obtain ⟨w1, hw1⟩ : ∃ w1, w1 = w.alloc (.cells #[.int .u64 (x1 : Int), .int .u64 (x2 : Int)] 36) := ⟨_, rfl⟩
  have hb1 : Below w.heap.size w w1 := by rw [hw1]; exact (Below.refl _ _).alloc (Nat.le_refl _) _
  obtain ⟨d0, d1⟩ := box2 w (.int .u64 (x1 : Int)) (.int .u64 (x2 : Int)) 36
  rw [← hw1] at d0 d1
  have HI := Lib.hid (h.below hb1)
  have HD := Lib.hid (And.intro d0 d1)
  have Hb1 := Lib.hid hb1
  have Hp := Lib.hid hp
  have Hpf := Lib.hid hpf
  have HIw := Lib.hid (fun W (hW : Below w.heap.size w W) => h.below hW)
  clear h hlt hb1 d0 d1 hp hpf
  go_enter Try.func30, Try.ntmps30
  go_upto_region 1 with fail
  rw [← hw1]
  clear hw1
  go_wp2
  obtain ⟨wo, hwo⟩ : ∃ wo, wo = w1 := ⟨_, rfl⟩
  subst hwo
  go_loopw [5] (fun i wr => ∃ j : Nat, j ≤ K ∧ i = .int .i64 (j : Int) ∧ Below wo.heap.size wo wr) (fun i _ => K - (intOf i).toNat)
  case atStart => exact ⟨0, Nat.zero_le _, rfl, Below.refl _ _⟩
  case round =>
    obtain ⟨j, hj, rfl, hbw⟩ := hrel
    have Hbw := Lib.hid hbw
    clear hbw
    have e0 := cell_below Hbw.out HD.out.1
    have e1 := cell_below Hbw.out HD.out.2
    by_cases hjn : j < n
    · have hji : (j : Int) < (n : Int) := by omega
      obtain ⟨g, o, rfl, hc⟩ := HI.out.cell (by omega)
      obtain ⟨y, hy⟩ : ∃ y, l[j]? = some y := ⟨_, List.getElem?_eq_getElem (by omega)⟩
      obtain ⟨c0, c1⟩ := hc j y hy
      have g0 := cell_below Hbw.out c0
      have g1 := cell_below Hbw.out c1
      have Hy := Lib.hid (Hlt.out j y hy)
      obtain ⟨y1, y2⟩ := y
      have HC := Lib.hid (fun W => rcompare_any y1 y2 x1 x2 W)
      clear c0 c1 hc hy
      change wr.cell? _ = some (.int .u64 (y1 : Int)) at g0
      change wr.cell? _ = some (.int .u64 (y2 : Int)) at g1
      obtain ⟨R, hR⟩ : ∃ R, R = cmpI y1 y2 x1 x2 := ⟨_, rfl⟩
      rw [← hR] at HC
      have Hy2 := Lib.hid (show R < 0 ↔ j < K from by rw [hR]; exact Hy.out)
      clear Hy hR
      go_wp2_with fail
      go_region_held3 (fun w' => (w'.cell? ⟨g, o + j * 2, none⟩ = some (.int .u64 (y1 : Int)) ∧ w'.cell? ⟨g, o + j * 2 + 1, none⟩ = some (.int .u64 (y2 : Int))) ∧ w'.cell? ⟨w.heap.size, 0, none⟩ = some (.int .u64 (x1 : Int)) ∧ w'.cell? ⟨w.heap.size, 1, none⟩ = some (.int .u64 (x2 : Int)))
        (first | exact ⟨⟨g0, g1⟩, e0, e1⟩ | exact ⟨⟨cell_below hb2 g0, cell_below hb2 g1⟩, cell_below hb2 e0, cell_below hb2 e1⟩)
        (first | (go_at_call 38; (with_reducible refine (HC.out _).mono ?_); rintro r w2 ⟨rfl, hb2⟩))
      have Hb2 := Lib.hid (Hbw.out.trans (((Below.refl _ _).drew.trans (hb2.mono (Nat.le_refl _))).mono Hbw.out.size))
      clear hb2 g0 g1 e0 e1
      by_cases hr : R < 0
      · have hjK := Hy2.out.1 hr
        go_wp2
        go_roundw
        case rel => exact ⟨j + 1, by omega, by go_num, Hb2.out⟩
        case measure => simp [intOf]; omega
      · have hjK : ¬ j < K := fun h => hr (Hy2.out.2 h)
        obtain rfl : j = K := by omega
        go_wp2_with fail
        have hcj : ¬ c = j := by omega
        have hjc : j ≤ c := by omega
        have hz : Below w.heap.size w w2 := Hb1.out.trans (Hb2.out.mono Hb1.out.size)
        have z0 := cell_below Hb2.out HD.out.1
        have z1 := cell_below Hb2.out HD.out.2
        generalize w2 = wz at *
        have hzl : w.heap.size < wz.heap.size := World.block_lt_of_cell? _ _ z0
        have HT := Lib.hid (fun W (hW : Below wz.heap.size wz W) => items_take (HIw.out W (hz.trans (hW.mono hz.size))) (K := j) (by omega))
        have HDr := Lib.hid (fun W (hW : Below wz.heap.size wz W) => (items_drop (HIw.out W (hz.trans (hW.mono hz.size))) (by omega) : Items W (some ⟨g, o + j * 2, none⟩) (n - j) (c - j) (l.drop j)))
        have T1 := (twoNew_ab (w0 := wz) (wz := wz) (Nat.le_refl _) x1 x2).drew
        have T2 := (twoNew_ba (w0 := wz) (wz := wz) (Nat.le_refl _) x1 x2).drew
        have O3 : OwnI (wz.alloc (.cells #[] 36)).drew wz.heap.size (.slice (some ⟨wz.heap.size, 0, none⟩) 0 0) [] := own_none wz _ (Nat.le_refl _)
        have hb3 : Below wz.heap.size wz (wz.alloc (.cells #[] 36)).drew := ((Below.refl _ _).alloc (Nat.le_refl _) _).drew
        have HLe := Lib.hid (show ([] : List It).length + j ≤ 100000 ∧ ([] ++ l.take j).length + 1 ≤ 100000 ∧ ([] ++ l.take j ++ [(x1, x2)]).length + ((n - j)) ≤ 100000 from by simp <;> omega)
        have HZ := Lib.hid hz
        have HZ0 := Lib.hid (And.intro z0 z1)
        have HT1 := Lib.hid T1
        have HT2 := Lib.hid T2
        have HO3 := Lib.hid O3
        have HB3 := Lib.hid hb3
        have HPn := Lib.hid (show ((some ⟨g, o, none⟩ : Option Addr) = none → c = 0) ∧ ((some ⟨g, o + j * 2, none⟩ : Option Addr) = none → c - j = 0) from ⟨fun h => (by cases h), fun h => (by cases h)⟩)
        clear hz T1 T2 O3 hb3
        go_region_law (first
          | (refine step_app rfl (.tmp 21) (.tmp 24) rfl (base := wz.heap.size) (v := .slice (some ⟨wz.heap.size, 0, none⟩) 0 0) (l := []) (by first | rfl | (simp [Act.eval, Act.put]; done)) HT1.out.own (p := (some ⟨g, o, none⟩)) (m := j) (c := c) (ms := l.take j) (by first | rfl | (simp [Act.eval, Act.put]; done)) (HT.out _ HT1.out.below) HPn.out.1 HT1.out.below.size HLe.out.1 ?_; intro v5 w5 hown5 hb5 hg5; have hw5 := HT1.out.below.trans hb5; have hx5 := HT1.out.one.grown hg5 (fun e => HT1.out.ne (Option.some.inj e)); have u0 := cell_below hw5 HZ0.out.1; have u1 := cell_below hw5 HZ0.out.2)
          | (refine step_app rfl (.tmp 21) (.tmp 24) rfl (base := wz.heap.size) (v := .slice (some ⟨(wz.heap.size + 1), 0, none⟩) 0 0) (l := []) (by first | rfl | (simp [Act.eval, Act.put]; done)) HT2.out.own (p := (some ⟨g, o, none⟩)) (m := j) (c := c) (ms := l.take j) (by first | rfl | (simp [Act.eval, Act.put]; done)) (HT.out _ HT2.out.below) HPn.out.1 HT2.out.below.size HLe.out.1 ?_; intro v5 w5 hown5 hb5 hg5; have hw5 := HT2.out.below.trans hb5; have hx5 := HT2.out.one.grown hg5 (fun e => HT2.out.ne (Option.some.inj e)); have u0 := cell_below hw5 HZ0.out.1; have u1 := cell_below hw5 HZ0.out.2)
          | (refine step_app rfl (.tmp 21) (.tmp 24) rfl (base := wz.heap.size) (v := .slice (some ⟨wz.heap.size, 0, none⟩) 0 0) (l := []) (by first | rfl | (simp [Act.eval, Act.put]; done)) HO3.out (p := (some ⟨g, o, none⟩)) (m := j) (c := c) (ms := l.take j) (by first | rfl | (simp [Act.eval, Act.put]; done)) (HT.out _ HB3.out) HPn.out.1 HB3.out.size HLe.out.1 ?_; intro v5 w5 hown5 hb5 hg5; have hw5 := HB3.out.trans hb5; have u0 := cell_below hw5 HZ0.out.1; have u1 := cell_below hw5 HZ0.out.2)
          | (refine step_app rfl (.tmp 25) (.tmp 27) rfl (base := wz.heap.size) (v := v5) (l := [] ++ l.take j) (by first | rfl | (simp [Act.eval, Act.put]; done)) hown5 (p := some ⟨(wz.heap.size + 1), 0, none⟩) (m := 1) (c := 1) (ms := [(x1, x2)]) (by first | rfl | (simp [Act.eval, Act.put]; done)) hx5 (fun h => by cases h) hw5.size HLe.out.2.1 ?_; intro v6 w6 hown6 hb6 hg6; have hw6 := hw5.trans hb6)
          | (refine step_app rfl (.tmp 25) (.tmp 27) rfl (base := wz.heap.size) (v := v5) (l := [] ++ l.take j) (by first | rfl | (simp [Act.eval, Act.put]; done)) hown5 (p := some ⟨wz.heap.size, 0, none⟩) (m := 1) (c := 1) (ms := [(x1, x2)]) (by first | rfl | (simp [Act.eval, Act.put]; done)) hx5 (fun h => by cases h) hw5.size HLe.out.2.1 ?_; intro v6 w6 hown6 hb6 hg6; have hw6 := hw5.trans hb6)
          | (refine step_app rfl (.tmp 25) (.tmp 27) rfl (base := wz.heap.size) (v := v5) (l := [] ++ l.take j) (by first | rfl | (simp [Act.eval, Act.put]; done)) (hown5.below ((Below.refl _ _).alloc (Nat.le_refl _) _)) (p := some ⟨w5.heap.size, 0, none⟩) (m := 1) (c := 1) (ms := [(x1, x2)]) (by first | rfl | (simp [Act.eval, Act.put]; done)) (items_one (box2 w5 _ _ _).1 (box2 w5 _ _ _).2) (fun h => by cases h) (Nat.le_trans hw5.size (by simp)) HLe.out.2.1 ?_; intro v6 w6 hown6 hb6 hg6; have hw6 := (hw5.alloc hw5.size (.cells #[.int .u64 (x1 : Int), .int .u64 (x2 : Int)] 36)).trans hb6)
          | (refine step_app rfl (.tmp 28) (.tmp 31) rfl (base := wz.heap.size) (v := v6) (l := [] ++ l.take j ++ [(x1, x2)]) (by first | rfl | (simp [Act.eval, Act.put]; done)) hown6 (p := (some ⟨g, o + j * 2, none⟩)) (m := (n - j)) (c := (c - j)) (ms := l.drop j) (by first | rfl | (simp [Act.eval, Act.put]; done)) (HDr.out _ hw6) HPn.out.2 hw6.size HLe.out.2.2 ?_; intro v7 w7 hown7 hb7 hg7; have hw7 := hw6.trans hb7))
        all_goals
          go_wp2
          go_ret
          exact ⟨v7, rfl, by have h8 := Joins.ownsRow_le hown7 HZ.out.size; simpa only [List.nil_append, List.append_assoc, List.cons_append, List.take_zero, List.drop_zero] using h8, HZ.out.trans (hw7.mono HZ.out.size)⟩
    · have hji : ¬ (j : Int) < (n : Int) := by omega
      obtain rfl : j = n := by omega
      obtain rfl : j = K := by omega
      go_wp2_with fail
      go_quiet (fail)
      have hz : Below w.heap.size w (wr.drewN nq) := below_drewN (Hb1.out.trans (Hbw.out.mono Hb1.out.size)) nq
      have z0 : (wr.drewN nq).cell? ⟨w.heap.size, 0, none⟩ = some (.int .u64 (x1 : Int)) := e0
      have z1 : (wr.drewN nq).cell? ⟨w.heap.size, 1, none⟩ = some (.int .u64 (x2 : Int)) := e1
      clear e0 e1
      generalize wr.drewN nq = wz at *
      have hld : l.drop j = [] := List.drop_eq_nil_of_le (by omega)
      have Hld := Lib.hid hld
      clear hld
      have hjc : j ≤ c := by omega
      go_wp2_with fail
      cases p with
      | none =>
        have hc0 : c = 0 := Hp.out rfl
        subst hc0
        obtain rfl : j = 0 := by omega
        have hzl : w.heap.size < wz.heap.size := World.block_lt_of_cell? _ _ z0
        have HT := Lib.hid (fun W (hW : Below wz.heap.size wz W) => items_take (HIw.out W (hz.trans (hW.mono hz.size))) (K := 0) (by omega))
        have HDr := Lib.hid (fun W (hW : Below wz.heap.size wz W) => (by rw [Hld.out]; exact items_zero W none 0 (by omega) : Items W none 0 0 (l.drop 0)))
        have T1 := (twoNew_ab (w0 := wz) (wz := wz) (Nat.le_refl _) x1 x2).drew
        have T2 := (twoNew_ba (w0 := wz) (wz := wz) (Nat.le_refl _) x1 x2).drew
        have O3 : OwnI (wz.alloc (.cells #[] 36)).drew wz.heap.size (.slice (some ⟨wz.heap.size, 0, none⟩) 0 0) [] := own_none wz _ (Nat.le_refl _)
        have hb3 : Below wz.heap.size wz (wz.alloc (.cells #[] 36)).drew := ((Below.refl _ _).alloc (Nat.le_refl _) _).drew
        have HLe := Lib.hid (show ([] : List It).length + 0 ≤ 100000 ∧ ([] ++ l.take 0).length + 1 ≤ 100000 ∧ ([] ++ l.take 0 ++ [(x1, x2)]).length + (0) ≤ 100000 from by simp <;> omega)
        have HZ := Lib.hid hz
        have HZ0 := Lib.hid (And.intro z0 z1)
        have HT1 := Lib.hid T1
        have HT2 := Lib.hid T2
        have HO3 := Lib.hid O3
        have HB3 := Lib.hid hb3
        have HPn := Lib.hid (show ((none : Option Addr) = none → 0 = 0) ∧ ((none : Option Addr) = none → 0 = 0) from ⟨fun _ => rfl, fun _ => rfl⟩)
        clear hz T1 T2 O3 hb3
        go_region_law (first
          | (refine step_app rfl (.tmp 21) (.tmp 24) rfl (base := wz.heap.size) (v := .slice (some ⟨wz.heap.size, 0, none⟩) 0 0) (l := []) (by first | rfl | (simp [Act.eval, Act.put]; done)) HT1.out.own (p := none) (m := 0) (c := 0) (ms := l.take 0) (by first | rfl | (simp [Act.eval, Act.put]; done)) (HT.out _ HT1.out.below) HPn.out.1 HT1.out.below.size HLe.out.1 ?_; intro v5 w5 hown5 hb5 hg5; have hw5 := HT1.out.below.trans hb5; have hx5 := HT1.out.one.grown hg5 (fun e => HT1.out.ne (Option.some.inj e)); have u0 := cell_below hw5 HZ0.out.1; have u1 := cell_below hw5 HZ0.out.2)
          | (refine step_app rfl (.tmp 21) (.tmp 24) rfl (base := wz.heap.size) (v := .slice (some ⟨(wz.heap.size + 1), 0, none⟩) 0 0) (l := []) (by first | rfl | (simp [Act.eval, Act.put]; done)) HT2.out.own (p := none) (m := 0) (c := 0) (ms := l.take 0) (by first | rfl | (simp [Act.eval, Act.put]; done)) (HT.out _ HT2.out.below) HPn.out.1 HT2.out.below.size HLe.out.1 ?_; intro v5 w5 hown5 hb5 hg5; have hw5 := HT2.out.below.trans hb5; have hx5 := HT2.out.one.grown hg5 (fun e => HT2.out.ne (Option.some.inj e)); have u0 := cell_below hw5 HZ0.out.1; have u1 := cell_below hw5 HZ0.out.2)
          | (refine step_app rfl (.tmp 21) (.tmp 24) rfl (base := wz.heap.size) (v := .slice (some ⟨wz.heap.size, 0, none⟩) 0 0) (l := []) (by first | rfl | (simp [Act.eval, Act.put]; done)) HO3.out (p := none) (m := 0) (c := 0) (ms := l.take 0) (by first | rfl | (simp [Act.eval, Act.put]; done)) (HT.out _ HB3.out) HPn.out.1 HB3.out.size HLe.out.1 ?_; intro v5 w5 hown5 hb5 hg5; have hw5 := HB3.out.trans hb5; have u0 := cell_below hw5 HZ0.out.1; have u1 := cell_below hw5 HZ0.out.2)
          | (refine step_app rfl (.tmp 25) (.tmp 27) rfl (base := wz.heap.size) (v := v5) (l := [] ++ l.take 0) (by first | rfl | (simp [Act.eval, Act.put]; done)) hown5 (p := some ⟨(wz.heap.size + 1), 0, none⟩) (m := 1) (c := 1) (ms := [(x1, x2)]) (by first | rfl | (simp [Act.eval, Act.put]; done)) hx5 (fun h => by cases h) hw5.size HLe.out.2.1 ?_; intro v6 w6 hown6 hb6 hg6; have hw6 := hw5.trans hb6)
          | (refine step_app rfl (.tmp 25) (.tmp 27) rfl (base := wz.heap.size) (v := v5) (l := [] ++ l.take 0) (by first | rfl | (simp [Act.eval, Act.put]; done)) hown5 (p := some ⟨wz.heap.size, 0, none⟩) (m := 1) (c := 1) (ms := [(x1, x2)]) (by first | rfl | (simp [Act.eval, Act.put]; done)) hx5 (fun h => by cases h) hw5.size HLe.out.2.1 ?_; intro v6 w6 hown6 hb6 hg6; have hw6 := hw5.trans hb6)
          | (refine step_app rfl (.tmp 25) (.tmp 27) rfl (base := wz.heap.size) (v := v5) (l := [] ++ l.take 0) (by first | rfl | (simp [Act.eval, Act.put]; done)) (hown5.below ((Below.refl _ _).alloc (Nat.le_refl _) _)) (p := some ⟨w5.heap.size, 0, none⟩) (m := 1) (c := 1) (ms := [(x1, x2)]) (by first | rfl | (simp [Act.eval, Act.put]; done)) (items_one (box2 w5 _ _ _).1 (box2 w5 _ _ _).2) (fun h => by cases h) (Nat.le_trans hw5.size (by simp)) HLe.out.2.1 ?_; intro v6 w6 hown6 hb6 hg6; have hw6 := (hw5.alloc hw5.size (.cells #[.int .u64 (x1 : Int), .int .u64 (x2 : Int)] 36)).trans hb6)
          | (refine step_app rfl (.tmp 28) (.tmp 31) rfl (base := wz.heap.size) (v := v6) (l := [] ++ l.take 0 ++ [(x1, x2)]) (by first | rfl | (simp [Act.eval, Act.put]; done)) hown6 (p := none) (m := 0) (c := 0) (ms := l.drop 0) (by first | rfl | (simp [Act.eval, Act.put]; done)) (HDr.out _ hw6) HPn.out.2 hw6.size HLe.out.2.2 ?_; intro v7 w7 hown7 hb7 hg7; have hw7 := hw6.trans hb7))
        all_goals
          go_wp2
          go_ret
          exact ⟨v7, rfl, by have h8 := Joins.ownsRow_le hown7 HZ.out.size; simpa only [List.nil_append, List.append_assoc, List.cons_append, List.take_zero, List.drop_zero] using h8, HZ.out.trans (hw7.mono HZ.out.size)⟩
      | some a =>
        obtain ⟨g, o, rfl⟩ := Hpf.out _ rfl
        by_cases hcj : c = j
        · subst hcj
          have hzl : w.heap.size < wz.heap.size := World.block_lt_of_cell? _ _ z0
          have HT := Lib.hid (fun W (hW : Below wz.heap.size wz W) => items_take (HIw.out W (hz.trans (hW.mono hz.size))) (K := c) (by omega))
          have HDr := Lib.hid (fun W (hW : Below wz.heap.size wz W) => (by rw [Hld.out]; exact items_zero W _ 0 (by omega) : Items W (some ⟨g, o, none⟩) 0 0 (l.drop c)))
          have T1 := (twoNew_ab (w0 := wz) (wz := wz) (Nat.le_refl _) x1 x2).drew
          have T2 := (twoNew_ba (w0 := wz) (wz := wz) (Nat.le_refl _) x1 x2).drew
          have O3 : OwnI (wz.alloc (.cells #[] 36)).drew wz.heap.size (.slice (some ⟨wz.heap.size, 0, none⟩) 0 0) [] := own_none wz _ (Nat.le_refl _)
          have hb3 : Below wz.heap.size wz (wz.alloc (.cells #[] 36)).drew := ((Below.refl _ _).alloc (Nat.le_refl _) _).drew
          have HLe := Lib.hid (show ([] : List It).length + c ≤ 100000 ∧ ([] ++ l.take c).length + 1 ≤ 100000 ∧ ([] ++ l.take c ++ [(x1, x2)]).length + (0) ≤ 100000 from by simp <;> omega)
          have HZ := Lib.hid hz
          have HZ0 := Lib.hid (And.intro z0 z1)
          have HT1 := Lib.hid T1
          have HT2 := Lib.hid T2
          have HO3 := Lib.hid O3
          have HB3 := Lib.hid hb3
          have HPn := Lib.hid (show ((some ⟨g, o, none⟩ : Option Addr) = none → c = 0) ∧ ((some ⟨g, o, none⟩ : Option Addr) = none → 0 = 0) from ⟨fun h => (by cases h), fun _ => rfl⟩)
          clear hz T1 T2 O3 hb3
          go_region_law (first
            | (refine step_app rfl (.tmp 21) (.tmp 24) rfl (base := wz.heap.size) (v := .slice (some ⟨wz.heap.size, 0, none⟩) 0 0) (l := []) (by first | rfl | (simp [Act.eval, Act.put]; done)) HT1.out.own (p := (some ⟨g, o, none⟩)) (m := c) (c := c) (ms := l.take c) (by first | rfl | (simp [Act.eval, Act.put]; done)) (HT.out _ HT1.out.below) HPn.out.1 HT1.out.below.size HLe.out.1 ?_; intro v5 w5 hown5 hb5 hg5; have hw5 := HT1.out.below.trans hb5; have hx5 := HT1.out.one.grown hg5 (fun e => HT1.out.ne (Option.some.inj e)); have u0 := cell_below hw5 HZ0.out.1; have u1 := cell_below hw5 HZ0.out.2)
            | (refine step_app rfl (.tmp 21) (.tmp 24) rfl (base := wz.heap.size) (v := .slice (some ⟨(wz.heap.size + 1), 0, none⟩) 0 0) (l := []) (by first | rfl | (simp [Act.eval, Act.put]; done)) HT2.out.own (p := (some ⟨g, o, none⟩)) (m := c) (c := c) (ms := l.take c) (by first | rfl | (simp [Act.eval, Act.put]; done)) (HT.out _ HT2.out.below) HPn.out.1 HT2.out.below.size HLe.out.1 ?_; intro v5 w5 hown5 hb5 hg5; have hw5 := HT2.out.below.trans hb5; have hx5 := HT2.out.one.grown hg5 (fun e => HT2.out.ne (Option.some.inj e)); have u0 := cell_below hw5 HZ0.out.1; have u1 := cell_below hw5 HZ0.out.2)
            | (refine step_app rfl (.tmp 21) (.tmp 24) rfl (base := wz.heap.size) (v := .slice (some ⟨wz.heap.size, 0, none⟩) 0 0) (l := []) (by first | rfl | (simp [Act.eval, Act.put]; done)) HO3.out (p := (some ⟨g, o, none⟩)) (m := c) (c := c) (ms := l.take c) (by first | rfl | (simp [Act.eval, Act.put]; done)) (HT.out _ HB3.out) HPn.out.1 HB3.out.size HLe.out.1 ?_; intro v5 w5 hown5 hb5 hg5; have hw5 := HB3.out.trans hb5; have u0 := cell_below hw5 HZ0.out.1; have u1 := cell_below hw5 HZ0.out.2)
            | (refine step_app rfl (.tmp 25) (.tmp 27) rfl (base := wz.heap.size) (v := v5) (l := [] ++ l.take c) (by first | rfl | (simp [Act.eval, Act.put]; done)) hown5 (p := some ⟨(wz.heap.size + 1), 0, none⟩) (m := 1) (c := 1) (ms := [(x1, x2)]) (by first | rfl | (simp [Act.eval, Act.put]; done)) hx5 (fun h => by cases h) hw5.size HLe.out.2.1 ?_; intro v6 w6 hown6 hb6 hg6; have hw6 := hw5.trans hb6)
            | (refine step_app rfl (.tmp 25) (.tmp 27) rfl (base := wz.heap.size) (v := v5) (l := [] ++ l.take c) (by first | rfl | (simp [Act.eval, Act.put]; done)) hown5 (p := some ⟨wz.heap.size, 0, none⟩) (m := 1) (c := 1) (ms := [(x1, x2)]) (by first | rfl | (simp [Act.eval, Act.put]; done)) hx5 (fun h => by cases h) hw5.size HLe.out.2.1 ?_; intro v6 w6 hown6 hb6 hg6; have hw6 := hw5.trans hb6)
            | (refine step_app rfl (.tmp 25) (.tmp 27) rfl (base := wz.heap.size) (v := v5) (l := [] ++ l.take c) (by first | rfl | (simp [Act.eval, Act.put]; done)) (hown5.below ((Below.refl _ _).alloc (Nat.le_refl _) _)) (p := some ⟨w5.heap.size, 0, none⟩) (m := 1) (c := 1) (ms := [(x1, x2)]) (by first | rfl | (simp [Act.eval, Act.put]; done)) (items_one (box2 w5 _ _ _).1 (box2 w5 _ _ _).2) (fun h => by cases h) (Nat.le_trans hw5.size (by simp)) HLe.out.2.1 ?_; intro v6 w6 hown6 hb6 hg6; have hw6 := (hw5.alloc hw5.size (.cells #[.int .u64 (x1 : Int), .int .u64 (x2 : Int)] 36)).trans hb6)
            | (refine step_app rfl (.tmp 28) (.tmp 31) rfl (base := wz.heap.size) (v := v6) (l := [] ++ l.take c ++ [(x1, x2)]) (by first | rfl | (simp [Act.eval, Act.put]; done)) hown6 (p := (some ⟨g, o, none⟩)) (m := 0) (c := 0) (ms := l.drop c) (by first | rfl | (simp [Act.eval, Act.put]; done)) (HDr.out _ hw6) HPn.out.2 hw6.size HLe.out.2.2 ?_; intro v7 w7 hown7 hb7 hg7; have hw7 := hw6.trans hb7))
          all_goals
            go_wp2
            go_ret
            exact ⟨v7, rfl, by have h8 := Joins.ownsRow_le hown7 HZ.out.size; simpa only [List.nil_append, List.append_assoc, List.cons_append, List.take_zero, List.drop_zero] using h8, HZ.out.trans (hw7.mono HZ.out.size)⟩
        · have hcj2 : ¬ j = c := by omega
          have hzl : w.heap.size < wz.heap.size := World.block_lt_of_cell? _ _ z0
          have HT := Lib.hid (fun W (hW : Below wz.heap.size wz W) => items_take (HIw.out W (hz.trans (hW.mono hz.size))) (K := j) (by omega))
          have HDr := Lib.hid (fun W (hW : Below wz.heap.size wz W) => (by rw [Hld.out]; exact items_zero W _ _ (by omega) : Items W (some ⟨g, o + j * 2, none⟩) 0 (c - j) (l.drop j)))
          have T1 := (twoNew_ab (w0 := wz) (wz := wz) (Nat.le_refl _) x1 x2).drew
          have T2 := (twoNew_ba (w0 := wz) (wz := wz) (Nat.le_refl _) x1 x2).drew
          have O3 : OwnI (wz.alloc (.cells #[] 36)).drew wz.heap.size (.slice (some ⟨wz.heap.size, 0, none⟩) 0 0) [] := own_none wz _ (Nat.le_refl _)
          have hb3 : Below wz.heap.size wz (wz.alloc (.cells #[] 36)).drew := ((Below.refl _ _).alloc (Nat.le_refl _) _).drew
          have HLe := Lib.hid (show ([] : List It).length + j ≤ 100000 ∧ ([] ++ l.take j).length + 1 ≤ 100000 ∧ ([] ++ l.take j ++ [(x1, x2)]).length + (0) ≤ 100000 from by simp <;> omega)
          have HZ := Lib.hid hz
          have HZ0 := Lib.hid (And.intro z0 z1)
          have HT1 := Lib.hid T1
          have HT2 := Lib.hid T2
          have HO3 := Lib.hid O3
          have HB3 := Lib.hid hb3
          have HPn := Lib.hid (show ((some ⟨g, o, none⟩ : Option Addr) = none → c = 0) ∧ ((some ⟨g, o + j * 2, none⟩ : Option Addr) = none → c - j = 0) from ⟨fun h => (by cases h), fun h => (by cases h)⟩)
          clear hz T1 T2 O3 hb3
          go_region_law (first
            | (refine step_app rfl (.tmp 21) (.tmp 24) rfl (base := wz.heap.size) (v := .slice (some ⟨wz.heap.size, 0, none⟩) 0 0) (l := []) (by first | rfl | (simp [Act.eval, Act.put]; done)) HT1.out.own (p := (some ⟨g, o, none⟩)) (m := j) (c := c) (ms := l.take j) (by first | rfl | (simp [Act.eval, Act.put]; done)) (HT.out _ HT1.out.below) HPn.out.1 HT1.out.below.size HLe.out.1 ?_; intro v5 w5 hown5 hb5 hg5; have hw5 := HT1.out.below.trans hb5; have hx5 := HT1.out.one.grown hg5 (fun e => HT1.out.ne (Option.some.inj e)); have u0 := cell_below hw5 HZ0.out.1; have u1 := cell_below hw5 HZ0.out.2)
            | (refine step_app rfl (.tmp 21) (.tmp 24) rfl (base := wz.heap.size) (v := .slice (some ⟨(wz.heap.size + 1), 0, none⟩) 0 0) (l := []) (by first | rfl | (simp [Act.eval, Act.put]; done)) HT2.out.own (p := (some ⟨g, o, none⟩)) (m := j) (c := c) (ms := l.take j) (by first | rfl | (simp [Act.eval, Act.put]; done)) (HT.out _ HT2.out.below) HPn.out.1 HT2.out.below.size HLe.out.1 ?_; intro v5 w5 hown5 hb5 hg5; have hw5 := HT2.out.below.trans hb5; have hx5 := HT2.out.one.grown hg5 (fun e => HT2.out.ne (Option.some.inj e)); have u0 := cell_below hw5 HZ0.out.1; have u1 := cell_below hw5 HZ0.out.2)
            | (refine step_app rfl (.tmp 21) (.tmp 24) rfl (base := wz.heap.size) (v := .slice (some ⟨wz.heap.size, 0, none⟩) 0 0) (l := []) (by first | rfl | (simp [Act.eval, Act.put]; done)) HO3.out (p := (some ⟨g, o, none⟩)) (m := j) (c := c) (ms := l.take j) (by first | rfl | (simp [Act.eval, Act.put]; done)) (HT.out _ HB3.out) HPn.out.1 HB3.out.size HLe.out.1 ?_; intro v5 w5 hown5 hb5 hg5; have hw5 := HB3.out.trans hb5; have u0 := cell_below hw5 HZ0.out.1; have u1 := cell_below hw5 HZ0.out.2)
            | (refine step_app rfl (.tmp 25) (.tmp 27) rfl (base := wz.heap.size) (v := v5) (l := [] ++ l.take j) (by first | rfl | (simp [Act.eval, Act.put]; done)) hown5 (p := some ⟨(wz.heap.size + 1), 0, none⟩) (m := 1) (c := 1) (ms := [(x1, x2)]) (by first | rfl | (simp [Act.eval, Act.put]; done)) hx5 (fun h => by cases h) hw5.size HLe.out.2.1 ?_; intro v6 w6 hown6 hb6 hg6; have hw6 := hw5.trans hb6)
            | (refine step_app rfl (.tmp 25) (.tmp 27) rfl (base := wz.heap.size) (v := v5) (l := [] ++ l.take j) (by first | rfl | (simp [Act.eval, Act.put]; done)) hown5 (p := some ⟨wz.heap.size, 0, none⟩) (m := 1) (c := 1) (ms := [(x1, x2)]) (by first | rfl | (simp [Act.eval, Act.put]; done)) hx5 (fun h => by cases h) hw5.size HLe.out.2.1 ?_; intro v6 w6 hown6 hb6 hg6; have hw6 := hw5.trans hb6)
            | (refine step_app rfl (.tmp 25) (.tmp 27) rfl (base := wz.heap.size) (v := v5) (l := [] ++ l.take j) (by first | rfl | (simp [Act.eval, Act.put]; done)) (hown5.below ((Below.refl _ _).alloc (Nat.le_refl _) _)) (p := some ⟨w5.heap.size, 0, none⟩) (m := 1) (c := 1) (ms := [(x1, x2)]) (by first | rfl | (simp [Act.eval, Act.put]; done)) (items_one (box2 w5 _ _ _).1 (box2 w5 _ _ _).2) (fun h => by cases h) (Nat.le_trans hw5.size (by simp)) HLe.out.2.1 ?_; intro v6 w6 hown6 hb6 hg6; have hw6 := (hw5.alloc hw5.size (.cells #[.int .u64 (x1 : Int), .int .u64 (x2 : Int)] 36)).trans hb6)
            | (refine step_app rfl (.tmp 28) (.tmp 31) rfl (base := wz.heap.size) (v := v6) (l := [] ++ l.take j ++ [(x1, x2)]) (by first | rfl | (simp [Act.eval, Act.put]; done)) hown6 (p := (some ⟨g, o + j * 2, none⟩)) (m := 0) (c := (c - j)) (ms := l.drop j) (by first | rfl | (simp [Act.eval, Act.put]; done)) (HDr.out _ hw6) HPn.out.2 hw6.size HLe.out.2.2 ?_; intro v7 w7 hown7 hb7 hg7; have hw7 := hw6.trans hb7))
          all_goals
            go_wp2
            go_ret
            exact ⟨v7, rfl, by have h8 := Joins.ownsRow_le hown7 HZ.out.size; simpa only [List.nil_append, List.append_assoc, List.cons_append, List.take_zero, List.drop_zero] using h8, HZ.out.trans (hw7.mono HZ.out.size)⟩
end Go.Proofs.Ythidinaflaogfaa
