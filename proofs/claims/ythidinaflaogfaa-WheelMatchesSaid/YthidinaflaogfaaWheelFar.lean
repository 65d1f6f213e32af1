/- The statement WheelFar. -/
import Derived.Test.YthidinaflaogfaaWhLaw
import Derived.Test.YthidinaflaogfaaOpenU64s
namespace Go.Proofs.Ythidinaflaogfaa
open Go.RowKit

theorem schedT_tim {T : List It} (h : TimW T) (t : It) (hi : t.1 < 18446744073709551616) : TimW (schedT T t) ∧ (schedT T t).length ≤ T.length + 1 ∧ ∀ u ∈ schedT T t, u = t ∨ u ∈ T := by
  unfold schedT
  by_cases hb : 9223372036854775807 < t.2
  · rw [if_pos hb]
    exact ⟨h, by omega, fun u hu => .inr hu⟩
  · rw [if_neg hb]
    cases e : hasW T t.1 with
    | true => rw [if_pos rfl]; exact ⟨h, by omega, fun u hu => .inr hu⟩
    | false =>
      rw [if_neg (by decide)]
      exact ⟨h.ins e (by omega) hi, by rw [len_ins]; omega, fun u hu => (mem_ins h.srt).1 hu⟩

/-- The length of a row, read off a cell. -/
def lenC (x : Option Value) : Nat := match x with | some (.slice _ n _) => n | _ => 0

theorem adv_yes {now now' : Nat} (h : now ≤ now') (hb : now' < 9223372036854775808) : advC now now' = 0 := by unfold advC; rw [if_neg (by omega), if_neg (by omega)]
theorem adv_all {now now' : Nat} {T : List It} (h : now ≤ now') (hb : now' < 9223372036854775808) (ha : ∀ t ∈ T, now' < t.2) : advD now now' T = [] ∧ advT now now' T = T ∧ advN now now' = now' := by
  unfold advD advT advN
  rw [if_pos (adv_yes h hb), if_pos (adv_yes h hb), if_pos (adv_yes h hb)]
  exact ⟨List.filter_eq_nil_iff.2 (fun t ht => by have := ha t ht; simp; omega), List.filter_eq_self.2 (fun t ht => decide_eq_true (ha t ht)), rfl⟩
theorem adv_some {now now' : Nat} {T : List It} (h : now ≤ now') (hb : now' < 9223372036854775808) : advD now now' T = T.filter (fun t => decide (t.2 ≤ now')) ∧ advT now now' T = T.filter (fun t => decide (now' < t.2)) ∧ advN now now' = now' := by
  unfold advD advT advN
  rw [if_pos (adv_yes h hb), if_pos (adv_yes h hb), if_pos (adv_yes h hb)]
  exact ⟨rfl, rfl, rfl⟩

/-- What Advance of the wheel does beside the reference. -/
theorem LawP.adv {w0 : World} {d B n1 : Nat} {T1 : List It} {n2 : Nat} {T2 : List It} {X : Nat → Prop} {wr : World} (h : LawP w0 d B n1 T1 n2 T2 X wr) (hl : T1.length ≤ 990) (now' : Nat) (hn : now' < 18446744073709551616) {nw : Nat} {T' D : List It} {cd : Int} (hc : advC n1 now' = cd) (hD : advD n1 now' T1 = D) (hT : advT n1 now' T1 = T') (hw : advN n1 now' = nw) :
    Calls Try.prog 14 #[.pointer (some ⟨d, 0, none⟩), .int .u64 (now' : Int)] wr fun r w' => ∃ p c Z, r = .returned (.tuple #[.slice p D.length c, .int .i64 cd]) ∧ Items w' p D.length c D ∧ (∀ b, X b → Z b) ∧ (∀ b o, p = some ⟨b, o, none⟩ → wr.heap.size ≤ b) ∧ LawP w0 d B nw T' n2 T2 Z w' := by
  refine (wadv_any h.wh hl now' hn).mono ?_
  rintro r w' ⟨u, rfl, hr, hS, hk, hb⟩
  rw [hc, hD, hT, hw] at *
  obtain ⟨p, c, rfl, hI⟩ := OwnL.items hr rfl
  exact ⟨p, c, _, rfl, hI, fun b hx => .inl hx, fun b o e => (World.ownsRow.lt hr b (by rw [e]; rfl)).1, h.aside hS (fun b hx => .inl hx) hk hb.size⟩

/-- What Schedule of the wheel does beside the reference. -/
theorem LawP.sched {w0 : World} {d B n1 : Nat} {T1 : List It} {n2 : Nat} {T2 : List It} {X : Nat → Prop} {wr : World} (h : LawP w0 d B n1 T1 n2 T2 X wr) (hl : T1.length ≤ 990) (i a : Nat) (hi : i < 18446744073709551616) (ha : a < 18446744073709551616) :
    Calls Try.prog 13 #[.pointer (some ⟨d, 0, none⟩), .int .u64 (i : Int), .int .u64 (a : Int)] wr fun r w' => r = .returned (.int .i64 (schedC T1 (i, a))) ∧ LawP w0 d B n1 (schedT T1 (i, a)) n2 T2 X w' := by
  refine (wsched_any h.wh hl (i, a) hi ha).mono ?_
  rintro r w' ⟨rfl, hE⟩
  exact ⟨rfl, h.wheel hE⟩

/-- What Schedule of the reference does beside the wheel. -/
theorem LawP.rsched {w0 : World} {d B n1 : Nat} {T1 : List It} {n2 : Nat} {T2 : List It} {X : Nat → Prop} {wr : World} (h : LawP w0 d B n1 T1 n2 T2 X wr) (hs : srtI T2) (hl : T2.length ≤ 990) (i a : Nat) (ha : a < 18446744073709551616) : ∃ p c, wr.heap[B]? = some (.cells #[.int .u64 (n2 : Int), .slice p T2.length c] 29 (0, 0)) ∧
    Calls Try.prog 12 #[.agg #[.int .u64 (n2 : Int), .slice p T2.length c], .int .u64 (i : Int), .int .u64 (a : Int)] wr fun r w' => ∃ p' c' Z, r = .returned (.tuple #[.agg #[.int .u64 (n2 : Int), .slice p' (schedT T2 (i, a)).length c'], .int .i64 (schedC T2 (i, a))]) ∧ LawP w0 d B n1 T1 n2 T2 Z w' ∧ RowAt (fun b => Z b ∧ b ≠ B) w' p' (schedT T2 (i, a)).length c' (schedT T2 (i, a)) ∧ Below wr.heap.size wr w' := by
  obtain ⟨p, c, h1, h2, _⟩ := h.ref
  refine ⟨p, c, h1, (rsched16_any _ n2 T2 _ (i, a) wr h2 hs hl ha).mono ?_⟩
  rintro r w' ⟨v, rfl, hv, hb⟩
  obtain ⟨p', c', Z, rfl, _, h3, h4⟩ := h.got hb hv
  exact ⟨p', c', Z, rfl, h3, h4, hb⟩

/-- What Advance of the reference does beside the wheel. -/
theorem LawP.radv {w0 : World} {d B n1 : Nat} {T1 : List It} {n2 : Nat} {T2 : List It} {X : Nat → Prop} {wr : World} (h : LawP w0 d B n1 T1 n2 T2 X wr) (hs : srtI T2) (hl : T2.length ≤ 990) (now' : Nat) (hn : now' < 18446744073709551616) {nw : Nat} {T' D : List It} {cd : Int} (hc : advC n2 now' = cd) (hD : advD n2 now' T2 = D) (hT : advT n2 now' T2 = T') (hw : advN n2 now' = nw) :
    ∃ p c, wr.heap[B]? = some (.cells #[.int .u64 (n2 : Int), .slice p T2.length c] 29 (0, 0)) ∧
    Calls Try.prog 19 #[.agg #[.int .u64 (n2 : Int), .slice p T2.length c], .int .u64 (now' : Int)] wr fun r w' => ∃ p' c' pp cc Z, r = .returned (.tuple #[.agg #[.int .u64 (nw : Int), .slice p' T'.length c'], .slice pp D.length cc, .int .i64 cd]) ∧ LawP w0 d B n1 T1 n2 T2 Z w' ∧ RowAt (fun b => Z b ∧ b ≠ B) w' p' T'.length c' T' ∧ RowAt (fun b => Z b ∧ b ≠ B) w' pp D.length cc D ∧ Below wr.heap.size wr w' ∧ ∀ b, X b → Z b := by
  obtain ⟨p, c, h1, h2, _⟩ := h.ref
  refine ⟨p, c, h1, (radv16_any _ n2 T2 _ now' wr h2 hs hl hn nw hw.symm T' hT.symm D hD.symm cd hc.symm).mono ?_⟩
  rintro r w' ⟨v, pp, cc, rfl, hv, hrow, hb⟩
  obtain ⟨p', c', Z, rfl, hXZ, h3, h4⟩ := h.got hb hv
  exact ⟨p', c', pp, cc, Z, rfl, h3, h4, hrow.mono (fun b hb' => ⟨hXZ b hb'.1, hb'.2⟩), hb, hXZ⟩

/-- What the first loop holds. -/
def FarJ (w0 : World) (d B s j : Nat) (wr : World) : Prop := ∃ T X, LawP w0 d B s T s T X wr ∧ TimW T ∧ T.length ≤ j ∧ ∀ t ∈ T, s ≤ t.2
/-- What the second loop holds. -/
def FarK (w0 : World) (d B s : Nat) (wr : World) : Prop := ∃ nw T X, LawP w0 d B nw T nw T X wr ∧ TimW T ∧ T.length ≤ 60 ∧ (nw < 9223372036854775808 ∧ s ≤ nw) ∧ ((nw = s ∧ ∀ t ∈ T, s ≤ t.2) ∨ ∀ t ∈ T, nw < t.2)

set_option maxRecDepth 100000 in
set_option maxHeartbeats 6400000 in
theorem wheelFar_any (now : Nat) (p : Option Addr) (n c : Nat) (l : List Nat) (w : World) (hnow : now < 18446744073709551616) (h : NumsU w p n c l) :
    Calls Try.prog 6 #[.int .u64 (now : Int), .slice p n c] w fun r w' => r = .returned (.bool true) ∧ Below w.heap.size w w' := by
  have hle := h.le
  have hmx := h.capmax
  have HA := Lib.hid (fun w => alive16_any w)
  by_cases hbig : 60 < n
  · have hb : (60 : Int) < (n : Int) := by omega
    clear h hbig
    go_enter Try.func6, Try.ntmps6
    go_wp2_with fail
    refine (HA.out _).mono ?_
    rintro r w1 ⟨rfl, hb1⟩
    have Hb1 := Lib.hid hb1
    clear hb1
    go_wp2
    go_ret
    exact ⟨rfl, Hb1.out⟩
  · have hb : ¬ (60 : Int) < (n : Int) := by omega
    obtain ⟨s, hs⟩ : ∃ s, s = now % 4611686018427387904 := ⟨_, rfl⟩
    have hsi : (now : Int) % 4611686018427387904 = (s : Int) := by rw [hs]; omega
    have hsb : s < 4611686018427387904 := by omega
    have HN := Lib.hid (show Calls Try.prog 8 #[.int .u64 (s : Int)] w fun r w' => r = .returned (.pointer (some ⟨w.heap.size + 1, 0, none⟩)) ∧ WhS w (fun _ => False) w' (w.heap.size + 1) s [] from by
      have h := wnewS_any s w (by omega)
      rwa [show min s 9223372036854775807 = s by omega] at h)
    have HR := Lib.hid (show ∀ W, Calls Try.prog 11 #[.int .u64 (s : Int)] W fun r w' => r = .returned (.agg #[.int .u64 (s : Int), .slice none 0 0]) ∧ Below W.heap.size W w' from fun W => by
      have h := rnew16_any s W
      rwa [show min s 9223372036854775807 = s by omega] at h)
    have HL := Lib.hid h
    have Hn := Lib.hid (And.intro hnow (show n ≤ 60 by omega))
    clear h hs hbig
    go_enter Try.func6, Try.ntmps6
    go_wp2_with fail
    refine HN.out.mono ?_
    rintro r w1 ⟨rfl, hW⟩
    have HW := Lib.hid hW
    clear hW
    go_wp2_with fail
    refine (HR.out _).mono ?_
    rintro r w2 ⟨rfl, hb2⟩
    have HLaw := Lib.hid (LawP.start HW.out hb2)
    have Hb2 := Lib.hid (HW.out.base.trans (hb2.mono HW.out.base.size))
    obtain ⟨B, hB⟩ : ∃ B, B = w2.heap.size := ⟨_, rfl⟩
    obtain ⟨w3, hw3⟩ : ∃ w3, w3 = w2.alloc (.cells #[.int .u64 (s : Int), .slice none 0 0] 29) := ⟨_, rfl⟩
    rw [← hB, ← hw3] at HLaw
    clear hb2
    go_upto_region 6 with fail
    rw [← hB, ← hw3]
    clear hB hw3
    go_wp2_with fail
    go_loopw [33] (fun i wr => ∃ j : Nat, j ≤ n ∧ i = .int .i64 (j : Int) ∧ RowKit.Hid (FarJ w (w.heap.size + 1) B s j wr)) (fun i _ => n - (intOf i).toNat)
    case atStart => exact ⟨0, Nat.zero_le _, rfl, Lib.hid ⟨[], _, HLaw.out, tim_nil, Nat.le_refl _, fun t ht => (by cases ht)⟩⟩
    case round =>
      obtain ⟨j, hj, rfl, HJ⟩ := hrel
      by_cases hlt : j < n
      · have hji : (j : Int) < (n : Int) := by omega
        obtain ⟨T, X, hP, hT, hTl, hTs⟩ := HJ.out
        have hBelow : Below w.heap.size w wr := hP.base
        have Hbl := Lib.hid hBelow
        obtain ⟨b, o, rfl, hc⟩ := HL.out.cell (by omega)
        obtain ⟨x, hx⟩ : ∃ x, l[j]? = some x := ⟨_, List.getElem?_eq_getElem (by rw [HL.out.len]; exact hlt)⟩
        have hxb := HL.out.wf x (List.mem_of_getElem? hx)
        have c0 := hc j x hx
        have c0 : wr.cell? ⟨b, o + j, none⟩ = some (.int .u64 (x : Int)) := by rw [hBelow.cell (World.block_lt_of_cell? _ _ c0)]; exact c0
        obtain ⟨y, hy⟩ : ∃ y, y = x % 4611686018427387904 := ⟨_, rfl⟩
        have hyi : (x : Int) % 4611686018427387904 = (y : Int) := by rw [hy]; omega
        have hyb : y < 4611686018427387904 := by omega
        obtain ⟨a, ha⟩ : ∃ a, a = s + y := ⟨_, rfl⟩
        have hai : (s : Int) + (y : Int) = (a : Int) := by omega
        have hab : a < 9223372036854775808 := by omega
        have hn60 := Hn.out.2
        have hj60 : j < 60 := by omega
        have HS := Lib.hid (hP.sched (by omega) j a (by omega) (by omega))
        obtain ⟨s1, s2, s3⟩ := schedT_tim hT (j, a) (by show j < 18446744073709551616; omega)
        have HT := Lib.hid (And.intro hT (And.intro hTl (And.intro s1 (And.intro s2 (show ∀ t ∈ schedT T (j, a), s ≤ t.2 from fun t ht => by
          rcases s3 t ht with rfl | h5
          · show s ≤ a; omega
          · exact hTs t h5)))))
        clear hc hx hy ha hP hT hTl hTs HJ hBelow s1 s2 s3 hn60
        go_wp2_with fail
        refine HS.out.mono ?_
        rintro r w4 ⟨rfl, hP4⟩
        obtain ⟨pp, cc, k0, hcall⟩ := hP4.rsched HT.out.1.srt (by have := HT.out.2.1; omega) j a (by omega)
        obtain ⟨b0, b1, b2, b3⟩ := cells_of2 k0
        have HC := Lib.hid hcall
        clear hcall k0 hP4 c0
        go_wp2_with fail
        refine HC.out.mono ?_
        rintro r w5 ⟨p5, c5, Z, rfl, hP5, hR5, _⟩
        obtain ⟨p6, c6, k5, _, _⟩ := hP5.ref
        obtain ⟨e0, e1, e2, e3⟩ := cells_of2 k5
        have HP6 := Lib.hid (show FarJ w (w.heap.size + 1) B s (j + 1) ((w5.setCell ⟨B, 0, none⟩ (.int .u64 (s : Int))).setCell ⟨B, 1, none⟩ (.slice p5 (schedT T (j, a)).length c5)) from ⟨_, Z, hP5.store hR5, HT.out.2.2.1, by have h5 := HT.out.2.1; have h6 := HT.out.2.2.2.1; omega, HT.out.2.2.2.2⟩)
        clear hP5 hR5 k5 b0 b1 b2 b3
        go_wp2
        go_roundw
        case rel => exact ⟨j + 1, by omega, by go_num, HP6⟩
        case measure => simp [intOf]; omega
      · have hji : ¬ (j : Int) < (n : Int) := by omega
        have HK : RowKit.Hid (FarK w (w.heap.size + 1) B s wr) := by
          obtain ⟨T, X, hP, hT, hTl, hTs⟩ := HJ.out
          exact Lib.hid ⟨s, T, X, hP, hT, by have := Hn.out.2; omega, ⟨by omega, Nat.le_refl _⟩, .inl ⟨rfl, hTs⟩⟩
        clear HJ
        go_wp2_with fail
        go_loopw [11] (fun _ wr => RowKit.Hid (FarK w (w.heap.size + 1) B s wr)) (fun _ W => lenC (W.cell? ⟨B, 1, none⟩))
        case atStart => exact HK
        case round =>
          obtain ⟨nw, T, X, hP, hT, hTl, hnw, hTs⟩ := hrel.out
          obtain ⟨pp, cc, k0, _, hrow⟩ := hP.ref
          obtain ⟨b0, b1, b2, b3⟩ := cells_of2 k0
          have hIm := hrow.items.max
          have hIl := hrow.items.le
          cases hTe : T with
          | nil =>
            rw [hTe] at b1
            change wr.cell? _ = some (.slice pp 0 cc) at b1
            have HP := Lib.hid (show ∀ W, Below wr.heap.size wr W → Calls Try.prog 18 #[.pointer (some ⟨w.heap.size + 1, 0, none⟩)] W fun r w' => r = .returned (.int .i64 0) ∧ w' = W from fun W hW => by
              obtain ⟨L, h, _⟩ := (hP.turned hW).wh
              exact wcount_any h (n := 0) (by rw [hTe]; rfl))
            have Hbase := Lib.hid hP.base
            clear hP hT hTl hTs hrow k0 hTe hrel
            go_wp2_with fail
            refine (HA.out _).mono ?_
            rintro r w9 ⟨rfl, hb9⟩
            have Hb9 := Lib.hid hb9
            clear hb9
            go_wp2_with fail
            refine (HP.out _ Hb9.out).mono ?_
            rintro r w9 ⟨rfl, rfl⟩
            go_wp2
            go_ret
            exact ⟨rfl, Hbase.out.trans (Hb9.out.mono Hbase.out.size)⟩
          | cons h0 R =>
            have hmin := head_least hT hTe
            have hm1 : 0 < T.length := by rw [hTe]; simp
            obtain ⟨m, hm⟩ : ∃ m, m = T.length := ⟨_, rfl⟩
            have hh0 : h0 ∈ T := by rw [hTe]; exact List.mem_cons_self
            obtain ⟨a, ha⟩ : ∃ a, a = h0.2 := ⟨_, rfl⟩
            have hab : a < 9223372036854775808 := by rw [ha]; exact hT.tick h0 hh0
            obtain ⟨b, o, hpp, hc⟩ := hrow.items.cell hm1
            have c1 : wr.cell? ⟨b, o + 1, none⟩ = some (.int .u64 (a : Int)) := by
              have h5 := (hc 0 h0 (by rw [hTe]; rfl)).2
              rw [Nat.zero_mul, Nat.add_zero] at h5
              rw [h5, ha]
            rw [← hm] at b1 hIl hm1
            have hmi : (0 : Int) < (m : Int) := by omega
            subst hpp
            have hsa : s ≤ a ∧ nw ≤ a ∧ (s < a → nw < a ∧ ∀ t ∈ T, max (a - 1) nw < t.2) := by
              rcases hTs with ⟨e1, e2⟩ | e2
              · have h5 := e2 h0 hh0
                refine ⟨by omega, by omega, fun h6 => ⟨by omega, fun t ht => ?_⟩⟩
                have := hmin t ht
                omega
              · have h5 := e2 h0 hh0
                refine ⟨by omega, by omega, fun h6 => ⟨by omega, fun t ht => ?_⟩⟩
                have := hmin t ht
                have := e2 t ht
                omega
            have hdue : ∀ t ∈ T.filter (fun t => decide (a < t.2)), a < t.2 := fun t ht => of_decide_eq_true (List.mem_filter.1 ht).2
            have hlen : (T.filter (fun t => decide (a < t.2))).length < m := by
              rw [hm]
              refine Nat.lt_of_le_of_ne (List.length_filter_le _ _) (fun e => ?_)
              have h5 := List.filter_eq_self.1 (List.Sublist.eq_of_length List.filter_sublist e) h0 hh0
              rw [ha] at h5
              simp at h5
            obtain ⟨T2, hT2⟩ : ∃ T2, T2 = T.filter (fun t => decide (a < t.2)) := ⟨_, rfl⟩
            obtain ⟨D, hD⟩ : ∃ D, D = T.filter (fun t => decide (t.2 ≤ a)) := ⟨_, rfl⟩
            rw [← hT2] at hdue hlen
            have HD := Lib.hid (And.intro hT2 hD)
            have HT := Lib.hid (And.intro hT (And.intro hTl (And.intro hTs (And.intro hsa (And.intro hdue (And.intro hlen hnw))))))
            have HK2 := Lib.hid (show ∀ X W, LawP w (w.heap.size + 1) B a T2 a T2 X W → FarK w (w.heap.size + 1) B s W ∧ lenC (W.cell? ⟨B, 1, none⟩) < m from fun X W h => by
              refine ⟨⟨a, T2, X, h, by rw [hT2]; exact hT.sub List.filter_sublist, by omega, ⟨hab, hsa.1⟩, .inr hdue⟩, ?_⟩
              obtain ⟨p9, c9, k9, _⟩ := h.ref
              rw [(cells_of2 k9).2.1]
              exact hlen)
            have hDl : D.length ≤ 1000 := by rw [hD]; have := List.length_filter_le (fun t : It => decide (t.2 ≤ a)) T; omega
            have HDl := Lib.hid hDl
            clear hT2 hD hDl
            have HP := Lib.hid hP
            have Hb1 := Lib.hid b1
            have hsn := hnw.2
            have hnw1 := hnw.1
            obtain ⟨hsa1, hsa2, _⟩ := hsa
            clear hP hT hTl hTs hrow k0 hTe hrel hmin hh0 ha hc hdue hlen hm hnw
            by_cases hsl : s < a
            · have hsi2 : (s : Int) < (a : Int) := by omega
              obtain ⟨a1, ha1⟩ : ∃ a1, a1 = a - 1 := ⟨_, rfl⟩
              have hai : (a : Int) - 1 = (a1 : Int) := by omega
              obtain ⟨q, hq⟩ : ∃ q, q = max a1 nw := ⟨_, rfl⟩
              have hqi : max (a1 : Int) (nw : Int) = (q : Int) := by omega
              have hqa : q ≤ a ∧ nw ≤ q := by have := (HT.out.2.2.2.1.2.2 hsl).1; omega
              obtain ⟨g1, g2, g3⟩ := adv_all (now := nw) (now' := q) (T := T) hqa.2 (by omega) (fun t ht => by have := (HT.out.2.2.2.1.2.2 hsl).2 t ht; omega)
              have HAd := Lib.hid (HP.out.adv (by have := HT.out.2.1; omega) q (by omega) (adv_yes hqa.2 (by omega)) g1 g2 g3)
              have hq2 := hqa.1
              have Hq := Lib.hid hqa.2
              clear g1 g2 g3 ha1 hq hqa
              go_wp2_with fail
              refine HAd.out.mono ?_
              rintro r w4 ⟨p4, c4, Z4, rfl, hI4, hXZ, _, hP4⟩
              have HP4 := Lib.hid hP4
              clear hI4 hXZ hP4 b0 b1 b2 b3 c1
              obtain ⟨u1, u2, u3⟩ := adv_some (now := q) (now' := a) (T := T) hq2 hab
              rw [← HD.out.1] at u2
              rw [← HD.out.2] at u1
              have HAd2 := Lib.hid (HP4.out.adv (by have := HT.out.2.1; omega) a (by omega) (adv_yes hq2 hab) u1 u2 u3)
              clear u1 u2 u3 
              go_wp2_with fail
              refine HAd2.out.mono ?_
              rintro r w5 ⟨p5, c5, Z5, rfl, hI5, hXZ5, hnew5, hP5⟩
              obtain ⟨v1, v2, v3⟩ := adv_some (now := nw) (now' := a) (T := T) hsa2 hab
              rw [← HD.out.1] at v2
              rw [← HD.out.2] at v1
              obtain ⟨p6, c6, k6, hcall⟩ := hP5.radv HT.out.1.srt (by have := HT.out.2.1; omega) a (by omega) (adv_yes hsa2 hab) v1 v2 v3
              obtain ⟨b0, b1, b2, b3⟩ := cells_of2 k6
              have HC := Lib.hid hcall
              have HI5 := Lib.hid (And.intro hI5 (show ∀ b o, p5 = some ⟨b, o, none⟩ → b ≠ B from fun b o e => by have h5 := hnew5 b o e; have h6 := HP4.out.wh.xb B HP4.out.bx; omega))
              have HmL := Lib.hid (show lenC (wr.cell? ⟨B, 1, none⟩) = m from by rw [show wr.cell? ⟨B, 1, none⟩ = _ from Hb1.out]; rfl)
              clear v1 v2 v3 hI5 hXZ5 hnew5 k6 hcall hP5
              go_wp2_with fail
              refine HC.out.mono ?_
              rintro r w7 ⟨p7, c7, pp7, cc7, Z7, rfl, hP7, hR7, hrow7, hb7, _⟩
              have hP8 := hP7.turned (w' := w7.alloc (.cells #[.int .u64 (a : Int), .slice p7 T2.length c7] 29)) ((Below.refl _ _).alloc (Nat.le_refl _) _)
              obtain ⟨p8, c8, k8, _, _⟩ := hP8.ref
              obtain ⟨e0, e1, e2, e3⟩ := cells_of2 k8
              have hb8 : Below w7.heap.size w7 (w7.alloc (.cells #[.int .u64 (a : Int), .slice p7 T2.length c7] 29)) := (Below.refl _ _).alloc (Nat.le_refl _) _
              have hP9 := hP8.store (n2' := a) (hR7.below hb8)
              have hoth : ∀ b, b ≠ B → (((w7.alloc (.cells #[.int .u64 (a : Int), .slice p7 T2.length c7] 29)).setCell ⟨B, 0, none⟩ (.int .u64 (a : Int))).setCell ⟨B, 1, none⟩ (.slice p7 T2.length c7)).heap[b]? = (w7.alloc (.cells #[.int .u64 (a : Int), .slice p7 T2.length c7] 29)).heap[b]? := fun b hb => by
                rw [heap_setCell_other _ _ _ _ hb, heap_setCell_other _ _ _ _ hb]
              have HI8 := Lib.hid (items_same ((HI5.out.1.below hb7).below hb8) (fun b o e => hoth b (HI5.out.2 b o e)))
              have HW8 := Lib.hid (items_same (hrow7.items.below hb8) (fun b o e => hoth b (hrow7.mem b o e).1.2))
              have HP9 := Lib.hid hP9
              have HBk := Lib.hid (back_any p5 D.length c5 D _ HI8.out HDl.out)
              clear hP7 hR7 hrow7 hb7 hP8 k8 hb8 hP9 hoth b0 b1 b2 b3
              go_wp2_with fail
              refine HBk.out.mono ?_
              rintro r w9 ⟨v9, rfl, hown9, hb9⟩
              obtain ⟨q9, d9, rfl, hI9⟩ := OwnI.items hown9 rfl
              have HEq := Lib.hid ((equal_any q9 pp7 D.length D.length d9 cc7 D D w9 hI9 (HW8.out.below hb9)).mono (R' := fun r w' => r = .returned (.bool true) ∧ Below w9.heap.size w9 w') (by rintro r w' ⟨e, hb⟩; exact ⟨by rw [e, decide_eq_true rfl], hb⟩))
              have HP10 := Lib.hid (HP9.out.turned hb9)
              clear hown9 hb9 hI9 e0 e1 e2 e3
              go_wp2_with fail
              refine HEq.out.mono ?_
              rintro r w10 ⟨rfl, hb10⟩
              have HP11 := Lib.hid (HP10.out.turned hb10)
              clear hb10
              go_wp2
              go_roundw
              case rel => exact Lib.hid (HK2.out _ _ HP11.out).1
              case measure => rw [HmL.out]; exact (HK2.out _ _ HP11.out).2
            · have hsi2 : ¬ (s : Int) < (a : Int) := by omega
              have hq2 : nw ≤ a := hsa2
              have HP4 := HP
              obtain ⟨u1, u2, u3⟩ := adv_some (now := nw) (now' := a) (T := T) hq2 hab
              rw [← HD.out.1] at u2
              rw [← HD.out.2] at u1
              have HAd2 := Lib.hid (HP4.out.adv (by have := HT.out.2.1; omega) a (by omega) (adv_yes hq2 hab) u1 u2 u3)
              clear u1 u2 u3
              go_wp2_with fail
              refine HAd2.out.mono ?_
              rintro r w5 ⟨p5, c5, Z5, rfl, hI5, hXZ5, hnew5, hP5⟩
              obtain ⟨v1, v2, v3⟩ := adv_some (now := nw) (now' := a) (T := T) hsa2 hab
              rw [← HD.out.1] at v2
              rw [← HD.out.2] at v1
              obtain ⟨p6, c6, k6, hcall⟩ := hP5.radv HT.out.1.srt (by have := HT.out.2.1; omega) a (by omega) (adv_yes hsa2 hab) v1 v2 v3
              obtain ⟨b0, b1, b2, b3⟩ := cells_of2 k6
              have HC := Lib.hid hcall
              have HI5 := Lib.hid (And.intro hI5 (show ∀ b o, p5 = some ⟨b, o, none⟩ → b ≠ B from fun b o e => by have h5 := hnew5 b o e; have h6 := HP4.out.wh.xb B HP4.out.bx; omega))
              have HmL := Lib.hid (show lenC (wr.cell? ⟨B, 1, none⟩) = m from by rw [show wr.cell? ⟨B, 1, none⟩ = _ from Hb1.out]; rfl)
              clear v1 v2 v3 hI5 hXZ5 hnew5 k6 hcall hP5
              go_wp2_with fail
              refine HC.out.mono ?_
              rintro r w7 ⟨p7, c7, pp7, cc7, Z7, rfl, hP7, hR7, hrow7, hb7, _⟩
              have hP8 := hP7.turned (w' := w7.alloc (.cells #[.int .u64 (a : Int), .slice p7 T2.length c7] 29)) ((Below.refl _ _).alloc (Nat.le_refl _) _)
              obtain ⟨p8, c8, k8, _, _⟩ := hP8.ref
              obtain ⟨e0, e1, e2, e3⟩ := cells_of2 k8
              have hb8 : Below w7.heap.size w7 (w7.alloc (.cells #[.int .u64 (a : Int), .slice p7 T2.length c7] 29)) := (Below.refl _ _).alloc (Nat.le_refl _) _
              have hP9 := hP8.store (n2' := a) (hR7.below hb8)
              have hoth : ∀ b, b ≠ B → (((w7.alloc (.cells #[.int .u64 (a : Int), .slice p7 T2.length c7] 29)).setCell ⟨B, 0, none⟩ (.int .u64 (a : Int))).setCell ⟨B, 1, none⟩ (.slice p7 T2.length c7)).heap[b]? = (w7.alloc (.cells #[.int .u64 (a : Int), .slice p7 T2.length c7] 29)).heap[b]? := fun b hb => by
                rw [heap_setCell_other _ _ _ _ hb, heap_setCell_other _ _ _ _ hb]
              have HI8 := Lib.hid (items_same ((HI5.out.1.below hb7).below hb8) (fun b o e => hoth b (HI5.out.2 b o e)))
              have HW8 := Lib.hid (items_same (hrow7.items.below hb8) (fun b o e => hoth b (hrow7.mem b o e).1.2))
              have HP9 := Lib.hid hP9
              have HBk := Lib.hid (back_any p5 D.length c5 D _ HI8.out HDl.out)
              clear hP7 hR7 hrow7 hb7 hP8 k8 hb8 hP9 hoth b0 b1 b2 b3
              go_wp2_with fail
              refine HBk.out.mono ?_
              rintro r w9 ⟨v9, rfl, hown9, hb9⟩
              obtain ⟨q9, d9, rfl, hI9⟩ := OwnI.items hown9 rfl
              have HEq := Lib.hid ((equal_any q9 pp7 D.length D.length d9 cc7 D D w9 hI9 (HW8.out.below hb9)).mono (R' := fun r w' => r = .returned (.bool true) ∧ Below w9.heap.size w9 w') (by rintro r w' ⟨e, hb⟩; exact ⟨by rw [e, decide_eq_true rfl], hb⟩))
              have HP10 := Lib.hid (HP9.out.turned hb9)
              clear hown9 hb9 hI9 e0 e1 e2 e3
              go_wp2_with fail
              refine HEq.out.mono ?_
              rintro r w10 ⟨rfl, hb10⟩
              have HP11 := Lib.hid (HP10.out.turned hb10)
              clear hb10
              go_wp2
              go_roundw
              case rel => exact Lib.hid (HK2.out _ _ HP11.out).1
              case measure => rw [HmL.out]; exact (HK2.out _ _ HP11.out).2
end Go.Proofs.Ythidinaflaogfaa
