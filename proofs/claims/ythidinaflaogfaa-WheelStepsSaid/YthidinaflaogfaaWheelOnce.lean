/- The statement WheelOnce. -/
import Derived.Test.YthidinaflaogfaaWheelFar
namespace Go.Proofs.Ythidinaflaogfaa
open Go.RowKit

/-- The list without the first t items of D. -/
def minW (L D : List It) (t : Nat) : List It := L.filter fun y => !decide (y ∈ D.take t)
theorem minW_zero (L D : List It) : minW L D 0 = L := List.filter_eq_self.2 fun y _ => by simp
theorem minW_succ {L D : List It} {t : Nat} {x : It} (h : D[t]? = some x) : minW L D (t + 1) = delI x (minW L D t) := by
  unfold minW delI
  rw [List.filter_filter]
  refine List.filter_congr fun y _ => ?_
  obtain ⟨ht, rfl⟩ := List.getElem?_eq_some_iff.1 h
  rw [List.take_succ_eq_append_getElem ht, Bool.eq_iff_iff]
  simp only [List.mem_append, List.mem_singleton, Bool.not_eq_true', decide_eq_false_iff_not, Bool.and_eq_true, not_or]
  exact ⟨fun h => ⟨h.2, h.1⟩, fun h => ⟨h.2, h.1⟩⟩
theorem minW_all (T : List It) (a : Nat) : minW T (T.filter fun t => decide (t.2 ≤ a)) (T.filter fun t => decide (t.2 ≤ a)).length = T.filter fun t => decide (a < t.2) := by
  unfold minW
  rw [List.take_length]
  refine List.filter_congr fun y hy => ?_
  rw [Bool.eq_iff_iff]
  simp only [Bool.not_eq_true', decide_eq_false_iff_not, List.mem_filter, decide_eq_true_eq, not_and]
  exact ⟨fun h => by have := h hy; omega, fun h _ => by omega⟩
theorem mem_minW {T D : List It} (hn : D.Nodup) {t : Nat} {x : It} (h : D[t]? = some x) (hx : x ∈ T) : x ∈ minW T D t := by
  refine List.mem_filter.2 ⟨hx, ?_⟩
  obtain ⟨ht, rfl⟩ := List.getElem?_eq_some_iff.1 h
  have e : D = D.take t ++ D[t] :: D.drop (t + 1) := by rw [← List.drop_eq_getElem_cons ht, List.take_append_drop]
  have : D[t] ∉ D.take t := fun hm => by
    rw [e, List.nodup_append] at hn
    exact hn.2.2 _ hm _ List.mem_cons_self rfl
  simp [this]

/-- A wheel beside a row of items. -/
def OnceJ (w0 : World) (d now : Nat) (T L : List It) (v : Value) (wr : World) : Prop := ∃ X p c, WhS w0 X wr d now T ∧ v = .slice p L.length c ∧ RowAt X wr p L.length c L

theorem OnceJ.turned {w0 : World} {d now : Nat} {T L : List It} {v : Value} {wr w' : World} (h : OnceJ w0 d now T L v wr) (hb : Below wr.heap.size wr w') : OnceJ w0 d now T L v w' := by
  obtain ⟨X, p, c, h1, e, h2⟩ := h
  exact ⟨X, p, c, h1.below hb, e, h2.below hb⟩

/-- The row is another one. -/
theorem OnceJ.row {w0 : World} {d now : Nat} {T L L' : List It} {v v' : Value} {wr w' : World} (h : OnceJ w0 d now T L v wr) (hb : Below wr.heap.size wr w') (hr : OwnI w' wr.heap.size v' L') : OnceJ w0 d now T L' v' w' := by
  obtain ⟨X, p, c, h1, e, h2⟩ := h
  obtain ⟨p', c', rfl, hR⟩ := rowAt_own hr rfl
  refine ⟨fun b => wr.heap.size ≤ b ∧ b < w'.heap.size, p', c', h1.swap hb (fun b hb' => ⟨.inr hb'.1, hb'.2⟩), rfl, hR.items, hR.zero, hR.form, fun b o e => ⟨?_, (hR.mem b o e).2⟩⟩
  exact hR.mem b o e

/-- Advance beside a row. -/
theorem OnceJ.adv {w0 : World} {d now : Nat} {T L : List It} {v : Value} {wr : World} (h : OnceJ w0 d now T L v wr) (hl : T.length ≤ 990) (now' : Nat) (hn : now' < 18446744073709551616) {nw : Nat} {T' D : List It} {cd : Int} (hc : advC now now' = cd) (hD : advD now now' T = D) (hT : advT now now' T = T') (hw : advN now now' = nw) :
    Calls Try.prog 14 #[.pointer (some ⟨d, 0, none⟩), .int .u64 (now' : Int)] wr fun r w' => ∃ p c, r = .returned (.tuple #[.slice p D.length c, .int .i64 cd]) ∧ Items w' p D.length c D ∧ OnceJ w0 d nw T' L v w' := by
  obtain ⟨X, p, c, h1, e, h2⟩ := h
  refine (wadv_any h1 hl now' hn).mono ?_
  rintro r w' ⟨u, rfl, hr, hS, hk, hb⟩
  rw [hc, hD, hT, hw] at *
  obtain ⟨p', c', rfl, hI⟩ := OwnL.items hr rfl
  exact ⟨p', c', rfl, hI, _, p, c, hS, e, (h2.kept hk hb.size).mono (fun b hx => .inl hx)⟩

/-- Cancel beside a row. -/
theorem OnceJ.cancel {w0 : World} {d now : Nat} {T L : List It} {v : Value} {wr : World} (h : OnceJ w0 d now T L v wr) (hl : T.length ≤ 990) (id : Nat) (hi : id < 18446744073709551616) :
    Calls Try.prog 17 #[.pointer (some ⟨d, 0, none⟩), .int .u64 (id : Int)] wr fun r w' => r = .returned (.int .i64 (if hasW T id = true then 0 else 6)) ∧ OnceJ w0 d now (cancT T id) L v w' := by
  obtain ⟨X, p, c, h1, e, h2⟩ := h
  refine (wcancel_any h1 hl id hi).mono ?_
  rintro r w' ⟨e', hE⟩
  exact ⟨e', X, p, c, hE.wh, e, h2.kept hE.keep hE.below.size⟩

theorem cancT_head {T : List It} (h : TimW T) {j : Nat} {t : It} (ht : T[j]? = some t) : cancT (T.drop j) t.1 = T.drop (j + 1) ∧ hasW (T.drop j) t.1 = true := by
  obtain ⟨hj, rfl⟩ := List.getElem?_eq_some_iff.1 ht
  have h1 : T.drop j = T[j] :: T.drop (j + 1) := List.drop_eq_getElem_cons hj
  have h2 : TimW (T.drop j) := h.sub (List.drop_sublist _ _)
  refine ⟨?_, hasW_iff.2 ⟨T[j], by rw [h1]; exact List.mem_cons_self, rfl⟩⟩
  have h3 := cancT_at h2 (i := 0) (t := T[j]) (by rw [h1]; rfl)
  rw [← h3, List.take_zero, List.nil_append, List.drop_drop]

set_option maxRecDepth 100000 in
set_option maxHeartbeats 6400000 in
theorem wheelOnce_any (p : Option Addr) (n c : Nat) (l : List It) (p2 : Option Addr) (n2 c2 : Nat) (l2 : List Nat) (w : World) (h : Items w p n c l) (hw : ∀ y ∈ l, y.1 < 18446744073709551616 ∧ y.2 < 18446744073709551616) (h2 : NumsU w p2 n2 c2 l2) :
    Calls Try.prog 4 #[.slice p n c, .slice p2 n2 c2] w fun r w' => r = .returned (.bool true) ∧ Below w.heap.size w w' := by
  have hle := h.le
  have hmx := h.max
  have hle2 := h2.le
  have hmx2 := h2.capmax
  have HA := Lib.hid (fun w => alive16_any w)
  have HN := Lib.hid (show Calls Try.prog 8 #[.int .u64 0] w fun r w' => r = .returned (.pointer (some ⟨w.heap.size + 1, 0, none⟩)) ∧ WhS w (fun _ => False) w' (w.heap.size + 1) 0 [] from wnewS_any 0 w (by decide))
  by_cases hbig : 60 < n ∨ 60 < n2
  · have hor : (60 < n) ∨ (¬ 60 < n ∧ 60 < n2) := by omega
    clear h h2 hw hbig
    rcases hor with hb | ⟨hb, hb2⟩
    · have hbi : (60 : Int) < (n : Int) := by omega
      go_enter Try.func4, Try.ntmps4
      go_wp2_with fail
      refine HN.out.mono ?_
      rintro r w1 ⟨rfl, hW⟩
      have Hb1 := Lib.hid hW.base
      clear hW
      go_wp2_with fail
      refine (HA.out _).mono ?_
      rintro r w2 ⟨rfl, hb2⟩
      have Hb2 := Lib.hid (Hb1.out.trans (hb2.mono Hb1.out.size))
      clear hb2
      go_wp2
      go_ret
      exact ⟨rfl, Hb2.out⟩
    · have hbi : ¬ (60 : Int) < (n : Int) := by omega
      have hbi2 : (60 : Int) < (n2 : Int) := by omega
      go_enter Try.func4, Try.ntmps4
      go_wp2_with fail
      refine HN.out.mono ?_
      rintro r w1 ⟨rfl, hW⟩
      have Hb1 := Lib.hid hW.base
      clear hW
      go_wp2_with fail
      refine (HA.out _).mono ?_
      rintro r w2 ⟨rfl, hb2⟩
      have Hb2 := Lib.hid (Hb1.out.trans (hb2.mono Hb1.out.size))
      clear hb2
      go_wp2
      go_ret
      exact ⟨rfl, Hb2.out⟩
  · have hbi : ¬ (60 : Int) < (n : Int) := by omega
    have hbi2 : ¬ (60 : Int) < (n2 : Int) := by omega
    have HR := Lib.hid (show ∀ W, Calls Try.prog 11 #[.int .u64 0] W fun r w' => r = .returned (.agg #[.int .u64 0, .slice none 0 0]) ∧ Below W.heap.size W w' from fun W => rnew16_any 0 W)
    have HL := Lib.hid (And.intro h hw)
    have HL2 := Lib.hid h2
    have Hn := Lib.hid (show n ≤ 60 ∧ n2 ≤ 60 by omega)
    clear h h2 hw hbig
    go_enter Try.func4, Try.ntmps4
    go_wp2_with fail
    refine HN.out.mono ?_
    rintro r w1 ⟨rfl, hW⟩
    have HW := Lib.hid hW
    clear hW
    go_wp2_with fail
    refine (HR.out _).mono ?_
    rintro r w2 ⟨rfl, hb2⟩
    have HLaw := Lib.hid (show LawP w (w.heap.size + 1) w2.heap.size 0 [] 0 [] (fun b => b = w2.heap.size) (w2.alloc (.cells #[.int .u64 0, .slice none 0 0] 29)) from LawP.start HW.out hb2)
    obtain ⟨B, hB⟩ : ∃ B, B = w2.heap.size := ⟨_, rfl⟩
    obtain ⟨w3, hw3⟩ : ∃ w3, w3 = w2.alloc (.cells #[.int .u64 0, .slice none 0 0] 29) := ⟨_, rfl⟩
    rw [← hB, ← hw3] at HLaw
    clear hb2
    go_upto_region 5 with fail
    rw [← hB, ← hw3]
    clear hB hw3
    go_wp2_with fail
    go_loopw [43] (fun i wr => ∃ j : Nat, j ≤ n ∧ i = .int .i64 (j : Int) ∧ RowKit.Hid (∃ T X, LawP w (w.heap.size + 1) B 0 T 0 T X wr ∧ TimW T ∧ T.length ≤ j)) (fun i _ => n - (intOf i).toNat)
    case atStart => exact ⟨0, Nat.zero_le _, rfl, Lib.hid ⟨[], _, HLaw.out, tim_nil, Nat.le_refl _⟩⟩
    case round =>
      obtain ⟨j, hj, rfl, HJ⟩ := hrel
      by_cases hlt : j < n
      · have hji : (j : Int) < (n : Int) := by omega
        obtain ⟨T, X, hP, hT, hTl⟩ := HJ.out
        obtain ⟨b, o, rfl, hc⟩ := HL.out.1.cell (by omega)
        obtain ⟨x, hx⟩ : ∃ x, l[j]? = some x := ⟨_, List.getElem?_eq_getElem (by rw [HL.out.1.len]; exact hlt)⟩
        obtain ⟨hx1, hx2⟩ := HL.out.2 x (List.mem_of_getElem? hx)
        obtain ⟨c0, c1⟩ := hc j x hx
        obtain ⟨x1, x2⟩ := x
        have hBelow : Below w.heap.size w wr := hP.base
        have c0 : wr.cell? ⟨b, o + j * 2, none⟩ = some (.int .u64 (x1 : Int)) := by rw [hBelow.cell (World.block_lt_of_cell? _ _ c0)]; exact c0
        have c1 : wr.cell? ⟨b, o + j * 2 + 1, none⟩ = some (.int .u64 (x2 : Int)) := by rw [hBelow.cell (World.block_lt_of_cell? _ _ c1)]; exact c1
        have hn60 := Hn.out.1
        obtain ⟨s1, s2, s3⟩ := schedT_tim hT (x1, x2) hx1
        have hb0 : Below wr.heap.size wr (wr.alloc (.cells #[.int .u64 (x1 : Int), .int .u64 (x2 : Int)] 36)) := (Below.refl _ _).alloc (Nat.le_refl _) _
        have d := heap_alloc_new wr (.cells #[.int .u64 (x1 : Int), .int .u64 (x2 : Int)] 36)
        have hP4 := hP.turned hb0
        have Hne := Lib.hid (show wr.heap.size ≠ B from fun e => by have := hP.wh.xb B hP.bx; omega)
        obtain ⟨w4, hw4⟩ : ∃ w4, w4 = wr.alloc (.cells #[.int .u64 (x1 : Int), .int .u64 (x2 : Int)] 36) := ⟨_, rfl⟩
        rw [← hw4] at d hP4
        obtain ⟨d0, d1, _, _⟩ := cells_of2 d
        obtain ⟨pp, cc, k0, hcall⟩ := hP4.rsched hT.srt (by omega) x1 x2 hx2
        obtain ⟨b0, b1, _, _⟩ := cells_of2 k0
        have HD := Lib.hid d
        have HC := Lib.hid hcall
        have HT := Lib.hid (And.intro hT (And.intro hTl (And.intro s1 (And.intro s2 (And.intro hx1 hx2)))))
        have Hlt4 := Lib.hid ((Array.getElem?_eq_some_iff.1 d).1)
        clear hc hx hP hT hTl HJ hBelow s1 s2 s3 hb0 d hP4 k0 hcall hx1 hx2
        go_upto_region 8 with fail
        rw [← hw4]
        clear hw4 c0 c1
        go_wp2_with fail
        refine HC.out.mono ?_
        rintro r w5 ⟨p5, c5, Z, rfl, hP5, hR5, hb5⟩
        have hb6 : Below w5.heap.size w5 (w5.alloc (.cells #[.int .u64 0, .slice p5 (schedT T (x1, x2)).length c5] 29)) := (Below.refl _ _).alloc (Nat.le_refl _) _
        have hP6 := hP5.turned hb6
        obtain ⟨p6, c6, k6, _, _⟩ := hP6.ref
        obtain ⟨e0, e1, e2, e3⟩ := cells_of2 k6
        have hd6 : (w5.alloc (.cells #[.int .u64 0, .slice p5 (schedT T (x1, x2)).length c5] 29)).heap[wr.heap.size]? = some (.cells #[.int .u64 (x1 : Int), .int .u64 (x2 : Int)] 36 (0, 0)) := (hb6.block _ (Nat.lt_of_lt_of_le Hlt4.out hb5.size)).trans ((hb5.block _ Hlt4.out).trans HD.out)
        obtain ⟨f0, f1, _, _⟩ := cells_of2 hd6
        have HP7 := Lib.hid (hP6.store (n2' := 0) (hR5.below hb6))
        have HS := Lib.hid (HP7.out.sched (by have := HT.out.2.1; have := Hn.out; omega) x1 x2 HT.out.2.2.2.2.1 HT.out.2.2.2.2.2)
        have hne := Hne.out
        have hne2 : ¬ B = wr.heap.size := fun e => hne e.symm
        clear hP5 hR5 hb5 hb6 hP6 k6 hd6 b0 b1 d0 d1
        go_wp2_with fail
        refine HS.out.mono ?_
        rintro r w7 ⟨rfl, hP8⟩
        have HP8 := Lib.hid (show ∃ T X, LawP w (w.heap.size + 1) B 0 T 0 T X w7 ∧ TimW T ∧ T.length ≤ j + 1 from ⟨_, Z, hP8, HT.out.2.2.1, by have := HT.out.2.1; have := HT.out.2.2.2.1; omega⟩)
        clear hP8 e0 e1 e2 e3 f0 f1
        go_wp2
        go_roundw
        case rel => exact ⟨j + 1, by omega, by go_num, HP8⟩
        case measure => simp [intOf]; omega
      · have hji : ¬ (j : Int) < (n : Int) := by omega
        obtain ⟨T, X, hP, hT, hTl⟩ := HJ.out
        obtain ⟨pL, cL, k0, _, hrow⟩ := hP.ref
        obtain ⟨b0, b1, _, _⟩ := cells_of2 k0
        have HO := Lib.hid (show OnceJ w (w.heap.size + 1) 0 T T (.slice pL T.length cL) wr ∧ TimW T ∧ T.length ≤ 60 from ⟨⟨_, pL, cL, hP.wh.swap (Y := fun b => X b ∧ b ≠ B) (Below.refl _ _) (fun b hb => ⟨.inl hb.1, hP.wh.xb b hb.1⟩), rfl, hrow⟩, hT, by have := Hn.out.1; omega⟩)
        clear hP hT hTl hrow HJ k0
        go_wp2_with fail
        go_loopw [11, 12, 70] (fun v z i wr => ∃ (j nw : Nat) (T : List It), j ≤ n2 ∧ i = .int .i64 (j : Int) ∧ z = .int .u64 (nw : Int) ∧ nw < 9223372036854775808 ∧ RowKit.Hid (OnceJ w (w.heap.size + 1) nw T T v wr) ∧ RowKit.Hid (TimW T ∧ T.length ≤ 60 ∧ (nw = 0 ∨ ∀ t ∈ T, nw < t.2))) (fun _ _ i _ => n2 - (intOf i).toNat)
        case atStart => exact ⟨0, 0, T, Nat.zero_le _, rfl, rfl, by decide, Lib.hid HO.out.1, Lib.hid ⟨HO.out.2.1, HO.out.2.2, .inl rfl⟩⟩
        case round =>
          clear b0 b1 HO
          obtain ⟨j, nw, T, hj, rfl, rfl, hnw, HJ, HT⟩ := hrel
          obtain ⟨XL, pL, cL, hS0, rfl, hrow0⟩ := HJ.out
          by_cases hlt : j < n2
          · have hji : (j : Int) < (n2 : Int) := by omega
            obtain ⟨b, o, rfl, hc⟩ := HL2.out.cell (by omega)
            obtain ⟨tk, htk⟩ : ∃ tk, l2[j]? = some tk := ⟨_, List.getElem?_eq_getElem (by rw [HL2.out.len]; exact hlt)⟩
            have htb := HL2.out.wf tk (List.mem_of_getElem? htk)
            have c0 := hc j tk htk
            have c0 : wr.cell? ⟨b, o + j, none⟩ = some (.int .u64 (tk : Int)) := by rw [hS0.base.cell (World.block_lt_of_cell? _ _ c0)]; exact c0
            have hT60 := HT.out.2.1
            clear hc htk hS0 hrow0
            by_cases hcd : advC nw tk = 0
            · have hle3 : nw ≤ tk ∧ tk < 9223372036854775808 := by
                unfold advC at hcd
                split at hcd
                · cases hcd
                · split at hcd
                  · cases hcd
                  · omega
              obtain ⟨u1, u2, u3⟩ := adv_some (now := nw) (now' := tk) (T := T) hle3.1 hle3.2
              obtain ⟨D, hD⟩ : ∃ D, D = T.filter (fun t => decide (t.2 ≤ tk)) := ⟨_, rfl⟩
              obtain ⟨T', hT'⟩ : ∃ T', T' = T.filter (fun t => decide (tk < t.2)) := ⟨_, rfl⟩
              rw [← hD] at u1
              rw [← hT'] at u2
              have HAd := Lib.hid (HJ.out.adv (by omega) tk htb hcd u1 u2 u3)
              obtain ⟨ND, hND⟩ : ∃ ND, D.length = ND := ⟨_, rfl⟩
              rw [hND] at HAd
              have hDm : ∀ y ∈ D, y ∈ T ∧ y.2 ≤ tk := fun y hy => by rw [hD] at hy; exact ⟨(List.mem_filter.1 hy).1, of_decide_eq_true (List.mem_filter.1 hy).2⟩
              have hDn : D.Nodup := by rw [hD]; exact (srt_nodup HT.out.1.srt).filter _
              have hND60 : ND ≤ 60 := by rw [← hND, hD]; exact Nat.le_trans (List.length_filter_le _ _) hT60
              have HD := Lib.hid (And.intro hD (And.intro hT' (And.intro hDm (And.intro hDn hND))))
              have htk63 := hle3.2
              clear hD hT' hDm hDn hND u1 u2 u3 hcd HJ
              go_wp2_with fail
              refine HAd.out.mono ?_
              rintro r w4 ⟨p4, c4, rfl, hI4, hJ4⟩
              have HJ4 := Lib.hid hJ4
              have HI4 := Lib.hid hI4
              have hle4 := hI4.le
              have hmx4 := hI4.max
              clear hI4 hJ4 c0
              go_wp2_with fail
              go_loopw [11, 84] (fun v i wr => ∃ k : Nat, k ≤ ND ∧ i = .int .i64 (k : Int) ∧ RowKit.Hid (OnceJ w (w.heap.size + 1) tk T' (minW T D k) v wr) ∧ RowKit.Hid (Items wr p4 ND c4 D)) (fun _ i _ => ND - (intOf i).toNat)
              case atStart => exact ⟨0, Nat.zero_le _, rfl, Lib.hid (by rw [minW_zero]; exact HJ4.out), HI4⟩
              case round =>
                clear HJ4 HI4
                obtain ⟨k, hk, rfl, HJ5, HI5⟩ := hrel
                obtain ⟨X5, p5, c5, hS5, hv5, hrow5⟩ := HJ5.out
                obtain ⟨N5, hN5⟩ : ∃ N5, (minW T D k).length = N5 := ⟨_, rfl⟩
                rw [hN5] at hrow5 hv5
                subst hv5
                by_cases hkl : k < ND
                · have hki : (k : Int) < (ND : Int) := by omega
                  obtain ⟨b4, o4, rfl, hc4⟩ := HI5.out.cell (by omega)
                  obtain ⟨x, hx⟩ : ∃ x, D[k]? = some x := ⟨_, List.getElem?_eq_getElem (by have := HD.out.2.2.2.2; omega)⟩
                  obtain ⟨c0, c1⟩ := hc4 k x hx
                  have hxD := List.mem_of_getElem? hx
                  obtain ⟨hxT, hxt⟩ := HD.out.2.2.1 x hxD
                  have hxm := mem_minW HD.out.2.2.2.1 hx hxT
                  have hgt := HT.out.2.2
                  have hx0 : nw = 0 ∨ nw < x.2 := hgt.imp id (fun h => h x hxT)
                  have hlen5 : N5 ≤ 1000 := by rw [← hN5]; exact Nat.le_trans (List.length_filter_le _ _) (by omega)
                  have hsc := minW_succ (L := T) hx
                  have HHas := Lib.hid (fun W (hW : Below wr.heap.size wr W) => (has_any p5 N5 c5 (minW T D k) x W (hrow5.items.below hW)).mono (R' := fun r w' => r = .returned (.bool true) ∧ Below W.heap.size W w') (by rintro r w' ⟨e, hb⟩; exact ⟨by rw [e, decide_eq_true hxm], hb⟩))
                  have HWo := Lib.hid (fun W (hW : Below wr.heap.size wr W) => without_any p5 N5 c5 (minW T D k) x W (hrow5.items.below hW) hlen5)
                  have Hsc := Lib.hid hsc
                  obtain ⟨y1, y2⟩ := x
                  change wr.cell? _ = some (.int .u64 (y1 : Int)) at c0
                  change wr.cell? _ = some (.int .u64 (y2 : Int)) at c1
                  have hyt : ¬ (tk : Int) < (y2 : Int) := by change y2 ≤ tk at hxt; omega
                  have hcase : (¬ (y2 : Int) ≤ (nw : Int)) ∨ ((y2 : Int) ≤ (nw : Int) ∧ ¬ (0 : Int) < (nw : Int)) := by
                    change nw = 0 ∨ nw < y2 at hx0
                    omega
                  obtain ⟨W2, hW2, hsz2, hbW2, g0, g1, g2, g3⟩ := two_boxes wr (.int .u64 (y1 : Int)) (.int .u64 (y2 : Int)) (.int .u64 (y1 : Int)) (.int .u64 (y2 : Int)) 44 36
                  have HW2 := Lib.hid (And.intro hbW2 (And.intro g2 g3))
                  have HH2 := Lib.hid (HHas.out W2 hbW2)
                  clear hc4 hx hxD hxT hxt hxm hgt hx0 hlen5 hsc hS5 hrow5 hsz2 hbW2 g0 g1
                  go_upto_region 24 with fail
                  rw [← hW2]
                  clear hW2 c0 c1
                  go_wp2_with fail
                  refine HH2.out.mono ?_
                  rintro r w6 ⟨rfl, hb6⟩
                  have h0 := cell_below hb6 HW2.out.2.1
                  have h1 := cell_below hb6 HW2.out.2.2
                  have Hb6 := Lib.hid (HW2.out.1.trans (hb6.mono HW2.out.1.size))
                  have HW6 := Lib.hid (HWo.out w6 Hb6.out)
                  clear hb6 g2 g3
                  rcases hcase with hcs | ⟨hcs, hcs0⟩
                  all_goals
                    go_wp2_with fail
                    refine HW6.out.mono ?_
                    rintro r w7 ⟨v7, rfl, hown7, hb7⟩
                    have HJ7 := Lib.hid (show OnceJ w (w.heap.size + 1) tk T' (minW T D (k + 1)) v7 w7 from by
                      rw [Hsc.out]
                      exact (HJ5.out.turned Hb6.out).row hb7 hown7)
                    have HI7 := Lib.hid ((HI5.out.below Hb6.out).below hb7)
                    clear hown7 hb7 h0 h1
                    go_wp2
                    go_roundw
                    case rel => exact ⟨k + 1, by omega, by go_num, HJ7, HI7⟩
                    case measure => simp [intOf]; omega
                · have hki : ¬ (k : Int) < (ND : Int) := by omega
                  obtain rfl : k = ND := by omega
                  have HJ7 := Lib.hid (show OnceJ w (w.heap.size + 1) tk T' T' (.slice p5 N5 c5) wr from by
                    have h9 := HJ5.out
                    rw [← HD.out.2.2.2.2, HD.out.1, minW_all, ← HD.out.2.1] at h9
                    exact h9)
                  have HT7 := Lib.hid (show TimW T' ∧ T'.length ≤ 60 ∧ (tk = 0 ∨ ∀ t ∈ T', tk < t.2) from by
                    rw [HD.out.2.1]
                    exact ⟨HT.out.1.sub List.filter_sublist, Nat.le_trans (List.length_filter_le _ _) hT60, .inr (fun t ht => of_decide_eq_true (List.mem_filter.1 ht).2)⟩)
                  clear hS5 hrow5
                  go_wp2
                  go_roundw
                  case rel => exact ⟨j + 1, tk, T', by omega, by go_num, rfl, htk63, HJ7, HT7⟩
                  case measure => simp [intOf]; omega
            · have hcd2 : ((advC nw tk) == 0) = false := beq_eq_false_iff_ne.2 hcd
              have HAd := Lib.hid (show Calls Try.prog 14 #[.pointer (some ⟨w.heap.size + 1, 0, none⟩), .int .u64 (tk : Int)] wr fun r w' => ∃ u cd, r = .returned (.tuple #[u, .int .i64 cd]) ∧ (cd == 0) = false ∧ ¬ cd = 0 ∧ OnceJ w (w.heap.size + 1) nw T T (.slice pL T.length cL) w' from by
                have e1 : advD nw tk T = [] := if_neg hcd
                have e2 : advT nw tk T = T := if_neg hcd
                have e3 : advN nw tk = nw := if_neg hcd
                refine (HJ.out.adv (by omega) tk htb rfl e1 e2 e3).mono ?_
                rintro r w' ⟨p4, c4, rfl, _, hJ4⟩
                exact ⟨_, _, rfl, hcd2, hcd, hJ4⟩)
              clear hcd hcd2 HJ
              go_wp2_with fail
              refine HAd.out.mono ?_
              rintro r w4 ⟨u4, cd, rfl, hcd, hcd2, hJ4⟩
              have HJ4 := Lib.hid hJ4
              clear hJ4 c0
              go_wp2
              go_roundw
              case rel => exact ⟨j + 1, nw, T, by omega, by go_num, rfl, hnw, HJ4, HT⟩
              case measure => simp [intOf]; omega
          · have hji : ¬ (j : Int) < (n2 : Int) := by omega
            obtain ⟨M, hM⟩ : ∃ M, T.length = M := ⟨_, rfl⟩
            rw [hM] at hrow0
            have hI0 := hrow0.items.le
            have hI1 := hrow0.items.max
            have HJ8 := Lib.hid (show OnceJ w (w.heap.size + 1) nw (T.drop 0) T (.slice pL M cL) wr from by rw [← hM]; exact HJ.out)
            have HM := Lib.hid hM
            have hm60 : M ≤ 60 := by rw [← hM]; exact HT.out.2.1
            clear hS0 hrow0 HJ
            rw [hM]
            clear hM
            go_wp2_with fail
            go_loopw [117] (fun i wr => ∃ k : Nat, k ≤ M ∧ i = .int .i64 (k : Int) ∧ RowKit.Hid (OnceJ w (w.heap.size + 1) nw (T.drop k) T (.slice pL M cL) wr)) (fun i _ => M - (intOf i).toNat)
            case atStart => exact ⟨0, Nat.zero_le _, rfl, HJ8⟩
            case round =>
              clear HJ8
              obtain ⟨k, hk, rfl, HJ9⟩ := hrel
              by_cases hkl : k < M
              · have hki : (k : Int) < (M : Int) := by omega
                obtain ⟨X9, p9, c9, hS9, hv9, hrow9⟩ := HJ9.out
                rw [HM.out, Value.slice.injEq] at hv9
                obtain ⟨rfl, _, rfl⟩ := hv9
                rw [HM.out] at hrow9
                obtain ⟨b4, o4, rfl, hc4⟩ := hrow9.items.cell (by omega)
                obtain ⟨x, hx⟩ : ∃ x, T[k]? = some x := ⟨_, List.getElem?_eq_getElem (by rw [HM.out]; exact hkl)⟩
                obtain ⟨c0, c1⟩ := hc4 k x hx
                obtain ⟨k1, k2⟩ := cancT_head HT.out.1 hx
                have hxi := HT.out.1.idb x (List.mem_of_getElem? hx)
                have HCa := Lib.hid (fun W (hW : Below wr.heap.size wr W) => (show Calls Try.prog 17 #[.pointer (some ⟨w.heap.size + 1, 0, none⟩), .int .u64 (x.1 : Int)] W fun r w' => r = .returned (.int .i64 0) ∧ OnceJ w (w.heap.size + 1) nw (T.drop (k + 1)) T (.slice (some ⟨b4, o4, none⟩) M cL) w' from by
                  have h9 := (HJ9.out.turned hW).cancel (by rw [List.length_drop, HM.out]; omega) x.1 hxi
                  rw [k1, k2, if_pos rfl] at h9
                  exact h9))
                obtain ⟨y1, y2⟩ := x
                change wr.cell? _ = some (.int .u64 (y1 : Int)) at c0
                change wr.cell? _ = some (.int .u64 (y2 : Int)) at c1
                have HC0 := Lib.hid (HCa.out (wr.alloc (.cells #[.int .u64 (y1 : Int), .int .u64 (y2 : Int)] 36)) ((Below.refl _ _).alloc (Nat.le_refl _) _))
                clear hc4 hx k1 k2 hxi hS9 hrow9 HJ9
                go_wp2_with fail
                refine HC0.out.mono ?_
                rintro r w6 ⟨rfl, hJ6⟩
                have HJ6 := Lib.hid hJ6
                clear hJ6 c0 c1
                go_wp2
                go_roundw
                case rel => exact ⟨k + 1, by omega, by go_num, HJ6⟩
                case measure => simp [intOf]; omega
              · have hki : ¬ (k : Int) < (M : Int) := by omega
                obtain rfl : k = M := by omega
                have HCo := Lib.hid (fun W (hW : Below wr.heap.size wr W) => (show Calls Try.prog 18 #[.pointer (some ⟨w.heap.size + 1, 0, none⟩)] W fun r w' => r = .returned (.int .i64 0) ∧ w' = W from by
                  obtain ⟨X9, p9, c9, hS9, _⟩ := HJ9.out.turned hW
                  obtain ⟨L, hL, _⟩ := hS9
                  exact wcount_any hL (n := 0) (by rw [List.length_drop, HM.out]; omega)))
                have Hbase := Lib.hid (show Below w.heap.size w wr from by obtain ⟨X9, p9, c9, hS9, _⟩ := HJ9.out; exact hS9.base)
                clear HJ9
                go_wp2_with fail
                refine (HA.out _).mono ?_
                rintro r w9 ⟨rfl, hb9⟩
                have Hb9 := Lib.hid hb9
                clear hb9
                go_wp2_with fail
                refine (HCo.out _ Hb9.out).mono ?_
                rintro r w9 ⟨rfl, rfl⟩
                go_wp2
                go_ret
                exact ⟨rfl, Hbase.out.trans (Hb9.out.mono Hbase.out.size)⟩
end Go.Proofs.Ythidinaflaogfaa
