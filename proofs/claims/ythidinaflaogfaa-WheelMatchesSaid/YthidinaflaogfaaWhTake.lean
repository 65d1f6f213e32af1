/- The walk of take. -/
import Derived.Test.YthidinaflaogfaaWhMid
import Derived.ScopeJumps
import Derived.WalkMore
import Derived.BigQuiet
namespace Go.Proofs.Ythidinaflaogfaa
open Go.RowKit

/-- What take leaves: a row of the items that were taken, and the levels without them. -/
def TakeW (w0 : World) (X : Nat → Prop) (w : World) (d now now' : Nat) (T : List It) (p : Nat → Nat) (L : Nat → List It) (r : Ending) (w' : World) : Prop :=
  ∃ K v R, IsPl now now' K ∧ r = .returned v ∧ RowW w0 X w d now T p v R (leftW now' K L) w' ∧ TakenW L (leftW now' K L) R

theorem TkJ.done {w0 : World} {X : Nat → Prop} {w : World} {d now now' : Nat} {T : List It} {p : Nat → Nat} {v : Value} {wr : World} {L : Nat → List It} {K : Nat} (h : TkJ w0 X w d now T p L K (dgt K now' + 1) v wr) (hK : IsPl now now' K) : TakeW w0 X w d now now' T p L (.returned v) wr := by
  obtain ⟨R, h1, h2⟩ := h
  exact ⟨K, v, R, hK, rfl, h1, h2⟩

/-- The slots up to c have been taken. -/
theorem TkJ.upto {w0 : World} {X : Nat → Prop} {w : World} {d now : Nat} {T : List It} {p : Nat → Nat} {v : Value} {wr : World} {L : Nat → List It} {n s c : Nat} (h : TkJ w0 X w d now T p L n s v wr) (hs : s ≤ c + 1) {x : Int} (hx : IsFirst (slF (n % 4) (fromS (n % 4) (L n) s)) 0 x) (hc : x < 0 ∨ (c : Int) < x) (_ : c < 64) :
    TkJ w0 X w d now T p L n (c + 1) v wr := by
  refine h.skip (fromS_skip hs (fun u hu hu64 => ?_))
  rcases hx with ⟨rfl, h1⟩ | ⟨t, rfl, _, h2, h3, h4⟩
  · exact h1 u (Nat.zero_le _) hu64
  · exact h4 u (Nat.zero_le _) (by omega)

theorem IsFirst.zero {F : Nat → List It} {m : Nat} {x : Int} (h : IsFirst F m x) (he : ∀ u, u < m → u < 64 → F u = []) : IsFirst F 0 x := by
  rcases h with ⟨rfl, h1⟩ | ⟨t, rfl, h1, h2, h3, h4⟩
  · exact .inl ⟨rfl, fun t _ ht => by
      rcases Nat.lt_or_ge t m with h5 | h5
      · exact he t h5 ht
      · exact h1 t h5 ht⟩
  · exact .inr ⟨t, rfl, Nat.zero_le _, h2, h3, fun u _ hu => by
      rcases Nat.lt_or_ge u m with h5 | h5
      · exact he u h5 (by omega)
      · exact h4 u h5 hu⟩

/-- How far a slot is from the end. -/
def msrW (x : Int) : Nat := if x < 0 then 0 else 64 - x.toNat
theorem msrW_lt {x : Int} {t : Nat} (h : x < 0 ∨ (t : Int) < x) (ht : t < 64) : msrW x < msrW (t : Int) := by
  unfold msrW
  rw [if_neg (show ¬ (t : Int) < 0 by omega)]
  split <;> omega

theorem TkJ.facts {w0 : World} {X : Nat → Prop} {w : World} {d now : Nat} {T : List It} {p : Nat → Nat} {v : Value} {wr : World} {L : Nat → List It} {n s : Nat} (h : TkJ w0 X w d now T p L n s v wr) (hn : n < 11) :
    wr.cell? ⟨d, 0, none⟩ = some (.int .u64 (now : Int)) ∧ wr.cell? ⟨d, 1 + n, none⟩ = some (.pointer (some ⟨p n, 0, none⟩)) ∧ Low wr (p n) (n % 4) := by
  obtain ⟨R, h1, _⟩ := h
  obtain ⟨o, V, mb, h⟩ := h1.wh
  exact ⟨h.tick, h.ptr hn, h.low hn⟩

theorem wp_scope_jumps2 {P : Program} {a : Act} {w : World} {Q : Exit → Act → World → Prop} {c rest : Code} (l : Nat) (J : Act → World → Prop) (μ : Act → World → Nat) (hf : findLabel c l = some (Code.skip.seq rest))
    (pass : ∀ a w, J a w → rest.wp P (Exit.jump l (fun a' w' => J a' w' ∧ μ a' w' < μ a w) Q) a w)
    (first : (∀ a w, J a w → rest.wp P (Exit.jump l J Q) a w) → c.wp P (Exit.jump l J Q) a w) : (Code.scope c).wp P Q a w :=
  wp_scope_jumps l J μ hf (first (fun a w h => wp_mono (pass a w h) (fun e a' w' hq => by
    cases e with
    | goto l' => exact ⟨hq.1, hq.2.1⟩
    | normal => exact hq
    | exit id => exact hq
    | ret => exact hq
    | panic ch => exact hq
    | outgrown => exact hq))) (fun a w h => wp_seq (wp_skip (pass a w h)))

set_option maxRecDepth 100000 in
set_option maxHeartbeats 6400000 in
theorem wtake_any {w0 : World} {X : Nat → Prop} {w : World} {d now : Nat} {L : Nat → List It} {T : List It} {p : Nat → Nat} (h : WhP w0 X w d now L T p) (hg : GoodP now T (fun _ => True) L) (hT : TimW T) (hl : T.length ≤ 990) (now' : Nat) (hn : now < 9223372036854775808) (hn' : now' < 9223372036854775808) (hle : now ≤ now') :
    Calls Try.prog 32 #[.pointer (some ⟨d, 0, none⟩), .int .u64 (now' : Int)] w (TakeW w0 X w d now now' T p L) := by
  have Hw0 := Lib.hid h.base.size
  have Hx := Lib.hid h.xb
  have H0 := Lib.hid (show TkJ w0 X w d now T p L 0 0 (.slice none 0 0) w from ⟨[], ⟨(h.swap (Below.refl _ _) (fun b hb => ⟨.inl (hb.elim id (fun e => by cases e)), h.xb b (hb.elim id (fun e => by cases e))⟩)).congr (fun m => (midW_zero L m).symm), World.ownsRow_nil _ _ _ _, fun b _ => rfl, Below.refl _ _, h.xb⟩, (TakenW.start L).congr (fun m => (midW_zero L m).symm)⟩)
  have HN := Lib.hid (And.intro hn (And.intro hn' hle))
  have HG := Lib.hid (And.intro hg (And.intro hT.ids hl))
  have HC := Lib.hid (fun n t hn ht w => coarse_any n t hn ht w)
  clear h hg hT hl hn hn' hle
  go_enter Try.func32, Try.ntmps32
  go_wp2
  refine wp_scope_jumps2 0 (fun a' w' => ∃ (n : Nat) (v u7 u8 u9 u10 u11 u12 u13 u14 u15 u16 u17 u18 u19 u20 u21 u22 u23 u24 u25 u26 u27 u28 u29 u30 u31 u32 u33 u34 u35 u36 u37 u38 u39 u40 u41 u42 u43 u44 u45 u46 u47 u48 u49 u50 u51 u52 u53 u54 u55 : Value), a' = { tmps := #[.pointer (some ⟨d, 0, none⟩), .int .u64 (now' : Int), undef, undef, .slice none 0 0, v, .int .i64 (n : Int), u7, u8, u9, u10, u11, u12, u13, u14, u15, u16, u17, u18, u19, u20, u21, u22, u23, u24, u25, u26, u27, u28, u29, u30, u31, u32, u33, u34, u35, u36, u37, u38, u39, u40, u41, u42, u43, u44, u45, u46, u47, u48, u49, u50, u51, u52, u53, u54, u55], defers := [] } ∧ n ≤ 10 ∧ (∀ k, k < n → ¬ fitW k now now') ∧ TkJ w0 X w d now T p L n 0 v w') (fun a' _ => 11 - (intOf (a'.tmps.getD 6 undef)).toNat) rfl ?_ ?_
  rotate_left
  · intro hpass
    go_wp2
    go_step3
    rename_i Q' K hK
    exact hK _ _ (hpass _ _ ⟨0, .slice none 0 0, _, _, _, _, _, _, _, _, _, _, _, _, _, _, _, _, _, _, _, _, _, _, _, _, _, _, _, _, _, _, _, _, _, _, _, _, _, _, _, _, _, _, _, _, _, _, _, _, _, rfl, by decide, fun k hk => absurd hk (by omega), H0.out⟩)
  · rintro a' w1 ⟨n, v, u7, u8, u9, u10, u11, u12, u13, u14, u15, u16, u17, u18, u19, u20, u21, u22, u23, u24, u25, u26, u27, u28, u29, u30, u31, u32, u33, u34, u35, u36, u37, u38, u39, u40, u41, u42, u43, u44, u45, u46, u47, u48, u49, u50, u51, u52, u53, u54, u55, rfl, hn10, hno, hJ⟩
    have hn11 : n < 11 := by omega
    have hni : (n : Int) < 11 := by omega
    obtain ⟨q0, q1, q2⟩ := hJ.facts hn11
    have HJ1 := Lib.hid hJ
    have HA := Lib.hid (show ∀ W, Calls Try.prog 40 #[.int .i64 (n : Int), .int .u64 (now : Int)] W fun r w' => r = .returned (.int .u64 (coarseN n now : Int)) ∧ ∃ q, w' = W.drewN q from fun W => HC.out n now (by omega) (by have := HN.out.1; omega) W)
    have HB := Lib.hid (show ∀ W, Calls Try.prog 40 #[.int .i64 (n : Int), .int .u64 (now' : Int)] W fun r w' => r = .returned (.int .u64 (coarseN n now' : Int)) ∧ ∃ q, w' = W.drewN q from fun W => HC.out n now' (by omega) (by have := HN.out.2.1; omega) W)
    clear hJ q2 q0
    go_wp2_with fail
    go_quiet (first | (go_at_call 40; with_reducible exact Calls.quiet_of (HB.out _)))
    obtain ⟨w2, hw2⟩ : ∃ w2, w2 = w1.drewN nq := ⟨_, rfl⟩
    rw [← hw2]
    have HJ2 := Lib.hid (HJ1.out.turned (w' := w2) (by rw [hw2]; exact below_drew w1 nq))
    clear hw2 q1
    obtain ⟨q0, q1, q2⟩ := HJ2.out.facts hn11
    have HS := Lib.hid (show ∀ q, Calls Try.prog 41 #[.pointer (some ⟨p n, 0, none⟩), .int .u64 (coarseN n now' : Int)] (w2.drewN q) fun r w' => r = .returned (.int .i64 (dgt n now' : Int)) ∧ ∃ m, w' = (w2.drewN q).drewN m from fun q => (slot_any (p n) (n % 4) (coarseN n now') (w2.drewN q) (by omega) (Nat.lt_of_le_of_lt (coarse_le _ _) (by have := HN.out.2.1; omega)) q2).mono (by rintro r w' ⟨rfl, rfl⟩; exact ⟨by rw [slot_coarse], 0, rfl⟩))
    have HF := Lib.hid (fun q => fits_any (p n) (n % 4) (coarseN n now) (coarseN n now') (w2.drewN q) (by omega) (Nat.lt_of_le_of_lt (coarse_le _ _) (by have := HN.out.1; omega)) (Nat.lt_of_le_of_lt (coarse_le _ _) (by have := HN.out.2.1; omega)) q2)
    rw [fits_coarse] at HF
    have hdg : dgt n now' < 64 := Nat.mod_lt _ (by decide)
    obtain ⟨c, hc⟩ : ∃ c, c = dgt n now' := ⟨_, rfl⟩
    rw [← hc] at HS hdg
    have Hc := Lib.hid hc
    clear q1 q2 hc
    by_cases hf : fitW n now now'
    · rw [decide_eq_true hf] at HF
      have HF1 := Lib.hid (show ∀ q, Calls Try.prog 42 #[.pointer (some ⟨p n, 0, none⟩), .int .u64 (coarseN n now : Int), .int .u64 (coarseN n now' : Int)] (w2.drewN q) fun r w' => r = .returned (.bool true) ∧ ∃ m, w' = (w2.drewN q).drewN m from HF.out)
      have Hf := Lib.hid (show IsPl now now' n from ⟨hf, hno⟩)
      clear hf hno HF
      go_wp2_with fail
      go_quiet (first | (go_at_call 41; with_reducible exact Calls.quiet_of (HS.out _)) | (go_at_call 40; with_reducible exact Calls.quiet_of (HA.out _)) | (go_at_call 42; with_reducible exact Calls.quiet_of (HF1.out _)))
      obtain ⟨w3, hw3⟩ : ∃ w3, w3 = w2.drewN nq := ⟨_, rfl⟩
      rw [← hw3]
      have HJ3 := Lib.hid (HJ2.out.turned (w' := w3) (by rw [hw3]; exact below_drew w2 nq))
      have HFi := Lib.hid (HJ3.out.first hn11 0)
      clear hw3 q0
      go_wp2_with fail
      refine (HFi.out).mono ?_
      rintro r w4 ⟨x0, rfl, hx0, rfl⟩
      have Hx0 := Lib.hid hx0
      clear hx0
      go_wp2
      go_loopw [5, 11] (fun v i wr => ∃ (s : Nat) (x : Int), i = .int .i64 x ∧ s ≤ c + 1 ∧ RowKit.Hid (IsFirst (slF (n % 4) (fromS (n % 4) (L n) s)) 0 x) ∧ RowKit.Hid (TkJ w0 X w d now T p L n s v wr)) (fun v i _ => msrW (intOf i))
      case atStart => exact ⟨0, x0, rfl, Nat.zero_le _, Hx0, HJ3⟩
      case round =>
        obtain ⟨s, x, rfl, hs, Hx, HJ4⟩ := hrel
        by_cases hx0 : x < 0
        · have hx1 : ¬ (0 : Int) ≤ x := by omega
          have HJ5 := Lib.hid (HJ4.out.upto hs Hx.out (.inl hx0) (by omega))
          clear HJ4 Hx
          go_wp2
          simp only [Exit.jump]
          go_ret
          have h9 := HJ5.out
          rw [Hc.out] at h9
          exact h9.done Hf.out
        · by_cases hxc : ((c : Int) : Int) < x
          · have hx1 : (0 : Int) ≤ x := by omega
            have hx2 : ¬ x ≤ ((c : Int) : Int) := by omega
            have HJ5 := Lib.hid (HJ4.out.upto hs Hx.out (.inr hxc) (by omega))
            clear HJ4 Hx
            go_wp2
            simp only [Exit.jump]
            go_ret
            have h9 := HJ5.out
            rw [Hc.out] at h9
            exact h9.done Hf.out
          · obtain ⟨t, rfl⟩ := Int.eq_ofNat_of_zero_le (show 0 ≤ x by omega)
            have hx1 : (0 : Int) ≤ (t : Int) := by omega
            have hx2 : (t : Int) ≤ ((c : Int) : Int) := by omega
            obtain ⟨ht64, hne, hem⟩ : t < 64 ∧ slF (n % 4) (fromS (n % 4) (L n) s) t ≠ [] ∧ ∀ u, u < t → u < 64 → slF (n % 4) (fromS (n % 4) (L n) s) u = [] := by
              rcases Hx.out with ⟨e, _⟩ | ⟨t', e, _, h2, h3, h4⟩
              · omega
              · obtain rfl : t = t' := by omega
                exact ⟨h2, h3, fun u h5 _ => h4 u (Nat.zero_le _) h5⟩
            have hst : s ≤ t := by
              rcases Nat.lt_or_ge t s with h5 | h5
              · rw [slF_fromS, if_neg (by omega)] at hne
                exact absurd rfl hne
              · exact h5
            have HT := Lib.hid (HJ4.out.take hn11 HG.out.1 HG.out.2.1 hst ht64 hne hem)
            have Ht := Lib.hid (And.intro ht64 hst)
            clear hne hem hx0 hxc hst HJ4 Hx hs
            go_wp2_with fail
            refine HT.out.mono ?_
            rintro r w5 ⟨b, o, m, c', M, rfl, hI, hH⟩
            obtain ⟨R, hrow, hsz, hlen, hnext⟩ := hH.row
            have Hrow := Lib.hid (And.intro hrow (And.intro hI hsz))
            have Hlen := Lib.hid (show R.length + m ≤ 100000 from by have h5 := hlen _ HG.out.1; have h6 := hI.len; have h7 := HG.out.2.2; omega)
            have Hnext := Lib.hid hnext
            clear hrow hI hsz hlen hnext hH HT
            go_wp2_with (at_builtin; refine wpl_app3 rfl _ _ rfl (by first | rfl | go_simp) Hrow.out.1 (p := some ⟨b, o, none⟩) (m := m) (c := c') (by first | rfl | go_simp) Hrow.out.2.1 Hrow.out.2.2 Hlen.out ?_; intro v7 w7 hown7 hg7 ho7)
            have HJ7 := Lib.hid (Hnext.out v7 w7 Hw0.out hown7 hg7 ho7)
            have HF7 := Lib.hid (HJ7.out.first hn11 t)
            clear hown7 hg7 ho7 Hnext Hrow
            go_wp2_with fail
            refine HF7.out.mono ?_
            rintro r w8 ⟨x8, rfl, hx8, rfl⟩
            have he8 : slF (n % 4) (fromS (n % 4) (L n) (t + 1)) t = [] := by rw [slF_fromS, if_neg (by omega)]
            have hmz : x8 < 0 ∨ (t : Int) < x8 := by
              rcases hx8 with ⟨rfl, _⟩ | ⟨t', rfl, h2, _, h3, _⟩
              · exact .inl (by omega)
              · rcases Nat.lt_or_eq_of_le h2 with h5 | h5
                · exact .inr (by omega)
                · subst h5; exact absurd he8 h3
            have Hx8 := Lib.hid (hx8.zero (fun u hu _ => by rw [slF_fromS, if_neg (by omega)]))
            have Hmz := Lib.hid hmz
            clear hx8 he8 hmz
            go_wp2
            go_roundw
            case rel => exact ⟨t + 1, x8, rfl, by omega, Hx8, HJ7⟩
            case measure =>
              have h5 := Hmz.out
              have h6 := Ht.out.1
              exact msrW_lt h5 h6

    · rw [decide_eq_false hf] at HF
      have HF1 := Lib.hid (show ∀ q, Calls Try.prog 42 #[.pointer (some ⟨p n, 0, none⟩), .int .u64 (coarseN n now : Int), .int .u64 (coarseN n now' : Int)] (w2.drewN q) fun r w' => r = .returned (.bool false) ∧ ∃ m, w' = (w2.drewN q).drewN m from HF.out)
      have hn9 : n < 10 := by
        rcases Nat.lt_or_ge n 10 with h5 | h5
        · exact h5
        · obtain rfl : n = 10 := by omega
          exact absurd (fitW_ten (by have := HN.out.1; omega) (by have := HN.out.2.1; omega)) hf
      have Hno2 := Lib.hid (show ∀ k, k < n + 1 → ¬ fitW k now now' from fun k hk => by
        rcases Nat.lt_or_eq_of_le (Nat.le_of_lt_succ hk) with h5 | h5
        · exact hno k h5
        · rw [h5]; exact hf)
      clear hf hno HF
      go_wp2_with fail
      go_quiet (first | (go_at_call 41; with_reducible exact Calls.quiet_of (HS.out _)) | (go_at_call 40; with_reducible exact Calls.quiet_of (HA.out _)) | (go_at_call 42; with_reducible exact Calls.quiet_of (HF1.out _)))
      obtain ⟨w3, hw3⟩ : ∃ w3, w3 = w2.drewN nq := ⟨_, rfl⟩
      rw [← hw3]
      have HJ3 := Lib.hid (HJ2.out.turned (w' := w3) (by rw [hw3]; exact below_drew w2 nq))
      have HFi := Lib.hid (HJ3.out.first hn11 0)
      clear hw3 q0
      go_wp2_with fail
      refine (HFi.out).mono ?_
      rintro r w4 ⟨x0, rfl, hx0, rfl⟩
      have Hx0 := Lib.hid hx0
      clear hx0
      go_wp2
      go_loopw [5, 11] (fun v i wr => ∃ (s : Nat) (x : Int), i = .int .i64 x ∧ s ≤ 63 + 1 ∧ RowKit.Hid (IsFirst (slF (n % 4) (fromS (n % 4) (L n) s)) 0 x) ∧ RowKit.Hid (TkJ w0 X w d now T p L n s v wr)) (fun v i _ => msrW (intOf i))
      case atStart => exact ⟨0, x0, rfl, Nat.zero_le _, Hx0, HJ3⟩
      case round =>
        obtain ⟨s, x, rfl, hs, Hx, HJ4⟩ := hrel
        by_cases hx0 : x < 0
        · have hx1 : ¬ (0 : Int) ≤ x := by omega
          have HJ5 := Lib.hid (HJ4.out.upto hs Hx.out (.inl hx0) (by omega))
          clear HJ4 Hx
          go_wp2
          go_step3
          have e9 : (n : Int) + 1 = ((n + 1 : Nat) : Int) := by omega
          rw [e9]
          refine ⟨rfl, ⟨n + 1, _, _, _, _, _, _, _, _, _, _, _, _, _, _, _, _, _, _, _, _, _, _, _, _, _, _, _, _, _, _, _, _, _, _, _, _, _, _, _, _, _, _, _, _, _, _, _, _, _, _, rfl, by omega, Hno2.out, HJ5.out.next⟩, ?_⟩
          simp [intOf]
          omega
        · by_cases hxc : (63 : Int) < x
          · have hx1 : (0 : Int) ≤ x := by omega
            have hx2 : ¬ x ≤ (63 : Int) := by omega
            have HJ5 := Lib.hid (HJ4.out.upto hs Hx.out (.inr hxc) (by omega))
            clear HJ4 Hx
            go_wp2
            go_step3
            have e9 : (n : Int) + 1 = ((n + 1 : Nat) : Int) := by omega
            rw [e9]
            refine ⟨rfl, ⟨n + 1, _, _, _, _, _, _, _, _, _, _, _, _, _, _, _, _, _, _, _, _, _, _, _, _, _, _, _, _, _, _, _, _, _, _, _, _, _, _, _, _, _, _, _, _, _, _, _, _, _, _, rfl, by omega, Hno2.out, HJ5.out.next⟩, ?_⟩
            simp [intOf]
            omega
          · obtain ⟨t, rfl⟩ := Int.eq_ofNat_of_zero_le (show 0 ≤ x by omega)
            have hx1 : (0 : Int) ≤ (t : Int) := by omega
            have hx2 : (t : Int) ≤ (63 : Int) := by omega
            obtain ⟨ht64, hne, hem⟩ : t < 64 ∧ slF (n % 4) (fromS (n % 4) (L n) s) t ≠ [] ∧ ∀ u, u < t → u < 64 → slF (n % 4) (fromS (n % 4) (L n) s) u = [] := by
              rcases Hx.out with ⟨e, _⟩ | ⟨t', e, _, h2, h3, h4⟩
              · omega
              · obtain rfl : t = t' := by omega
                exact ⟨h2, h3, fun u h5 _ => h4 u (Nat.zero_le _) h5⟩
            have hst : s ≤ t := by
              rcases Nat.lt_or_ge t s with h5 | h5
              · rw [slF_fromS, if_neg (by omega)] at hne
                exact absurd rfl hne
              · exact h5
            have HT := Lib.hid (HJ4.out.take hn11 HG.out.1 HG.out.2.1 hst ht64 hne hem)
            have Ht := Lib.hid (And.intro ht64 hst)
            clear hne hem hx0 hxc hst HJ4 Hx hs
            go_wp2_with fail
            refine HT.out.mono ?_
            rintro r w5 ⟨b, o, m, c', M, rfl, hI, hH⟩
            obtain ⟨R, hrow, hsz, hlen, hnext⟩ := hH.row
            have Hrow := Lib.hid (And.intro hrow (And.intro hI hsz))
            have Hlen := Lib.hid (show R.length + m ≤ 100000 from by have h5 := hlen _ HG.out.1; have h6 := hI.len; have h7 := HG.out.2.2; omega)
            have Hnext := Lib.hid hnext
            clear hrow hI hsz hlen hnext hH HT
            go_wp2_with (at_builtin; refine wpl_app3 rfl _ _ rfl (by first | rfl | go_simp) Hrow.out.1 (p := some ⟨b, o, none⟩) (m := m) (c := c') (by first | rfl | go_simp) Hrow.out.2.1 Hrow.out.2.2 Hlen.out ?_; intro v7 w7 hown7 hg7 ho7)
            have HJ7 := Lib.hid (Hnext.out v7 w7 Hw0.out hown7 hg7 ho7)
            have HF7 := Lib.hid (HJ7.out.first hn11 t)
            clear hown7 hg7 ho7 Hnext Hrow
            go_wp2_with fail
            refine HF7.out.mono ?_
            rintro r w8 ⟨x8, rfl, hx8, rfl⟩
            have he8 : slF (n % 4) (fromS (n % 4) (L n) (t + 1)) t = [] := by rw [slF_fromS, if_neg (by omega)]
            have hmz : x8 < 0 ∨ (t : Int) < x8 := by
              rcases hx8 with ⟨rfl, _⟩ | ⟨t', rfl, h2, _, h3, _⟩
              · exact .inl (by omega)
              · rcases Nat.lt_or_eq_of_le h2 with h5 | h5
                · exact .inr (by omega)
                · subst h5; exact absurd he8 h3
            have Hx8 := Lib.hid (hx8.zero (fun u hu _ => by rw [slF_fromS, if_neg (by omega)]))
            have Hmz := Lib.hid hmz
            clear hx8 he8 hmz
            go_wp2
            go_roundw
            case rel => exact ⟨t + 1, x8, rfl, by omega, Hx8, HJ7⟩
            case measure =>
              have h5 := Hmz.out
              have h6 := Ht.out.1
              exact msrW_lt h5 h6

end Go.Proofs.Ythidinaflaogfaa
