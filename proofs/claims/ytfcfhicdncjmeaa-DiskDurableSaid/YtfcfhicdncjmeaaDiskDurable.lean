/- The statement DiskDurable answers true. -/
import Derived.Test.YtfcfhicdncjmeaaDkOne
import Derived.Test.YtfcfhicdncjmeaaConcat
import Derived.Test.YtfcfhicdncjmeaaEqual
namespace Go.Proofs.Ytfcfhicdncjmeaa
open Go.RowKit Go.Maps Go.Shelf

/-- How many bytes behind the durable ones stay. -/
def keepM (k : Int) (n : Nat) : Nat := min (max k 0).toNat n

theorem durable_crash (R : Nat) (l0 l1 : List Nat) (k : Int) (ks : List Int) (hk : ks.getD 0 0 = k) : crashM ks (D1 R (l0 ++ l1) l0.length 0) = D1 R (l0 ++ l1.take (keepM k l1.length)) (l0.length + keepM k l1.length) 0 := by
  rw [d1_crash, hk]
  have e : (l0 ++ l1).length - l0.length = l1.length := by rw [List.length_append]; omega
  rw [e, show (l0 ++ l1).take (l0.length + min (max k 0).toNat l1.length) = l0 ++ l1.take (min (max k 0).toNat l1.length) from List.take_length_add_append ..]
  rfl

theorem durable_again (R : Nat) (b : List Nat) : crashM [] (D1 R b b.length 0) = D1 R b b.length 0 := by
  rw [d1_crash]
  show D1 R (b.take (b.length + min (max (0 : Int) 0).toNat (b.length - b.length))) _ 0 = _
  rw [Nat.sub_self, Nat.min_zero, Nat.add_zero, List.take_length]
  rfl

set_option maxRecDepth 100000 in
set_option maxHeartbeats 12800000 in
theorem durable_any (p0 p1 : Option Addr) (n0 n1 c0 c1 : Nat) (l0 l1 : List Nat) (k : Int) (w : World) (h0 : Bytes w p0 n0 c0 l0) (h1 : Bytes w p1 n1 c1 l1) (hf1 : Formed p1 c1) (hlo : -9223372036854775808 ≤ k) (hhi : k ≤ 9223372036854775807) :
    Calls Try.prog 4 #[.slice p0 n0 c0, .slice p1 n1 c1, .int .i64 k] w fun e w' => e = .returned (.bool true) ∧ Below w.heap.size w w' := by
  have HN := Lib.hid (own_new 10000 w (by decide))
  have HA := Lib.hid (fun w1 => dalive_any w1)
  have hl0 := h0.len
  have hl1 := h1.len
  have H0 := Lib.hid h0
  have H1 := Lib.hid h1
  clear h0 h1
  by_cases hbig : 1000 < n0 ∨ 1000 < n1
  · by_cases hb0 : 1000 < n0
    · have hs0 : (1000 : Int) < (n0 : Int) := by omega
      clear hbig hb0
      go_enter Try.func4, Try.ntmps4
      go_wp2_with fail
      refine HN.out.mono ?_
      rintro e w1 ⟨d, rfl, _, hb1⟩
      have Hb1 := Lib.hid hb1
      clear hb1
      go_wp2_with fail
      refine (HA.out _).mono ?_
      rintro e w2 ⟨rfl, hb2⟩
      have Hb2 := Lib.hid (Hb1.out.trans (hb2.mono Hb1.out.size))
      clear hb2
      go_wp2
      go_ret
      exact ⟨rfl, Hb2.out⟩
    · have hs0 : ¬ (1000 : Int) < (n0 : Int) := by omega
      have hs1 : (1000 : Int) < (n1 : Int) := by omega
      clear hbig hb0
      go_enter Try.func4, Try.ntmps4
      go_wp2_with fail
      refine HN.out.mono ?_
      rintro e w1 ⟨d, rfl, _, hb1⟩
      have Hb1 := Lib.hid hb1
      clear hb1
      go_wp2_with fail
      refine (HA.out _).mono ?_
      rintro e w2 ⟨rfl, hb2⟩
      have Hb2 := Lib.hid (Hb1.out.trans (hb2.mono Hb1.out.size))
      clear hb2
      go_wp2
      go_ret
      exact ⟨rfl, Hb2.out⟩
  · have hs0 : ¬ (1000 : Int) < (n0 : Int) := by omega
    have hs1 : ¬ (1000 : Int) < (n1 : Int) := by omega
    have hm0 : l0.length ≤ 1000 := by omega
    have hm1 : l1.length ≤ 1000 := by omega
    have hp : ∀ (p : Option Addr) (n c : Nat) (l : List Nat), Bytes w p n c l → 0 < n → ∀ a, p = some a → False ∨ a.block < w.heap.size := fun p n c l hB hn a ha => by
      obtain ⟨b, o, e, hc⟩ := hB.cell hn
      rw [ha] at e; cases e
      exact .inr (World.block_lt_of_cell? _ _ (hc 0 hn))
    have HP0 := Lib.hid (hp p0 n0 c0 l0 H0.out)
    have HP1 := Lib.hid (hp p1 n1 c1 l1 H1.out)
    have dm1 : createM [120] (newM 10000) = (D1 10000 [] 0 0, 0) := d1_new 10000
    have dm2 : appendM [120] l0 (D1 10000 [] 0 0) = (D1 10000 l0 0 0, 0) := d1_append 10000 [] l0 0 0 (by decide) (by simp; omega)
    have dm3 : syncM [120] (D1 10000 l0 0 0) = (D1 10000 l0 l0.length 0, 0) := d1_sync 10000 l0 0 0 (by decide)
    have dm4 : appendM [120] l1 (D1 10000 l0 l0.length 0) = (D1 10000 (l0 ++ l1) l0.length 0, 0) := d1_append 10000 l0 l1 _ 0 (by decide) (by omega)
    obtain ⟨q, hq⟩ : ∃ q, q = keepM k l1.length := ⟨_, rfl⟩
    have hql : q ≤ l1.length := by rw [hq]; unfold keepM; omega
    have dm5 : crashM [k] (D1 10000 (l0 ++ l1) l0.length 0) = D1 10000 (l0 ++ l1.take q) (l0 ++ l1.take q).length 0 := by
      rw [durable_crash 10000 l0 l1 k [k] rfl, ← hq]
      have : (l0 ++ l1.take q).length = l0.length + q := by rw [List.length_append, List.length_take]; omega
      rw [this]
    have dm6 := durable_again 10000 (l0 ++ l1.take q)
    have DM := Lib.hid (And.intro dm1 (And.intro dm2 (And.intro dm3 (And.intro dm4 (And.intro dm5 dm6)))))
    have hU : ∀ b d, b.length ≤ 2000 → usedF (D1 10000 b d 0).fs ≤ 140737488355328 := fun b d hb => by rw [d1_used]; omega
    have hlq : (l0 ++ l1.take q).length ≤ 2000 := by rw [List.length_append, List.length_take]; omega
    have HU := Lib.hid hU
    have Hm0 := Lib.hid hm0
    have Hm1 := Lib.hid hm1
    have hsl := slice_head (P := Try.prog) Try.underlying30 info_u8 (show q ≤ n1 by omega) H1.out.le hf1
    have e : (q : Int) = min (max k 0) (n1 : Int) := by rw [hq]; unfold keepM; omega
    rw [e] at hsl
    have Hl0 := Lib.hid hl0
    have Hl1 := Lib.hid hl1
    obtain ⟨B, hB⟩ : ∃ B, B = l0 ++ l1.take q := ⟨_, rfl⟩
    rw [← hB] at DM hlq
    have Hfl := Lib.hid (show [l0, l1.take q].flatten = B from by rw [hB]; simp)
    clear hB
    have Hql := Lib.hid hql
    have Hlq := Lib.hid hlq
    clear hbig hp dm1 dm2 dm3 dm4 dm5 dm6 hU hlq hm0 hm1 hf1 hq hql hl0 hl1 e
    go_enter Try.func4, Try.ntmps4
    go_wp2_with fail
    refine HN.out.mono ?_
    rintro e w1 ⟨d, rfl, ho1, hb1⟩
    have HC := Lib.hid (own_create ho1 [120] (by decide) (by decide))
    rw [DM.out.1] at HC
    clear ho1 hb1
    go_wp2_with fail
    refine HC.out.mono ?_
    rintro e w2 ⟨he, ho2, _, _, _⟩
    have he : e = .returned (.int .i64 0) := he
    subst he
    have HC2 := Lib.hid (own_append ho2 [120] (by decide) p0 n0 c0 l0 (H0.out.grow ho2.base) HP0.out (by rw [d1_used]; have := Hm0.out; simp; omega))
    rw [DM.out.2.1] at HC2
    clear ho2
    go_wp2_with fail
    refine HC2.out.mono ?_
    rintro e w3 ⟨he, ho3, _, _, _⟩
    have he : e = .returned (.int .i64 0) := he
    subst he
    have HC3 := Lib.hid (own_sync ho3 [120] (by decide))
    rw [DM.out.2.2.1] at HC3
    clear ho3
    go_wp2_with fail
    refine HC3.out.mono ?_
    rintro e w4 ⟨he, ho4, _, _, _⟩
    have he : e = .returned (.int .i64 0) := he
    subst he
    have HC4 := Lib.hid (own_append ho4 [120] (by decide) p1 n1 c1 l1 (H1.out.grow ho4.base) HP1.out (by rw [d1_used]; have := Hm0.out; have := Hm1.out; omega))
    rw [DM.out.2.2.2.1] at HC4
    clear ho4
    go_wp2_with fail
    refine HC4.out.mono ?_
    rintro e w5 ⟨he, ho5, _, _, _⟩
    have he : e = .returned (.int .i64 0) := he
    subst he
    have hb5 := (Below.refl w5.heap.size w5).alloc (Nat.le_refl _) (.cells #[.int .i64 k] 3)
    have ho5' := ho5.more (Y := fun b => b = w5.heap.size) hb5 (fun b hb => .inr (by rw [hb]; simp))
    have HC5 := Lib.hid (own_crash ho5' (by show 1 < 1000000; decide) _ _ _ _ (nums_one w5 k hlo hhi) (fun _ a ha => .inl (by cases ha; rfl)))
    rw [DM.out.2.2.2.2.1] at HC5
    clear ho5 ho5' hb5
    go_wp2_with fail
    refine HC5.out.mono ?_
    rintro e w6 ⟨⟨v, rfl⟩, ho6, _, _, _⟩
    have HC6 := Lib.hid (own_read ho6 [120] (by decide) (HU.out _ _ Hlq.out))
    rw [d1_read] at HC6
    have Ho6 := Lib.hid ho6
    clear ho6
    go_wp2_with fail
    refine HC6.out.mono ?_
    rintro e w7 ⟨p7, c7, rfl, hB7, hp7, hb7, _⟩
    have HB7 := Lib.hid hB7
    have ho7 := Ho6.out.read hb7 hp7
    have HC7 := Lib.hid (own_crash ho7 (by show 1 < 1000000; decide) _ _ _ _ (nums_nil w7) (fun h => absurd h (Nat.lt_irrefl _)))
    rw [DM.out.2.2.2.2.2] at HC7
    have Hb7 := Lib.hid hb7
    have Hb07 := Lib.hid (Ho6.out.base.trans (hb7.mono Ho6.out.base.size))
    clear hB7 hb7 ho7
    have HE : ∀ (w : World) (a a' : Option Addr) (n c n' c' : Nat) (l : List Nat), Bytes w a n c l → Bytes w a' n' c' l → Calls Try.prog 13 #[.slice a n c, .slice a' n' c'] w fun e w' => e = .returned (.bool true) ∧ Below w.heap.size w w' :=
      fun w a a' n c n' c' l h h' => (equal_any a a' n c n' c' l l w h h').mono fun e w' hq => ⟨by rw [hq.1, decide_eq_true rfl], hq.2⟩
    have HE := Lib.hid HE
    go_wp2_with fail
    refine HC7.out.mono ?_
    rintro e w8 ⟨⟨v, rfl⟩, ho8, hx8, _, _⟩
    have HB8 := Lib.hid (HB7.out.aside (fun b hb => hx8 b (.inr hb)))
    have HC8 := Lib.hid (own_read ho8 [120] (by decide) (HU.out _ _ Hlq.out))
    rw [d1_read] at HC8
    have Ho8 := Lib.hid ho8
    clear ho8
    have Hb8 := Lib.hid Ho8.out.base
    clear hx8
    go_wp2_with fail
    refine HC8.out.mono ?_
    rintro e w9 ⟨p9, c9, rfl, hB9, _, hb9, _⟩
    have HB9 := Lib.hid hB9
    have HB89 := Lib.hid (HB8.out.grow hb9)
    have Hb9 := Lib.hid (Hb8.out.trans (hb9.mono Hb8.out.size))
    have HAl := Lib.hid (HA.out w9)
    clear hB9 hb9
    go_wp2_with fail
    refine HAl.out.mono ?_
    rintro e w10 ⟨rfl, hb10⟩
    have Hb10 := Lib.hid (Hb9.out.trans (hb10.mono Hb9.out.size))
    have HB10 := Lib.hid (HB9.out.grow hb10)
    have HG10 := Lib.hid (HB89.out.grow hb10)
    have hq1 : Bytes w10 p1 q c1 (l1.take q) := (H1.out.grow Hb10.out).takeTo (by have := Hql.out; have := H1.out.len; omega) (Nat.le_trans (by have := Hql.out; have := H1.out.len; omega) H1.out.le) (Nat.le_refl _)
    have HCo := Lib.hid (concat_any _ 2 2 [l0, l1.take q] _ (parts_two (H0.out.grow Hb10.out) hq1 30 rfl) (by rw [Hfl.out]; have := Hlq.out; omega))
    rw [Hfl.out] at HCo
    clear hb10 hq1
    go_wp2_with fail
    refine HCo.out.mono ?_
    rintro e w11 ⟨v11, rfl, hown11, hb11⟩
    obtain ⟨p11, c11, rfl, hB11⟩ := own_slice hown11 HB10.out.byte
    have hb11' : Below w10.heap.size w10 w11 := below_call hb11
    have Hb11 := Lib.hid (Hb10.out.trans (hb11'.mono Hb10.out.size))
    have HEq := Lib.hid (HE.out w11 _ _ _ _ _ _ B (HG10.out.grow hb11') hB11)
    have HB11 := Lib.hid (HB10.out.grow hb11')
    have HG11 := Lib.hid (HG10.out.grow hb11')
    clear hown11 hB11 hb11 hb11'
    go_wp2_with fail
    refine HEq.out.mono ?_
    rintro e w12 ⟨rfl, hb12⟩
    have Hb12 := Lib.hid (Hb11.out.trans (hb12.mono Hb11.out.size))
    have HEq2 := Lib.hid (HE.out w12 _ _ _ _ _ _ B (HB11.out.grow hb12) (HG11.out.grow hb12))
    clear hb12
    go_wp2_with fail
    refine HEq2.out.mono ?_
    rintro e w13 ⟨rfl, hb13⟩
    have Hb13 := Lib.hid (Hb12.out.trans (hb13.mono Hb12.out.size))
    clear hb13
    go_wp2
    go_ret
    exact ⟨rfl, Hb13.out⟩
end Go.Proofs.Ytfcfhicdncjmeaa
