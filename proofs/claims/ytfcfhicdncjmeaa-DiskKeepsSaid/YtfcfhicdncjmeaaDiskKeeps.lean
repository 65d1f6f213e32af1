/- The statement DiskKeeps answers true. -/
import Derived.Test.YtfcfhicdncjmeaaDkOne
import Derived.Test.YtfcfhicdncjmeaaDkNil
import Derived.Test.YtfcfhicdncjmeaaU8Row
import Derived.Test.YtfcfhicdncjmeaaEqual
namespace Go.Proofs.Ytfcfhicdncjmeaa
open Go.RowKit Go.Maps Go.Shelf

/-- While something of X is written. -/
theorem Own.aside {w0 : World} {X T : Nat → Prop} {w w' : World} {d : Nat} {M : DM} (h : Own w0 X w d M) (hc : Chg T w w') (hT : ∀ b, T b → X b ∧ w0.heap.size ≤ b) : Own w0 X w' d M := by
  obtain ⟨S, hD, hS, hX, h0⟩ := h
  exact ⟨S, hD.aside hc (fun b hs ht => (hS b hs).2 (hT b ht).1), hS, fun b hx => Nat.lt_of_lt_of_le (hX b hx) hc.size, h0.trans (hc.below (fun b hb => (hT b hb).2) h0.size)⟩

theorem own_blk {w : World} {base n c m : Nat} {e : TypeId} {p : Option Addr} {xs : List Value} (h : w.ownsRow base e 1 (.slice p n c) m xs) : ∀ a, p = some a → base ≤ a.block ∧ a.block < w.heap.size := by
  intro a ha
  rcases h.2 with ⟨e1, _⟩ | ⟨g, cap, cur, e1, hb, hg, _⟩
  · rw [ha] at e1; cases e1
  · rw [ha] at e1
    injection e1 with e2
    cases e2
    exact ⟨hb, (Array.getElem?_eq_some_iff.1 hg).1⟩

/-- A row of bytes at the start of a slice, if it has any. -/
def RowAt (w : World) (p : Option Addr) (n : Nat) : Prop := 0 < n → ∃ g, p = some ⟨g, 0, none⟩ ∧ U8Row w g n

theorem rowAt_own {w : World} {base n c : Nat} {p : Option Addr} {l : List Nat} (h : w.ownsRow base 5 1 (.slice p n c) n (u8s l)) : RowAt w p n := by
  intro hn
  obtain ⟨g, cp, e, _, _, hr⟩ := own_row h hn
  injection e with e1
  exact ⟨g, e1, hr⟩

theorem RowAt.keep {w w' : World} {p : Option Addr} {n : Nat} (h : RowAt w p n) (hk : ∀ b, blkOf p b → w'.heap[b]? = w.heap[b]?) : RowAt w' p n := by
  intro hn
  obtain ⟨g, e, cur, hg, hc⟩ := h hn
  exact ⟨g, e, cur, (hk g ⟨_, e, rfl⟩).trans hg, hc⟩

/-- A loop that changes bytes of one row under way. -/
def SpoilRel (w1 : World) (p : Option Addr) (n : Nat) (i : Value) (wr : World) : Prop := ∃ k : Nat, k ≤ n ∧ i = .int .i64 k ∧ RowAt wr p n ∧ Chg (blkOf p) w1 wr

theorem SpoilRel.next {w1 wr : World} {p : Option Addr} {n k g : Nat} (hk : k < n) (hp : p = some ⟨g, 0, none⟩) (hr : U8Row wr g n) (hc : Chg (blkOf p) w1 wr) (z : Int) : SpoilRel w1 p n (.int .i64 ((k : Int) + 1)) (wr.setCell ⟨g, k, none⟩ (.int .u8 z)) :=
  ⟨k + 1, hk, by push_cast; rfl, fun _ => ⟨g, hp, hr.set k z⟩, hc.same (Chg.set _ wr ⟨_, hp, rfl⟩ _)⟩

set_option maxRecDepth 100000 in
set_option maxHeartbeats 25600000 in
theorem keeps_any (p0 : Option Addr) (n0 c0 : Nat) (l0 : List Nat) (w : World) (h0 : Bytes w p0 n0 c0 l0) :
    Calls Try.prog 7 #[.slice p0 n0 c0] w fun e w' => e = .returned (.bool true) ∧ Below w.heap.size w w' := by
  have HN := Lib.hid (own_new 10000 w (by decide))
  have HA := Lib.hid (fun w1 => dalive_any w1)
  have hl0 := h0.len
  have H0 := Lib.hid h0
  clear h0
  by_cases hbig : 1000 < n0
  · have hs : (1000 : Int) < (n0 : Int) := by omega
    clear hbig
    go_enter Try.func7, Try.ntmps7
    go_wp2_with fail
    refine HN.out.mono ?_
    rintro e w1 ⟨d, rfl, _, hb1⟩
    have Hb1 := Lib.hid hb1
    clear hb1
    go_wp2_with fail
    refine (HA.out _).mono ?_
    rintro e w2 ⟨rfl, hb2⟩
    have Hb2 := Lib.hid (Hb1.out.trans (hb2.mono Hb1.out.size))
    clear hb2
    go_wp2
    go_ret
    exact ⟨rfl, Hb2.out⟩
  · have hs : ¬ (1000 : Int) < (n0 : Int) := by omega
    have Hl := Lib.hid (show l0.length ≤ 1000 from by omega)
    have Hl0 := Lib.hid hl0
    have HE := Lib.hid (show ∀ (w : World) (a a' : Option Addr) (n c n' c' : Nat) (l : List Nat), Bytes w a n c l → Bytes w a' n' c' l → Calls Try.prog 13 #[.slice a n c, .slice a' n' c'] w fun e w' => e = .returned (.bool true) ∧ Below w.heap.size w w' from
      fun w a a' n c n' c' l h h' => (equal_any a a' n c n' c' l l w h h').mono fun e w' hq => ⟨by rw [hq.1, decide_eq_true rfl], hq.2⟩)
    clear hbig
    subst hl0
    go_enter Try.func7, Try.ntmps7
    go_wp2_with fail
    refine HN.out.mono ?_
    rintro e w1 ⟨d, rfl, ho1, hb1⟩
    have HCl := Lib.hid (clone_any p0 l0.length c0 l0 w1 (H0.out.grow hb1) (by have := Hl.out; omega))
    have Ho1 := Lib.hid ho1
    have Hb1 := Lib.hid hb1
    clear ho1 hb1
    go_wp2_with fail
    refine HCl.out.mono ?_
    rintro e w2 ⟨v2, rfl, hown2, hb2⟩
    obtain ⟨p2, c2, rfl, hB2⟩ := own_slice hown2 H0.out.byte
    have ho2 := Ho1.out.read hb2 (own_blk hown2)
    have Hbase := Lib.hid (show ∀ b, blkOf p2 b → w.heap.size ≤ b from fun b ⟨a, ha, e⟩ => by
      have h1 := (own_blk hown2 a ha).1
      have h2 := Hb1.out.size
      rw [e]; omega)
    have HB2 := Lib.hid hB2
    have HR2 := Lib.hid (rowAt_own hown2)
    have HC := Lib.hid (own_create ho2 [120] (by decide) (by decide))
    rw [show createM [120] (newM 10000) = (D1 10000 [] 0 0, 0) from d1_new 10000] at HC
    clear hown2 hb2 hB2 ho2
    go_wp2_with fail
    refine HC.out.mono ?_
    rintro e w3 ⟨rfl, ho3, hx3, _, _⟩
    have HB3 := Lib.hid (HB2.out.aside (fun b hb => hx3 b (.inr hb)))
    have HR3 := Lib.hid (HR2.out.keep (fun b hb => hx3 b (.inr hb)))
    have HC4 := Lib.hid (own_append ho3 [120] (by decide) p2 l0.length c2 l0 HB3.out (fun _ a ha => .inl (.inr ⟨a, ha, rfl⟩)) (by rw [d1_used]; have := Hl.out; simp; omega))
    rw [d1_append 10000 [] l0 0 0 (by decide) (by have := Hl.out; simp; omega), List.nil_append] at HC4
    clear ho3 hx3
    go_wp2_with fail
    refine HC4.out.mono ?_
    rintro e w4 ⟨rfl, ho4, hx4, _, _⟩
    have HR4 := Lib.hid (HR3.out.keep (fun b hb => hx4 b (.inr hb)))
    have Ho4 := Lib.hid ho4
    clear ho4 hx4
    go_wp2
    go_loopw [37] (fun i wr => SpoilRel w4 p2 l0.length i wr) (fun i _ => l0.length - (intOf i).toNat)
    case atStart => exact ⟨0, Nat.zero_le _, rfl, HR4.out, Chg.refl _ _⟩
    case round =>
      obtain ⟨k, hk, rfl, hr, hc⟩ := hrel
      by_cases hlt : k < l0.length
      · obtain ⟨g, rfl, hrow⟩ := hr (by omega)
        have HX := Lib.hid (fun z => SpoilRel.next hlt rfl hrow hc z)
        obtain ⟨z, hz⟩ := hrow.cell hlt
        have hf := hrow.frozen k
        have hki : (k : Int) < (l0.length : Int) := by omega
        clear hr hc hrow
        go_wp2
        go_roundw
        case rel => exact HX.out _
        case measure => simp [intOf]; omega
      · obtain rfl : k = l0.length := by omega
        have hki : ¬ ((l0.length : Int) < (l0.length : Int)) := by omega
        have ho5 := Ho4.out.aside hc (fun b hb => ⟨.inr hb, Hbase.out b hb⟩)
        have HC5 := Lib.hid (own_read ho5 [120] (by decide) (by rw [d1_used]; have := Hl.out; omega))
        rw [d1_read] at HC5
        have Ho5 := Lib.hid ho5
        clear ho5 hr hc hlt
        go_wp2_with fail
        refine HC5.out.mono ?_
        rintro e w6 ⟨p6, c6, he, hB6, hp6, hb6, hown6⟩
        have he : e = .returned (.tuple #[.slice p6 l0.length c6, .int .i64 0]) := he
        subst he
        have hb06 := Ho5.out.base.trans (hb6.mono Ho5.out.base.size)
        have HEq := Lib.hid (HE.out w6 p6 p0 _ c6 _ c0 l0 hB6 (H0.out.grow hb06))
        have Ho6 := Lib.hid (Ho5.out.read hb6 hp6)
        have HR6 := Lib.hid (rowAt_own hown6)
        have HP6 := Lib.hid (show ∀ b, blkOf p6 b → wr.heap.size ≤ b ∧ b < w6.heap.size from fun b ⟨a, ha, e⟩ => by rw [e]; exact hp6 a ha)
        have Hsw := Lib.hid Ho5.out.base.size
        clear hB6 hp6 hb6 hown6 hb06
        go_wp2_with fail
        refine HEq.out.mono ?_
        rintro e w7 ⟨rfl, hb7⟩
        have Ho7 := Lib.hid (Ho6.out.below hb7)
        have HR7 := Lib.hid (HR6.out.keep (fun b hb => hb7.block b (HP6.out b hb).2))
        clear hb7
        go_wp2
        go_loopw [57] (fun i wr => SpoilRel w7 p6 l0.length i wr) (fun i _ => l0.length - (intOf i).toNat)
        case atStart => exact ⟨0, Nat.zero_le _, rfl, HR7.out, Chg.refl _ _⟩
        case round =>
          obtain ⟨k, hk, rfl, hr, hc⟩ := hrel
          by_cases hlt : k < l0.length
          · obtain ⟨g, rfl, hrow⟩ := hr (by omega)
            have HX := Lib.hid (fun z => SpoilRel.next hlt rfl hrow hc z)
            obtain ⟨z, hz⟩ := hrow.cell hlt
            have hf := hrow.frozen k
            have hki2 : (k : Int) < (l0.length : Int) := by omega
            clear hr hc hrow
            go_wp2
            go_roundw
            case rel => exact HX.out _
            case measure => simp [intOf]; omega
          · obtain rfl : k = l0.length := by omega
            have ho8 := Ho7.out.aside hc (fun b hb => ⟨.inr hb, by have h1 := (HP6.out b hb).1; have h2 := Hsw.out; omega⟩)
            have HC8 := Lib.hid (own_read ho8 [120] (by decide) (by rw [d1_used]; have := Hl.out; omega))
            rw [d1_read] at HC8
            have Hb8 := Lib.hid ho8.base
            clear ho8 hr hc hlt
            go_wp2_with fail
            refine HC8.out.mono ?_
            rintro e w9 ⟨p9, c9, he, hB9, _, hb9, _⟩
            have he : e = .returned (.tuple #[.slice p9 l0.length c9, .int .i64 0]) := he
            subst he
            have HB9 := Lib.hid hB9
            have Hb9 := Lib.hid (Hb8.out.trans (hb9.mono Hb8.out.size))
            clear hB9 hb9
            go_wp2_with fail
            refine (arm_nil 1 w9).mono ?_
            rintro e w' ⟨⟨v, rfl⟩, rfl⟩
            have hal : Below w'.heap.size w' (w'.alloc (.cells #[.int .i64 1] 3)) := (Below.refl _ _).alloc (Nat.le_refl _) _
            have HB10 := Lib.hid (HB9.out.grow hal)
            have Hb10 := Lib.hid (Hb9.out.trans (hal.mono Hb9.out.size))
            clear hal
            go_wp2_with fail
            refine (crash_nil _ 1 1 _).mono ?_
            rintro e w10 ⟨⟨v, rfl⟩, hw10⟩
            rw [← hw10] at HB10 Hb10
            clear hw10
            go_wp2_with fail
            refine (read_nil [120] w10).mono ?_
            rintro e w11 ⟨rfl, rfl⟩
            have HA11 := Lib.hid (HA.out w11)
            go_wp2_with fail
            refine HA11.out.mono ?_
            rintro e w12 ⟨rfl, hb12⟩
            have Hb12 := Lib.hid (Hb10.out.trans (hb12.mono Hb10.out.size))
            have HEq2 := Lib.hid (HE.out w12 p9 p0 _ c9 _ c0 l0 (HB10.out.grow hb12) (H0.out.grow Hb12.out))
            clear hb12
            go_wp2_with fail
            refine HEq2.out.mono ?_
            rintro e w13 ⟨rfl, hb13⟩
            have Hb13 := Lib.hid (Hb12.out.trans (hb13.mono Hb12.out.size))
            clear hb13
            go_wp2_with fail
            refine (create_nil [120] w13).mono ?_
            rintro e w14 ⟨rfl, hb14⟩
            have Hb14 := Lib.hid (Hb13.out.trans (hb14.mono Hb13.out.size))
            clear hb14
            go_wp2_with fail
            refine (append_nil [120] _ _ _ w14).mono ?_
            rintro e w15 ⟨rfl, hb15⟩
            have Hb15 := Lib.hid (Hb14.out.trans (hb15.mono Hb14.out.size))
            clear hb15
            go_wp2_with fail
            refine (sync_nil [120] w15).mono ?_
            rintro e w16 ⟨rfl, hb16⟩
            have Hb16 := Lib.hid (Hb15.out.trans (hb16.mono Hb15.out.size))
            clear hb16
            go_wp2_with fail
            refine (rename_nil [120] [121] w16).mono ?_
            rintro e w17 ⟨rfl, hb17⟩
            have Hb17 := Lib.hid (Hb16.out.trans (hb17.mono Hb16.out.size))
            clear hb17
            go_wp2_with fail
            refine (remove_nil [120] w17).mono ?_
            rintro e w18 ⟨rfl, hb18⟩
            have Hb18 := Lib.hid (Hb17.out.trans (hb18.mono Hb17.out.size))
            clear hb18
            go_wp2_with fail
            refine (list_nil w18).mono ?_
            rintro e w19 ⟨rfl, rfl⟩
            go_wp2_with fail
            refine (used_nil w19).mono ?_
            rintro e w20 ⟨rfl, rfl⟩
            go_wp2_with fail
            refine (down_nil w20).mono ?_
            rintro e w21 ⟨rfl, rfl⟩
            go_wp2
            go_ret
            exact ⟨rfl, Hb18.out⟩
end Go.Proofs.Ytfcfhicdncjmeaa
