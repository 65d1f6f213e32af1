import Derived.Test.YtngnbmaocdadaaaMN18
import Derived.Test.YtngnbmaocdadaaaMN25
import Derived.Test.YtngnbmaocdadaaaMN26
/- The statement WalNil answers true. -/
namespace Go.Proofs.Ytngnbmaocdadaaa
open Go.RowKit Go.Maps Go.Shelf

theorem put_empty (g : Nat) (w : World) : Calls Try.prog 6 #[.pointer (some ⟨g, 0, none⟩), .slice none 0 0] w fun e w' => e = .returned (.int .i64 2) ∧ w' = w := by
  go_enter Try.func6, Try.ntmps6
  go_wp2
  go_ret
  exact ⟨rfl, rfl⟩

/-- The first record of a log: it is there, or the log is as it was. -/
theorem first_put (most : Int) (l : List Nat) (hl : l.length ≤ 1000) : (putW (startW 10000 most) l).2 ≠ 0 → usedF (putW (startW 10000 most) l).1.D.fs = 0 ∧ (putW (startW 10000 most) l).1.wait = 0 := by
  intro hne
  obtain ⟨hi, hr⟩ := start_inv 10000 most
  rcases hi.put l (by rw [hr]; simp [sizeL]; omega) (by show 1 < 99999999; omega) with ⟨_, _, e⟩ | ⟨_, h0, _⟩
  · rw [e]
    refine ⟨?_, rfl⟩
    rw [(start_fs 10000 most).1]
    rfl
  · exact absurd h0 hne

set_option maxRecDepth 100000 in
set_option maxHeartbeats 12800000 in
theorem walnil_any (x : Nat) (hx : x < 256) (a : Option Addr) (n c : Nat) (l : List Nat) (w : World) (hP : Bytes w a n c l) :
    Calls Try.prog 3 #[.int .u8 (x : Int), .slice a n c] w fun e w' => e = .returned (.bool true) ∧ Below w.heap.size w w' := by
  have HA := Lib.hid (fun w1 => walive_any w1)
  have hlen := hP.len
  have hmax := hP.max
  by_cases hbig : 1000 < n
  · have HA0 := Lib.hid (walive_any w)
    clear hP hlen
    go_enter Try.func3, Try.ntmps3
    go_wp2_with fail
    refine HA0.out.mono ?_
    rintro e w1 ⟨rfl, hb⟩
    have Hb := Lib.hid hb
    clear hb
    go_wp2
    go_ret
    exact ⟨rfl, Hb.out⟩
  · have HS := Lib.hid (start_any 10000 (x : Int) w (by decide))
    have HP := Lib.hid hP
    have Hlen := Lib.hid hlen
    have Hf := Lib.hid (first_put (x : Int) l (by omega))
    have Hfs := Lib.hid (start_fs 10000 (x : Int))
    have hs : (startW 10000 (x : Int)).n = 1 ∧ (startW 10000 (x : Int)).size = 0 ∧ (startW 10000 (x : Int)).wait = 0 ∧ (startW 10000 (x : Int)).most = (x : Int) := ⟨rfl, rfl, rfl, rfl⟩
    have Hs := Lib.hid hs
    clear hP hlen hs
    have HRN := Lib.hid (fun w1 => rnew_any 10000 (x : Int) w1 (by decide) (by decide))
    generalize startW 10000 (x : Int) = W0 at *
    go_enter Try.func3, Try.ntmps3
    go_wp2_with fail
    refine HS.out.mono ?_
    rintro e w1 ⟨d, g, rfl, hL⟩
    have HL := Lib.hid hL
    have HPut := Lib.hid (put_any hL a n c l (HP.out.grow hL.own.base) (by rw [Hs.out.1]; exact Nat.le_refl _) (by rw [Hs.out.1]; omega) (by rw [Hs.out.2.1]; omega) (by rw [Hs.out.2.2.1]; omega) (by rw [Hs.out.2.2.2]; omega) (by rw [Hs.out.2.2.2]; omega) (by rw [Hfs.out.1]; decide) (by rw [Hfs.out.2.1]; decide))
    clear hL
    go_wp2_with fail
    refine (put_nil a n c _).mono ?_
    rintro e w' ⟨rfl, rfl⟩
    go_wp2_with fail
    refine (wsync_nil _).mono ?_
    rintro e w' ⟨rfl, rfl⟩
    go_wp2_with fail
    refine (segment_nil _).mono ?_
    rintro e w' ⟨rfl, rfl⟩
    go_wp2_with fail
    refine (wsize_nil _).mono ?_
    rintro e w' ⟨rfl, rfl⟩
    go_wp2_with fail
    refine (waiting_nil _).mono ?_
    rintro e w' ⟨rfl, rfl⟩
    have Hz := Lib.hid (rfl : (putW W0 l).2 = (putW W0 l).2)
    go_wp2_with fail
    refine HPut.out.mono ?_
    rintro e w2 ⟨rfl, hq⟩
    have HQ := Lib.hid hq
    have Hb2 := Lib.hid (hq.1.own.base)
    have HRN2 := Lib.hid (HRN.out w2)
    clear hq Hz
    go_wp2_with fail
    refine HRN2.out.mono ?_
    rintro e w3 ⟨v, rfl, hR, hb3⟩
    have hPl : W0.D.plan ≤ 9223372036854775807 := by rw [Hfs.out.2.2.1]; omega
    have HRP := Lib.hid (rput_zero hR (fun b hb => hb.2) hPl (by rw [Hfs.out.1]; exact List.pairwise_singleton _ _) (by rw [Hfs.out.1]; decide) (by rw [Hs.out.1]; exact Nat.le_refl _) (by rw [Hs.out.1]; omega) Hs.out.2.1 (by rw [Hs.out.2.2.1]; omega) a n c l ((HP.out.grow Hb2.out).grow hb3))
    have Hb3 := Lib.hid hb3
    have Hb3w := Lib.hid (Hb2.out.trans (hb3.mono Hb2.out.size))
    clear hR hb3 hPl
    go_wp2_with fail
    refine HRP.out.mono ?_
    rintro e w4 ⟨a4, n4, c4, R4, rfl, _, _, hb4⟩
    have Hb4w := Lib.hid (Hb3w.out.trans (hb4.mono Hb3w.out.size))
    have Hb24 := Lib.hid (Hb3.out.trans (hb4.mono Hb3.out.size))
    clear hb4
    unfold logV
    go_wp2_with fail
    refine (HA.out _).mono ?_
    rintro e w5 ⟨rfl, hb5⟩
    have hb4a : Below w2.heap.size w2 w5 := (Hb24.out.alloc Hb24.out.size _).trans (hb5.mono (by have := Hb24.out.size; simp; omega))
    have hL5 := HQ.out.1.below hb4a
    have HU := Lib.hid (own_used hL5.own)
    have HWt := Lib.hid (fun w6 (hb6 : Below w5.heap.size w5 w6) => waiting_any (cell_below hb6 (Nat.le_refl _) hL5.cell.2.2.1))
    have Hb5 := Lib.hid hL5.own.base
    have Hfz := Lib.hid Hf.out
    clear hb5 hb4a hL5
    generalize (putW W0 l).2 = z at *
    by_cases hz : z = 0
    · subst hz
      go_wp2_with fail
      refine (put_empty g _).mono ?_
      rintro e w' ⟨rfl, rfl⟩
      go_wp2
      go_ret
      exact ⟨rfl, Hb5.out⟩
    · obtain ⟨hu0, hw0⟩ := Hfz.out hz
      rw [hu0] at HU
      rw [hw0] at HWt
      have hz1 : (z == 0) = false := by simpa using hz
      clear hz hu0 hw0
      go_wp2_with fail
      refine (HU.out.mono (fun e w' hq => (show e = .returned (.int .i64 0) ∧ Below w5.heap.size w5 w' from hq))).mono ?_
      rintro e w6 ⟨rfl, hb6⟩
      have HW6 := Lib.hid ((HWt.out w6 hb6).mono (fun e w' hq => (show e = .returned (.int .i64 0) ∧ w' = w6 from hq)))
      have Hb6 := Lib.hid (Hb5.out.trans (hb6.mono Hb5.out.size))
      clear hb6
      go_wp2_with fail
      refine HW6.out.mono ?_
      rintro e w' ⟨rfl, rfl⟩
      go_wp2_with fail
      refine (put_empty g _).mono ?_
      rintro e w' ⟨rfl, rfl⟩
      go_wp2
      go_ret
      exact ⟨rfl, Hb6.out⟩
end Go.Proofs.Ytngnbmaocdadaaa

