/- The walk of the statements' own helper: the frame of a record without bytes. -/
import Derived.Test.YtmebffmdfnnbmaaFrNext
namespace Go.Proofs.Ytmebffmdfnnbmaa
open Go.RowKit Crc

theorem falive_any (w : World) :
    Calls Try.prog 9 #[] w fun e w' => e = .returned (.bool true) ∧ Below w.heap.size w w' := by
  have HM := Lib.hid (make_yes none 0 0 [] w (bytes_nil w) (Nat.zero_le _))
  go_enter Try.func9, Try.ntmps9
  go_wp2_with fail
  refine HM.out.mono ?_
  rintro e w1 ⟨v, rfl, hown, hb1⟩
  have hlen : (frameL []).length = 8 := by rw [frameL_len]; rfl
  obtain ⟨p, cp, rfl, hC⟩ := own_slice hown (frameL_byte (by simp) (by decide))
  rw [hlen] at hC ⊢
  obtain ⟨b, o, rfl, hc⟩ := hC.cell (by omega)
  have HX := Lib.hid (next_any _ 8 cp (frameL []) w1 hC (by omega))
  have hcp := hC.le
  have h0 : w1.cell? ⟨b, o, none⟩ = some (.int .u8 0) := hc 0 (by omega)
  have h3 : w1.cell? ⟨b, o + 3, none⟩ = some (.int .u8 0) := hc 3 (by omega)
  have H0 := Lib.hid h0
  have H3 := Lib.hid h3
  have Hb1 := Lib.hid hb1
  clear hown hC hc HM h0 h3 hb1
  go_wp2_with fail
  refine HX.out.mono ?_
  rintro e w2 ⟨hb2, ⟨r, t, q, c2, hd, hrm, rfl, hBx, _⟩ | ⟨hno, rfl⟩⟩
  · have hr : r.length = 0 := by
      have e := (frame_uniq (r := []) (t := []) (r' := r) (t' := t) (by rw [List.append_nil]; exact hd)).1
      rw [← e]; rfl
    rw [hr] at hBx ⊢
    have h0 : w2.cell? ⟨b, o, none⟩ = some (.int .u8 0) := by rw [hb2.cell (p := ⟨b, o, none⟩) (World.block_lt_of_cell? _ _ H0.out)]; exact H0.out
    have h3 : w2.cell? ⟨b, o + 3, none⟩ = some (.int .u8 0) := by rw [hb2.cell (p := ⟨b, o + 3, none⟩) (World.block_lt_of_cell? _ _ H3.out)]; exact H3.out
    have Hb2 := Lib.hid (Hb1.out.trans (hb2.mono Hb1.out.size))
    clear hd hBx hb2 HX hr
    go_wp2
    go_ret
    exact ⟨rfl, Hb2.out⟩
  · exact absurd (List.append_nil _).symm (hno [] [] (by decide))
end Go.Proofs.Ytmebffmdfnnbmaa
