/- The statement NumParses answers true. -/
import Derived.Test.YthfpnkanccoolaaDoorNumPC
import Derived.Test.YthfpnkanccoolaaDoorNumA
namespace Go.Proofs.YthfpnkanccoolaaDoor
open Go.RowKit Fl

set_option maxRecDepth 100000 in
set_option maxHeartbeats 1600000 in
theorem numParses_any (l : List Nat) (w : World) (hl : ∀ x ∈ l, x < 256) (ht : Tab16 w) (he : Errs w) :
    Calls Tryd.prog 6 #[.string (str l)] w fun e w' => e = .returned (.bool true) ∧ Below w.heap.size w w' := by
  have hsz := str_size l
  have HA := Lib.hid (fun (w : World) (h : Tab16 w) => alive_any w h)
  have Ht := Lib.hid ht
  by_cases hn : 100 < l.length
  · have hd : decide ((100 : Int) < ((str l).size : Int)) = true := decide_eq_true (by omega)
    clear hl ht he hsz
    generalize str l = s at *
    go_enter Tryd.func6, Tryd.ntmps6
    go_wp2_with fail
    refine (HA.out _ Ht.out).mono ?_
    rintro e w1 ⟨rfl, hb1⟩
    go_wp2
    go_ret
    exact ⟨rfl, hb1⟩
  · have hd : decide ((100 : Int) < ((str l).size : Int)) = false := decide_eq_false (by omega)
    have H1 := Lib.hid (parse_any l w hl (by omega) he ht)
    have H2 := Lib.hid (fun w => rparse_any l w hl (by omega))
    have HX := Lib.hid (fun (c : Nat) (hc : c < 18446744073709551616) (w : World) (h : Tab16 w) => text_any c w hc h)
    have H4 := Lib.hid (fun (b c : Nat) (hb : b < 18446744073709551616) (hc : c < 18446744073709551616) w => rsame_any b c w hb hc)
    have hq := str_eq l
    have Hinj := Lib.hid (fun (b c : Nat) (hb : b < 18446744073709551616) (hc : c < 18446744073709551616) (e : textL (bitsB b) = l) (e' : textL (bitsB c) = l) => textL_inj (bitsB_lt hb) (bitsB_lt hc) (e.trans e'.symm))
    clear hl ht he hsz hn
    generalize hs : str l = s at *
    have Hs := Lib.hid hs
    clear hs
    go_enter Tryd.func6, Tryd.ntmps6
    go_wp2_with fail
    refine H1.out.mono ?_
    rintro e w1 ⟨hb1, ⟨b, hb, htx, rfl⟩ | ⟨hno, rfl⟩⟩
    · have Hb := Lib.hid hb
      have Htx := Lib.hid htx
      clear hb htx
      go_wp2_with fail
      refine (H2.out w1).mono ?_
      rintro e w2 ⟨hb2, ⟨c, hc, htx2, rfl⟩ | ⟨hno, _⟩⟩
      · have g2 := hb1.trans (hb2.mono hb1.size)
        have HS := Lib.hid (H4.out b c Hb.out hc)
        rw [decide_eq_true (Hinj.out b c Hb.out hc Htx.out htx2)] at HS
        clear hc htx2
        go_wp2_with fail
        refine (HA.out w2 (Ht.out.below g2)).mono ?_
        rintro e w3 ⟨rfl, hb3⟩
        have g3 := g2.trans (hb3.mono g2.size)
        go_wp2_with fail
        refine (HS.out w3).mono ?_
        rintro e w' ⟨rfl, rfl⟩
        have HT := Lib.hid (HX.out b Hb.out w3 (Ht.out.below g3))
        rw [Htx.out, Hs.out] at HT
        go_wp2_with fail
        refine HT.out.mono ?_
        rintro e w4 ⟨rfl, hb4⟩
        go_wp2
        go_ret
        exact ⟨rfl, g3.trans (hb4.mono g3.size)⟩
      · exact absurd Htx.out (hno b Hb.out)
    · have Hno := Lib.hid hno
      clear hno
      go_wp2_with fail
      refine (H2.out w1).mono ?_
      rintro e w2 ⟨hb2, ⟨c, hc, htx2, rfl⟩ | ⟨_, rfl⟩⟩
      · exact absurd htx2 (Hno.out c hc)
      · have g2 := hb1.trans (hb2.mono hb1.size)
        have HS := Lib.hid (H4.out 0 0 (by omega) (by omega))
        rw [decide_eq_true rfl] at HS
        go_wp2_with fail
        refine (HA.out w2 (Ht.out.below g2)).mono ?_
        rintro e w3 ⟨rfl, hb3⟩
        go_wp2_with fail
        refine (HS.out w3).mono ?_
        rintro e w' ⟨rfl, rfl⟩
        go_wp2
        go_ret
        exact ⟨rfl, g2.trans (hb3.mono g2.size)⟩
end Go.Proofs.YthfpnkanccoolaaDoor
