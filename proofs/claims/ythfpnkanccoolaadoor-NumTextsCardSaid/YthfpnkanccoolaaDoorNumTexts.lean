/- The statement NumTexts answers true. -/
import Derived.Test.YthfpnkanccoolaaDoorNumPC
import Derived.Test.YthfpnkanccoolaaDoorNumA
namespace Go.Proofs.YthfpnkanccoolaaDoor
open Go.RowKit Fl

theorem textL_len (x : Nat) : (textL x).length ≤ 17 := by
  by_cases hs : x ∈ special
  · rcases textL_special hs with ⟨_, t⟩ | ⟨_, t⟩ | ⟨_, t⟩ | ⟨_, t⟩ | ⟨_, t⟩ <;> (rw [t]; decide)
  · rw [textL_hex hs, List.length_cons, hexs_len]
    omega

set_option maxRecDepth 100000 in
set_option maxHeartbeats 1600000 in
theorem numTexts_any (b : Nat) (w : World) (hb : b < 18446744073709551616) (ht : Tab16 w) (he : Errs w) :
    Calls Tryd.prog 5 #[.int .u64 (b : Int)] w fun e w' => e = .returned (.bool true) ∧ Below w.heap.size w w' := by
  have hxf := run_frombits b w
  have H1 := Lib.hid (text_any b w hb ht)
  have H2 := Lib.hid (fun (w : World) (ht : Tab16 w) (he : Errs w) => parse_any (textL (bitsB b)) w (textL_byte _) (by have := textL_len (bitsB b); omega) he ht)
  have HA := Lib.hid (fun (w : World) (h : Tab16 w) => alive_any w h)
  have H3 := Lib.hid (fun w => rtext_any b w hb)
  have H4 := Lib.hid (fun (c : Nat) (hc : c < 18446744073709551616) w => rsame_any b c w hb hc)
  have Hinj := Lib.hid (fun (c : Nat) (hc : c < 18446744073709551616) (e : textL (bitsB c) = textL (bitsB b)) => textL_inj (bitsB_lt hc) (bitsB_lt hb) e)
  have Hb := Lib.hid hb
  have Ht := Lib.hid ht
  have He := Lib.hid he
  have hq := str_eq (textL (bitsB b))
  clear hb ht he
  generalize hS : str (textL (bitsB b)) = S at *
  clear hS
  go_enter Tryd.func5, Tryd.ntmps5
  go_wp2_with fail
  refine H1.out.mono ?_
  rintro e w1 ⟨rfl, hb1⟩
  go_wp2_with fail
  refine (H2.out w1 (Ht.out.below hb1) (He.out.below hb1)).mono ?_
  rintro e w2 ⟨hb2, ⟨c, hc, htx, rfl⟩ | ⟨hno, _⟩⟩
  · have g2 := hb1.trans (hb2.mono hb1.size)
    have hsame := Hinj.out c hc htx
    have HS := Lib.hid (H4.out c hc)
    rw [decide_eq_true hsame.symm] at HS
    clear hsame htx hc
    go_wp2_with fail
    refine (HA.out w2 (Ht.out.below g2)).mono ?_
    rintro e w3 ⟨rfl, hb3⟩
    go_wp2_with fail
    refine (H3.out w3).mono ?_
    rintro e w' ⟨rfl, rfl⟩
    go_wp2_with fail
    refine (HS.out _).mono ?_
    rintro e w' ⟨rfl, rfl⟩
    go_wp2
    go_ret
    exact ⟨rfl, g2.trans (hb3.mono g2.size)⟩
  · exact absurd rfl (hno b Hb.out)
end Go.Proofs.YthfpnkanccoolaaDoor
