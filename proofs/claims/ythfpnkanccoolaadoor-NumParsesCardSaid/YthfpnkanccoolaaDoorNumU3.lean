/- The walk of strconv.ParseUint at base 16, where the errors' variables hold errors. -/
import Derived.Test.YthfpnkanccoolaaDoorNumU2
namespace Go.Proofs.YthfpnkanccoolaaDoor
open Go.RowKit Fl

/-- The two variables of the library's errors hold errors. -/
def Errs (w : World) : Prop := (∃ t p, w.cell? ⟨3, 0, none⟩ = some (.iface t p)) ∧ (∃ t p, w.cell? ⟨4, 0, none⟩ = some (.iface t p))

theorem Errs.below {w w' : World} (h : Errs w) (hb : Below w.heap.size w w') : Errs w' := by
  obtain ⟨⟨t, p, h1⟩, ⟨t', p', h2⟩⟩ := h
  exact ⟨⟨t, p, by rw [hb.cell (World.block_lt_of_cell? _ _ h1)]; exact h1⟩, ⟨t', p', by rw [hb.cell (World.block_lt_of_cell? _ _ h2)]; exact h2⟩⟩

set_option maxRecDepth 100000 in
theorem uint_any (l : List Nat) (w : World) (hl : ∀ x ∈ l, x < 256) (hn : l.length ≤ 1000000) (he : Errs w) :
    Calls Tryd.prog 50 #[.string (str l), .int .i64 16, .int .i64 64] w fun e w' => Below w.heap.size w w' ∧ ∃ (v : Nat) (er : Value), v < 18446744073709551616 ∧ (∀ x, x < 18446744073709551616 → l = hexs x 16 → v = x) ∧ e = .returned (.tuple #[.int .u64 (v : Int), er]) := by
  have H := Lib.hid (iuint_any l w hl hn)
  have Hsz := Lib.hid (show (str l).size ≤ 281474976710656 by rw [str_size]; omega)
  have He := Lib.hid he
  clear hl hn he
  generalize hs : str l = s at *
  clear hs
  go_enter Tryd.func50, Tryd.ntmps50
  go_wp2_with fail
  refine H.out.mono ?_
  rintro e w1 ⟨hb, v, hv, hg, rfl | rfl | rfl⟩
  · have Hg := Lib.hid hg
    have Hv := Lib.hid hv
    clear hg hv
    go_wp2
    go_ret2
    exact ⟨hb, v, .nilIface, Hv.out, Hg.out, rfl⟩
  · have Hg := Lib.hid hg
    have Hv := Lib.hid hv
    clear hg hv
    obtain ⟨_, ⟨t, p, hc⟩⟩ := He.out.below hb
    have HT := Lib.hid (Tryd.strconv_toError_range ⟨#[80, 97, 114, 115, 101, 85, 105, 110, 116]⟩ s 16 64 (.iface t p) w1 Hsz.out hc (.inr ⟨t, p, rfl⟩))
    clear hc
    go_wp2_with fail
    refine HT.out.mono ?_
    rintro e w2 ⟨M, rfl, _, _, hb2⟩
    go_wp2
    go_ret2
    exact ⟨hb.trans (hb2.mono hb.size), v, _, Hv.out, Hg.out, rfl⟩
  · have Hg := Lib.hid hg
    have Hv := Lib.hid hv
    clear hg hv
    obtain ⟨⟨t, p, hc⟩, _⟩ := He.out.below hb
    have HT := Lib.hid (Tryd.strconv_toError_syntax ⟨#[80, 97, 114, 115, 101, 85, 105, 110, 116]⟩ s 16 64 (.iface t p) w1 Hsz.out hc (.inr ⟨t, p, rfl⟩))
    clear hc
    go_wp2_with fail
    refine HT.out.mono ?_
    rintro e w2 ⟨M, rfl, _, _, hb2⟩
    go_wp2
    go_ret2
    exact ⟨hb.trans (hb2.mono hb.size), v, _, Hv.out, Hg.out, rfl⟩
end Go.Proofs.YthfpnkanccoolaaDoor
