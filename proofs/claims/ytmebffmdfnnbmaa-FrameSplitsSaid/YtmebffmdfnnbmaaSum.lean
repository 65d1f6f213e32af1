/- The walks of the code's Sum and More, of the statements' own helpers alive and few, and of the reference's Cat. -/
import Derived.Test.YtmebffmdfnnbmaaFeed
import Derived.Lib.SlBytesConst
namespace Go.Proofs.Ytmebffmdfnnbmaa
open Go.RowKit Crc

theorem sum_any (a : Option Addr) (n cap : Nat) (ls : List (List Nat)) (w : World) (hl : Parts w a n cap ls) (hby : ∀ l ∈ ls, ∀ x ∈ l, x < 256) :
    Calls Try.prog 38 #[.slice a n cap] w fun e w' => e = .returned (.int .u32 (inv (feedP 4294967295 ls) : Nat)) ∧ Below w.heap.size w w' := by
  have hb := feedP_lt (r := 4294967295) (by omega) hby
  have H0 := feed_any 4294967295 a n cap ls w (by omega) hl
  rw [show (((4294967295 : Nat) : Int)) = 4294967295 from rfl] at H0
  have H := Lib.hid H0
  clear hl hby H0
  have e1 := inv_bits hb
  go_enter Try.func38, Try.ntmps38
  go_wp2_with ((with_reducible refine H.out.mono ?_); rintro e w1 ⟨rfl, hb1⟩)
  go_ret
  exact ⟨rfl, hb1⟩

/-- The sum that the statements' helper few makes. -/
def mins (ls : List (List Nat)) : Nat := (ls.map fun l => min l.length 2000).sum

theorem mins_take {ls : List (List Nat)} {k : Nat} (h : k < ls.length) : mins (ls.take (k + 1)) = mins (ls.take k) + min (ls.getD k []).length 2000 := by
  unfold mins
  rw [takeP_snoc h]; simp

theorem mins_flat {ls : List (List Nat)} (h : mins ls ≤ 1500) : ls.flatten.length ≤ 1500 := by
  have : ls.flatten.length = mins ls := by
    induction ls with
    | nil => rfl
    | cons l ls ih =>
      have e : mins (l :: ls) = min l.length 2000 + mins ls := by simp [mins]
      rw [e] at h ⊢
      rw [List.flatten_cons, List.length_append, ih (by omega)]
      omega
  omega

def FewEnd (ls : List (List Nat)) (e : Ending) : Prop := ∃ b, e = .returned (.bool b) ∧ (b = true → mins ls ≤ 1500 ∧ ls.length ≤ 60)

end Go.Proofs.Ytmebffmdfnnbmaa
