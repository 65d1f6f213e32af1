/- The walk of the statement SumParts: it returns true whatever the parts are. -/
import Derived.Test.YtpgnmphfhihffaaCat
namespace Go.Proofs.Ytpgnmphfhihffaa
open Go.RowKit Crc

set_option maxHeartbeats 800000 in
theorem sumParts_any (a : Option Addr) (n cap : Nat) (ls : List (List Nat)) (w : World) (hl : Parts w a n cap ls) :
    Calls Try.prog 3 #[.slice a n cap] w fun e w' => e = .returned (.bool true) ∧ Below w.heap.size w w' := by
  have hP := Lib.hid hl
  clear hl
  go_enter Try.func3, Try.ntmps3
  go_wp2_with fail
  refine (few_any a n cap ls w hP.out).mono ?_
  rintro e w' ⟨⟨b, rfl, hb⟩, rfl⟩
  have hb := Lib.hid hb
  rename_i hb0; clear hb0
  cases b
  · go_wp2_with ((with_reducible refine (alive_any _).mono ?_); rintro e w1 ⟨rfl, hb1⟩)
    go_ret
    exact ⟨rfl, hb1⟩
  · obtain ⟨hm, h60⟩ := hb.out rfl
    have hfl := mins_flat hm
    clear hm h60
    go_wp2_with fail
    refine (alive_any _).mono ?_
    rintro e w1 ⟨rfl, hb1⟩
    go_wp2_with fail
    refine (sum_any a n cap ls w1 (hP.out.grow hb1) hP.out.byte).mono ?_
    rintro e w2 ⟨rfl, hb2⟩
    have hb12 : Below w.heap.size w w2 := hb1.trans (hb2.mono hb1.size)
    go_wp2_with fail
    refine (cat_any a n cap ls w2 (hP.out.grow hb12) (by omega)).mono ?_
    rintro e w3 ⟨v, rfl, hown, hb3⟩
    have hb13 : Below w.heap.size w w3 := hb12.trans (hb3.mono hb12.size)
    obtain ⟨p, cp, rfl, hB⟩ := own_slice hown (fun x hx => by obtain ⟨l, hl, hx⟩ := List.mem_flatten.1 hx; exact hP.out.byte l hl x hx)
    have hq := feedP_flatten 4294967295 ls
    have heq : (((inv (feedP 4294967295 ls) : Nat) : Int) == ((inv (feedL 4294967295 ls.flatten) : Nat) : Int)) = true := by rw [hq]; simp
    clear hq hown hfl
    generalize ls.flatten = fl at *
    have hB := Lib.hid hB
    rename_i hB0; clear hB0
    go_wp2_with fail
    refine (rsum_any p _ cp _ w3 hB.out).mono ?_
    rintro e w4 ⟨rfl, rfl⟩
    go_wp2
    go_ret
    exact ⟨rfl, hb13⟩
end Go.Proofs.Ytpgnmphfhihffaa
