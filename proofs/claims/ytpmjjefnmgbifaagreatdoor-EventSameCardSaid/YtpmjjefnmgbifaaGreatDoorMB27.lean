import Derived.Test.YtpmjjefnmgbifaaGreatDoorMB14
import Derived.Test.YtpmjjefnmgbifaaGreatDoorMB19
import Derived.Test.YtpmjjefnmgbifaaGreatDoorMB26
import Derived.Lib.LaidTab
import Derived.Lib.ItoaNum
import Derived.Test.YtpmjjefnmgbifaaGreatDoorMB1
/- The texts of contents that are no lists. -/
namespace Go.Proofs.YtpmjjefnmgbifaaGreatDoor
open Go.RowKit Go.Shelf Fl

/-- The table of powers of ten that strconv keeps. -/
def Pow10 (w : World) : Prop := Lib.TabIs Tryz.prog w "internal/strconv.uint64pow10" .u64 Lib.pow10Tab

theorem below_growN (B : Nat) (w : World) (hB : B ≤ w.heap.size) (k : Nat) (os : Array Obj) : Below B w (Sort.grow (w.drewN k) os) :=
  ⟨rfl, rfl, rfl, by show w.heap.size ≤ (w.heap ++ os).size; rw [Array.size_append]; omega, fun j hj => by
    show (w.heap ++ os)[j]? = w.heap[j]?
    rw [Array.getElem?_append_left (by omega)]⟩

theorem dec_digits : ∀ (n : Nat), Lib.decDigits n = (decD n).map UInt8.ofNat := by
  intro n
  induction n using Nat.strongRecOn with
  | _ n ih =>
    by_cases h : n < 10
    · rw [Lib.decDigits, dif_pos h, decD_low h]; rfl
    · rw [Lib.decDigits, dif_neg h, decD_high h, List.map_append, ih (n / 10) (by omega)]; rfl

theorem itoa_str (n : Int) : (⟨(Lib.itoa n).toArray⟩ : ByteArray) = str (decL n) := by
  unfold str
  congr 2
  unfold Lib.itoa decL
  split
  · rw [dec_digits]; rfl
  · rw [dec_digits, show n.toNat = n.natAbs by omega]

theorem nilText_any (w : World) : Calls Tryz.prog 217 #[.agg #[]] w fun e w' => e = .returned (.string (str [110, 105, 108])) ∧ Below w.heap.size w w' := by
  go_enter Tryz.func217, Tryz.ntmps217
  go_wp2
  go_ret
  exact ⟨rfl, (Below.refl _ _).alloc (Nat.le_refl _) _⟩

theorem intText_any (n : Int) (w : World) (h0 : -9223372036854775808 ≤ n) (h1 : n ≤ 9223372036854775807) (ht : Pow10 w) :
    Calls Tryz.prog 219 #[.int .i64 n] w fun e w' => e = .returned (.string (str (decL n))) ∧ Below w.heap.size w w' := by
  have H := Lib.hid (Tryz.strconv_FormatInt_10 n h0 h1 w ht)
  rw [itoa_str] at H
  clear h0 h1 ht
  go_enter Tryz.func219, Tryz.ntmps219
  go_wp2_with fail
  refine H.out.mono ?_
  rintro e w' ⟨rfl, k, os, rfl⟩
  go_wp2
  go_ret
  exact ⟨rfl, below_growN _ _ (Nat.le_refl _) _ _⟩

theorem tl_len (b : Nat) : (textL b).length ≤ 17 := by
  unfold textL
  split
  · simp
  split
  · simp
  split
  · simp
  split
  · simp
  split
  · simp
  · rw [List.length_cons, hexs_len]; omega

theorem floatText_any (b : Nat) (w : World) (hb : b < 18446744073709551616) (ht : Tab16 w) :
    Calls Tryz.prog 224 #[.float .f64 b] w fun e w' => e = .returned (.string (str (35 :: textL (bitsB b)))) ∧ Below w.heap.size w w' := by
  have H := Lib.hid (text_any b w hb ht)
  have hs : (⟨#[35]⟩ : ByteArray) ++ str (textL (bitsB b)) = str (35 :: textL (bitsB b)) := str_append [35] (textL (bitsB b))
  have Hs := Lib.hid hs
  have hq := str_size (textL (bitsB b))
  have hl := tl_len (bitsB b)
  clear hb ht hs
  rw [← Hs.out]
  go_enter Tryz.func224, Tryz.ntmps224
  go_wp2_with fail
  refine H.out.mono ?_
  rintro e w' ⟨rfl, hb⟩
  have Hb := Lib.hid hb
  clear hb
  go_wp2
  go_ret
  exact ⟨rfl, Hb.out⟩
end Go.Proofs.YtpmjjefnmgbifaaGreatDoor

