/- The walks of Bytes and Text, of the code and of the reference, and of the examples of the chapter. -/
import Derived.Test.YtjkpcpoplpgecaaInt
import Derived.Test.YtjkpcpoplpgecaaStr
import Derived.Lib.AppendStr
namespace Go.Proofs.Ytjkpcpoplpgecaa
open Go.RowKit

theorem str_size (l : List Nat) : (str l).size = l.length := by
  show ((l.map UInt8.ofNat).toArray).size = _
  simp

theorem strCells_str {l : List Nat} (h : ∀ x ∈ l, x < 256) : Lib.strCells (str l) = u8s l := by
  unfold Lib.strCells u8s str
  rw [List.map_map]
  refine List.map_congr_left (fun x hx => ?_)
  have := h x hx
  simp [UInt8.toNat_ofNat']
  omega

/-- The form of bytes. -/
def formB (l : List Nat) : List Nat := form l.length ++ l

theorem formB_byte {l : List Nat} (h : ∀ x ∈ l, x < 256) : ∀ x ∈ formB l, x < 256 := by
  intro x hx
  rcases List.mem_append.1 hx with hx | hx
  · exact form_byte _ x hx
  · exact h x hx

theorem bytesF_any (a : Option Addr) (n cap : Nat) (l : List Nat) (w : World) (hl : Bytes w a n cap l) (hn : n ≤ 100000000000000) :
    Calls Try.prog 14 #[.slice a n cap] w (NewBytes w (formB l)) := by
  have h10 := form_len (x := n) (by omega)
  have HB := Lib.hid hl
  clear hl
  go_enter Try.func14, Try.ntmps14
  go_wp2_with fail
  refine (uint_any n w (by omega)).mono ?_
  rintro e w1 ⟨v, rfl, hown, hb1⟩
  have Hown := Lib.hid hown
  have HB1 := Lib.hid (HB.out.grow hb1)
  clear hown
  go_wp2_with (at_builtin; refine wpList_append_bytes _ rfl _ _ 23 rfl w.heap.size 5 Try.underlying23 info_u8 _ _ _ rfl Hown.out a n cap l rfl HB1.out (by omega) hb1.size ?_; intro v' w2 g1 g2)
  go_ret
  refine ⟨_, rfl, ?_, hb1.grown g2 hb1.size (fun k hk => (Hown.out.lt k hk).1)⟩
  unfold formB
  rw [HB.out.len, List.length_append, HB.out.len]
  exact g1

theorem rbytesF_any (a : Option Addr) (n cap : Nat) (l : List Nat) (w : World) (hl : Bytes w a n cap l) (hn : n ≤ 100000000000000) :
    Calls Try.prog 15 #[.slice a n cap] w (NewBytes w (formB l)) := by
  have h10 := form_len (x := n) (by omega)
  have HB := Lib.hid hl
  clear hl
  go_enter Try.func15, Try.ntmps15
  go_wp2_with fail
  refine (ruint_any n w (by omega)).mono ?_
  rintro e w1 ⟨v, rfl, hown, hb1⟩
  have Hown := Lib.hid hown
  have HB1 := Lib.hid (HB.out.grow hb1)
  clear hown
  go_wp2_with (at_builtin; refine wpList_append_bytes _ rfl _ _ 23 rfl w.heap.size 5 Try.underlying23 info_u8 _ _ _ rfl Hown.out a n cap l rfl HB1.out (by omega) hb1.size ?_; intro v' w2 g1 g2)
  go_ret
  refine ⟨_, rfl, ?_, hb1.grown g2 hb1.size (fun k hk => (Hown.out.lt k hk).1)⟩
  unfold formB
  rw [HB.out.len, List.length_append, HB.out.len]
  exact g1

theorem textF_any (l : List Nat) (w : World) (hl : ∀ x ∈ l, x < 256) (hn : l.length ≤ 100000000000000) :
    Calls Try.prog 16 #[.string (str l)] w (NewBytes w (formB l)) := by
  have h10 := form_len (x := l.length) (by omega)
  obtain ⟨i0, hi, hz0, hz1, hz2⟩ := info_parts info_u8
  have hs := str_size l
  have hsc := Lib.hid (strCells_str hl)
  have hF : NewBytes w (formB l) = NewBytes w (form (str l).size ++ l) := by rw [hs]; rfl
  rw [hF]
  rw [← hs] at h10 hn
  have HS := Lib.hid hs
  clear hF hs
  go_enter Try.func16, Try.ntmps16
  go_wp2_with fail
  refine (uint_any _ w (by omega)).mono ?_
  rintro e w1 ⟨v, rfl, hown, hb1⟩
  have Hown := Lib.hid hown
  clear hown
  go_wp2_with (at_builtin; refine Lib.wpList_append_own_string _ rfl _ _ 23 9 rfl w.heap.size 5 i0 Try.underlying23 Try.underlying9 hi hz0 hz1 hz2 _ _ _ rfl Hown.out (str l) rfl (by rw [maxLen_nat]; omega) (by omega) hb1.size ?_; intro v' w2 g1 g2 _)
  go_ret
  refine ⟨_, rfl, ?_, hb1.grown g2 hb1.size (fun k hk => (Hown.out.lt k hk).1)⟩
  rw [List.length_append, ← HS.out, u8s_append, ← hsc.out]
  exact g1
end Go.Proofs.Ytjkpcpoplpgecaa
