/- The walks of Seal and Open, of the code and of the reference. -/
import Derived.Test.YtmebffmdfnnbmaaApp
import Derived.Test.YtmebffmdfnnbmaaTab
import Derived.Test.YtmebffmdfnnbmaaSum
namespace Go.Proofs.Ytmebffmdfnnbmaa
open Go.RowKit Crc

def little (s : Nat) : List Nat := [s % 256, s / 256 % 256, s / 65536 % 256, s / 16777216]

theorem little_lt {s : Nat} (hs : s < 4294967296) : ∀ x ∈ little s, x < 256 := by
  intro x hx
  simp only [little, List.mem_cons, List.not_mem_nil, or_false] at hx
  omega

theorem u32_and255 (x : Nat) (h : x < 4294967296) : bits .and .u32 (x : Int) 255 = ((x % 256 : Nat) : Int) := by
  rw [← show x &&& 255 = x % 256 from Nat.and_two_pow_sub_one_eq_mod x 8]
  exact u32_and_nat x 255 h (by omega)

/-- The four cells of a number. -/
theorem cells4 {x0 x1 x2 x3 : Int} {s : Nat} (h0 : x0 = (s : Int) % 256) (h1 : x1 = (s : Int) / 256 % 256) (h2 : x2 = (s : Int) / 65536 % 256) (h3 : x3 = (s : Int) / 16777216) :
    (#[.int .u8 x0, .int .u8 x1, .int .u8 x2, .int .u8 x3] : Array Value) = (u8s (little s)).toArray := by
  subst h0 h1 h2 h3
  simp [u8s, little]

theorem little_any (s : Nat) (w : World) (hs : s < 4294967296) :
    Calls Try.prog 34 #[.int .u32 (s : Int)] w (NewBytes w (little s)) := by
  have e1 := u32_and255 s hs
  have e2 : bits .and .u32 ((s : Int) / 256) 255 = ((s / 256 % 256 : Nat) : Int) := u32_and255 (s / 256) (by omega)
  have e3 : bits .and .u32 ((s : Int) / 65536) 255 = ((s / 65536 % 256 : Nat) : Int) := u32_and255 (s / 65536) (by omega)
  have hc := Lib.hid (cells4 (s := s) rfl rfl rfl rfl)
  go_enter Try.func34, Try.ntmps34
  go_wp2
  go_ret
  rw [hc.out]
  exact ⟨_, rfl, new_row w _ (by simp [little]), (Below.refl _ _).alloc (Nat.le_refl _) _⟩

theorem seal_some (a : Addr) (n cap : Nat) (l : List Nat) (w : World) (hl : Bytes w (some a) n cap l) (hn : n ≤ 100000000000000) :
    Calls Try.prog 32 #[.slice (some a) n cap] w (NewBytes w (l ++ little (inv (feedL 4294967295 l)))) := by
  have hB := Lib.hid hl
  have hle := hl.le
  clear hl
  go_enter Try.func32, Try.ntmps32
  go_wp2_with fail
  refine (sum_any _ 1 1 [l] _ (parts_one hB.out _) (byte_one hB.out.byte)).mono ?_
  rintro e w1 ⟨rfl, hb1⟩
  have hb1 := below_call hb1
  rename_i hb10; clear hb10
  have hs : inv (feedP 4294967295 [l]) < 4294967296 := by unfold inv; omega
  generalize hse : inv (feedP 4294967295 [l]) = s at *
  have hse := Lib.hid hse
  rename_i hse0; clear hse0
  have hlit : Bytes (w1.alloc (.cells #[.int .u8 ((s : Int) % 256), .int .u8 ((s : Int) / 256 % 256), .int .u8 ((s : Int) / 65536 % 256), .int .u8 ((s : Int) / 16777216)] 5)) (some ⟨w1.heap.size, 0, none⟩) 4 4 (little s) := by
    rw [cells4 (s := s) rfl rfl rfl rfl]
    exact bytes_of_own (new_row w1 (little s) (by simp [little])) (little_lt hs)
  have hbel : Below w1.heap.size w1 (w1.alloc (.cells #[.int .u8 ((s : Int) % 256), .int .u8 ((s : Int) / 256 % 256), .int .u8 ((s : Int) / 65536 % 256), .int .u8 ((s : Int) / 16777216)] 5)) := (Below.refl _ _).alloc (Nat.le_refl _) _
  have hbel : Below w.heap.size w (w1.alloc (.cells #[.int .u8 ((s : Int) % 256), .int .u8 ((s : Int) / 256 % 256), .int .u8 ((s : Int) / 65536 % 256), .int .u8 ((s : Int) / 16777216)] 5)) := hb1.trans (hbel.mono hb1.size)
  have hB1 := hB.out.grow hbel
  have hB2 : Bytes _ (some a) n n l := ⟨hB1.len, Nat.le_refl _, hB1.max, hB1.byte, fun h => (by cases h), hB1.cell⟩
  have hB2 := Lib.hid hB2
  have hlit := Lib.hid hlit
  rename_i hlit0 _ _ ; clear hB1 hlit0
  go_wp2_with (at_builtin; refine wpList_append_capped _ rfl _ _ 25 rfl 5 Try.underlying25 info_u8 (some a) n l rfl hB2.out _ 4 4 (little s) rfl hlit.out (by omega) (by omega) ?_; intro v' w2 g1 g2)
  go_ret
  refine ⟨_, rfl, ?_, hbel.trans (g2.mono hbel.size)⟩
  have hse2 : inv (feedL 4294967295 l) = s := hse.out
  rw [hse2, List.length_append, hB.out.len]
  exact own_base g1 hbel.size

theorem seal_none (w : World) :
    Calls Try.prog 32 #[.slice none 0 0] w (NewBytes w ([] ++ little (inv (feedL 4294967295 [])))) := by
  have hB := Lib.hid (bytes_nil w)
  go_enter Try.func32, Try.ntmps32
  go_wp2_with fail
  refine (sum_any _ 1 1 [[]] _ (parts_one hB.out _) (byte_one hB.out.byte)).mono ?_
  rintro e w1 ⟨rfl, hb1⟩
  have hb1 := below_call hb1
  rename_i hb10; clear hb10
  have hs : inv (feedP 4294967295 [[]]) < 4294967296 := by unfold inv; omega
  generalize hse : inv (feedP 4294967295 [[]]) = s at *
  have hse := Lib.hid hse
  rename_i hse0; clear hse0
  have hlit : Bytes (w1.alloc (.cells #[.int .u8 ((s : Int) % 256), .int .u8 ((s : Int) / 256 % 256), .int .u8 ((s : Int) / 65536 % 256), .int .u8 ((s : Int) / 16777216)] 5)) (some ⟨w1.heap.size, 0, none⟩) 4 4 (little s) := by
    rw [cells4 (s := s) rfl rfl rfl rfl]
    exact bytes_of_own (new_row w1 (little s) (by simp [little])) (little_lt hs)
  have hbel : Below w1.heap.size w1 (w1.alloc (.cells #[.int .u8 ((s : Int) % 256), .int .u8 ((s : Int) / 256 % 256), .int .u8 ((s : Int) / 65536 % 256), .int .u8 ((s : Int) / 16777216)] 5)) := (Below.refl _ _).alloc (Nat.le_refl _) _
  have hbel : Below w.heap.size w (w1.alloc (.cells #[.int .u8 ((s : Int) % 256), .int .u8 ((s : Int) / 256 % 256), .int .u8 ((s : Int) / 65536 % 256), .int .u8 ((s : Int) / 16777216)] 5)) := hb1.trans (hbel.mono hb1.size)
  have hB1 := hB.out.grow hbel
  have hB2 : Bytes _ none 0 0 [] := hB1
  have hB2 := Lib.hid hB2
  have hlit := Lib.hid hlit
  rename_i hlit0 _ _ ; clear hB1 hlit0
  go_wp2_with (at_builtin; refine wpList_append_capped _ rfl _ _ 25 rfl 5 Try.underlying25 info_u8 none 0 [] rfl hB2.out _ 4 4 (little s) rfl hlit.out (by omega) (by omega) ?_; intro v' w2 g1 g2)
  go_ret
  refine ⟨_, rfl, ?_, hbel.trans (g2.mono hbel.size)⟩
  have hse2 : inv (feedL 4294967295 []) = s := hse.out
  rw [hse2]
  exact own_base g1 hbel.size

theorem seal_any (a : Option Addr) (n cap : Nat) (l : List Nat) (w : World) (hl : Bytes w a n cap l) (hn : n ≤ 100000000000000) :
    Calls Try.prog 32 #[.slice a n cap] w (NewBytes w (l ++ little (inv (feedL 4294967295 l)))) := by
  cases a with
  | none =>
    obtain rfl : cap = 0 := hl.nil rfl
    obtain rfl : n = 0 := by have := hl.le; omega
    obtain rfl : l = [] := List.length_eq_zero_iff.1 hl.len
    exact seal_none w
  | some a => exact seal_some a n cap l w hl hn

/-- What Open answers, on lists. -/
def sealL (l : List Nat) : List Nat := l ++ little (inv (feedL 4294967295 l))

theorem little_len (s : Nat) : (little s).length = 4 := rfl
theorem sealL_len (l : List Nat) : (sealL l).length = l.length + 4 := by unfold sealL; rw [List.length_append, little_len]
theorem sealL_byte {l : List Nat} (h : ∀ x ∈ l, x < 256) : ∀ x ∈ sealL l, x < 256 := by
  intro x hx
  rcases List.mem_append.1 hx with hx | hx
  · exact h x hx
  · exact little_lt (by unfold inv; omega) x hx

/-- Two results: a slice and a bool. -/
def OpenEnd (w : World) (l : List Nat) (e : Ending) (w' : World) : Prop :=
  Below w.heap.size w w' ∧ ((∃ b, sealL b = l ∧ ∃ a n cap, e = .returned (.tuple #[.slice a n cap, .bool true]) ∧ Bytes w' a n cap b) ∨ ((∀ b, sealL b ≠ l) ∧ e = .returned (.tuple #[.slice none 0 0, .bool false])))

theorem open_short (a : Option Addr) (n cap : Nat) (l : List Nat) (w : World) (hl : Bytes w a n cap l) (hn : n < 4) :
    Calls Try.prog 27 #[.slice a n cap] w (OpenEnd w l) := by
  have hB := Lib.hid hl
  clear hl
  go_enter Try.func27, Try.ntmps27
  go_wp2
  go_ret2
  exact ⟨Below.refl _ _, .inr ⟨fun b h => by have := sealL_len b; rw [h, hB.out.len] at this; omega, rfl⟩⟩

theorem take_seal {w : World} {a : Option Addr} {n cap m : Nat} {b : List Nat} (h : Bytes w a n cap (sealL b)) (hb : b.length = m) (hm : m ≤ cap) : Bytes w a m m b := by
  have e : (sealL b).take m = b := by unfold sealL; rw [← hb]; exact List.take_left
  have hn : n = m + 4 := by rw [← h.len, sealL_len, hb]
  have := h.takeTo (m := m) (c := m) (by omega) (Nat.le_refl _) hm
  rwa [e] at this

theorem open_long (a : Addr) (n cap : Nat) (l : List Nat) (w : World) (hl : Bytes w (some a) n cap l) (hn : 4 ≤ n) (hm : n ≤ 100000000000000) :
    Calls Try.prog 27 #[.slice (some a) n cap] w (OpenEnd w l) := by
  have hB := Lib.hid hl
  have hle := hl.le
  clear hl
  obtain ⟨m, rfl⟩ : ∃ m, n = m + 4 := ⟨n - 4, by omega⟩
  have hT : Bytes w (some a) m m (l.take m) := hB.out.takeTo (by omega) (Nat.le_refl _) (by omega)
  have hT := Lib.hid hT
  have hsl : (sealL (l.take m)).length = m + 4 := by rw [sealL_len, hT.out.len]
  have hsl := Lib.hid hsl
  rename_i hT0 hsl0; clear hT0 hsl0
  go_enter Try.func27, Try.ntmps27
  go_wp2_with fail
  refine (seal_any (some a) m m (l.take m) w hT.out (by omega)).mono ?_
  rintro e w1 ⟨v, rfl, hown, hb1⟩
  have hown : w1.ownsRow w.heap.size 5 1 v (sealL (l.take m)).length (u8s (sealL (l.take m))) := hown
  rw [hsl.out] at hown
  obtain ⟨p, cp, rfl, hC⟩ := own_slice hown (sealL_byte hT.out.byte)
  obtain ⟨pb, po, rfl, _⟩ := hC.cell (by omega)
  have hcp := hC.le
  have hC := Lib.hid hC
  rename_i hown0 hC0 _; clear hown0 hC0 hown
  by_cases heq : sealL (l.take m) = l
  · have heq := Lib.hid heq
    rename_i heq0; clear heq0
    go_wp2_with fail
    refine (bytesEqual_yes _ _ _ _ _ _ l w1 (heq.out ▸ hC.out) (hB.out.grow hb1)).mono ?_
    rintro e w1 ⟨rfl, rfl⟩
    go_wp2
    go_ret2
    exact ⟨hb1, .inl ⟨l.take m, heq.out, _, _, _, rfl, take_seal hC.out hT.out.len (by omega)⟩⟩
  · go_wp2_with fail
    refine (bytesEqual_no _ _ _ _ _ _ _ l w1 hC.out (hB.out.grow hb1) heq).mono ?_
    rintro e w1 ⟨rfl, rfl⟩
    have Hne := Lib.hid heq
    clear heq
    go_wp2
    go_ret2
    refine ⟨hb1, .inr ⟨fun b hb => Hne.out ?_, rfl⟩⟩
    have e : l.take m = b := by
      have hlb : b.length = m := by have := sealL_len b; rw [hb, hB.out.len] at this; omega
      rw [← hb, ← hlb]
      exact List.take_left
    rw [e, hb]

theorem open_any (a : Option Addr) (n cap : Nat) (l : List Nat) (w : World) (hl : Bytes w a n cap l) (hm : n ≤ 100000000000000) :
    Calls Try.prog 27 #[.slice a n cap] w (OpenEnd w l) := by
  by_cases hn : n < 4
  · exact open_short a n cap l w hl hn
  · obtain ⟨b, o, rfl, _⟩ := hl.cell (by omega)
    exact open_long _ n cap l w hl (by omega) hm
end Go.Proofs.Ytmebffmdfnnbmaa
