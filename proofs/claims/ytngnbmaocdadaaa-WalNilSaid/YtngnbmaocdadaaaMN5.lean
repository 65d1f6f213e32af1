import Derived.Test.YtngnbmaocdadaaaMN4
import Derived.Lib.SlBytesConst
import Derived.Test.YtngnbmaocdadaaaMN3
import Derived.Deep.RegionHeld
/- The walks of the code's Sum and More, of the statements' own helpers alive and few, and of the reference's Cat. -/
namespace Go.Proofs.Ytngnbmaocdadaaa
open Go.RowKit Crc

theorem sum_any (a : Option Addr) (n cap : Nat) (ls : List (List Nat)) (w : World) (hl : Parts w a n cap ls) (hby : ∀ l ∈ ls, ∀ x ∈ l, x < 256) :
    Calls Try.prog 47 #[.slice a n cap] w fun e w' => e = .returned (.int .u32 (inv (feedP 4294967295 ls) : Nat)) ∧ Below w.heap.size w w' := by
  have hb := feedP_lt (r := 4294967295) (by omega) hby
  have H0 := feed_any 4294967295 a n cap ls w (by omega) hl
  rw [show (((4294967295 : Nat) : Int)) = 4294967295 from rfl] at H0
  have H := Lib.hid H0
  clear hl hby H0
  have e1 := inv_bits hb
  go_enter Try.func47, Try.ntmps47
  go_wp2_with ((with_reducible refine H.out.mono ?_); rintro e w1 ⟨rfl, hb1⟩)
  go_ret
  exact ⟨rfl, hb1⟩

/-- The sum that the statements' helper few makes. -/
def mins (ls : List (List Nat)) : Nat := (ls.map fun l => min l.length 2000).sum

theorem mins_take {ls : List (List Nat)} {k : Nat} (h : k < ls.length) : mins (ls.take (k + 1)) = mins (ls.take k) + min (ls.getD k []).length 2000 := by
  unfold mins
  rw [takeP_snoc h]; simp

theorem mins_flat {ls : List (List Nat)} (h : mins ls ≤ 1500) : ls.flatten.length ≤ 1500 := by
  have : ls.flatten.length = mins ls := by
    induction ls with
    | nil => rfl
    | cons l ls ih =>
      have e : mins (l :: ls) = min l.length 2000 + mins ls := by simp [mins]
      rw [e] at h ⊢
      rw [List.flatten_cons, List.length_append, ih (by omega)]
      omega
  omega

def FewEnd (ls : List (List Nat)) (e : Ending) : Prop := ∃ b, e = .returned (.bool b) ∧ (b = true → mins ls ≤ 1500 ∧ ls.length ≤ 60)

end Go.Proofs.Ytngnbmaocdadaaa

/- The walks of Seal and Open, of the code and of the reference. -/
namespace Go.Proofs.Ytngnbmaocdadaaa
open Go.RowKit Crc

def little (s : Nat) : List Nat := [s % 256, s / 256 % 256, s / 65536 % 256, s / 16777216]

theorem little_lt {s : Nat} (hs : s < 4294967296) : ∀ x ∈ little s, x < 256 := by
  intro x hx
  simp only [little, List.mem_cons, List.not_mem_nil, or_false] at hx
  omega

theorem u32_and255 (x : Nat) (h : x < 4294967296) : bits .and .u32 (x : Int) 255 = ((x % 256 : Nat) : Int) := by
  rw [← show x &&& 255 = x % 256 from Nat.and_two_pow_sub_one_eq_mod x 8]
  exact u32_and_nat x 255 h (by omega)

/-- The four cells of a number. -/
theorem cells4 {x0 x1 x2 x3 : Int} {s : Nat} (h0 : x0 = (s : Int) % 256) (h1 : x1 = (s : Int) / 256 % 256) (h2 : x2 = (s : Int) / 65536 % 256) (h3 : x3 = (s : Int) / 16777216) :
    (#[.int .u8 x0, .int .u8 x1, .int .u8 x2, .int .u8 x3] : Array Value) = (u8s (little s)).toArray := by
  subst h0 h1 h2 h3
  simp [u8s, little]

theorem little_any (s : Nat) (w : World) (hs : s < 4294967296) :
    Calls Try.prog 38 #[.int .u32 (s : Int)] w (NewBytes w (little s)) := by
  have e1 := u32_and255 s hs
  have e2 : bits .and .u32 ((s : Int) / 256) 255 = ((s / 256 % 256 : Nat) : Int) := u32_and255 (s / 256) (by omega)
  have e3 : bits .and .u32 ((s : Int) / 65536) 255 = ((s / 65536 % 256 : Nat) : Int) := u32_and255 (s / 65536) (by omega)
  have hc := Lib.hid (cells4 (s := s) rfl rfl rfl rfl)
  go_enter Try.func38, Try.ntmps38
  go_wp2
  go_ret
  rw [hc.out]
  exact ⟨_, rfl, new_row w _ (by simp [little]), (Below.refl _ _).alloc (Nat.le_refl _) _⟩

theorem seal_some (a : Addr) (n cap : Nat) (l : List Nat) (w : World) (hl : Bytes w (some a) n cap l) (hn : n ≤ 100000000000000) :
    Calls Try.prog 29 #[.slice (some a) n cap] w (NewBytes w (l ++ little (inv (feedL 4294967295 l)))) := by
  have hB := Lib.hid hl
  have hle := hl.le
  clear hl
  go_enter Try.func29, Try.ntmps29
  go_wp2_with fail
  refine (sum_any _ 1 1 [l] _ (parts_one hB.out _) (byte_one hB.out.byte)).mono ?_
  rintro e w1 ⟨rfl, hb1⟩
  have hb1 := below_call hb1
  rename_i hb10; clear hb10
  have hs : inv (feedP 4294967295 [l]) < 4294967296 := by unfold inv; omega
  generalize hse : inv (feedP 4294967295 [l]) = s at *
  have hse := Lib.hid hse
  rename_i hse0; clear hse0
  have hlit : Bytes (w1.alloc (.cells #[.int .u8 ((s : Int) % 256), .int .u8 ((s : Int) / 256 % 256), .int .u8 ((s : Int) / 65536 % 256), .int .u8 ((s : Int) / 16777216)] 5)) (some ⟨w1.heap.size, 0, none⟩) 4 4 (little s) := by
    rw [cells4 (s := s) rfl rfl rfl rfl]
    exact bytes_of_own (new_row w1 (little s) (by simp [little])) (little_lt hs)
  have hbel : Below w1.heap.size w1 (w1.alloc (.cells #[.int .u8 ((s : Int) % 256), .int .u8 ((s : Int) / 256 % 256), .int .u8 ((s : Int) / 65536 % 256), .int .u8 ((s : Int) / 16777216)] 5)) := (Below.refl _ _).alloc (Nat.le_refl _) _
  have hbel : Below w.heap.size w (w1.alloc (.cells #[.int .u8 ((s : Int) % 256), .int .u8 ((s : Int) / 256 % 256), .int .u8 ((s : Int) / 65536 % 256), .int .u8 ((s : Int) / 16777216)] 5)) := hb1.trans (hbel.mono hb1.size)
  have hB1 := hB.out.grow hbel
  have hB2 : Bytes _ (some a) n n l := ⟨hB1.len, Nat.le_refl _, hB1.max, hB1.byte, fun h => (by cases h), hB1.cell⟩
  have hB2 := Lib.hid hB2
  have hlit := Lib.hid hlit
  rename_i hlit0 _ _ ; clear hB1 hlit0
  go_wp2_with (at_builtin; refine wpList_append_capped _ rfl _ _ 22 rfl 5 Try.underlying22 info_u8 (some a) n l rfl hB2.out _ 4 4 (little s) rfl hlit.out (by omega) (by omega) ?_; intro v' w2 g1 g2)
  go_ret
  refine ⟨_, rfl, ?_, hbel.trans (g2.mono hbel.size)⟩
  have hse2 : inv (feedL 4294967295 l) = s := hse.out
  rw [hse2, List.length_append, hB.out.len]
  exact own_base g1 hbel.size

theorem seal_none (w : World) :
    Calls Try.prog 29 #[.slice none 0 0] w (NewBytes w ([] ++ little (inv (feedL 4294967295 [])))) := by
  have hB := Lib.hid (bytes_nil w)
  go_enter Try.func29, Try.ntmps29
  go_wp2_with fail
  refine (sum_any _ 1 1 [[]] _ (parts_one hB.out _) (byte_one hB.out.byte)).mono ?_
  rintro e w1 ⟨rfl, hb1⟩
  have hb1 := below_call hb1
  rename_i hb10; clear hb10
  have hs : inv (feedP 4294967295 [[]]) < 4294967296 := by unfold inv; omega
  generalize hse : inv (feedP 4294967295 [[]]) = s at *
  have hse := Lib.hid hse
  rename_i hse0; clear hse0
  have hlit : Bytes (w1.alloc (.cells #[.int .u8 ((s : Int) % 256), .int .u8 ((s : Int) / 256 % 256), .int .u8 ((s : Int) / 65536 % 256), .int .u8 ((s : Int) / 16777216)] 5)) (some ⟨w1.heap.size, 0, none⟩) 4 4 (little s) := by
    rw [cells4 (s := s) rfl rfl rfl rfl]
    exact bytes_of_own (new_row w1 (little s) (by simp [little])) (little_lt hs)
  have hbel : Below w1.heap.size w1 (w1.alloc (.cells #[.int .u8 ((s : Int) % 256), .int .u8 ((s : Int) / 256 % 256), .int .u8 ((s : Int) / 65536 % 256), .int .u8 ((s : Int) / 16777216)] 5)) := (Below.refl _ _).alloc (Nat.le_refl _) _
  have hbel : Below w.heap.size w (w1.alloc (.cells #[.int .u8 ((s : Int) % 256), .int .u8 ((s : Int) / 256 % 256), .int .u8 ((s : Int) / 65536 % 256), .int .u8 ((s : Int) / 16777216)] 5)) := hb1.trans (hbel.mono hb1.size)
  have hB1 := hB.out.grow hbel
  have hB2 : Bytes _ none 0 0 [] := hB1
  have hB2 := Lib.hid hB2
  have hlit := Lib.hid hlit
  rename_i hlit0 _ _ ; clear hB1 hlit0
  go_wp2_with (at_builtin; refine wpList_append_capped _ rfl _ _ 22 rfl 5 Try.underlying22 info_u8 none 0 [] rfl hB2.out _ 4 4 (little s) rfl hlit.out (by omega) (by omega) ?_; intro v' w2 g1 g2)
  go_ret
  refine ⟨_, rfl, ?_, hbel.trans (g2.mono hbel.size)⟩
  have hse2 : inv (feedL 4294967295 []) = s := hse.out
  rw [hse2]
  exact own_base g1 hbel.size

theorem seal_any (a : Option Addr) (n cap : Nat) (l : List Nat) (w : World) (hl : Bytes w a n cap l) (hn : n ≤ 100000000000000) :
    Calls Try.prog 29 #[.slice a n cap] w (NewBytes w (l ++ little (inv (feedL 4294967295 l)))) := by
  cases a with
  | none =>
    obtain rfl : cap = 0 := hl.nil rfl
    obtain rfl : n = 0 := by have := hl.le; omega
    obtain rfl : l = [] := List.length_eq_zero_iff.1 hl.len
    exact seal_none w
  | some a => exact seal_some a n cap l w hl hn

/-- What Open answers, on lists. -/
def sealL (l : List Nat) : List Nat := l ++ little (inv (feedL 4294967295 l))

theorem little_len (s : Nat) : (little s).length = 4 := rfl
theorem sealL_len (l : List Nat) : (sealL l).length = l.length + 4 := by unfold sealL; rw [List.length_append, little_len]
theorem sealL_byte {l : List Nat} (h : ∀ x ∈ l, x < 256) : ∀ x ∈ sealL l, x < 256 := by
  intro x hx
  rcases List.mem_append.1 hx with hx | hx
  · exact h x hx
  · exact little_lt (by unfold inv; omega) x hx

/-- Two results: a slice and a bool. -/
def OpenEnd (w : World) (l : List Nat) (e : Ending) (w' : World) : Prop :=
  Below w.heap.size w w' ∧ ((∃ b, sealL b = l ∧ ∃ a n cap, e = .returned (.tuple #[.slice a n cap, .bool true]) ∧ Bytes w' a n cap b) ∨ ((∀ b, sealL b ≠ l) ∧ e = .returned (.tuple #[.slice none 0 0, .bool false])))

theorem take_seal {w : World} {a : Option Addr} {n cap m : Nat} {b : List Nat} (h : Bytes w a n cap (sealL b)) (hb : b.length = m) (hm : m ≤ cap) : Bytes w a m m b := by
  have e : (sealL b).take m = b := by unfold sealL; rw [← hb]; exact List.take_left
  have hn : n = m + 4 := by rw [← h.len, sealL_len, hb]
  have := h.takeTo (m := m) (c := m) (by omega) (Nat.le_refl _) hm
  rwa [e] at this

end Go.Proofs.Ytngnbmaocdadaaa

/- The walks of the reference's Seal and Open. -/
namespace Go.Proofs.Ytngnbmaocdadaaa
open Go.RowKit Crc

theorem rseal_any (a : Option Addr) (n cap : Nat) (l : List Nat) (w : World) (hl : Bytes w a n cap l) (hn : n ≤ 100000000000000) :
    Calls Try.prog 37 #[.slice a n cap] w (NewBytes w (sealL l)) := by
  have hbel : Below w.heap.size w (w.alloc (.cells #[] 5)) := (Below.refl _ _).alloc (Nat.le_refl _) _
  have hB := Lib.hid (hl.grow hbel)
  have HB0 := Lib.hid hl
  have hown : (w.alloc (.cells #[] 5)).ownsRow w.heap.size 5 1 (.slice (some ⟨w.heap.size, 0, none⟩) 0 0) 0 (u8s []) := World.ownsRow_made w #[] 0 (Nat.le_refl _) (Nat.zero_le _) rfl
  have Hown := Lib.hid hown
  have hs : inv (feedL 4294967295 l) < 4294967296 := by unfold inv; omega
  clear hl hown
  go_enter Try.func37, Try.ntmps37
  go_wp2_with (at_builtin; refine wpList_append_bytes _ rfl _ _ 22 rfl w.heap.size 5 Try.underlying22 info_u8 _ _ _ rfl Hown.out a n cap l rfl hB.out (by omega) hbel.size ?_; intro v' w1 g1 g2)
  have g1' : w1.ownsRow w.heap.size 5 1 v' n (u8s l) := by simpa using g1
  have hb1 : Below w.heap.size w w1 := hbel.grown g2 hbel.size (fun k hk => (Hown.out.lt k hk).1)

  clear g1 g2
  refine (rsum_any a n cap l w1 (HB0.out.grow hb1)).mono ?_
  rintro e w1 ⟨rfl, rfl⟩
  go_wp2_with fail
  refine (little_any _ w1 hs).mono ?_
  rintro e w2 ⟨v, rfl, hown2, hb2⟩
  obtain ⟨p, cp, rfl, hC⟩ := own_slice hown2 (little_lt hs)
  have HC := Lib.hid hC
  have g3 := Lib.hid (own_below g1' hb2)
  have hb2' := hb1.trans (hb2.mono hb1.size)
  clear hown2 hC g1'
  go_wp2_with (at_builtin; refine wpList_append_bytes _ rfl _ _ 22 rfl w.heap.size 5 Try.underlying22 info_u8 _ _ _ rfl g3.out p _ cp _ rfl HC.out (by rw [little_len]; omega) hb2'.size ?_; intro v2 w3 g4 g5)
  go_ret
  refine ⟨_, rfl, ?_, hb2'.grown g5 hb2'.size (fun k hk => (g3.out.lt k hk).1)⟩
  rw [sealL_len, HB0.out.len]
  exact g4

end Go.Proofs.Ytngnbmaocdadaaa

/- The walk of the reference's Cat: it returns the bytes of all parts, in order, in memory of its own. -/
namespace Go.Proofs.Ytngnbmaocdadaaa
open Go.RowKit Crc

theorem flat_len {ls : List (List Nat)} {k : Nat} : (ls.take k).flatten.length ≤ ls.flatten.length := by
  conv => rhs; rw [← List.take_append_drop k ls, List.flatten_append, List.length_append]
  omega

theorem bytes_get_all {w : World} {a : Option Addr} {n cap : Nat} {ls : List (List Nat)} (h : Parts w a n cap ls) {k : Nat} (hk : k < n) : ∃ b o a' n' c', a = some ⟨b, o, none⟩ ∧ w.cell? ⟨b, o + k, none⟩ = some (.slice a' n' c') ∧ Bytes w a' n' c' (ls.getD k []) := by
  obtain ⟨b, o, e, _, hc⟩ := h.cell (by omega)
  obtain ⟨a', n', c', g1, g2⟩ := hc k hk
  exact ⟨b, o, a', n', c', e, g1, g2⟩

def CatRel (w : World) (ls : List (List Nat)) (v i : Value) (wr : World) : Prop :=
  ∃ k : Nat, k ≤ ls.length ∧ i = .int .i64 k ∧ wr.ownsRow w.heap.size 5 1 v (ls.take k).flatten.length (u8s (ls.take k).flatten) ∧ Below w.heap.size w wr

theorem catRel_step {w wr w1 : World} {ls : List (List Nat)} {v v' : Value} {k n' : Nat} {l : List Nat} (hk : k < ls.length) (hl : ls.getD k [] = l) (hn : l.length = n')
    (hown : wr.ownsRow w.heap.size 5 1 v (ls.take k).flatten.length (u8s (ls.take k).flatten)) (hbel : Below w.heap.size w wr)
    (g1 : w1.ownsRow w.heap.size 5 1 v' ((ls.take k).flatten.length + n') (u8s ((ls.take k).flatten ++ l))) (g2 : wr.grownBy w1 v.ownBlock) : CatRel w ls v' (.int .i64 ((k : Int) + 1)) w1 := by
  subst hl
  subst hn
  refine ⟨k + 1, hk, by go_num, ?_, hbel.grown g2 hbel.size (fun x hx => (hown.lt x hx).1)⟩
  rw [flat_take hk, List.length_append]
  exact g1

def CatEnd (w : World) (ls : List (List Nat)) (e : Ending) (w' : World) : Prop :=
  ∃ v, e = .returned v ∧ w'.ownsRow w.heap.size 5 1 v ls.flatten.length (u8s ls.flatten) ∧ Below w.heap.size w w'

end Go.Proofs.Ytngnbmaocdadaaa

