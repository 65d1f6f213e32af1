import Derived.Test.YtmiepigieajpcaaGreatMB18
import Derived.Lib.SlBytesConst
import Derived.Test.YtmiepigieajpcaaGreatMB17
import Derived.Deep.RegionHeld
/- The walks of the code's Sum and More, of the statements' own helpers alive and few, and of the reference's Cat. -/
namespace Go.Proofs.YtmiepigieajpcaaGreat
open Go.RowKit Crc

theorem sum_any (a : Option Addr) (n cap : Nat) (ls : List (List Nat)) (w : World) (hl : Parts w a n cap ls) (hby : ∀ l ∈ ls, ∀ x ∈ l, x < 256) :
    Calls Tryz.prog 159 #[.slice a n cap] w fun e w' => e = .returned (.int .u32 (inv (feedP 4294967295 ls) : Nat)) ∧ Below w.heap.size w w' := by
  have hb := feedP_lt (r := 4294967295) (by omega) hby
  have H0 := feed_any 4294967295 a n cap ls w (by omega) hl
  rw [show (((4294967295 : Nat) : Int)) = 4294967295 from rfl] at H0
  have H := Lib.hid H0
  clear hl hby H0
  have e1 := inv_bits hb
  go_enter Tryz.func159, Tryz.ntmps159
  go_wp2_with ((with_reducible refine H.out.mono ?_); rintro e w1 ⟨rfl, hb1⟩)
  go_ret
  exact ⟨rfl, hb1⟩

/-- The sum that the statements' helper few makes. -/
def mins (ls : List (List Nat)) : Nat := (ls.map fun l => min l.length 2000).sum

theorem mins_take {ls : List (List Nat)} {k : Nat} (h : k < ls.length) : mins (ls.take (k + 1)) = mins (ls.take k) + min (ls.getD k []).length 2000 := by
  unfold mins
  rw [takeP_snoc h]; simp

theorem mins_flat {ls : List (List Nat)} (h : mins ls ≤ 1500) : ls.flatten.length ≤ 1500 := by
  have : ls.flatten.length = mins ls := by
    induction ls with
    | nil => rfl
    | cons l ls ih =>
      have e : mins (l :: ls) = min l.length 2000 + mins ls := by simp [mins]
      rw [e] at h ⊢
      rw [List.flatten_cons, List.length_append, ih (by omega)]
      omega
  omega

def FewEnd (ls : List (List Nat)) (e : Ending) : Prop := ∃ b, e = .returned (.bool b) ∧ (b = true → mins ls ≤ 1500 ∧ ls.length ≤ 60)

end Go.Proofs.YtmiepigieajpcaaGreat

/- The walks of Seal and Open, of the code and of the reference. -/
namespace Go.Proofs.YtmiepigieajpcaaGreat
open Go.RowKit Crc

def little (s : Nat) : List Nat := [s % 256, s / 256 % 256, s / 65536 % 256, s / 16777216]

theorem little_lt {s : Nat} (hs : s < 4294967296) : ∀ x ∈ little s, x < 256 := by
  intro x hx
  simp only [little, List.mem_cons, List.not_mem_nil, or_false] at hx
  omega

theorem u32_and255 (x : Nat) (h : x < 4294967296) : bits .and .u32 (x : Int) 255 = ((x % 256 : Nat) : Int) := by
  rw [← show x &&& 255 = x % 256 from Nat.and_two_pow_sub_one_eq_mod x 8]
  exact u32_and_nat x 255 h (by omega)

/-- The four cells of a number. -/
theorem cells4 {x0 x1 x2 x3 : Int} {s : Nat} (h0 : x0 = (s : Int) % 256) (h1 : x1 = (s : Int) / 256 % 256) (h2 : x2 = (s : Int) / 65536 % 256) (h3 : x3 = (s : Int) / 16777216) :
    (#[.int .u8 x0, .int .u8 x1, .int .u8 x2, .int .u8 x3] : Array Value) = (u8s (little s)).toArray := by
  subst h0 h1 h2 h3
  simp [u8s, little]

theorem little_any (s : Nat) (w : World) (hs : s < 4294967296) :
    Calls Tryz.prog 116 #[.int .u32 (s : Int)] w (NewBytes w (little s)) := by
  have e1 := u32_and255 s hs
  have e2 : bits .and .u32 ((s : Int) / 256) 255 = ((s / 256 % 256 : Nat) : Int) := u32_and255 (s / 256) (by omega)
  have e3 : bits .and .u32 ((s : Int) / 65536) 255 = ((s / 65536 % 256 : Nat) : Int) := u32_and255 (s / 65536) (by omega)
  have hc := Lib.hid (cells4 (s := s) rfl rfl rfl rfl)
  go_enter Tryz.func116, Tryz.ntmps116
  go_wp2
  go_ret
  rw [hc.out]
  exact ⟨_, rfl, new_row w _ (by simp [little]), (Below.refl _ _).alloc (Nat.le_refl _) _⟩

theorem seal_some (a : Addr) (n cap : Nat) (l : List Nat) (w : World) (hl : Bytes w (some a) n cap l) (hn : n ≤ 100000000000000) :
    Calls Tryz.prog 121 #[.slice (some a) n cap] w (NewBytes w (l ++ little (inv (feedL 4294967295 l)))) := by
  have hB := Lib.hid hl
  have hle := hl.le
  clear hl
  go_enter Tryz.func121, Tryz.ntmps121
  go_wp2_with fail
  refine (sum_any _ 1 1 [l] _ (parts_one hB.out _) (byte_one hB.out.byte)).mono ?_
  rintro e w1 ⟨rfl, hb1⟩
  have hb1 := below_call hb1
  rename_i hb10; clear hb10
  have hs : inv (feedP 4294967295 [l]) < 4294967296 := by unfold inv; omega
  generalize hse : inv (feedP 4294967295 [l]) = s at *
  have hse := Lib.hid hse
  rename_i hse0; clear hse0
  have hlit : Bytes (w1.alloc (.cells #[.int .u8 ((s : Int) % 256), .int .u8 ((s : Int) / 256 % 256), .int .u8 ((s : Int) / 65536 % 256), .int .u8 ((s : Int) / 16777216)] 5)) (some ⟨w1.heap.size, 0, none⟩) 4 4 (little s) := by
    rw [cells4 (s := s) rfl rfl rfl rfl]
    exact bytes_of_own (new_row w1 (little s) (by simp [little])) (little_lt hs)
  have hbel : Below w1.heap.size w1 (w1.alloc (.cells #[.int .u8 ((s : Int) % 256), .int .u8 ((s : Int) / 256 % 256), .int .u8 ((s : Int) / 65536 % 256), .int .u8 ((s : Int) / 16777216)] 5)) := (Below.refl _ _).alloc (Nat.le_refl _) _
  have hbel : Below w.heap.size w (w1.alloc (.cells #[.int .u8 ((s : Int) % 256), .int .u8 ((s : Int) / 256 % 256), .int .u8 ((s : Int) / 65536 % 256), .int .u8 ((s : Int) / 16777216)] 5)) := hb1.trans (hbel.mono hb1.size)
  have hB1 := hB.out.grow hbel
  have hB2 : Bytes _ (some a) n n l := ⟨hB1.len, Nat.le_refl _, hB1.max, hB1.byte, fun h => (by cases h), hB1.cell⟩
  have hB2 := Lib.hid hB2
  have hlit := Lib.hid hlit
  rename_i hlit0 _ _ ; clear hB1 hlit0
  go_wp2_with (at_builtin; refine wpList_append_capped _ rfl _ _ 58 rfl 5 Tryz.underlying58 info_u8 (some a) n l rfl hB2.out _ 4 4 (little s) rfl hlit.out (by omega) (by omega) ?_; intro v' w2 g1 g2)
  go_ret
  refine ⟨_, rfl, ?_, hbel.trans (g2.mono hbel.size)⟩
  have hse2 : inv (feedL 4294967295 l) = s := hse.out
  rw [hse2, List.length_append, hB.out.len]
  exact own_base g1 hbel.size

theorem seal_none (w : World) :
    Calls Tryz.prog 121 #[.slice none 0 0] w (NewBytes w ([] ++ little (inv (feedL 4294967295 [])))) := by
  have hB := Lib.hid (bytes_nil w)
  go_enter Tryz.func121, Tryz.ntmps121
  go_wp2_with fail
  refine (sum_any _ 1 1 [[]] _ (parts_one hB.out _) (byte_one hB.out.byte)).mono ?_
  rintro e w1 ⟨rfl, hb1⟩
  have hb1 := below_call hb1
  rename_i hb10; clear hb10
  have hs : inv (feedP 4294967295 [[]]) < 4294967296 := by unfold inv; omega
  generalize hse : inv (feedP 4294967295 [[]]) = s at *
  have hse := Lib.hid hse
  rename_i hse0; clear hse0
  have hlit : Bytes (w1.alloc (.cells #[.int .u8 ((s : Int) % 256), .int .u8 ((s : Int) / 256 % 256), .int .u8 ((s : Int) / 65536 % 256), .int .u8 ((s : Int) / 16777216)] 5)) (some ⟨w1.heap.size, 0, none⟩) 4 4 (little s) := by
    rw [cells4 (s := s) rfl rfl rfl rfl]
    exact bytes_of_own (new_row w1 (little s) (by simp [little])) (little_lt hs)
  have hbel : Below w1.heap.size w1 (w1.alloc (.cells #[.int .u8 ((s : Int) % 256), .int .u8 ((s : Int) / 256 % 256), .int .u8 ((s : Int) / 65536 % 256), .int .u8 ((s : Int) / 16777216)] 5)) := (Below.refl _ _).alloc (Nat.le_refl _) _
  have hbel : Below w.heap.size w (w1.alloc (.cells #[.int .u8 ((s : Int) % 256), .int .u8 ((s : Int) / 256 % 256), .int .u8 ((s : Int) / 65536 % 256), .int .u8 ((s : Int) / 16777216)] 5)) := hb1.trans (hbel.mono hb1.size)
  have hB1 := hB.out.grow hbel
  have hB2 : Bytes _ none 0 0 [] := hB1
  have hB2 := Lib.hid hB2
  have hlit := Lib.hid hlit
  rename_i hlit0 _ _ ; clear hB1 hlit0
  go_wp2_with (at_builtin; refine wpList_append_capped _ rfl _ _ 58 rfl 5 Tryz.underlying58 info_u8 none 0 [] rfl hB2.out _ 4 4 (little s) rfl hlit.out (by omega) (by omega) ?_; intro v' w2 g1 g2)
  go_ret
  refine ⟨_, rfl, ?_, hbel.trans (g2.mono hbel.size)⟩
  have hse2 : inv (feedL 4294967295 []) = s := hse.out
  rw [hse2]
  exact own_base g1 hbel.size

theorem seal_any (a : Option Addr) (n cap : Nat) (l : List Nat) (w : World) (hl : Bytes w a n cap l) (hn : n ≤ 100000000000000) :
    Calls Tryz.prog 121 #[.slice a n cap] w (NewBytes w (l ++ little (inv (feedL 4294967295 l)))) := by
  cases a with
  | none =>
    obtain rfl : cap = 0 := hl.nil rfl
    obtain rfl : n = 0 := by have := hl.le; omega
    obtain rfl : l = [] := List.length_eq_zero_iff.1 hl.len
    exact seal_none w
  | some a => exact seal_some a n cap l w hl hn

/-- What Open answers, on lists. -/
def sealL (l : List Nat) : List Nat := l ++ little (inv (feedL 4294967295 l))

theorem little_len (s : Nat) : (little s).length = 4 := rfl
theorem sealL_len (l : List Nat) : (sealL l).length = l.length + 4 := by unfold sealL; rw [List.length_append, little_len]
theorem sealL_byte {l : List Nat} (h : ∀ x ∈ l, x < 256) : ∀ x ∈ sealL l, x < 256 := by
  intro x hx
  rcases List.mem_append.1 hx with hx | hx
  · exact h x hx
  · exact little_lt (by unfold inv; omega) x hx

/-- Two results: a slice and a bool. -/
def OpenEnd (w : World) (l : List Nat) (e : Ending) (w' : World) : Prop :=
  Below w.heap.size w w' ∧ ((∃ b, sealL b = l ∧ ∃ a n cap, e = .returned (.tuple #[.slice a n cap, .bool true]) ∧ Bytes w' a n cap b) ∨ ((∀ b, sealL b ≠ l) ∧ e = .returned (.tuple #[.slice none 0 0, .bool false])))

theorem open_short (a : Option Addr) (n cap : Nat) (l : List Nat) (w : World) (hl : Bytes w a n cap l) (hn : n < 4) :
    Calls Tryz.prog 214 #[.slice a n cap] w (OpenEnd w l) := by
  have hB := Lib.hid hl
  clear hl
  go_enter Tryz.func214, Tryz.ntmps214
  go_wp2
  go_ret2
  exact ⟨Below.refl _ _, .inr ⟨fun b h => by have := sealL_len b; rw [h, hB.out.len] at this; omega, rfl⟩⟩

theorem take_seal {w : World} {a : Option Addr} {n cap m : Nat} {b : List Nat} (h : Bytes w a n cap (sealL b)) (hb : b.length = m) (hm : m ≤ cap) : Bytes w a m m b := by
  have e : (sealL b).take m = b := by unfold sealL; rw [← hb]; exact List.take_left
  have hn : n = m + 4 := by rw [← h.len, sealL_len, hb]
  have := h.takeTo (m := m) (c := m) (by omega) (Nat.le_refl _) hm
  rwa [e] at this

theorem open_long (a : Addr) (n cap : Nat) (l : List Nat) (w : World) (hl : Bytes w (some a) n cap l) (hn : 4 ≤ n) (hm : n ≤ 100000000000000) :
    Calls Tryz.prog 214 #[.slice (some a) n cap] w (OpenEnd w l) := by
  have hB := Lib.hid hl
  have hle := hl.le
  clear hl
  obtain ⟨m, rfl⟩ : ∃ m, n = m + 4 := ⟨n - 4, by omega⟩
  have hT : Bytes w (some a) m m (l.take m) := hB.out.takeTo (by omega) (Nat.le_refl _) (by omega)
  have hT := Lib.hid hT
  have hsl : (sealL (l.take m)).length = m + 4 := by rw [sealL_len, hT.out.len]
  have hsl := Lib.hid hsl
  rename_i hT0 hsl0; clear hT0 hsl0
  go_enter Tryz.func214, Tryz.ntmps214
  go_wp2_with fail
  refine (seal_any (some a) m m (l.take m) w hT.out (by omega)).mono ?_
  rintro e w1 ⟨v, rfl, hown, hb1⟩
  have hown : w1.ownsRow w.heap.size 5 1 v (sealL (l.take m)).length (u8s (sealL (l.take m))) := hown
  rw [hsl.out] at hown
  obtain ⟨p, cp, rfl, hC⟩ := own_slice hown (sealL_byte hT.out.byte)
  obtain ⟨pb, po, rfl, _⟩ := hC.cell (by omega)
  have hcp := hC.le
  have hC := Lib.hid hC
  rename_i hown0 hC0 _; clear hown0 hC0 hown
  by_cases heq : sealL (l.take m) = l
  · have heq := Lib.hid heq
    rename_i heq0; clear heq0
    go_wp2_with fail
    refine (bytesEqual_yes _ _ _ _ _ _ l w1 (heq.out ▸ hC.out) (hB.out.grow hb1)).mono ?_
    rintro e w1 ⟨rfl, rfl⟩
    go_wp2
    go_ret2
    exact ⟨hb1, .inl ⟨l.take m, heq.out, _, _, _, rfl, take_seal hC.out hT.out.len (by omega)⟩⟩
  · go_wp2_with fail
    refine (bytesEqual_no _ _ _ _ _ _ _ l w1 hC.out (hB.out.grow hb1) heq).mono ?_
    rintro e w1 ⟨rfl, rfl⟩
    have Hne := Lib.hid heq
    clear heq
    go_wp2
    go_ret2
    refine ⟨hb1, .inr ⟨fun b hb => Hne.out ?_, rfl⟩⟩
    have e : l.take m = b := by
      have hlb : b.length = m := by have := sealL_len b; rw [hb, hB.out.len] at this; omega
      rw [← hb, ← hlb]
      exact List.take_left
    rw [e, hb]

theorem open_any (a : Option Addr) (n cap : Nat) (l : List Nat) (w : World) (hl : Bytes w a n cap l) (hm : n ≤ 100000000000000) :
    Calls Tryz.prog 214 #[.slice a n cap] w (OpenEnd w l) := by
  by_cases hn : n < 4
  · exact open_short a n cap l w hl hn
  · obtain ⟨b, o, rfl, _⟩ := hl.cell (by omega)
    exact open_long _ n cap l w hl (by omega) hm
end Go.Proofs.YtmiepigieajpcaaGreat

/- The walks of the reference's Seal and Open. -/
namespace Go.Proofs.YtmiepigieajpcaaGreat
open Go.RowKit Crc

theorem rseal_any (a : Option Addr) (n cap : Nat) (l : List Nat) (w : World) (hl : Bytes w a n cap l) (hn : n ≤ 100000000000000) :
    Calls Tryz.prog 115 #[.slice a n cap] w (NewBytes w (sealL l)) := by
  have hbel : Below w.heap.size w (w.alloc (.cells #[] 5)) := (Below.refl _ _).alloc (Nat.le_refl _) _
  have hB := Lib.hid (hl.grow hbel)
  have HB0 := Lib.hid hl
  have hown : (w.alloc (.cells #[] 5)).ownsRow w.heap.size 5 1 (.slice (some ⟨w.heap.size, 0, none⟩) 0 0) 0 (u8s []) := World.ownsRow_made w #[] 0 (Nat.le_refl _) (Nat.zero_le _) rfl
  have Hown := Lib.hid hown
  have hs : inv (feedL 4294967295 l) < 4294967296 := by unfold inv; omega
  clear hl hown
  go_enter Tryz.func115, Tryz.ntmps115
  go_wp2_with (at_builtin; refine wpList_append_bytes _ rfl _ _ 58 rfl w.heap.size 5 Tryz.underlying58 info_u8 _ _ _ rfl Hown.out a n cap l rfl hB.out (by omega) hbel.size ?_; intro v' w1 g1 g2)
  have g1' : w1.ownsRow w.heap.size 5 1 v' n (u8s l) := by simpa using g1
  have hb1 : Below w.heap.size w w1 := hbel.grown g2 hbel.size (fun k hk => (Hown.out.lt k hk).1)

  clear g1 g2
  refine (rsum_any a n cap l w1 (HB0.out.grow hb1)).mono ?_
  rintro e w1 ⟨rfl, rfl⟩
  go_wp2_with fail
  refine (little_any _ w1 hs).mono ?_
  rintro e w2 ⟨v, rfl, hown2, hb2⟩
  obtain ⟨p, cp, rfl, hC⟩ := own_slice hown2 (little_lt hs)
  have HC := Lib.hid hC
  have g3 := Lib.hid (own_below g1' hb2)
  have hb2' := hb1.trans (hb2.mono hb1.size)
  clear hown2 hC g1'
  go_wp2_with (at_builtin; refine wpList_append_bytes _ rfl _ _ 58 rfl w.heap.size 5 Tryz.underlying58 info_u8 _ _ _ rfl g3.out p _ cp _ rfl HC.out (by rw [little_len]; omega) hb2'.size ?_; intro v2 w3 g4 g5)
  go_ret
  refine ⟨_, rfl, ?_, hb2'.grown g5 hb2'.size (fun k hk => (g3.out.lt k hk).1)⟩
  rw [sealL_len, HB0.out.len]
  exact g4

theorem ropen_short (a : Option Addr) (n cap : Nat) (l : List Nat) (w : World) (hl : Bytes w a n cap l) (hn : n < 4) :
    Calls Tryz.prog 149 #[.slice a n cap] w (OpenEnd w l) := by
  have hB := Lib.hid hl
  clear hl
  have hd : decide ((n : Int) - 4 < 0) = true := decide_eq_true (by omega)
  go_enter Tryz.func149, Tryz.ntmps149
  go_wp2
  go_quiet (fail)
  go_wp2
  go_ret2
  exact ⟨below_drewN (Below.refl _ _) _, .inr ⟨fun b h => by have := sealL_len b; rw [h, hB.out.len] at this; omega, rfl⟩⟩

set_option maxRecDepth 100000 in
set_option maxHeartbeats 1600000 in
theorem ropen_long (b o m cap : Nat) (l : List Nat) (w : World) (hl : Bytes w (some ⟨b, o, none⟩) (m + 4) cap l) (hm : m ≤ 100000000000000) :
    Calls Tryz.prog 149 #[.slice (some ⟨b, o, none⟩) (m + 4) cap] w (OpenEnd w l) := by
  have HB := Lib.hid hl
  have hle := hl.le
  have HT := Lib.hid (hl.takeTo (m := m) (c := cap) (by omega) (by omega) (Nat.le_refl _))
  have HD := hl.dropTo (m := m) (by omega)
  rw [show m + 4 - m = 4 by omega] at HD
  have HD := Lib.hid HD
  rename_i HD0; clear hl HD0
  have hd : decide ((m : Int) < 0) = false := decide_eq_false (by omega)
  have hbd : Below w.heap.size w w.drew := (Below.refl _ _).drew
  have HTd := Lib.hid (HT.out.grow hbd)
  have HDd := Lib.hid (HD.out.grow hbd)
  have hs : inv (feedL 4294967295 (l.take m)) < 4294967296 := by unfold inv; omega
  have HR := Lib.hid (rsum_any (some ⟨b, o, none⟩) m cap (l.take m) w.drew HTd.out)
  have HL := Lib.hid (little_any (inv (feedL 4294967295 (l.take m))) w.drew hs)
  have hsl : sealL (l.take m) = l.take m ++ little (inv (feedL 4294967295 (l.take m))) := rfl
  generalize inv (feedL 4294967295 (l.take m)) = s at *
  have Hsl := Lib.hid hsl
  clear hsl
  have hS0 := convert_bytes (P := Tryz.prog) HDd.out 58 5 9 Tryz.underlying58 Tryz.underlying5 Tryz.underlying9
  have hcm : ¬ (cap = m) := by omega
  have hi1 : (m : Int) ≤ (cap : Int) := by omega
  have hi2 : (0 : Int) ≤ (m : Int) := by omega
  have hi3 : (m : Int) ≤ (m : Int) + 4 := by omega
  have hi4 : (m : Int) + 4 ≤ (cap : Int) := by omega
  by_cases hq : little s = l.drop m
  · have hqb : ((str (little s)).toList == (str (l.drop m)).toList) = true := by rw [hq]; exact str_eq _
    have Hq := Lib.hid hq
    clear hq
    go_enter Tryz.func149, Tryz.ntmps149
    go_wp2
    go_region_held (fun w' => (convert 58 9 (.slice (some ⟨b, o + m, none⟩) 4 (cap - m))).run Tryz.prog w' = .ok (.string (str (l.drop m))) w')
      (first | exact hS0 | exact hS1)
      (first
        | (go_at_call 158; (with_reducible refine HR.out.mono ?_); rintro e w0 ⟨rfl, rfl⟩)
        | (go_at_call 116; (with_reducible refine HL.out.mono ?_); rintro e w1 ⟨v, rfl, hown, hb1⟩; obtain ⟨p, cp, rfl, hC⟩ := own_slice hown (little_lt hs); have hS1 := convert_bytes (P := Tryz.prog) (HDd.out.grow hb1) 58 5 9 Tryz.underlying58 Tryz.underlying5 Tryz.underlying9; have hS2 := convert_bytes (P := Tryz.prog) hC 58 5 9 Tryz.underlying58 Tryz.underlying5 Tryz.underlying9; clear hown hC))
    all_goals go_wp2
    all_goals go_ret2
    all_goals exact ⟨hbd.trans hb1, .inl ⟨l.take m, by rw [Hsl.out, Hq.out, List.take_append_drop], _, _, _, rfl, HTd.out.grow hb1⟩⟩
  · have hqb : ((str (little s)).toList == (str (l.drop m)).toList) = false := str_ne (little_lt hs) HD.out.byte hq
    have Hq := Lib.hid hq
    clear hq
    go_enter Tryz.func149, Tryz.ntmps149
    go_wp2
    go_region_held (fun w' => (convert 58 9 (.slice (some ⟨b, o + m, none⟩) 4 (cap - m))).run Tryz.prog w' = .ok (.string (str (l.drop m))) w')
      (first | exact hS0 | exact hS1)
      (first
        | (go_at_call 158; (with_reducible refine HR.out.mono ?_); rintro e w0 ⟨rfl, rfl⟩)
        | (go_at_call 116; (with_reducible refine HL.out.mono ?_); rintro e w1 ⟨v, rfl, hown, hb1⟩; obtain ⟨p, cp, rfl, hC⟩ := own_slice hown (little_lt hs); have hS1 := convert_bytes (P := Tryz.prog) (HDd.out.grow hb1) 58 5 9 Tryz.underlying58 Tryz.underlying5 Tryz.underlying9; have hS2 := convert_bytes (P := Tryz.prog) hC 58 5 9 Tryz.underlying58 Tryz.underlying5 Tryz.underlying9; clear hown hC))
    all_goals go_wp2
    all_goals go_ret2
    all_goals refine ⟨hbd.trans hb1, .inr ⟨fun x hx => Hq.out ?_, rfl⟩⟩
    all_goals
      have hlx : x.length = m := by have := sealL_len x; rw [hx, HB.out.len] at this; omega
      have e1 : l.take m = x := by rw [← hx, ← hlx]; exact List.take_left
      have e2 : l = l.take m ++ little s := by rw [← Hsl.out, e1, hx]
      have e3 : l.drop m = little s := by
        conv => lhs; rw [e2]
        rw [List.drop_append_of_le_length (by rw [List.length_take, HB.out.len]; omega), List.drop_eq_nil_of_le (by rw [List.length_take]; omega)]; rfl
      exact e3.symm

theorem ropen_any (a : Option Addr) (n cap : Nat) (l : List Nat) (w : World) (hl : Bytes w a n cap l) (hm : n ≤ 100000000000000) :
    Calls Tryz.prog 149 #[.slice a n cap] w (OpenEnd w l) := by
  by_cases hn : n < 4
  · exact ropen_short a n cap l w hl hn
  · obtain ⟨b, o, rfl, _⟩ := hl.cell (by omega)
    obtain ⟨m, rfl⟩ : ∃ m, n = m + 4 := ⟨n - 4, by omega⟩
    exact ropen_long b o m cap l w hl (by omega)
end Go.Proofs.YtmiepigieajpcaaGreat

