import Derived.Test.YtnbddiiedagllaaGreatSSB12
import Derived.Deep.WholeRow
import Derived.Lib.SlBytesConst
import Derived.Test.YtnbddiiedagllaaGreatSSB3
import Derived.Test.YtnbddiiedagllaaGreatSSB1
import Derived.Deep.RegionHeld
/- The walks of the code's feed, Sum and More: each returns what the plain register says. -/
namespace Go.Proofs.YtnbddiiedagllaaGreat
open Go.RowKit Crc

theorem tab_cell {W : World} {T m : Nat} {t : TypeId} (h : W.heap[T]? = some (.cells tabV t (0, 0))) (hm : m < 16) : W.cell? ⟨T, m, none⟩ = some (.int .u32 (steps 4 m : Nat)) := by
 rw [cell_of_row W T m tabV t (0, 0) h, tabV_get hm]

theorem round_facts {fr c : Nat} (hr : fr < 4294967296) (hc : c < 256) : ∃ y m z m' : Nat, m < 16 ∧ m' < 16 ∧ feedB fr c < 4294967296 ∧
  bits .xor .u32 (fr : Int) (c : Int) = (y : Int) ∧ bits .and .u32 (y : Int) 15 = (m : Int) ∧ bits .xor .u32 ((y : Int) / 16) (steps 4 m : Nat) = (z : Int) ∧
  bits .and .u32 (z : Int) 15 = (m' : Int) ∧ bits .xor .u32 ((z : Int) / 16) (steps 4 m' : Nat) = ((feedB fr c : Nat) : Int) := by
 have hy := Crc.xor_lt hr (show c < 4294967296 by omega)
 have hm : (fr ^^^ c) &&& 15 < 16 := by rw [Crc.and15]; omega
 have h4 : ∀ m, m < 16 → steps 4 m < 4294967296 := fun m h => steps_lt (by omega)
 have hz := Crc.xor_lt (show (fr ^^^ c) / 16 < 4294967296 by omega) (h4 _ hm)
 have hm' : ((fr ^^^ c) / 16 ^^^ steps 4 ((fr ^^^ c) &&& 15)) &&& 15 < 16 := by rw [Crc.and15]; omega
 refine ⟨fr ^^^ c, (fr ^^^ c) &&& 15, (fr ^^^ c) / 16 ^^^ steps 4 ((fr ^^^ c) &&& 15), ((fr ^^^ c) / 16 ^^^ steps 4 ((fr ^^^ c) &&& 15)) &&& 15, hm, hm', feedB_lt hr hc,
  u32_xor_nat _ _ hr (by omega), u32_and_nat _ 15 hy (by omega), u32_xor_nat (_ / 16) _ (by omega) (h4 _ hm), u32_and_nat _ 15 hz (by omega), ?_⟩
 rw [← feed_by_table]
 exact u32_xor_nat (_ / 16) _ (by omega) (h4 _ hm')

set_option maxHeartbeats 800000 in
theorem feed_any (r : Nat) (a : Option Addr) (n cap : Nat) (ls : List (List Nat)) (w : World) (hr : r < 4294967296) (hl : Parts w a n cap ls) :
  Calls Tryz.prog 182 #[.int .u32 (r : Int), .slice a n cap] w fun e w' => e = .returned (.int .u32 (feedP r ls : Nat)) ∧ Below w.heap.size w w' := by
 have hl := Lib.hid hl
 rename_i hl0; clear hl0
 go_enter Tryz.func182, Tryz.ntmps182
 go_wp2_with (first
  | ((with_reducible refine (newTable_any _).mono ?_); rintro e w1 ⟨rfl, hb1⟩)
  | (refine wpList_store_row rfl 241 _ _ rfl _ tabV rfl rfl 241 _ (heap_alloc_new _ _) info47 (by rw [tabV_size]; rfl) tabV_one ?_; rw [World.setRow_alloc_new]))
 have hsz : w.heap.size ≤ w1.heap.size := hb1.size
 have hb2 : Below w.heap.size w (w1.alloc (.cells tabV 241)) := hb1.alloc hsz _
 have htab : (w1.alloc (.cells tabV 241)).heap[w1.heap.size]? = some (.cells tabV 241 (0, 0)) := heap_alloc_new _ _
 generalize w1.alloc (.cells tabV 241) = W at *
 generalize w1.heap.size = T at *
 have hP := Lib.hid (hl.out.grow hb2)
 clear hb1 hl hsz
 have hnb := hP.out.max
 have hls := Lib.hid hP.out.len
 have hcells := Lib.hid hP.out.cell
 have htab := Lib.hid htab
 rename_i htab0; clear htab0
 go_loop [0, 13] (fun x i => ∃ k : Nat, k ≤ n ∧ i = .int .i64 k ∧ x = .int .u32 (feedP r (ls.take k) : Nat) ∧ feedP r (ls.take k) < 4294967296) (fun _ i => n - (intOf i).toNat)
 case atStart => exact ⟨0, Nat.zero_le _, rfl, rfl, hr⟩
 case round =>
  obtain ⟨k, hk, rfl, rfl, hxb⟩ := hrel
  by_cases hlt : k < n
  ·obtain ⟨b, o, rfl, hbl, hc0⟩ := hcells.out (by omega)
   obtain ⟨a', n', c', hc, hB⟩ := hc0 k hlt
   have hs := Lib.hid (Crc.feedP_take (ls := ls) r (show k < ls.length by rw [hls.out]; exact hlt))
   clear hc0
   generalize ls.getD k [] = l at hs hB
   generalize feedP r (ls.take k) = x at *
   rename_i hs0; clear hs0
   have g3 := hB.max
   obtain ⟨g1, g2, g7, g4, g6, g5⟩ := hB
   have g1 := Lib.hid g1
   have g4 := Lib.hid g4
   have g5 := Lib.hid g5
   have g6 := Lib.hid g6
   have g7 := Lib.hid g7
   rename_i g70 g60 g50 g40 g10; clear g70 g60 g50 g40 g10
   go_wp2
   go_loop [0, 19] (fun y i => ∃ j : Nat, j ≤ n' ∧ i = .int .i64 j ∧ y = .int .u32 (feedL x (l.take j) : Nat) ∧ feedL x (l.take j) < 4294967296) (fun _ i => n' - (intOf i).toNat)
   case atStart => exact ⟨0, Nat.zero_le _, rfl, rfl, hxb⟩
   case round =>
    obtain ⟨j, hj, rfl, rfl, hyb⟩ := hrel
    by_cases hjlt : j < n'
    ·obtain ⟨b', o', rfl, hd0⟩ := g5.out (by omega)
     have hd := hd0 j hjlt
     have hs2 := Crc.feedL_take (l := l) x (show j < l.length by rw [g1.out]; exact hjlt)
     have hcb : l.getD j 0 < 256 := Bytes.get ⟨g1.out, g2, g7.out, g4.out, g6.out, fun _ => ⟨b', o', rfl, hd0⟩⟩ hjlt
     clear hd0
     generalize l.getD j 0 = c at *
     generalize feedL x (l.take j) = fr at *

     obtain ⟨y, m, z, m', hm, hm', hfb, e0, e1, e2, e3, e4⟩ := round_facts hyb hcb
     have t1 := tab_cell htab.out hm
     have t2 := tab_cell htab.out hm'
     rw [← hs2] at hfb e4
     clear hs2
     have hm4 : (m : Int) < 16 := by omega
     have hm4' : (m' : Int) < 16 := by omega
     generalize steps 4 m = v at *
     generalize steps 4 m' = v' at *
     go_wp2
     go_round
     case rel => exact ⟨j + 1, by omega, by go_num, rfl, hfb⟩
     case measure => simp [intOf]; omega
    ·obtain rfl : j = n' := by omega
     have ht : l.take j = l := by rw [← g1.out, List.take_length]
     rw [ht] at hyb
     rw [ht]
     rw [← hs.out] at hyb
     go_wp2
     go_round
     case rel => exact ⟨k + 1, by omega, by go_num, u32_eq hs.out.symm, hyb⟩
     case measure => simp [intOf]; omega
  ·obtain rfl : k = n := by omega
   go_wp2
   go_ret
   exact ⟨ret_u32 (by rw [← hls.out, List.take_length]), hb2⟩
end Go.Proofs.YtnbddiiedagllaaGreat

/- The walks of the code's Sum and More, of the statements' own helpers alive and few, and of the reference's Cat. -/
namespace Go.Proofs.YtnbddiiedagllaaGreat
open Go.RowKit Crc

theorem sum_any (a : Option Addr) (n cap : Nat) (ls : List (List Nat)) (w : World) (hl : Parts w a n cap ls) (hby : ∀ l ∈ ls, ∀ x ∈ l, x < 256) :
  Calls Tryz.prog 159 #[.slice a n cap] w fun e w' => e = .returned (.int .u32 (inv (feedP 4294967295 ls) : Nat)) ∧ Below w.heap.size w w' := by
 have hb := feedP_lt (r := 4294967295) (by omega) hby
 have H0 := feed_any 4294967295 a n cap ls w (by omega) hl
 rw [show (((4294967295 : Nat) : Int)) = 4294967295 from rfl] at H0
 have H := Lib.hid H0
 clear hl hby H0
 have e1 := inv_bits hb
 go_enter Tryz.func159, Tryz.ntmps159
 go_wp2_with ((with_reducible refine H.out.mono ?_); rintro e w1 ⟨rfl, hb1⟩)
 go_ret
 exact ⟨rfl, hb1⟩

end Go.Proofs.YtnbddiiedagllaaGreat

/- The walks of Seal and Open, of the code and of the reference. -/
namespace Go.Proofs.YtnbddiiedagllaaGreat
open Go.RowKit Crc

def little (s : Nat) : List Nat := [s % 256, s / 256 % 256, s / 65536 % 256, s / 16777216]

theorem little_lt {s : Nat} (hs : s < 4294967296) : ∀ x ∈ little s, x < 256 := by
 intro x hx
 simp only [little, List.mem_cons, List.not_mem_nil, or_false] at hx
 omega

theorem u32_and255 (x : Nat) (h : x < 4294967296) : bits .and .u32 (x : Int) 255 = ((x % 256 : Nat) : Int) := by
 rw [← show x &&& 255 = x % 256 from Nat.and_two_pow_sub_one_eq_mod x 8]
 exact u32_and_nat x 255 h (by omega)

theorem cells4 {x0 x1 x2 x3 : Int} {s : Nat} (h0 : x0 = (s : Int) % 256) (h1 : x1 = (s : Int) / 256 % 256) (h2 : x2 = (s : Int) / 65536 % 256) (h3 : x3 = (s : Int) / 16777216) :
  (#[.int .u8 x0, .int .u8 x1, .int .u8 x2, .int .u8 x3] : Array Value) = (u8s (little s)).toArray := by
 subst h0 h1 h2 h3
 simp [u8s, little]

theorem little_any (s : Nat) (w : World) (hs : s < 4294967296) :
  Calls Tryz.prog 116 #[.int .u32 (s : Int)] w (NewBytes w (little s)) := by
 have e1 := u32_and255 s hs
 have e2 : bits .and .u32 ((s : Int) / 256) 255 = ((s / 256 % 256 : Nat) : Int) := u32_and255 (s / 256) (by omega)
 have e3 : bits .and .u32 ((s : Int) / 65536) 255 = ((s / 65536 % 256 : Nat) : Int) := u32_and255 (s / 65536) (by omega)
 have hc := Lib.hid (cells4 (s := s) rfl rfl rfl rfl)
 go_enter Tryz.func116, Tryz.ntmps116
 go_wp2
 go_ret
 rw [hc.out]
 exact ⟨_, rfl, new_row w _ (by simp [little]), (Below.refl _ _).alloc (Nat.le_refl _) _⟩

theorem seal_some (a : Addr) (n cap : Nat) (l : List Nat) (w : World) (hl : Bytes w (some a) n cap l) (hn : n ≤ 100000000000000) :
  Calls Tryz.prog 121 #[.slice (some a) n cap] w (NewBytes w (l ++ little (inv (feedL 4294967295 l)))) := by
 have hB := Lib.hid hl
 have hle := hl.le
 clear hl
 go_enter Tryz.func121, Tryz.ntmps121
 go_wp2_with fail
 refine (sum_any _ 1 1 [l] _ (parts_one hB.out _) (byte_one hB.out.byte)).mono ?_
 rintro e w1 ⟨rfl, hb1⟩
 have hb1 := below_call hb1
 rename_i hb10; clear hb10
 have hs : inv (feedP 4294967295 [l]) < 4294967296 := by unfold inv; omega
 generalize hse : inv (feedP 4294967295 [l]) = s at *
 have hse := Lib.hid hse
 rename_i hse0; clear hse0
 have hlit : Bytes (w1.alloc (.cells #[.int .u8 ((s : Int) % 256), .int .u8 ((s : Int) / 256 % 256), .int .u8 ((s : Int) / 65536 % 256), .int .u8 ((s : Int) / 16777216)] 5)) (some ⟨w1.heap.size, 0, none⟩) 4 4 (little s) := by
  rw [cells4 (s := s) rfl rfl rfl rfl]
  exact bytes_of_own (new_row w1 (little s) (by simp [little])) (little_lt hs)
 have hbel : Below w1.heap.size w1 (w1.alloc (.cells #[.int .u8 ((s : Int) % 256), .int .u8 ((s : Int) / 256 % 256), .int .u8 ((s : Int) / 65536 % 256), .int .u8 ((s : Int) / 16777216)] 5)) := (Below.refl _ _).alloc (Nat.le_refl _) _
 have hbel : Below w.heap.size w (w1.alloc (.cells #[.int .u8 ((s : Int) % 256), .int .u8 ((s : Int) / 256 % 256), .int .u8 ((s : Int) / 65536 % 256), .int .u8 ((s : Int) / 16777216)] 5)) := hb1.trans (hbel.mono hb1.size)
 have hB1 := hB.out.grow hbel
 have hB2 : Bytes _ (some a) n n l := ⟨hB1.len, Nat.le_refl _, hB1.max, hB1.byte, fun h => (by cases h), hB1.cell⟩
 have hB2 := Lib.hid hB2
 have hlit := Lib.hid hlit
 rename_i hlit0 _ _ ; clear hB1 hlit0
 go_wp2_with (at_builtin; refine wpList_append_capped _ rfl _ _ 58 rfl 5 Tryz.underlying58 info_u8 (some a) n l rfl hB2.out _ 4 4 (little s) rfl hlit.out (by omega) (by omega) ?_; intro v' w2 g1 g2)
 go_ret
 refine ⟨_, rfl, ?_, hbel.trans (g2.mono hbel.size)⟩
 have hse2 : inv (feedL 4294967295 l) = s := hse.out
 rw [hse2, List.length_append, hB.out.len]
 exact own_base g1 hbel.size

theorem seal_none (w : World) :
  Calls Tryz.prog 121 #[.slice none 0 0] w (NewBytes w ([] ++ little (inv (feedL 4294967295 [])))) := by
 have hB := Lib.hid (bytes_nil w)
 go_enter Tryz.func121, Tryz.ntmps121
 go_wp2_with fail
 refine (sum_any _ 1 1 [[]] _ (parts_one hB.out _) (byte_one hB.out.byte)).mono ?_
 rintro e w1 ⟨rfl, hb1⟩
 have hb1 := below_call hb1
 rename_i hb10; clear hb10
 have hs : inv (feedP 4294967295 [[]]) < 4294967296 := by unfold inv; omega
 generalize hse : inv (feedP 4294967295 [[]]) = s at *
 have hse := Lib.hid hse
 rename_i hse0; clear hse0
 have hlit : Bytes (w1.alloc (.cells #[.int .u8 ((s : Int) % 256), .int .u8 ((s : Int) / 256 % 256), .int .u8 ((s : Int) / 65536 % 256), .int .u8 ((s : Int) / 16777216)] 5)) (some ⟨w1.heap.size, 0, none⟩) 4 4 (little s) := by
  rw [cells4 (s := s) rfl rfl rfl rfl]
  exact bytes_of_own (new_row w1 (little s) (by simp [little])) (little_lt hs)
 have hbel : Below w1.heap.size w1 (w1.alloc (.cells #[.int .u8 ((s : Int) % 256), .int .u8 ((s : Int) / 256 % 256), .int .u8 ((s : Int) / 65536 % 256), .int .u8 ((s : Int) / 16777216)] 5)) := (Below.refl _ _).alloc (Nat.le_refl _) _
 have hbel : Below w.heap.size w (w1.alloc (.cells #[.int .u8 ((s : Int) % 256), .int .u8 ((s : Int) / 256 % 256), .int .u8 ((s : Int) / 65536 % 256), .int .u8 ((s : Int) / 16777216)] 5)) := hb1.trans (hbel.mono hb1.size)
 have hB1 := hB.out.grow hbel
 have hB2 : Bytes _ none 0 0 [] := hB1
 have hB2 := Lib.hid hB2
 have hlit := Lib.hid hlit
 rename_i hlit0 _ _ ; clear hB1 hlit0
 go_wp2_with (at_builtin; refine wpList_append_capped _ rfl _ _ 58 rfl 5 Tryz.underlying58 info_u8 none 0 [] rfl hB2.out _ 4 4 (little s) rfl hlit.out (by omega) (by omega) ?_; intro v' w2 g1 g2)
 go_ret
 refine ⟨_, rfl, ?_, hbel.trans (g2.mono hbel.size)⟩
 have hse2 : inv (feedL 4294967295 []) = s := hse.out
 rw [hse2]
 exact own_base g1 hbel.size

theorem seal_any (a : Option Addr) (n cap : Nat) (l : List Nat) (w : World) (hl : Bytes w a n cap l) (hn : n ≤ 100000000000000) :
  Calls Tryz.prog 121 #[.slice a n cap] w (NewBytes w (l ++ little (inv (feedL 4294967295 l)))) := by
 cases a with
 | none =>
  obtain rfl : cap = 0 := hl.nil rfl
  obtain rfl : n = 0 := by have := hl.le; omega
  obtain rfl : l = [] := List.length_eq_zero_iff.1 hl.len
  exact seal_none w
 | some a => exact seal_some a n cap l w hl hn

def sealL (l : List Nat) : List Nat := l ++ little (inv (feedL 4294967295 l))

theorem little_len (s : Nat) : (little s).length = 4 := rfl
theorem sealL_len (l : List Nat) : (sealL l).length = l.length + 4 := by unfold sealL; rw [List.length_append, little_len]
theorem sealL_byte {l : List Nat} (h : ∀ x ∈ l, x < 256) : ∀ x ∈ sealL l, x < 256 := by
 intro x hx
 rcases List.mem_append.1 hx with hx | hx
 ·exact h x hx
 ·exact little_lt (by unfold inv; omega) x hx

theorem take_seal {w : World} {a : Option Addr} {n cap m : Nat} {b : List Nat} (h : Bytes w a n cap (sealL b)) (hb : b.length = m) (hm : m ≤ cap) : Bytes w a m m b := by
 have e : (sealL b).take m = b := by unfold sealL; rw [← hb]; exact List.take_left
 have hn : n = m + 4 := by rw [← h.len, sealL_len, hb]
 have := h.takeTo (m := m) (c := m) (by omega) (Nat.le_refl _) hm
 rwa [e] at this

end Go.Proofs.YtnbddiiedagllaaGreat

/- The walks of the reference's Seal and Open. -/
namespace Go.Proofs.YtnbddiiedagllaaGreat
open Go.RowKit Crc

theorem rseal_any (a : Option Addr) (n cap : Nat) (l : List Nat) (w : World) (hl : Bytes w a n cap l) (hn : n ≤ 100000000000000) :
  Calls Tryz.prog 115 #[.slice a n cap] w (NewBytes w (sealL l)) := by
 have hbel : Below w.heap.size w (w.alloc (.cells #[] 5)) := (Below.refl _ _).alloc (Nat.le_refl _) _
 have hB := Lib.hid (hl.grow hbel)
 have HB0 := Lib.hid hl
 have hown : (w.alloc (.cells #[] 5)).ownsRow w.heap.size 5 1 (.slice (some ⟨w.heap.size, 0, none⟩) 0 0) 0 (u8s []) := World.ownsRow_made w #[] 0 (Nat.le_refl _) (Nat.zero_le _) rfl
 have Hown := Lib.hid hown
 have hs : inv (feedL 4294967295 l) < 4294967296 := by unfold inv; omega
 clear hl hown
 go_enter Tryz.func115, Tryz.ntmps115
 go_wp2_with (at_builtin; refine wpList_append_bytes _ rfl _ _ 58 rfl w.heap.size 5 Tryz.underlying58 info_u8 _ _ _ rfl Hown.out a n cap l rfl hB.out (by omega) hbel.size ?_; intro v' w1 g1 g2)
 have g1' : w1.ownsRow w.heap.size 5 1 v' n (u8s l) := by simpa using g1
 have hb1 : Below w.heap.size w w1 := hbel.grown g2 hbel.size (fun k hk => (Hown.out.lt k hk).1)

 clear g1 g2
 refine (rsum_any a n cap l w1 (HB0.out.grow hb1)).mono ?_
 rintro e w1 ⟨rfl, rfl⟩
 go_wp2_with fail
 refine (little_any _ w1 hs).mono ?_
 rintro e w2 ⟨v, rfl, hown2, hb2⟩
 obtain ⟨p, cp, rfl, hC⟩ := own_slice hown2 (little_lt hs)
 have HC := Lib.hid hC
 have g3 := Lib.hid (own_below g1' hb2)
 have hb2' := hb1.trans (hb2.mono hb1.size)
 clear hown2 hC g1'
 go_wp2_with (at_builtin; refine wpList_append_bytes _ rfl _ _ 58 rfl w.heap.size 5 Tryz.underlying58 info_u8 _ _ _ rfl g3.out p _ cp _ rfl HC.out (by rw [little_len]; omega) hb2'.size ?_; intro v2 w3 g4 g5)
 go_ret
 refine ⟨_, rfl, ?_, hb2'.grown g5 hb2'.size (fun k hk => (g3.out.lt k hk).1)⟩
 rw [sealL_len, HB0.out.len]
 exact g4

end Go.Proofs.YtnbddiiedagllaaGreat

/- The walk of the reference's Cat: it returns the bytes of all parts, in order, in memory of its own. -/
namespace Go.Proofs.YtnbddiiedagllaaGreat
open Go.RowKit Crc

theorem bytes_get_all {w : World} {a : Option Addr} {n cap : Nat} {ls : List (List Nat)} (h : Parts w a n cap ls) {k : Nat} (hk : k < n) : ∃ b o a' n' c', a = some ⟨b, o, none⟩ ∧ w.cell? ⟨b, o + k, none⟩ = some (.slice a' n' c') ∧ Bytes w a' n' c' (ls.getD k []) := by
 obtain ⟨b, o, e, _, hc⟩ := h.cell (by omega)
 obtain ⟨a', n', c', g1, g2⟩ := hc k hk
 exact ⟨b, o, a', n', c', e, g1, g2⟩

end Go.Proofs.YtnbddiiedagllaaGreat

