import Derived.Test.YtjoolocdejnohaaGreatSC2
import Derived.Test.YtjoolocdejnohaaGreatSC1
import Derived.Test.YtjoolocdejnohaaGreatSC3
import Derived.Deep.RegionHeld
/- The walks of Seal and Open, of the code and of the reference. -/
namespace Go.Proofs.YtjoolocdejnohaaGreat
open Go.RowKit Crc

def little (s : Nat) : List Nat := [s % 256, s / 256 % 256, s / 65536 % 256, s / 16777216]

theorem little_lt {s : Nat} (hs : s < 4294967296) : ∀ x ∈ little s, x < 256 := by
  intro x hx
  simp only [little, List.mem_cons, List.not_mem_nil, or_false] at hx
  omega

theorem u32_and255 (x : Nat) (h : x < 4294967296) : bits .and .u32 (x : Int) 255 = ((x % 256 : Nat) : Int) := by
  rw [← show x &&& 255 = x % 256 from Nat.and_two_pow_sub_one_eq_mod x 8]
  exact u32_and_nat x 255 h (by omega)

/-- The four cells of a number. -/
theorem cells4 {x0 x1 x2 x3 : Int} {s : Nat} (h0 : x0 = (s : Int) % 256) (h1 : x1 = (s : Int) / 256 % 256) (h2 : x2 = (s : Int) / 65536 % 256) (h3 : x3 = (s : Int) / 16777216) :
    (#[.int .u8 x0, .int .u8 x1, .int .u8 x2, .int .u8 x3] : Array Value) = (u8s (little s)).toArray := by
  subst h0 h1 h2 h3
  simp [u8s, little]

theorem little_any (s : Nat) (w : World) (hs : s < 4294967296) :
    Calls Tryz.prog 116 #[.int .u32 (s : Int)] w (NewBytes w (little s)) := by
  have e1 := u32_and255 s hs
  have e2 : bits .and .u32 ((s : Int) / 256) 255 = ((s / 256 % 256 : Nat) : Int) := u32_and255 (s / 256) (by omega)
  have e3 : bits .and .u32 ((s : Int) / 65536) 255 = ((s / 65536 % 256 : Nat) : Int) := u32_and255 (s / 65536) (by omega)
  have hc := Lib.hid (cells4 (s := s) rfl rfl rfl rfl)
  go_enter Tryz.func116, Tryz.ntmps116
  go_wp2
  go_ret
  rw [hc.out]
  exact ⟨_, rfl, new_row w _ (by simp [little]), (Below.refl _ _).alloc (Nat.le_refl _) _⟩

theorem seal_some (a : Addr) (n cap : Nat) (l : List Nat) (w : World) (hl : Bytes w (some a) n cap l) (hn : n ≤ 100000000000000) :
    Calls Tryz.prog 121 #[.slice (some a) n cap] w (NewBytes w (l ++ little (inv (feedL 4294967295 l)))) := by
  have hB := Lib.hid hl
  have hle := hl.le
  clear hl
  go_enter Tryz.func121, Tryz.ntmps121
  go_wp2_with fail
  refine (sum_any _ 1 1 [l] _ (parts_one hB.out _) (byte_one hB.out.byte)).mono ?_
  rintro e w1 ⟨rfl, hb1⟩
  have hb1 := below_call hb1
  rename_i hb10; clear hb10
  have hs : inv (feedP 4294967295 [l]) < 4294967296 := by unfold inv; omega
  generalize hse : inv (feedP 4294967295 [l]) = s at *
  have hse := Lib.hid hse
  rename_i hse0; clear hse0
  have hlit : Bytes (w1.alloc (.cells #[.int .u8 ((s : Int) % 256), .int .u8 ((s : Int) / 256 % 256), .int .u8 ((s : Int) / 65536 % 256), .int .u8 ((s : Int) / 16777216)] 5)) (some ⟨w1.heap.size, 0, none⟩) 4 4 (little s) := by
    rw [cells4 (s := s) rfl rfl rfl rfl]
    exact bytes_of_own (new_row w1 (little s) (by simp [little])) (little_lt hs)
  have hbel : Below w1.heap.size w1 (w1.alloc (.cells #[.int .u8 ((s : Int) % 256), .int .u8 ((s : Int) / 256 % 256), .int .u8 ((s : Int) / 65536 % 256), .int .u8 ((s : Int) / 16777216)] 5)) := (Below.refl _ _).alloc (Nat.le_refl _) _
  have hbel : Below w.heap.size w (w1.alloc (.cells #[.int .u8 ((s : Int) % 256), .int .u8 ((s : Int) / 256 % 256), .int .u8 ((s : Int) / 65536 % 256), .int .u8 ((s : Int) / 16777216)] 5)) := hb1.trans (hbel.mono hb1.size)
  have hB1 := hB.out.grow hbel
  have hB2 : Bytes _ (some a) n n l := ⟨hB1.len, Nat.le_refl _, hB1.max, hB1.byte, fun h => (by cases h), hB1.cell⟩
  have hB2 := Lib.hid hB2
  have hlit := Lib.hid hlit
  rename_i hlit0 _ _ ; clear hB1 hlit0
  go_wp2_with (at_builtin; refine wpList_append_capped _ rfl _ _ 58 rfl 5 Tryz.underlying58 info_u8 (some a) n l rfl hB2.out _ 4 4 (little s) rfl hlit.out (by omega) (by omega) ?_; intro v' w2 g1 g2)
  go_ret
  refine ⟨_, rfl, ?_, hbel.trans (g2.mono hbel.size)⟩
  have hse2 : inv (feedL 4294967295 l) = s := hse.out
  rw [hse2, List.length_append, hB.out.len]
  exact own_base g1 hbel.size

theorem seal_none (w : World) :
    Calls Tryz.prog 121 #[.slice none 0 0] w (NewBytes w ([] ++ little (inv (feedL 4294967295 [])))) := by
  have hB := Lib.hid (bytes_nil w)
  go_enter Tryz.func121, Tryz.ntmps121
  go_wp2_with fail
  refine (sum_any _ 1 1 [[]] _ (parts_one hB.out _) (byte_one hB.out.byte)).mono ?_
  rintro e w1 ⟨rfl, hb1⟩
  have hb1 := below_call hb1
  rename_i hb10; clear hb10
  have hs : inv (feedP 4294967295 [[]]) < 4294967296 := by unfold inv; omega
  generalize hse : inv (feedP 4294967295 [[]]) = s at *
  have hse := Lib.hid hse
  rename_i hse0; clear hse0
  have hlit : Bytes (w1.alloc (.cells #[.int .u8 ((s : Int) % 256), .int .u8 ((s : Int) / 256 % 256), .int .u8 ((s : Int) / 65536 % 256), .int .u8 ((s : Int) / 16777216)] 5)) (some ⟨w1.heap.size, 0, none⟩) 4 4 (little s) := by
    rw [cells4 (s := s) rfl rfl rfl rfl]
    exact bytes_of_own (new_row w1 (little s) (by simp [little])) (little_lt hs)
  have hbel : Below w1.heap.size w1 (w1.alloc (.cells #[.int .u8 ((s : Int) % 256), .int .u8 ((s : Int) / 256 % 256), .int .u8 ((s : Int) / 65536 % 256), .int .u8 ((s : Int) / 16777216)] 5)) := (Below.refl _ _).alloc (Nat.le_refl _) _
  have hbel : Below w.heap.size w (w1.alloc (.cells #[.int .u8 ((s : Int) % 256), .int .u8 ((s : Int) / 256 % 256), .int .u8 ((s : Int) / 65536 % 256), .int .u8 ((s : Int) / 16777216)] 5)) := hb1.trans (hbel.mono hb1.size)
  have hB1 := hB.out.grow hbel
  have hB2 : Bytes _ none 0 0 [] := hB1
  have hB2 := Lib.hid hB2
  have hlit := Lib.hid hlit
  rename_i hlit0 _ _ ; clear hB1 hlit0
  go_wp2_with (at_builtin; refine wpList_append_capped _ rfl _ _ 58 rfl 5 Tryz.underlying58 info_u8 none 0 [] rfl hB2.out _ 4 4 (little s) rfl hlit.out (by omega) (by omega) ?_; intro v' w2 g1 g2)
  go_ret
  refine ⟨_, rfl, ?_, hbel.trans (g2.mono hbel.size)⟩
  have hse2 : inv (feedL 4294967295 []) = s := hse.out
  rw [hse2]
  exact own_base g1 hbel.size

theorem seal_any (a : Option Addr) (n cap : Nat) (l : List Nat) (w : World) (hl : Bytes w a n cap l) (hn : n ≤ 100000000000000) :
    Calls Tryz.prog 121 #[.slice a n cap] w (NewBytes w (l ++ little (inv (feedL 4294967295 l)))) := by
  cases a with
  | none =>
    obtain rfl : cap = 0 := hl.nil rfl
    obtain rfl : n = 0 := by have := hl.le; omega
    obtain rfl : l = [] := List.length_eq_zero_iff.1 hl.len
    exact seal_none w
  | some a => exact seal_some a n cap l w hl hn

/-- What Open answers, on lists. -/
def sealL (l : List Nat) : List Nat := l ++ little (inv (feedL 4294967295 l))

theorem little_len (s : Nat) : (little s).length = 4 := rfl
theorem sealL_len (l : List Nat) : (sealL l).length = l.length + 4 := by unfold sealL; rw [List.length_append, little_len]
theorem sealL_byte {l : List Nat} (h : ∀ x ∈ l, x < 256) : ∀ x ∈ sealL l, x < 256 := by
  intro x hx
  rcases List.mem_append.1 hx with hx | hx
  · exact h x hx
  · exact little_lt (by unfold inv; omega) x hx

theorem take_seal {w : World} {a : Option Addr} {n cap m : Nat} {b : List Nat} (h : Bytes w a n cap (sealL b)) (hb : b.length = m) (hm : m ≤ cap) : Bytes w a m m b := by
  have e : (sealL b).take m = b := by unfold sealL; rw [← hb]; exact List.take_left
  have hn : n = m + 4 := by rw [← h.len, sealL_len, hb]
  have := h.takeTo (m := m) (c := m) (by omega) (Nat.le_refl _) hm
  rwa [e] at this

end Go.Proofs.YtjoolocdejnohaaGreat

/- The walks of the reference's Seal and Open. -/
namespace Go.Proofs.YtjoolocdejnohaaGreat
open Go.RowKit Crc

theorem rseal_any (a : Option Addr) (n cap : Nat) (l : List Nat) (w : World) (hl : Bytes w a n cap l) (hn : n ≤ 100000000000000) :
    Calls Tryz.prog 115 #[.slice a n cap] w (NewBytes w (sealL l)) := by
  have hbel : Below w.heap.size w (w.alloc (.cells #[] 5)) := (Below.refl _ _).alloc (Nat.le_refl _) _
  have hB := Lib.hid (hl.grow hbel)
  have HB0 := Lib.hid hl
  have hown : (w.alloc (.cells #[] 5)).ownsRow w.heap.size 5 1 (.slice (some ⟨w.heap.size, 0, none⟩) 0 0) 0 (u8s []) := World.ownsRow_made w #[] 0 (Nat.le_refl _) (Nat.zero_le _) rfl
  have Hown := Lib.hid hown
  have hs : inv (feedL 4294967295 l) < 4294967296 := by unfold inv; omega
  clear hl hown
  go_enter Tryz.func115, Tryz.ntmps115
  go_wp2_with (at_builtin; refine wpList_append_bytes _ rfl _ _ 58 rfl w.heap.size 5 Tryz.underlying58 info_u8 _ _ _ rfl Hown.out a n cap l rfl hB.out (by omega) hbel.size ?_; intro v' w1 g1 g2)
  have g1' : w1.ownsRow w.heap.size 5 1 v' n (u8s l) := by simpa using g1
  have hb1 : Below w.heap.size w w1 := hbel.grown g2 hbel.size (fun k hk => (Hown.out.lt k hk).1)

  clear g1 g2
  refine (rsum_any a n cap l w1 (HB0.out.grow hb1)).mono ?_
  rintro e w1 ⟨rfl, rfl⟩
  go_wp2_with fail
  refine (little_any _ w1 hs).mono ?_
  rintro e w2 ⟨v, rfl, hown2, hb2⟩
  obtain ⟨p, cp, rfl, hC⟩ := own_slice hown2 (little_lt hs)
  have HC := Lib.hid hC
  have g3 := Lib.hid (own_below g1' hb2)
  have hb2' := hb1.trans (hb2.mono hb1.size)
  clear hown2 hC g1'
  go_wp2_with (at_builtin; refine wpList_append_bytes _ rfl _ _ 58 rfl w.heap.size 5 Tryz.underlying58 info_u8 _ _ _ rfl g3.out p _ cp _ rfl HC.out (by rw [little_len]; omega) hb2'.size ?_; intro v2 w3 g4 g5)
  go_ret
  refine ⟨_, rfl, ?_, hb2'.grown g5 hb2'.size (fun k hk => (g3.out.lt k hk).1)⟩
  rw [sealL_len, HB0.out.len]
  exact g4

end Go.Proofs.YtjoolocdejnohaaGreat

/- The walk of the reference's Cat: it returns the bytes of all parts, in order, in memory of its own. -/
namespace Go.Proofs.YtjoolocdejnohaaGreat
open Go.RowKit Crc

theorem bytes_get_all {w : World} {a : Option Addr} {n cap : Nat} {ls : List (List Nat)} (h : Parts w a n cap ls) {k : Nat} (hk : k < n) : ∃ b o a' n' c', a = some ⟨b, o, none⟩ ∧ w.cell? ⟨b, o + k, none⟩ = some (.slice a' n' c') ∧ Bytes w a' n' c' (ls.getD k []) := by
  obtain ⟨b, o, e, _, hc⟩ := h.cell (by omega)
  obtain ⟨a', n', c', g1, g2⟩ := hc k hk
  exact ⟨b, o, a', n', c', e, g1, g2⟩

end Go.Proofs.YtjoolocdejnohaaGreat

/- The walk of the statement SumSeals: it returns true whatever the bytes are. -/
namespace Go.Proofs.YtjoolocdejnohaaGreat
open Go.RowKit Crc

theorem sealL_inj {a b : List Nat} (h : sealL a = sealL b) : a = b := by
  have hl : a.length = b.length := by
    have := congrArg List.length h
    rw [sealL_len, sealL_len] at this
    omega
  have h1 : (sealL a).take a.length = a := List.take_left
  have h2 : (sealL b).take b.length = b := List.take_left
  rw [← h1, ← h2, h, hl]

end Go.Proofs.YtjoolocdejnohaaGreat

/- Records and their frames as plain lists: what a frame is, and that bytes fall apart into frames in one way alone. -/
namespace Go.Proofs.YtjoolocdejnohaaGreat
open Go.RowKit Crc

/-- The frame of a record. -/
def frameL (r : List Nat) : List Nat := sealL (little r.length ++ r)

theorem frameL_len (r : List Nat) : (frameL r).length = r.length + 8 := by
  unfold frameL
  rw [sealL_len, List.length_append, little_len]
  omega

theorem frameL_byte {r : List Nat} (h : ∀ x ∈ r, x < 256) (hr : r.length < 4294967296) : ∀ x ∈ frameL r, x < 256 := by
  refine sealL_byte fun x hx => ?_
  rcases List.mem_append.1 hx with hx | hx
  · exact little_lt hr x hx
  · exact h x hx

/-- The number that four bytes stand for. -/
def num4 (b : List Nat) : Nat := b.getD 0 0 + 256 * b.getD 1 0 + 65536 * b.getD 2 0 + 16777216 * b.getD 3 0

theorem frameL_cons (r : List Nat) (t : List Nat) : ∃ s, frameL r ++ t = r.length % 256 :: r.length / 256 % 256 :: r.length / 65536 % 256 :: r.length / 16777216 :: s :=
  ⟨_, rfl⟩

theorem num4_frame (r t : List Nat) : num4 (frameL r ++ t) = r.length := by
  obtain ⟨s, e⟩ := frameL_cons r t
  rw [e]
  show r.length % 256 + 256 * (r.length / 256 % 256) + 65536 * (r.length / 65536 % 256) + 16777216 * (r.length / 16777216) = r.length
  omega

/-- Bytes that begin with no frame. -/
def NoFrame (b : List Nat) : Prop := ∀ r t : List Nat, r.length ≤ 1048576 → b ≠ frameL r ++ t

theorem frame_uniq {r r' t t' : List Nat} (h : frameL r ++ t = frameL r' ++ t') : r = r' ∧ t = t' := by
  have hl : r.length = r'.length := by
    have := congrArg num4 h
    rwa [num4_frame, num4_frame] at this
  have h1 : frameL r = frameL r' := by
    have e1 : (frameL r ++ t).take (r.length + 8) = frameL r := by rw [← frameL_len]; exact List.take_left
    have e2 : (frameL r' ++ t').take (r.length + 8) = frameL r' := by rw [hl, ← frameL_len]; exact List.take_left
    rw [← e1, ← e2, h]
  have h2 := sealL_inj h1
  rw [hl] at h2
  refine ⟨List.append_cancel_left h2, ?_⟩
  rw [h1] at h
  exact List.append_cancel_left h

theorem noFrame_short {b : List Nat} (h : b.length < 8) : NoFrame b := by
  intro r t _ e
  have := congrArg List.length e
  rw [List.length_append, frameL_len] at this
  omega

theorem noFrame_nil : NoFrame [] := noFrame_short (by decide)

theorem noFrame_most {b : List Nat} (h : 1048576 < num4 b) : NoFrame b := by
  intro r t hr e
  have := congrArg num4 e
  rw [num4_frame] at this
  omega

theorem noFrame_len {b : List Nat} (h : b.length < num4 b + 8) : NoFrame b := by
  intro r t hr e
  have h1 := congrArg num4 e
  have h2 := congrArg List.length e
  rw [num4_frame] at h1
  rw [List.length_append, frameL_len] at h2
  omega

/-- What Open answers of the bytes in front says whether there is a frame. -/
theorem frame_of_seal {b x : List Nat} {n : Nat} (hn : n = num4 b) (hb : n + 8 ≤ b.length) (hx : sealL x = b.take (n + 8)) (h256 : ∀ y ∈ b, y < 256) : b = frameL (x.drop 4) ++ b.drop (n + 8) ∧ (x.drop 4).length = n := by
  have hl : x.length = n + 4 := by
    have := congrArg List.length hx
    rw [sealL_len, List.length_take] at this
    omega
  have e4 : x.take 4 = b.take 4 := by
    have e1 : (sealL x).take 4 = x.take 4 := by unfold sealL; rw [List.take_append_of_le_length (by omega)]
    rw [← e1, hx, List.take_take, Nat.min_eq_left (by omega)]
  have hd : (x.drop 4).length = n := by rw [List.length_drop]; omega
  have eb : ∃ b0 b1 b2 b3 s, b = b0 :: b1 :: b2 :: b3 :: s := by
    rcases b with _ | ⟨b0, _ | ⟨b1, _ | ⟨b2, _ | ⟨b3, s⟩⟩⟩⟩
    all_goals first | (simp at hb; done) | exact ⟨_, _, _, _, _, rfl⟩
  have el : little n = b.take 4 := by
    obtain ⟨b0, b1, b2, b3, s, rfl⟩ := eb
    have h0 := h256 b0 (by simp)
    have h1 := h256 b1 (by simp)
    have h2 := h256 b2 (by simp)
    have h3 := h256 b3 (by simp)
    have hn2 : n = b0 + 256 * b1 + 65536 * b2 + 16777216 * b3 := hn
    show [n % 256, n / 256 % 256, n / 65536 % 256, n / 16777216] = [b0, b1, b2, b3]
    simp only [List.cons.injEq, and_true]
    omega
  refine ⟨?_, hd⟩
  have e5 : frameL (x.drop 4) = b.take (n + 8) := by
    unfold frameL
    rw [hd, el, ← e4, List.take_append_drop, hx]
  rw [e5, List.take_append_drop]

theorem noFrame_seal {b : List Nat} {n : Nat} (hn : n = num4 b) (hx : ∀ x, sealL x ≠ b.take (n + 8)) : NoFrame b := by
  intro r t hr e
  have h1 : n = r.length := by rw [hn, e, num4_frame]
  refine hx (little r.length ++ r) ?_
  rw [e, h1, ← frameL_len]
  exact List.take_left.symm

/-- The frames of records, one after the other. -/
def joinL (ls : List (List Nat)) : List Nat := (ls.map frameL).flatten
def sizeL (ls : List (List Nat)) : Nat := (ls.map fun r => r.length + 8).sum

theorem joinL_nil : joinL [] = [] := rfl
theorem joinL_cons (r : List Nat) (ls : List (List Nat)) : joinL (r :: ls) = frameL r ++ joinL ls := rfl
theorem joinL_append (a b : List (List Nat)) : joinL (a ++ b) = joinL a ++ joinL b := by unfold joinL; rw [List.map_append, List.flatten_append]
theorem joinL_snoc (a : List (List Nat)) (r : List Nat) : joinL (a ++ [r]) = joinL a ++ frameL r := by rw [joinL_append, joinL_cons, joinL_nil, List.append_nil]
theorem sizeL_nil : sizeL [] = 0 := rfl
theorem sizeL_cons (r : List Nat) (ls : List (List Nat)) : sizeL (r :: ls) = r.length + 8 + sizeL ls := by simp [sizeL]
theorem sizeL_append (a b : List (List Nat)) : sizeL (a ++ b) = sizeL a + sizeL b := by simp [sizeL]

theorem joinL_len (ls : List (List Nat)) : (joinL ls).length = sizeL ls := by
  induction ls with
  | nil => rfl
  | cons r ls ih => rw [joinL_cons, sizeL_cons, List.length_append, frameL_len, ih]

theorem joinL_byte {ls : List (List Nat)} (h : ∀ r ∈ ls, ∀ x ∈ r, x < 256) (hr : ∀ r ∈ ls, r.length ≤ 1048576) : ∀ x ∈ joinL ls, x < 256 := by
  intro x hx
  obtain ⟨f, hf, hx⟩ := List.mem_flatten.1 hx
  obtain ⟨r, hr1, rfl⟩ := List.mem_map.1 hf
  have := hr r hr1
  exact frameL_byte (h r hr1) (by omega) x hx

/-- Bytes as frames and a rest that begins with none. -/
structure Splits (b : List Nat) (ls : List (List Nat)) (t : List Nat) : Prop where
  eq : b = joinL ls ++ t
  recs : ∀ r ∈ ls, r.length ≤ 1048576
  no : NoFrame t

theorem splits_uniq : ∀ {ls ls' : List (List Nat)} {b t t' : List Nat}, Splits b ls t → Splits b ls' t' → ls = ls' ∧ t = t'
  | [], [], b, t, t', h, h' => ⟨rfl, by have := h.eq.symm.trans h'.eq; simpa [joinL_nil] using this⟩
  | [], r :: ls', b, t, t', h, h' => by
    have e := h.eq.symm.trans h'.eq
    rw [joinL_nil, List.nil_append, joinL_cons, List.append_assoc] at e
    exact absurd e (h.no r _ (h'.recs r (by simp)))
  | r :: ls, [], b, t, t', h, h' => by
    have e := h'.eq.symm.trans h.eq
    rw [joinL_nil, List.nil_append, joinL_cons, List.append_assoc] at e
    exact absurd e (h'.no r _ (h.recs r (by simp)))
  | r :: ls, r' :: ls', b, t, t', h, h' => by
    have e := h.eq.symm.trans h'.eq
    rw [joinL_cons, joinL_cons, List.append_assoc, List.append_assoc] at e
    obtain ⟨rfl, e2⟩ := frame_uniq e
    have h1 : Splits (joinL ls ++ t) ls t := ⟨rfl, fun r hr => h.recs r (by simp [hr]), h.no⟩
    have h2 : Splits (joinL ls ++ t) ls' t' := ⟨e2, fun r hr => h'.recs r (by simp [hr]), h'.no⟩
    obtain ⟨rfl, rfl⟩ := splits_uniq h1 h2
    exact ⟨rfl, rfl⟩

theorem splits_all (ls : List (List Nat)) (h : ∀ r ∈ ls, r.length ≤ 1048576) : Splits (joinL ls) ls [] :=
  ⟨(List.append_nil _).symm, h, noFrame_nil⟩

end Go.Proofs.YtjoolocdejnohaaGreat

