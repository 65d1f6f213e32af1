import Derived.Test.YtpnfnmeilhiebaaGreatDoorMP15
import Derived.Test.YtpnfnmeilhiebaaGreatDoorMP9
import Derived.Maps.OwnOps
import Derived.Maps.StringElems
import Derived.Test.YtpnfnmeilhiebaaGreatDoorShelf
import Derived.Lib.ConvBytes
import Derived.Lib.SmallJoins
import Derived.Test.YtpnfnmeilhiebaaGreatDoorMP11
/- The walks of the code's words and word. -/
namespace Go.Proofs.YtpnfnmeilhiebaaGreatDoor
open Go.RowKit Go.Maps Fl

theorem mapKey : Keyed Tryz.prog 44 := int_keyed Tryz.underlying44

/-- What the map of the words holds. -/
def wordsD : DataW Unit := ((((DataW.map []).put (.int .u64 9221120237041090561) (.lit (.string [110, 97, 110]))).put (.int .u64 9218868437227405312) (.lit (.string [105, 110, 102]))).put (.int .u64 0) (.lit (.string [48])))

def OwnsWords (w : World) (b : Nat) : Prop := w.ownsMap Tryz.prog 44 (plainElem (H := Unit) Tryz.prog 9) b 3 wordsD

set_option maxRecDepth 100000 in
theorem words_any (w : World) :
    Calls Tryz.prog 97 #[] w fun e w' => (∃ b, e = .returned (.map (some b)) ∧ OwnsWords w' b ∧ w.heap.size ≤ b) ∧ Below w.heap.size w w' := by
  have hmm := @run_makeMap Tryz.prog
  have h0 := World.ownsMap_made (H := Unit) w Tryz.prog 44 (plainElem (H := Unit) Tryz.prog 9)
  obtain ⟨w1, r1, h1, g1⟩ := h0.update (key := .int .u64 9221120237041090561) (val := .string ⟨#[110, 97, 110]⟩) mapKey Tryz.underlying118 (by decide) (keyOf_int_mk Tryz.underlying44 (by decide)) (plainElem_string Tryz.underlying9 (by decide))
  obtain ⟨w2, r2, h2, g2⟩ := h1.update (key := .int .u64 9218868437227405312) (val := .string ⟨#[105, 110, 102]⟩) mapKey Tryz.underlying118 (by decide) (keyOf_int_mk Tryz.underlying44 (by decide)) (plainElem_string Tryz.underlying9 (by decide))
  obtain ⟨w3, r3, h3, g3⟩ := h2.update (key := .int .u64 0) (val := .string ⟨#[48]⟩) mapKey Tryz.underlying118 (by decide) (keyOf_int_mk Tryz.underlying44 (by decide)) (plainElem_string Tryz.underlying9 (by decide))
  have Hend := Lib.hid h3
  have b0 : Below w.heap.size w (w.alloc (.map #[] 0)) := (Below.refl _ _).alloc (Nat.le_refl _) _
  have Hb := Lib.hid (((b0.grown g1 b0.size (fun j hj => by cases hj; exact Nat.le_refl _)).grown g2 (b0.grown g1 b0.size (fun j hj => by cases hj; exact Nat.le_refl _)).size (fun j hj => by cases hj; exact Nat.le_refl _)).grown g3 ((b0.grown g1 b0.size (fun j hj => by cases hj; exact Nat.le_refl _)).grown g2 (b0.grown g1 b0.size (fun j hj => by cases hj; exact Nat.le_refl _)).size (fun j hj => by cases hj; exact Nat.le_refl _)).size (fun j hj => by cases hj; exact Nat.le_refl _))
  clear h0 h1 h2 h3 g1 g2 g3 b0
  go_enter Tryz.func97, Tryz.ntmps97
  go_wp2
  go_ret
  exact ⟨⟨w.heap.size, rfl, Hend.out, Nat.le_refl _⟩, Hb.out⟩

set_option maxRecDepth 100000 in
theorem words_at {w : World} {b : Nat} (h : OwnsWords w b) (k : Int) (l : List UInt8) (hk : (Lit.int .u64 k).wf = true) (hl : wordsD.atKey (.int .u64 k) (.lit (.string [])) = .lit (.string l)) :
    (Instr.lookup 118 (.map (some b)) (.int .u64 k) false).run Tryz.prog w = .ok (.string ⟨l.toArray⟩) w := by
  have hz : (zeroValue 9).run Tryz.prog w = .ok (.string ⟨#[]⟩) w := by kernel_rfl
  obtain ⟨v, ps, hrun, hv⟩ := World.ownsMap.lookup (H := Unit) h mapKey Tryz.underlying118 hz (plainElem_string (H := Unit) (s := ⟨#[]⟩) Tryz.underlying9 (by decide)) (key := .int .u64 k) (keyOf_int_mk Tryz.underlying44 hk)
  obtain ⟨s, rfl, hs, _⟩ := plainElem_string_inv Tryz.underlying9 hv
  have h1 : wordsD.atKey (.int .u64 k) (.lit (.string [])) = .lit (.string s.data.toList) := congrArg Prod.fst hs
  have h1 := hl.symm.trans h1
  have h2 : l = s.data.toList := Lit.string.inj (DataW.lit.inj h1)
  rw [hrun, h2]

/-- What word answers. -/
def wordL (x : Nat) : List Nat := if x ∈ special then textL x else []

theorem word_key (w : World) (b : Nat) (h : OwnsWords w b) :
    (Instr.lookup 118 (.map (some b)) (.int .u64 9221120237041090561) false).run Tryz.prog w = .ok (.string ⟨#[110, 97, 110]⟩) w ∧
    (Instr.lookup 118 (.map (some b)) (.int .u64 9218868437227405312) false).run Tryz.prog w = .ok (.string ⟨#[105, 110, 102]⟩) w ∧
    (Instr.lookup 118 (.map (some b)) (.int .u64 0) false).run Tryz.prog w = .ok (.string ⟨#[48]⟩) w :=
  ⟨words_at h _ _ (by decide) rfl, words_at h _ _ (by decide) rfl, words_at h _ _ (by decide) rfl⟩

set_option maxRecDepth 100000 in
set_option maxHeartbeats 800000 in
theorem word_any (x : Nat) (w : World) (hx : x < 18446744073709551616) :
    Calls Tryz.prog 98 #[.int .u64 (x : Int)] w fun e w' => e = .returned (.string (str (wordL x))) ∧ Below w.heap.size w w' := by
  have HW := Lib.hid (words_any w)
  by_cases hs : x ∈ special
  · have Hl := Lib.hid (show wordL x = textL x from if_pos hs)
    rcases textL_special hs with ⟨rfl, ht⟩ | ⟨rfl, ht⟩ | ⟨rfl, ht⟩ | ⟨rfl, ht⟩ | ⟨rfl, ht⟩
    · have Ht := Lib.hid ht
      clear hs ht hx
      rw [show ((Q : Nat) : Int) = 9221120237041090561 from rfl]
      go_enter Tryz.func98, Tryz.ntmps98
      go_wp2_with fail
      refine HW.out.mono ?_
      rintro e w' ⟨⟨b, rfl, hown, _⟩, hbel⟩
      obtain ⟨k1, k2, k3⟩ := word_key w' b hown
      go_wp2
      go_ret
      exact ⟨by rw [Hl.out, Ht.out]; rfl, hbel⟩
    · have Ht := Lib.hid ht
      clear hs ht hx
      rw [show ((I : Nat) : Int) = 9218868437227405312 from rfl]
      go_enter Tryz.func98, Tryz.ntmps98
      go_wp2_with fail
      refine HW.out.mono ?_
      rintro e w' ⟨⟨b, rfl, hown, _⟩, hbel⟩
      obtain ⟨k1, k2, k3⟩ := word_key w' b hown
      go_wp2
      go_ret
      exact ⟨by rw [Hl.out, Ht.out]; rfl, hbel⟩
    · have Ht := Lib.hid ht
      have e1 : bits .andNot .u64 18442240474082181120 9223372036854775808 = 9218868437227405312 := by decide +kernel
      clear hs ht hx
      rw [show ((W + I : Nat) : Int) = 18442240474082181120 from rfl]
      go_enter Tryz.func98, Tryz.ntmps98
      go_wp2_with fail
      refine HW.out.mono ?_
      rintro e w' ⟨⟨b, rfl, hown, _⟩, hbel⟩
      obtain ⟨k1, k2, k3⟩ := word_key w' b hown
      go_wp2
      go_ret
      exact ⟨by rw [Hl.out, Ht.out]; rfl, hbel⟩
    · have Ht := Lib.hid ht
      clear hs ht hx
      rw [show ((0 : Nat) : Int) = 0 from rfl]
      go_enter Tryz.func98, Tryz.ntmps98
      go_wp2_with fail
      refine HW.out.mono ?_
      rintro e w' ⟨⟨b, rfl, hown, _⟩, hbel⟩
      obtain ⟨k1, k2, k3⟩ := word_key w' b hown
      go_wp2
      go_ret
      exact ⟨by rw [Hl.out, Ht.out]; rfl, hbel⟩
    · have Ht := Lib.hid ht
      have e1 : bits .andNot .u64 9223372036854775808 9223372036854775808 = 0 := by decide +kernel
      clear hs ht hx
      rw [show ((W : Nat) : Int) = 9223372036854775808 from rfl]
      go_enter Tryz.func98, Tryz.ntmps98
      go_wp2_with fail
      refine HW.out.mono ?_
      rintro e w' ⟨⟨b, rfl, hown, _⟩, hbel⟩
      obtain ⟨k1, k2, k3⟩ := word_key w' b hown
      go_wp2
      go_ret
      exact ⟨by rw [Hl.out, Ht.out]; rfl, hbel⟩
  · have Hl := Lib.hid (show wordL x = [] from if_neg hs)
    have hn : x ≠ Q ∧ x ≠ I ∧ x ≠ W + I ∧ x ≠ 0 ∧ x ≠ W := by
      unfold special at hs
      simpa using hs
    obtain ⟨n1, n2, n3, n4, n5⟩ := hn
    have d1 : ((x : Int) == 9221120237041090561) = false := beq_eq_false_iff_ne.2 (by unfold Q at n1; omega)
    have d2 : ((x : Int) == 9218868437227405312) = false := beq_eq_false_iff_ne.2 (by unfold I at n2; omega)
    have d3 : ((x : Int) == 18442240474082181120) = false := beq_eq_false_iff_ne.2 (by unfold W I at n3; omega)
    have d4 : ((x : Int) == 0) = false := beq_eq_false_iff_ne.2 (by omega)
    have d5 : ((x : Int) == 9223372036854775808) = false := beq_eq_false_iff_ne.2 (by unfold W at n5; omega)
    clear hs n1 n2 n3 n4 n5
    go_enter Tryz.func98, Tryz.ntmps98
    go_wp2
    go_ret
    exact ⟨by rw [Hl.out]; rfl, Below.refl _ _⟩
end Go.Proofs.YtpnfnmeilhiebaaGreatDoor

/- The walk of the code's Text. -/
namespace Go.Proofs.YtpnfnmeilhiebaaGreatDoor
open Go.RowKit Fl

set_option maxRecDepth 100000 in
theorem ifmt_any (x : Nat) (w : World) (hx : x < 18446744073709551616) (ht : Tab16 w) :
    Calls Tryz.prog 108 #[.int .u64 (x : Int), .int .i64 16] w fun e w' => (∃ m, 1 ≤ m ∧ m ≤ 16 ∧ x < 16 ^ m ∧ e = .returned (.string (str ((hexs x 16).drop (16 - m))))) ∧ Below w.heap.size w w' := by
  have H := Lib.hid (fbits_any x w hx ht)
  clear hx ht
  go_enter Tryz.func108, Tryz.ntmps108
  go_wp2_with fail
  refine H.out.mono ?_
  rintro e w' ⟨⟨m, h1, h2, h3, rfl⟩, hb⟩
  have Hm := Lib.hid (And.intro h1 (And.intro h2 h3))
  generalize hs : str ((hexs x 16).drop (16 - m)) = s
  have Hs := Lib.hid hs
  clear h1 h2 h3 hs
  go_wp2
  go_ret
  exact ⟨⟨m, Hm.out.1, Hm.out.2.1, Hm.out.2.2, by rw [Hs.out]; rfl⟩, hb⟩

theorem fmt_any (x : Nat) (w : World) (hx : x < 18446744073709551616) (ht : Tab16 w) :
    Calls Tryz.prog 99 #[.int .u64 (x : Int), .int .i64 16] w fun e w' => (∃ m, 1 ≤ m ∧ m ≤ 16 ∧ x < 16 ^ m ∧ e = .returned (.string (str ((hexs x 16).drop (16 - m))))) ∧ Below w.heap.size w w' := by
  have H := Lib.hid (ifmt_any x w hx ht)
  clear hx ht
  go_enter Tryz.func99, Tryz.ntmps99
  go_wp2_with fail
  refine H.out.mono ?_
  rintro e w' ⟨⟨m, h1, h2, h3, rfl⟩, hb⟩
  have Hm := Lib.hid (And.intro h1 (And.intro h2 h3))
  generalize hs : str ((hexs x 16).drop (16 - m)) = s
  have Hs := Lib.hid hs
  clear h1 h2 h3 hs
  go_wp2
  go_ret
  exact ⟨⟨m, Hm.out.1, Hm.out.2.1, Hm.out.2.2, by rw [Hs.out]; rfl⟩, hb⟩

/-- The leading digits of a small number are 0. -/
theorem hexs_low {x m : Nat} (hm : m ≤ 16) (h : x < 16 ^ m) : hexs x 16 = List.replicate (16 - m) 48 ++ (hexs x 16).drop (16 - m) := by
  have e : (hexs x 16).take (16 - m) = List.replicate (16 - m) 48 := by
    apply List.ext_getElem
    · rw [List.length_take, hexs_len, List.length_replicate]; omega
    · intro i h1 h2
      rw [List.length_replicate] at h2
      rw [List.getElem_replicate, List.getElem_take]
      have e1 := hexs_get x 16 i (by omega)
      rw [List.getD_eq_getElem?_getD, List.getElem?_eq_getElem (by rw [hexs_len]; omega)] at e1
      have e2 : (hexs x 16)[i]'(by rw [hexs_len]; omega) = hexD (x / 2 ^ (4 * (15 - i)) % 16) := e1
      have h3 : x / 2 ^ (4 * (15 - i)) = 0 := by
        apply Nat.div_eq_of_lt
        have h4 : (16 : Nat) ^ m ≤ 2 ^ (4 * (15 - i)) := by
          rw [show (16 : Nat) = 2 ^ 4 by decide, ← Nat.pow_mul]
          exact Nat.pow_le_pow_right (by omega) (by omega)
        omega
      rw [h3] at e2
      exact e2
  conv => lhs; rw [← List.take_append_drop (16 - m) (hexs x 16), e]

theorem rep_str (c : Nat) : (⟨(Lib.repeatL (⟨#[48]⟩ : ByteArray).data.toList c).toArray⟩ : ByteArray) = str (List.replicate c 48) := by
  unfold str
  congr 2
  induction c with
  | zero => rfl
  | succ c ih =>
    rw [List.replicate_succ, List.map_cons, ← ih]
    rfl

theorem rep_any (m : Nat) (hm : m ≤ 16) (w : World) :
    Calls Tryz.prog 100 #[.string ⟨#[48]⟩, .int .i64 (16 - (m : Int))] w fun e w' => e = .returned (.string (str (List.replicate (16 - m) 48))) ∧ Below w.heap.size w w' := by
  have h := Tryz.strings_Repeat ⟨#[48]⟩ (16 - m) w (by omega) (by show 1 * (16 - m) ≤ _; omega)
  rw [rep_str] at h
  rw [show (16 - (m : Int)) = ((16 - m : Nat) : Int) by omega]
  exact h

theorem textL_ne {x : Nat} (h : x ∈ special) : textL x ≠ [] := by
  rcases textL_special h with ⟨_, t⟩ | ⟨_, t⟩ | ⟨_, t⟩ | ⟨_, t⟩ | ⟨_, t⟩ <;> (rw [t]; simp)

set_option maxRecDepth 100000 in
set_option maxHeartbeats 800000 in
theorem text_any (b : Nat) (w : World) (hb : b < 18446744073709551616) (ht : Tab16 w) :
    Calls Tryz.prog 91 #[.float .f64 b] w fun e w' => e = .returned (.string (str (textL (bitsB b)))) ∧ Below w.heap.size w w' := by
  have H1 := Lib.hid (bits_any b w hb)
  have hlt := bitsB_lt hb
  clear hb
  generalize bitsB b = x at *
  have H2 := Lib.hid (word_any x w hlt)
  by_cases hs : x ∈ special
  · have Hl := Lib.hid (show wordL x = textL x from if_pos hs)
    rw [Hl.out] at H2
    have hq : (str (textL x)).toList.isEmpty = false := by
      rw [str_list, List.isEmpty_eq_false_iff]
      simpa using textL_ne hs
    clear hs Hl hlt ht
    generalize str (textL x) = s at *
    go_enter Tryz.func91, Tryz.ntmps91
    go_wp2_with fail
    refine H1.out.mono ?_
    rintro e w' ⟨rfl, rfl⟩
    go_wp2_with fail
    refine H2.out.mono ?_
    rintro e w' ⟨rfl, hbel⟩
    go_wp2
    go_ret
    exact ⟨rfl, hbel⟩
  · have Hl := Lib.hid (show wordL x = [] from if_neg hs)
    have Hx := Lib.hid (textL_hex hs)
    rw [Hl.out] at H2
    have Ht := Lib.hid ht
    have Hlt := Lib.hid hlt
    have HR := Lib.hid (fun (m : Nat) (hm : m ≤ 16) (w : World) => rep_any m hm w)
    clear hs Hl hlt ht
    rw [Hx.out]
    go_enter Tryz.func91, Tryz.ntmps91
    go_wp2_with fail
    refine H1.out.mono ?_
    rintro e w' ⟨rfl, rfl⟩
    go_wp2_with fail
    refine H2.out.mono ?_
    rintro e w1 ⟨rfl, hbel⟩
    have hq : (str []).toList.isEmpty = true := by rw [str_list]; rfl
    have Ht1 : Tab16 w1 := by
      have h := Ht.out
      unfold Tab16 at h ⊢
      rw [hbel.cell (World.block_lt_of_cell? _ _ h)]
      exact h
    go_wp2_with fail
    refine (fmt_any x w1 Hlt.out Ht1).mono ?_
    rintro e w2 ⟨⟨m, m1, m2, m3, rfl⟩, hbel2⟩
    have Hlow := Lib.hid (hexs_low m2 m3)
    have hsz : (str ((hexs x 16).drop (16 - m))).size = m := by rw [str_size, List.length_drop, hexs_len]; omega
    have Hm2 := Lib.hid m2
    generalize hD : (hexs x 16).drop (16 - m) = D at *
    clear hD
    have HD := Lib.hid (show ∀ L, str [120] ++ str L ++ str D = str (120 :: (L ++ D)) from fun L => by rw [str_append, str_append]; rfl)
    generalize str D = s at *
    have hm16 : (m : Int) ≤ 16 := by omega
    clear m1 m2 m3 Ht1
    go_wp2_with fail
    refine (HR.out m Hm2.out w2).mono ?_
    rintro e w3 ⟨rfl, hbel3⟩
    have HDr := Lib.hid (HD.out (List.replicate (16 - m) 48))
    have hrsz : (str (List.replicate (16 - m) 48)).size = 16 - m := by rw [str_size, List.length_replicate]
    have hrs : (str (List.replicate (16 - m) 48)).size ≤ 16 := by omega
    have Hbel := Lib.hid ((hbel.trans (hbel2.mono hbel.size)).trans (hbel3.mono (hbel.trans (hbel2.mono hbel.size)).size))
    generalize str (List.replicate (16 - m) 48) = r at *
    have hssz : s.size ≤ 16 := by omega
    clear hrsz hbel hbel2 hbel3
    go_wp2
    go_ret
    exact ⟨by rw [Hlow.out, ← HDr.out]; rfl, Hbel.out⟩
end Go.Proofs.YtpnfnmeilhiebaaGreatDoor

/- The walk of the library's ParseUint at base 16. -/
namespace Go.Proofs.YtpnfnmeilhiebaaGreatDoor
open Go.RowKit Fl

/-- The small letter of a letter. -/
def low (c : Nat) : Nat := (bits .or .u8 (c : Int) 32).toNat

theorem low_all : ∀ c : Fin 256, 0 ≤ bits .or .u8 ((c.val : Nat) : Int) 32 ∧ bits .or .u8 ((c.val : Nat) : Int) 32 < 256 ∧ (97 ≤ c.val → c.val ≤ 102 → bits .or .u8 ((c.val : Nat) : Int) 32 = ((c.val : Nat) : Int)) := by decide +kernel

theorem low_is {c : Nat} (h : c < 256) : bits .or .u8 (c : Int) 32 = (low c : Int) ∧ low c < 256 ∧ (97 ≤ c → c ≤ 102 → low c = c) := by
  obtain ⟨h1, h2, h3⟩ := low_all ⟨c, h⟩
  refine ⟨(Int.toNat_of_nonneg h1).symm, ?_, fun h4 h5 => ?_⟩
  · have h6 : bits .or .u8 (c : Int) 32 < 256 := h2
    unfold low; omega
  · have h6 : bits .or .u8 (c : Int) 32 = (c : Int) := h3 h4 h5
    unfold low; omega

theorem lower_any (c : Nat) (w : World) (h : c < 256) :
    Calls Tryz.prog 106 #[.int .u8 (c : Int)] w fun e w' => e = .returned (.int .u8 (low c : Nat)) ∧ w = w' := by
  obtain ⟨e, _, _⟩ := low_is h
  go_enter Tryz.func106, Tryz.ntmps106
  go_wp2
  go_ret
  exact ⟨rfl, rfl⟩

/-- What the number gathered is: of the 16 digits of a number, its first ones. -/
def Gathers (l : List Nat) (k acc : Nat) : Prop := ∀ x, x < 18446744073709551616 → l = hexs x 16 → acc = x / 16 ^ (16 - k)

theorem gathers_zero (l : List Nat) : Gathers l 0 0 := by
  intro x hx _
  rw [Nat.div_eq_of_lt (by simpa using hx)]

theorem gathers_byte {l : List Nat} {k x : Nat} (h : l = hexs x 16) (hk : k < l.length) : k < 16 ∧ l.getD k 0 = hexD (x / 16 ^ (15 - k) % 16) := by
  subst h
  rw [hexs_len] at hk
  refine ⟨hk, ?_⟩
  rw [hexs_get x 16 k hk, show (16 : Nat) = 2 ^ 4 by decide, ← Nat.pow_mul]

theorem gathers_next {l : List Nat} {k acc d : Nat} (h : Gathers l k acc) (hk : k < l.length) (hd : ∀ y, y < 16 → l.getD k 0 = hexD y → d = y) : Gathers l (k + 1) (acc * 16 + d) := by
  intro x hx e
  obtain ⟨hk16, hb⟩ := gathers_byte e hk
  have h1 := h x hx e
  have h2 : d = x / 16 ^ (15 - k) % 16 := hd _ (Nat.mod_lt _ (by omega)) hb
  have h3 : x / 16 ^ (16 - k) = x / 16 ^ (15 - k) / 16 := by
    rw [show 16 - k = (15 - k) + 1 by omega, Nat.pow_succ, Nat.div_div_eq_div_mul]
  rw [show 16 - (k + 1) = 15 - k by omega, h1, h3, h2]
  omega

theorem gathers_end {l : List Nat} {acc : Nat} (h : Gathers l l.length acc) : ∀ x, x < 18446744073709551616 → l = hexs x 16 → acc = x := by
  intro x hx e
  have h1 := h x hx e
  have h2 : l.length = 16 := by rw [e, hexs_len]
  rw [h2, Nat.sub_self, Nat.pow_zero, Nat.div_one] at h1
  exact h1

/-- Where the number gathered would be too great, the bytes are no 16 digits. -/
theorem gathers_big {l : List Nat} {k acc v : Nat} (h : Gathers l k acc) (hk : k < l.length) (hb : 1152921504606846976 ≤ acc) : ∀ x, x < 18446744073709551616 → l = hexs x 16 → v = x := by
  intro x hx e
  obtain ⟨hk16, _⟩ := gathers_byte e hk
  have h1 := h x hx e
  have h3 : x / 16 ^ (16 - k) ≤ x / 16 ^ 1 := Nat.div_le_div_left (Nat.pow_le_pow_right (by omega) (by omega)) (by omega)
  rw [Nat.pow_one] at h3
  omega

/-- Where a byte is no digit, the bytes are no 16 digits. -/
theorem gathers_no {l : List Nat} {k v : Nat} (hk : k < l.length) (hd : ∀ y, y < 16 → l.getD k 0 ≠ hexD y) : ∀ x, x < 18446744073709551616 → l = hexs x 16 → v = x := by
  intro x hx e
  obtain ⟨_, hb⟩ := gathers_byte e hk
  exact absurd hb (hd _ (Nat.mod_lt _ (by omega)))

theorem hexD_digit {c y : Nat} (h : c = hexD y) (hy : y < 16) (h1 : c ≤ 57) : c - 48 = y := by
  unfold hexD at h
  split at h <;> omega

theorem hexD_letter {c y : Nat} (h : c = hexD y) (hy : y < 16) (h1 : ¬ (48 ≤ c ∧ c ≤ 57)) : 97 ≤ c ∧ c ≤ 102 ∧ c - 87 = y := by
  unfold hexD at h
  split at h <;> omega

/-- How ParseUint ends at base 16. -/
def UintEnd (w : World) (l : List Nat) (e : Ending) (w' : World) : Prop :=
  Below w.heap.size w w' ∧ ∃ v : Nat, v < 18446744073709551616 ∧ (∀ x, x < 18446744073709551616 → l = hexs x 16 → v = x) ∧
    (e = .returned (.tuple #[.int .u64 (v : Int), .nilIface]) ∨ e = .returned (.tuple #[.int .u64 (v : Int), .iface 122 (.int .i64 1)]) ∨ e = .returned (.tuple #[.int .u64 (v : Int), .iface 122 (.int .i64 2)]))
end Go.Proofs.YtpnfnmeilhiebaaGreatDoor

/- The walk of the library's ParseUint at base 16: the loop. -/
namespace Go.Proofs.YtpnfnmeilhiebaaGreatDoor
open Go.RowKit Fl

theorem lower_under (w : World) : Calls Tryz.prog 106 #[.int .u8 95] w fun e w' => e = .returned (.int .u8 127) ∧ w = w' := by
  have h := lower_any 95 w (by omega)
  rw [show low 95 = 127 by decide +kernel] at h
  exact h

def URel (l : List Nat) (u n i : Value) : Prop := ∃ (k : Nat) (a : Int), u = .bool false ∧ n = .int .u64 a ∧ i = .int .i64 (k : Int) ∧ k ≤ l.length ∧ Hid (∃ acc : Nat, a = (acc : Int) ∧ acc < 18446744073709551616 ∧ Gathers l k acc)

set_option maxRecDepth 100000 in
set_option maxHeartbeats 3200000 in
theorem iuint_any (l : List Nat) (w : World) (hl : ∀ x ∈ l, x < 256) (hn : l.length ≤ 1000000) :
    Calls Tryz.prog 95 #[.string (str l), .int .i64 16, .int .i64 64] w (UintEnd w l) := by
  by_cases h0 : l = []
  · have hq : (str l).toList.isEmpty = true := by rw [h0, str_list]; rfl
    have Hno := Lib.hid (show ∀ x, x < 18446744073709551616 → l = hexs x 16 → 0 = x by
      intro x _ e
      have := congrArg List.length e
      rw [hexs_len, h0] at this
      exact absurd this (by simp))
    clear hl hn h0
    generalize str l = s at *
    go_enter Tryz.func95, Tryz.ntmps95
    go_wp2
    go_ret2
    exact ⟨Below.refl _ _, 0, by omega, Hno.out, .inr (.inr rfl)⟩
  · have hq : (str l).toList.isEmpty = false := by
      rw [str_list, List.isEmpty_eq_false_iff]
      simpa using h0
    obtain ⟨c0, w1, hconv, hby, hbel⟩ := bytes_of_str l w hl hn
    obtain ⟨b0, o0, e0, hcell⟩ := hby.cell (by cases l with | nil => exact absurd rfl h0 | cons _ _ => simp)
    cases e0
    have Hcell := Lib.hid hcell
    have Hl := Lib.hid hl
    have Hst := Lib.hid (gathers_zero l)
    have Hbel := Lib.hid hbel
    have hmv : IntKind.u64.wrap (IntKind.u64.wrap 18446744073709551616 - 1) = 18446744073709551615 := by decide +kernel
    clear hcell hl h0 hby hbel
    go_enter Tryz.func95, Tryz.ntmps95
    go_wp2
    go_loop [12, 13, 101] (fun u n i => URel l u n i) (fun _ _ i => l.length - (intOf i).toNat)
    case atStart => exact ⟨0, 0, rfl, rfl, rfl, Nat.zero_le _, Lib.hid ⟨0, rfl, by omega, Hst.out⟩⟩
    case round =>
      obtain ⟨k, a, rfl, rfl, rfl, hk, HA⟩ := hrel
      obtain ⟨acc, ha, hacc, hga⟩ := HA.out
      by_cases hlt : k < l.length
      · have hc256 : l.getD k 0 < 256 := by
          rw [List.getD_eq_getElem?_getD, List.getElem?_eq_getElem hlt]
          exact Hl.out _ (List.getElem_mem _)
        have hcl := Hcell.out k hlt
        rw [Nat.zero_add] at hcl
        obtain ⟨c, e0⟩ : ∃ c, l.getD k 0 = c := ⟨_, rfl⟩
        rw [e0] at hc256 hcl
        by_cases hdig : 48 ≤ c ∧ c ≤ 57
        · have i1 : (48 : Int) ≤ (c : Int) := by omega
          have i2 : (c : Int) ≤ 57 := by omega
          have d95 : ((c : Int) == 95) = false := beq_eq_false_iff_ne.2 (by omega)
          by_cases hcut : 1152921504606846976 ≤ acc
          · have Hno := Lib.hid (gathers_big (v := 18446744073709551615) hga hlt hcut)
            have icut : 1152921504606846976 ≤ a := by omega
            clear hga ha hacc HA hdig hcut
            go_wp2
            all_goals go_ret2
            all_goals exact ⟨Hbel.out, 18446744073709551615, by omega, Hno.out, .inr (.inl rfl)⟩
          · have Hn := Lib.hid (gathers_next (d := c - 48) hga hlt (fun y hy e => hexD_digit (e0.symm.trans e) hy hdig.2))
            have icut : a < 1152921504606846976 := by omega
            have i0 : 0 ≤ a := by omega
            have iov : a * 16 + ((c : Int) - 48) < 18446744073709551616 := by omega
            have Hlt2 := Lib.hid (show acc * 16 + (c - 48) < 18446744073709551616 by omega)
            have Hv := Lib.hid (show a * 16 + ((c : Int) - 48) = ((acc * 16 + (c - 48) : Nat) : Int) by omega)
            clear hga ha hacc HA hdig hcut
            go_wp2
            all_goals go_round
            all_goals try (case measure => simp [intOf]; omega)
            all_goals exact ⟨k + 1, a * 16 + ((c : Int) - 48), rfl, (by first | rfl | (congr 1; omega)), by go_num, by omega, Lib.hid ⟨_, Hv.out, Hlt2.out, Hn.out⟩⟩
        · obtain ⟨_, hlow, hsame⟩ := low_is hc256
          have HL := Lib.hid (fun w => lower_any c w hc256)
          by_cases h95 : c = 95
          · have Hno := Lib.hid (gathers_no (v := 0) hlt (fun y hy e => by have := hexD_letter (e0.symm.trans e) hy hdig; omega))
            have HL2 := Lib.hid (lower_under)
            clear hga ha hacc HA hdig hsame hlow HL
            subst h95
            go_wp2_with ((with_reducible refine (HL2.out _).mono ?_); rintro e w' ⟨rfl, rfl⟩)
            all_goals go_ret2
            all_goals exact ⟨Hbel.out, 0, by omega, Hno.out, .inr (.inr rfl)⟩
          have d95 : ((c : Int) == 95) = false := beq_eq_false_iff_ne.2 (by omega)
          generalize low c = lc at *
          rcases (show c < 48 ∨ 57 < c by omega) with h48 | h48
          · have j1 : (c : Int) < 48 := by omega
            by_cases hr : 97 ≤ lc ∧ lc ≤ 122
            · have i1 : (97 : Int) ≤ (lc : Int) := by omega
              have i2 : (lc : Int) ≤ 122 := by omega
              by_cases h16 : 103 ≤ lc
              · have i3 : (103 : Int) ≤ (lc : Int) := by omega
                have Hno := Lib.hid (gathers_no (v := 0) hlt (fun y hy e => by have := hexD_letter (e0.symm.trans e) hy hdig; omega))
                clear hga ha hacc HA hdig hsame
                go_wp2_with ((with_reducible refine (HL.out _).mono ?_); rintro e w' ⟨rfl, rfl⟩)
                all_goals go_ret2
                all_goals exact ⟨Hbel.out, 0, by omega, Hno.out, .inr (.inr rfl)⟩
              · have i3 : (lc : Int) ≤ 102 := by omega
                by_cases hcut : 1152921504606846976 ≤ acc
                · have Hno := Lib.hid (gathers_big (v := 18446744073709551615) hga hlt hcut)
                  have icut : 1152921504606846976 ≤ a := by omega
                  clear hga ha hacc HA hdig hcut hsame
                  go_wp2_with ((with_reducible refine (HL.out _).mono ?_); rintro e w' ⟨rfl, rfl⟩)
                  all_goals go_ret2
                  all_goals exact ⟨Hbel.out, 18446744073709551615, by omega, Hno.out, .inr (.inl rfl)⟩
                · have Hn := Lib.hid (gathers_next (d := lc - 87) hga hlt (fun y hy e => by have := hexD_letter (e0.symm.trans e) hy hdig; omega))
                  have icut : a < 1152921504606846976 := by omega
                  have i0 : 0 ≤ a := by omega
                  have iov : a * 16 + ((lc : Int) - 97 + 10) < 18446744073709551616 := by omega
                  have Hlt2 := Lib.hid (show acc * 16 + (lc - 87) < 18446744073709551616 by omega)
                  have Hv := Lib.hid (show a * 16 + ((lc : Int) - 97 + 10) = ((acc * 16 + (lc - 87) : Nat) : Int) by omega)
                  clear hga ha hacc HA hdig hcut hsame
                  go_wp2_with ((with_reducible refine (HL.out _).mono ?_); rintro e w' ⟨rfl, rfl⟩)
                  all_goals go_round
                  all_goals try (case measure => simp [intOf]; omega)
                  all_goals exact ⟨k + 1, a * 16 + ((lc : Int) - 97 + 10), rfl, (by first | rfl | (congr 1; omega)), by go_num, by omega, Lib.hid ⟨_, Hv.out, Hlt2.out, Hn.out⟩⟩
            · by_cases h97 : lc < 97
              · have i1 : (lc : Int) < 97 := by omega
                have Hno := Lib.hid (gathers_no (v := 0) hlt (fun y hy e => by have := hexD_letter (e0.symm.trans e) hy hdig; omega))
                clear hga ha hacc HA hdig hsame
                go_wp2_with ((with_reducible refine (HL.out _).mono ?_); rintro e w' ⟨rfl, rfl⟩)
                all_goals go_ret2
                all_goals exact ⟨Hbel.out, 0, by omega, Hno.out, .inr (.inr rfl)⟩
              · have i1 : (122 : Int) < (lc : Int) := by omega
                have Hno := Lib.hid (gathers_no (v := 0) hlt (fun y hy e => by have := hexD_letter (e0.symm.trans e) hy hdig; omega))
                clear hga ha hacc HA hdig hsame
                go_wp2_with ((with_reducible refine (HL.out _).mono ?_); rintro e w' ⟨rfl, rfl⟩)
                all_goals go_ret2
                all_goals exact ⟨Hbel.out, 0, by omega, Hno.out, .inr (.inr rfl)⟩
          · have j1 : (57 : Int) < (c : Int) := by omega
            by_cases hr : 97 ≤ lc ∧ lc ≤ 122
            · have i1 : (97 : Int) ≤ (lc : Int) := by omega
              have i2 : (lc : Int) ≤ 122 := by omega
              by_cases h16 : 103 ≤ lc
              · have i3 : (103 : Int) ≤ (lc : Int) := by omega
                have Hno := Lib.hid (gathers_no (v := 0) hlt (fun y hy e => by have := hexD_letter (e0.symm.trans e) hy hdig; omega))
                clear hga ha hacc HA hdig hsame
                go_wp2_with ((with_reducible refine (HL.out _).mono ?_); rintro e w' ⟨rfl, rfl⟩)
                all_goals go_ret2
                all_goals exact ⟨Hbel.out, 0, by omega, Hno.out, .inr (.inr rfl)⟩
              · have i3 : (lc : Int) ≤ 102 := by omega
                by_cases hcut : 1152921504606846976 ≤ acc
                · have Hno := Lib.hid (gathers_big (v := 18446744073709551615) hga hlt hcut)
                  have icut : 1152921504606846976 ≤ a := by omega
                  clear hga ha hacc HA hdig hcut hsame
                  go_wp2_with ((with_reducible refine (HL.out _).mono ?_); rintro e w' ⟨rfl, rfl⟩)
                  all_goals go_ret2
                  all_goals exact ⟨Hbel.out, 18446744073709551615, by omega, Hno.out, .inr (.inl rfl)⟩
                · have Hn := Lib.hid (gathers_next (d := lc - 87) hga hlt (fun y hy e => by have := hexD_letter (e0.symm.trans e) hy hdig; omega))
                  have icut : a < 1152921504606846976 := by omega
                  have i0 : 0 ≤ a := by omega
                  have iov : a * 16 + ((lc : Int) - 97 + 10) < 18446744073709551616 := by omega
                  have Hlt2 := Lib.hid (show acc * 16 + (lc - 87) < 18446744073709551616 by omega)
                  have Hv := Lib.hid (show a * 16 + ((lc : Int) - 97 + 10) = ((acc * 16 + (lc - 87) : Nat) : Int) by omega)
                  clear hga ha hacc HA hdig hcut hsame
                  go_wp2_with ((with_reducible refine (HL.out _).mono ?_); rintro e w' ⟨rfl, rfl⟩)
                  all_goals go_round
                  all_goals try (case measure => simp [intOf]; omega)
                  all_goals exact ⟨k + 1, a * 16 + ((lc : Int) - 97 + 10), rfl, (by first | rfl | (congr 1; omega)), by go_num, by omega, Lib.hid ⟨_, Hv.out, Hlt2.out, Hn.out⟩⟩
            · by_cases h97 : lc < 97
              · have i1 : (lc : Int) < 97 := by omega
                have Hno := Lib.hid (gathers_no (v := 0) hlt (fun y hy e => by have := hexD_letter (e0.symm.trans e) hy hdig; omega))
                clear hga ha hacc HA hdig hsame
                go_wp2_with ((with_reducible refine (HL.out _).mono ?_); rintro e w' ⟨rfl, rfl⟩)
                all_goals go_ret2
                all_goals exact ⟨Hbel.out, 0, by omega, Hno.out, .inr (.inr rfl)⟩
              · have i1 : (122 : Int) < (lc : Int) := by omega
                have Hno := Lib.hid (gathers_no (v := 0) hlt (fun y hy e => by have := hexD_letter (e0.symm.trans e) hy hdig; omega))
                clear hga ha hacc HA hdig hsame
                go_wp2_with ((with_reducible refine (HL.out _).mono ?_); rintro e w' ⟨rfl, rfl⟩)
                all_goals go_ret2
                all_goals exact ⟨Hbel.out, 0, by omega, Hno.out, .inr (.inr rfl)⟩
      · obtain rfl : k = l.length := by omega
        have Hend := Lib.hid (gathers_end hga)
        have Hacc := Lib.hid hacc
        subst ha
        clear hga hacc HA hlt
        go_wp2
        go_ret2
        exact ⟨Hbel.out, acc, Hacc.out, Hend.out, .inl rfl⟩
end Go.Proofs.YtpnfnmeilhiebaaGreatDoor

