import Derived.Test.YtpnfnmeilhiebaaGreatDoorMP18
import Derived.Test.YtpnfnmeilhiebaaGreatDoorMP19
import Derived.Test.YtpnfnmeilhiebaaGreatDoorMP10
import Derived.Lib.ParseIntBTie
import Derived.Test.YtpnfnmeilhiebaaGreatDoorMP7
import Derived.Deep.OwnRows
import Derived.Lib.SmallJoins
/- The bytes that some hexadecimal digits may have: guessText. -/
namespace Go.Proofs.YtpnfnmeilhiebaaGreatDoor
open Go.RowKit Go.Shelf Fl

/-- What the first j pairs gave. -/
def GtRel (w : World) (l : List Nat) (d v : Value) (wr : World) : Prop :=
  ∃ (j : Nat) (b : List Nat), 2 * j ≤ l.length ∧ d = .string (str (l.drop (2 * j))) ∧ b.length = j ∧ (∀ c ∈ b, c < 256) ∧ (∀ q : List Nat, (∀ c ∈ q, c < 256) → l = hex2 q → b = q.take j) ∧ wr.ownsRow w.heap.size 5 1 v j (u8s b) ∧ Below w.heap.size w wr

theorem two_take {l : List Nat} {j : Nat} (h : 2 * j + 2 ≤ l.length) : (l.drop (2 * j)).take 2 = [l.getD (2 * j) 0, l.getD (2 * j + 1) 0] := by
  have h1 : 2 * j < l.length := by omega
  have h2 : 2 * j + 1 < l.length := by omega
  rw [List.drop_eq_getElem_cons h1, List.drop_eq_getElem_cons h2]
  rw [List.take_succ_cons, List.take_succ_cons, List.take_zero, List.getD_eq_getElem?_getD, List.getElem?_eq_getElem h1, List.getD_eq_getElem?_getD, List.getElem?_eq_getElem h2]
  rfl

set_option maxRecDepth 100000 in
set_option maxHeartbeats 1600000 in
theorem gtext_any (l : List Nat) (w : World) (hl : ∀ x ∈ l, x < 256) (hn : l.length ≤ 1000000) (he : Errs w) :
    Calls Tryz.prog 74 #[.string (str l)] w fun e w' => ∃ b : List Nat, e = .returned (.iface 69 (.string (str b))) ∧ (∀ c ∈ b, c < 256) ∧ b.length = l.length / 2 ∧ (∀ q : List Nat, (∀ c ∈ q, c < 256) → l = hex2 q → b = q) ∧ Below w.heap.size w w' := by
  have HL := Lib.hid hl
  have HE := Lib.hid he
  obtain ⟨i0, hi, hz0, hz1, hz2⟩ := info_parts info_u8
  clear hl he
  go_enter Tryz.func74, Tryz.ntmps74
  go_wp2

  go_loopw [0, 3] (fun d v wr => GtRel w l d v wr) (fun d _ _ => match d with | .string s => s.size | _ => 0)
  case atStart => exact ⟨0, [], by omega, by simp, rfl, by simp, fun q _ _ => by simp, World.ownsRow_nil _ _ _ _, Below.refl _ _⟩
  case round =>
    obtain ⟨j, b, hj, rfl, hbl, hb8, hq, hown, hbel⟩ := hrel
    have hsz := str_size (l.drop (2 * j))
    rw [List.length_drop] at hsz
    by_cases hlt : 2 * j + 2 ≤ l.length
    · have hji : (2 : Int) ≤ ((str (l.drop (2 * j))).size : Int) := by omega
      have hx1 := str_extract (l.drop (2 * j)) 0 2
      have hx2 : (str (l.drop (2 * j))).extract 2 (str (l.drop (2 * j))).size = str (l.drop (2 * (j + 1))) := by
        rw [str_extract, hsz, List.take_of_length_le (by rw [List.length_drop]; omega), List.drop_drop]
        congr 2
      rw [List.drop_zero, two_take hlt] at hx1
      have HU := Lib.hid (fun w h => uint8_any [l.getD (2 * j) 0, l.getD (2 * j + 1) 0] w (fun x hx => by
        have g : ∀ i, i < l.length → l.getD i 0 < 256 := fun i hi => by
          rw [List.getD_eq_getElem?_getD, List.getElem?_eq_getElem hi]; exact HL.out _ (List.getElem_mem _)
        simp at hx
        rcases hx with rfl | rfl
        · exact g _ (by omega)
        · exact g _ (by omega)) rfl h)
      have Hq := Lib.hid hq
      have Hb8 := Lib.hid hb8
      have Hbl := Lib.hid hbl
      have Hown := Lib.hid hown
      have Hbel := Lib.hid hbel
      have Hlt := Lib.hid hlt
      have hsz2 : 2 ≤ (str (l.drop (2 * j))).size := by omega
      clear hq hb8 hown hbel hlt hj hbl
      have Hpq := Lib.hid (show ∀ q : List Nat, l = hex2 q → j < q.length ∧ [l.getD (2 * j) 0, l.getD (2 * j + 1) 0] = [hexD (q.getD j 0 / 16), hexD (q.getD j 0 % 16)] from by
        intro q e
        have hl2 := Hlt.out
        rw [e, hex2_len] at hl2
        have hj2 : j < q.length := by omega
        obtain ⟨e1, e2⟩ := hex2_get q j hj2
        exact ⟨hj2, by rw [e, e1, e2]⟩)
      have Hx2 := Lib.hid (show (str (l.drop (2 * j))).extract 2 (l.length - 2 * j) = str (l.drop (2 * (j + 1))) from by rw [← hsz]; exact hx2)
      have Hsz := Lib.hid hsz
      have Hsz2 := Lib.hid (str_size (l.drop (2 * (j + 1))))
      generalize [l.getD (2 * j) 0, l.getD (2 * j + 1) 0] = p at *
      generalize str (l.drop (2 * j)) = S at *
      have hjb : j ≤ 1000000 := by have := Hlt.out; omega
      go_wp2_with fail
      refine (HU.out _ (HE.out.below Hbel.out)).mono ?_
      rintro e w1 ⟨hb1, x, er, hx, hxq, rfl⟩
      have Hb1 := Lib.hid hb1
      have Hown1 := Lib.hid (own_below Hown.out hb1)
      have Hbel1 := Lib.hid (Hbel.out.trans (hb1.mono Hbel.out.size))
      have hxm : (x : Int) % 256 = (x : Int) := by omega
      have Hx := Lib.hid hx
      have Hxq := Lib.hid hxq
      have hz0 := Hbel1.out.size
      clear hb1 hxq
      go_wp2_with (at_builtin; refine wpList_append_bytes _ rfl _ _ 28 rfl w.heap.size 5 Tryz.underlying28 info_u8 _ _ _ rfl (Hown1.out.alloc _) _ 1 1 [x] rfl (byte_row _ (by omega) (by omega)) (by omega) (by simp; omega) ?_; intro v' w2 g1 g2)
      case roundEnd =>
        refine ⟨⟨j + 1, b ++ [x], by have := Hlt.out; omega, by rw [Hx2.out], by rw [List.length_append, Hbl.out]; rfl, ?_, fun q hq8 e => ?_, ?_, ?_⟩, ?_⟩
        · intro c hc
          rcases List.mem_append.1 hc with h | h
          · exact Hb8.out c h
          · rw [List.mem_singleton.1 h]; exact Hx.out
        · obtain ⟨hjq, e2⟩ := Hpq.out q e
          have e3 : q.getD j 0 = q[j] := by rw [List.getD_eq_getElem?_getD, List.getElem?_eq_getElem hjq]; rfl
          have h256 := hq8 _ (List.getElem_mem hjq)
          have e4 := Hxq.out (q.getD j 0 / 16) (q.getD j 0 % 16) (by rw [e3]; omega) (by omega) e2
          rw [Hq.out q hq8 e, List.take_succ_eq_append_getElem hjq, e4, ← e3]
          congr 2
          omega
        · exact g1
        · have hb : Below w.heap.size w (w1.alloc (.cells #[.int .u8 (x : Int)] 5)) := Hbel1.out.alloc Hbel1.out.size _
          exact hb.grown g2 hb.size (fun k hk => (Hown1.out.lt k hk).1)
        · rw [Hx2.out]
          show (str (l.drop (2 * (j + 1)))).size < S.size
          rw [Hsz2.out, Hsz.out, List.length_drop]
          have := Hlt.out
          omega
    · have hji : ((str (l.drop (2 * j))).size : Int) < 2 := by omega
      have hszl : (str (l.drop (2 * j))).size < 2 := by omega
      obtain ⟨p, cp, rfl, hB⟩ := own_slice hown hb8
      have hcv := convert_bytes (P := Tryz.prog) hB 28 5 69 Tryz.underlying28 Tryz.underlying5 Tryz.underlying69
      have Hq := Lib.hid hq
      have Hb8 := Lib.hid hb8
      have Hbl := Lib.hid hbl
      have Hbel := Lib.hid hbel
      have Hj := Lib.hid (show j = l.length / 2 by omega)
      clear hq hb8 hown hbel hlt hj hbl hB
      generalize str (l.drop (2 * j)) = S at *
      generalize hS : str b = T at *
      have HS := Lib.hid hS
      clear hS
      go_wp2
      go_ret
      refine ⟨b, by rw [HS.out]; rfl, Hb8.out, by rw [Hbl.out, Hj.out], fun q hq8 e => ?_, Hbel.out⟩
      rw [Hq.out q hq8 e, List.take_of_length_le]
      have h2 := Hj.out
      rw [e, hex2_len] at h2
      omega
end Go.Proofs.YtpnfnmeilhiebaaGreatDoor

/- What strconv.ParseInt makes of decimal forms: plain mathematics. -/
namespace Go.Proofs.YtpnfnmeilhiebaaGreatDoor
open Go.RowKit Fl

def valD (acc : Nat) (l : List Nat) : Nat := l.foldl (fun a c => a * 10 + (c - 48)) acc

theorem valD_ge : ∀ (l : List Nat) (acc : Nat), acc ≤ valD acc l
  | [], acc => Nat.le_refl _
  | c :: r, acc => by
    have h := valD_ge r (acc * 10 + (c - 48))
    have e : valD acc (c :: r) = valD (acc * 10 + (c - 48)) r := rfl
    rw [e]
    omega

theorem digit_toNat {c : Nat} (h : 48 ≤ c ∧ c ≤ 57) : (UInt8.ofNat c).toNat = c := by
  simp [UInt8.toNat_ofNat']
  omega

theorem parseM_digits {M : Nat} (hM : M ≤ 18446744073709551615) : ∀ (l : List Nat) (acc : Nat), (∀ c ∈ l, 48 ≤ c ∧ c ≤ 57) → valD acc l ≤ M → Lib.parseUintM M acc (l.map UInt8.ofNat) = .ok (valD acc l)
  | [], acc, _, _ => rfl
  | c :: r, acc, hd, hv => by
    have hc := hd c (by simp)
    have e : valD acc (c :: r) = valD (acc * 10 + (c - 48)) r := rfl
    rw [e] at hv ⊢
    have hge := valD_ge r (acc * 10 + (c - 48))
    rw [List.map_cons, Lib.parseUintM, digit_toNat hc, if_pos hc, if_neg (by omega), if_neg (by omega)]
    exact parseM_digits hM r _ (fun x hx => hd x (by simp [hx])) hv

theorem parseB_dec {n : Nat} (h : n ≤ 18446744073709551615) : Lib.parseUintB 64 ((decD n).map UInt8.ofNat) = .ok n := by
  obtain ⟨c, q, e, h1, h2⟩ := decD_head n
  unfold Lib.parseUintB
  rw [if_neg (by rw [e]; simp)]
  have hv : valD 0 (decD n) = n := decOf_decD n
  have h64 : 2 ^ 64 - 1 = 18446744073709551615 := by decide
  have hm := parseM_digits (M := 2 ^ 64 - 1) (by decide) (decD n) 0 (fun c hc => decD_digit n c hc) (by rw [hv, h64]; exact h)
  rw [hv] at hm
  exact hm

theorem parseInt_dec {n : Int} (h1 : -9223372036854775808 ≤ n) (h2 : n ≤ 9223372036854775807) : Lib.parseIntB 64 ((decL n).map UInt8.ofNat) = .ok n := by
  have h63 : (2 : Nat) ^ (64 - 1) = 9223372036854775808 := by decide
  unfold decL
  by_cases hn : n < 0
  · rw [if_pos hn, List.map_cons, Lib.parseIntB]
    have e45 : (UInt8.ofNat 45).toNat = 45 := by decide
    simp only [e45, or_true, if_true]
    rw [parseB_dec (by omega)]
    simp only [not_true_eq_false, false_and, if_false, true_and]
    rw [h63, if_neg (by omega)]
    congr 1
    omega
  · rw [if_neg hn]
    obtain ⟨c, q, e, g1, g2⟩ := decD_head n.natAbs
    have hp := parseB_dec (n := n.natAbs) (by omega)
    rw [e, List.map_cons] at hp ⊢
    rw [Lib.parseIntB]
    have ec := digit_toNat (c := c) ⟨g1, g2⟩
    simp only [ec]
    rw [if_neg (by omega), hp]
    simp only [show ¬ c = 45 by omega, not_false_eq_true, true_and, false_and, if_false]
    rw [h63, if_neg (by omega)]
    congr 1
    omega

theorem parseM_lt {M : Nat} : ∀ (l : List UInt8) (acc u : Nat), Lib.parseUintM M acc l = .ok u → u < (acc + 1) * 10 ^ l.length
  | [], acc, u, h => by
    rw [Lib.parseUintM] at h
    cases h
    simp
  | c :: r, acc, u, h => by
    rw [Lib.parseUintM] at h
    by_cases hc : 48 ≤ c.toNat ∧ c.toNat ≤ 57
    · rw [if_pos hc] at h
      by_cases h1 : 1844674407370955162 ≤ acc
      · rw [if_pos h1] at h; cases h
      · rw [if_neg h1] at h
        by_cases h2 : M < acc * 10 + (c.toNat - 48)
        · rw [if_pos h2] at h; cases h
        · rw [if_neg h2] at h
          have ih := parseM_lt r _ u h
          have h3 : (acc * 10 + (c.toNat - 48) + 1) * 10 ^ r.length ≤ ((acc + 1) * 10) * 10 ^ r.length := Nat.mul_le_mul_right _ (by omega)
          rw [List.length_cons, Nat.pow_succ, Nat.mul_comm (10 ^ r.length) 10, ← Nat.mul_assoc]
          omega
    · rw [if_neg hc] at h; cases h

theorem parseB_len {l : List UInt8} {u : Nat} (h : Lib.parseUintB 64 l = .ok u) : (decD u).length ≤ l.length ∧ 0 < l.length := by
  unfold Lib.parseUintB at h
  by_cases h0 : l = []
  · rw [if_pos h0] at h; cases h
  · rw [if_neg h0] at h
    have h1 := parseM_lt l 0 u h
    have hl : 0 < l.length := by cases l with | nil => exact absurd rfl h0 | cons _ _ => simp
    rw [show l.length = (l.length - 1) + 1 by omega] at h1 ⊢
    exact ⟨decD_len (l.length - 1) u (by omega), by omega⟩

theorem parseInt_len {l : List UInt8} {v : Int} (h : Lib.parseIntB 64 l = .ok v) : (decL v).length ≤ l.length + 1 ∧ 0 < l.length := by
  cases l with
  | nil => rw [Lib.parseIntB] at h; cases h
  | cons c r =>
    refine ⟨?_, by simp⟩
    rw [Lib.parseIntB] at h
    cases hu : Lib.parseUintB 64 (if c.toNat = 43 ∨ c.toNat = 45 then r else c :: r) with
    | range => rw [hu] at h; cases h
    | ok u =>
      rw [hu] at h
      have hl := (parseB_len hu).1
      have hle : (decD u).length ≤ (c :: r).length := by
        split at hl
        · rw [List.length_cons]; omega
        · exact hl
      have hv : v.natAbs = u := by
        simp only at h
        split at h
        · cases h
        · split at h
          · cases h
          · split at h
            · cases h; omega
            · cases h; omega
      unfold decL
      rw [hv]
      split
      · rw [List.length_cons]; omega
      · omega
    | _ => rw [hu] at h; cases h
end Go.Proofs.YtpnfnmeilhiebaaGreatDoor

/- The text of a list of values. -/
namespace Go.Proofs.YtpnfnmeilhiebaaGreatDoor
open Go.RowKit Go.Shelf Fl

theorem info_string : (Tryz.prog.info? 9).map (fun i => (i.zero, i.size, i.bytes)) = some (some (.string ByteArray.empty), 1, 16) := by kernel_rfl

/-- The array of texts when the first j of them are written. -/
def textRow (l : List V) (j : Nat) : Array Value := ((l.take j).map (fun u => Value.string (str (textV u))) ++ List.replicate (l.length - j) (Value.string ⟨#[]⟩)).toArray

theorem textRow_size {l : List V} {j : Nat} (h : j ≤ l.length) : (textRow l j).size = l.length := by
  unfold textRow
  simp
  omega

theorem textRow_zero (l : List V) : (madeCells #[Value.string ByteArray.empty] l.length) = textRow l 0 := by
  apply Array.ext
  · rw [size_madeCells, textRow_size (Nat.zero_le _)]
  · intro i h1 h2
    simp [madeCells, textRow, Nat.mod_one]
    rfl

theorem textRow_set {l : List V} {j : Nat} (h : j < l.length) : (textRow l j).setIfInBounds j (.string (str (textV l[j]))) = textRow l (j + 1) := by
  apply Array.ext
  · rw [Array.size_setIfInBounds, textRow_size (by omega), textRow_size (by omega)]
  · intro i h1 h2
    rw [textRow_size (by omega)] at h2
    rw [Array.getElem_setIfInBounds (by rw [textRow_size (by omega)]; exact h2)]
    by_cases e : j = i
    · subst e
      rw [if_pos rfl]
      simp [textRow, List.length_take, Nat.min_eq_left (show j + 1 ≤ l.length by omega)]
    · rw [if_neg e]
      by_cases e2 : i < j
      · simp [textRow, List.length_take, Nat.min_eq_left (show j + 1 ≤ l.length by omega), Nat.min_eq_left (show j ≤ l.length by omega), e2, show i < j + 1 by omega]
      · simp [textRow, List.getElem_append, List.length_take, Nat.min_eq_left (show j + 1 ≤ l.length by omega), Nat.min_eq_left (show j ≤ l.length by omega), e2, show ¬ i < j + 1 by omega]

theorem join_len : ∀ a : List (List Nat), a.length ≤ (joinS a).length + 1
  | [] => by simp
  | [y] => by simp [joinS]
  | y :: z :: r => by
    have := join_len (z :: r)
    rw [joinS, List.length_append, List.length_cons]
    simp only [List.length_cons] at this ⊢
    omega

theorem lib_join : ∀ a : List (List Nat), Lib.join (a.map (fun l => l.map UInt8.ofNat)) [32] = (joinS a).map UInt8.ofNat
  | [] => rfl
  | [y] => by simp [Lib.join, List.intercalate, joinS]
  | y :: z :: r => by
    have ih := lib_join (z :: r)
    unfold Lib.join at ih ⊢
    rw [joinS, List.map_append, show (32 :: joinS (z :: r)).map UInt8.ofNat = 32 :: (joinS (z :: r)).map UInt8.ofNat from rfl, ← ih]
    simp [List.intercalate]

/-- How a content answers text. -/
def TextAt (w : World) (con : Value) (txt : List Nat) : Prop :=
  ∃ (T : TypeId) (v : Value) (f : FuncId), con = .iface T v ∧ (∀ (n : Nat) (w : World), (method (n + 1) T v "clockwork/value.text").run Tryz.prog w = .ok (f, v) w) ∧ (∀ args w, (callFunc f args).run Tryz.prog w = .ok (.enter f args) w) ∧
    ∀ w', Below w.heap.size w w' → Calls Tryz.prog f #[v] w' fun e w'' => e = .returned (.string (str txt)) ∧ Below w'.heap.size w' w''

set_option maxRecDepth 100000 in
theorem listText_any (l : List V) (a : Option Addr) (cap : Nat) (w : World) (hn : (textV (.mk 4 0 0 [] l)).length ≤ 1000000) (hl : l = [] ∨ ∃ b o, a = some ⟨b, o, none⟩ ∧ VsIn w l b o)
    (ht : ∀ u ∈ l, ∀ a cap, VIn w u (cells5 u.kind u.n u.f u.s a u.l.length cap) → TextAt w (conOf u.kind u.n u.f u.s a u.l.length cap) (textV u)) :
    Calls Tryz.prog 165 #[.slice a l.length cap] w fun e w' => e = .returned (.string (str (textV (.mk 4 0 0 [] l)))) ∧ Below w.heap.size w w' := by
  have hll : l.length ≤ 1000000 := by
    have h := join_len (textVs l)
    rw [textVs_map, List.length_map] at h
    rw [textV, if_neg (by decide), if_neg (by decide), if_neg (by decide), if_pos rfl, List.length_cons, List.length_append, textVs_map] at hn
    simp only [List.length_cons, List.length_nil] at hn
    omega
  have hmk := run_make_row' (P := Tryz.prog) 178 9 (.string ByteArray.empty) 16 Tryz.underlying178 info_string rfl .i64 .i64 l.length (by omega) (by omega)
  have hfl : ∀ (w : World) (a : Addr) (m : Mode) (b : Nat), (store a (.float .f64 b) m).run Tryz.prog w = stored Tryz.prog w a (.float .f64 b) m := fun w a m b => run_store Tryz.prog w a _ m rfl
  have HC := Lib.hid (fun k n f s a len cap w => contentOf_any k n f s a len cap w)
  have H0 := Lib.hid (show (w.alloc (.cells (madeCells #[Value.string ByteArray.empty] l.length) 9)).heap[w.heap.size]? = some (.cells (textRow l 0) 9 (0, 0)) from by
    rw [textRow_zero]; exact heap_alloc_new w _)
  have HL := Lib.hid hl
  have HT := Lib.hid ht
  have HN := Lib.hid hn
  have hb0 := (Below.refl w.heap.size w).alloc (Nat.le_refl _) (.cells (madeCells #[Value.string ByteArray.empty] l.length) 9)
  have Hb0 := Lib.hid hb0
  have hj1 := Tryz.strings_Join
  clear hl hb0 ht hn
  go_enter Tryz.func165, Tryz.ntmps165
  go_wp2_with fail
  generalize w.alloc (.cells (madeCells #[Value.string ByteArray.empty] l.length) 9) = w1 at *
  go_loopw [11] (fun i wr => ∃ j : Nat, j ≤ l.length ∧ i = .int .i64 (j : Int) ∧ wr.heap[w.heap.size]? = some (.cells (textRow l j) 9 (0, 0)) ∧ Below w.heap.size w wr) (fun i _ => l.length - (intOf i).toNat)
  case atStart => exact ⟨0, Nat.zero_le _, rfl, H0.out, Hb0.out⟩
  case round =>
    obtain ⟨j, hj, rfl, hR, hbr⟩ := hrel
    have HR := Lib.hid hR
    have Hbr := Lib.hid hbr
    by_cases hlt : j < l.length
    · have hji : (j : Int) < (l.length : Int) := by omega
      obtain ⟨b, o, rfl, hvs⟩ := HL.out.resolve_left (by intro e; rw [e] at hlt; simp at hlt)
      obtain ⟨a', cap', hvy, c0, c1, c2, c3, c4⟩ := hvs.elem hlt
      replace c0 := cell_below hbr c0
      replace c1 := cell_below hbr c1
      replace c2 := cell_below hbr c2
      replace c3 := cell_below hbr c3
      replace c4 := cell_below hbr c4
      obtain ⟨hget, hmem⟩ := get_mem hlt
      have Hset := Lib.hid (textRow_set hlt)
      have Hlt := Lib.hid hlt
      obtain ⟨T, v, f, hc, hm, he, hcall⟩ := HT.out _ hmem _ _ hvy
      generalize l[j] = u at *
      obtain ⟨z0, z1, z2, z3, z4⟩ := new5 wr (.int .i64 u.kind) (.int .i64 u.n) (.float .f64 u.f) (.string (str u.s)) (.slice a' u.l.length cap') 25
      have HM := Lib.hid hm
      have HK := Lib.hid hcall
      have hal := (Below.refl wr.heap.size wr).alloc (Nat.le_refl _) (.cells #[.int .i64 u.kind, .int .i64 u.n, .float .f64 u.f, .string (str u.s), .slice a' u.l.length cap'] 25)
      have Hal := Lib.hid hal
      clear hlt hbr hR hvs hvy hget hmem hm hcall hal
      go_wp2_with fail
      refine (HC.out u.kind u.n u.f u.s a' u.l.length cap' _).mono ?_
      rintro e w3 ⟨rfl, hb3⟩
      rw [hc]
      have Hb3 := Lib.hid (Hal.out.trans (hb3.mono Hal.out.size))
      clear hb3 hc
      go_wp2_with fail
      rw [HM.out]
      go_wp2_with fail
      refine (HK.out _ (Hbr.out.trans (Hb3.out.mono Hbr.out.size))).mono ?_
      rintro e w4 ⟨rfl, hb4⟩
      have hblk : w4.heap[w.heap.size]? = some (.cells (textRow l j) 9 (0, 0)) := by
        have hlt2 : w.heap.size < wr.heap.size := (Array.getElem?_eq_some_iff.1 HR.out).1
        rw [hb4.block _ (by have := Hb3.out.size; omega), Hb3.out.block _ hlt2]
        exact HR.out
      have Hblk := Lib.hid hblk
      have hcell : ∃ y, w4.cell? ⟨w.heap.size, j, none⟩ = some y := by
        rw [cell_of_row _ _ _ _ _ _ hblk]
        exact ⟨_, Array.getElem?_eq_getElem (by rw [textRow_size (by have := Hlt.out; omega)]; exact Hlt.out)⟩
      obtain ⟨y, hy⟩ := hcell
      have hfr : w4.frozen? ⟨w.heap.size, j, none⟩ = false := by simp [World.frozen?, hblk]
      have Hb4 := Lib.hid (show Below w.heap.size w w4 from Hbr.out.trans ((Hb3.out.trans (hb4.mono Hb3.out.size)).mono Hbr.out.size))
      clear hb4 hblk c0 c1 c2 c3 c4 z0 z1 z2 z3 z4
      go_wp2
      go_roundw
      case rel =>
        refine ⟨j + 1, Hlt.out, by go_num, ?_, Hb4.out.setCell (Nat.le_refl _) _⟩
        rw [← Hset.out]
        exact Joins.block_setCell Hblk.out _
      case measure => simp [intOf]; have := Hlt.out; omega
    · have hji : ¬ ((j : Int) < (l.length : Int)) := by omega
      obtain rfl : j = l.length := by omega
      have hxl : (l.map (fun u => str (textV u))).length = l.length := List.length_map _
      have hmm : (l.map (fun u => str (textV u))).map (·.data.toList) = (textVs l).map (fun x => x.map UInt8.ofNat) := by
        rw [textVs_map, List.map_map, List.map_map]
        exact List.map_congr_left (fun u _ => by simp [str])
      have hjn := hj1 w.heap.size 0 l.length (l.map (fun u => str (textV u))) ⟨#[32]⟩ wr (fun i x hx => by
          rw [List.getElem?_map] at hx
          obtain ⟨u, hu, rfl⟩ := Option.map_eq_some_iff.1 hx
          obtain ⟨hi, rfl⟩ := List.getElem?_eq_some_iff.1 hu
          rw [Nat.zero_add, cell_of_row _ _ _ _ _ _ hR]
          simp [textRow, hi])
        (Array.getElem?_eq_some_iff.1 hR).1 (by rw [hxl]; omega) (by rw [hxl]; exact Nat.le_refl _) (by
          rw [hmm, show ((⟨#[32]⟩ : ByteArray).data.toList) = [32] from rfl, lib_join, List.length_map]
          have h := HN.out
          rw [textV, if_neg (by decide), if_neg (by decide), if_neg (by decide), if_pos rfl, List.length_cons, List.length_append] at h
          omega)
      rw [hxl, hmm, show ((⟨#[32]⟩ : ByteArray).data.toList) = [32] from rfl, lib_join] at hjn
      have Hjn := Lib.hid (show Calls Tryz.prog 166 #[.slice (some ⟨w.heap.size, 0, none⟩) l.length l.length, .string ⟨#[32]⟩] wr (fun e w' => e = .returned (.string (str (joinS (textVs l)))) ∧ Below wr.heap.size wr w') from hjn)
      have hq := str_size (joinS (textVs l))
      have Hsum := Lib.hid (show (⟨#[91]⟩ : ByteArray) ++ str (joinS (textVs l)) ++ (⟨#[93]⟩ : ByteArray) = str (textV (.mk 4 0 0 [] l)) from by
        rw [textV, if_neg (by decide), if_neg (by decide), if_neg (by decide), if_pos rfl]
        exact (congrArg (· ++ (⟨#[93]⟩ : ByteArray)) (str_append [91] (joinS (textVs l)))).trans ((str_append (91 :: joinS (textVs l)) [93]).trans (by simp)))
      have hqn : (joinS (textVs l)).length ≤ 1000000 := by
        have h := HN.out
        rw [textV, if_neg (by decide), if_neg (by decide), if_neg (by decide), if_pos rfl, List.length_cons, List.length_append] at h
        omega
      clear hR hbr hlt hxl hmm hjn hj1
      generalize str (joinS (textVs l)) = S at *
      generalize (joinS (textVs l)).length = q at *
      go_wp2_with fail
      refine Hjn.out.mono ?_
      rintro e w5 ⟨rfl, hb5⟩
      have Hb5 := Lib.hid (Hbr.out.trans (hb5.mono Hbr.out.size))
      clear hb5
      go_wp2
      go_ret
      exact ⟨by rw [← Hsum.out]; rfl, Hb5.out⟩
end Go.Proofs.YtpnfnmeilhiebaaGreatDoor

/- The walk of the reference's text. -/
namespace Go.Proofs.YtpnfnmeilhiebaaGreatDoor
open Go.RowKit Fl

set_option maxRecDepth 100000 in
set_option maxHeartbeats 6400000 in
theorem vtext_any : ∀ (v : V) (x : Array Value) (w : World), (textV v).length ≤ 1000000 → VIn w v x →
    Calls Tryz.prog 30 #[.agg x] w fun e w' => e = .returned (.string (str (textV v))) ∧ Below w.heap.size w w' := by
  refine V.ind ?_
  intro v ih x w hlen h
  obtain ⟨k, n, f, s, l⟩ := v
  obtain ⟨hk, hn, hf, hs, _, a, cap, rfl, hcap, hmax, _⟩ := h.parts
  change VIn w (V.mk k n f s l) (cells5 k n f s a l.length cap) at h
  change l.length ≤ cap at hcap
  change f < 18446744073709551616 at hf
  change ∀ c ∈ s, c < 256 at hs
  change -9223372036854775808 ≤ n ∧ n ≤ 9223372036854775807 at hn
  change ∀ u ∈ l, _ at ih
  have hb := (Below.refl w.heap.size w).alloc (Nat.le_refl _) (.cells (cells5 k n f s a l.length cap) 25)
  have Hb := Lib.hid hb
  have hdef : textV (V.mk k n f s l) = (if k = 1 then decL n else if k = 2 then 35 :: textL (bitsB f) else if k = 3 then 34 :: (hex2 s ++ [34]) else if k = 4 then 91 :: (joinS (textVs l) ++ [93]) else [110, 105, 108]) := by rw [textV]
  rw [hdef] at hlen
  change Calls _ _ #[.agg #[.int .i64 k, .int .i64 n, .float .f64 f, .string (str s), .slice a l.length cap]] _ _
  by_cases q1 : k = 1
  · have Hd := Lib.hid (show textV (V.mk k n f s l) = decL n from by rw [hdef, if_pos q1])
    have HD := Lib.hid (fun w => rdecimal_any n w hn.1 hn.2)
    have d1 : (k == 1) = true := beq_iff_eq.2 q1
    clear hdef hlen hb h ih hk hn hf hs q1
    generalize decL n = t at *
    go_enter Tryz.func30, Tryz.ntmps30
    go_wp2_with fail
    refine (HD.out _).mono ?_
    rintro e w' ⟨rfl, rfl⟩
    go_wp2
    go_ret
    exact ⟨by rw [Hd.out]; rfl, Hb.out⟩
  have d1 : (k == 1) = false := beq_eq_false_iff_ne.2 q1
  by_cases q2 : k = 2
  · have Hd := Lib.hid (show textV (V.mk k n f s l) = 35 :: textL (bitsB f) from by rw [hdef, if_neg q1, if_pos q2])
    have HD := Lib.hid (fun w => rtext_any f w hf)
    have d2 : (k == 2) = true := beq_iff_eq.2 q2
    have hsz : (str (textL (bitsB f))).size ≤ 1000000 := by
      rw [if_neg q1, if_pos q2, List.length_cons] at hlen
      rw [str_size]; omega
    have hcat := str_append [35] (textL (bitsB f))
    have HS := Lib.hid (show str (textV (V.mk k n f s l)) = str [35] ++ str (textL (bitsB f)) from by rw [hcat, Hd.out]; rfl)
    clear hdef hlen hb h ih hk hn hf hs q1 q2 hcat Hd
    generalize str (textL (bitsB f)) = t at *
    go_enter Tryz.func30, Tryz.ntmps30
    go_wp2_with fail
    refine (HD.out _).mono ?_
    rintro e w' ⟨rfl, rfl⟩
    go_wp2
    go_ret
    exact ⟨by rw [HS.out]; rfl, Hb.out⟩
  have d2 : (k == 2) = false := beq_eq_false_iff_ne.2 q2
  by_cases q3 : k = 3
  · have Hd := Lib.hid (show textV (V.mk k n f s l) = 34 :: (hex2 s ++ [34]) from by rw [hdef, if_neg q1, if_neg q2, if_pos q3])
    have hl2 : (hex2 s).length ≤ 1000000 := by
      rw [if_neg q1, if_neg q2, if_pos q3, List.length_cons, List.length_append] at hlen
      omega
    have HD := Lib.hid (fun w => rhex_any s w hs (by rw [hex2_len] at hl2; omega))
    have d3 : (k == 3) = true := beq_iff_eq.2 q3
    have hsz : (str (hex2 s)).size ≤ 1000000 := by rw [str_size]; exact hl2
    have HS := Lib.hid (show str (textV (V.mk k n f s l)) = str [34] ++ str (hex2 s) ++ str [34] from by rw [str_append, str_append, Hd.out]; rfl)
    clear hdef hlen hb h ih hk hn hf hs q1 q2 q3 Hd hl2
    generalize str (hex2 s) = t at *
    have hsz2 : (ByteArray.mk #[34] ++ t).size ≤ 1000001 := by rw [ByteArray.size_append]; show 1 + t.size ≤ _; omega
    go_enter Tryz.func30, Tryz.ntmps30
    go_wp2_with fail
    refine (HD.out _).mono ?_
    rintro e w' ⟨rfl, hb2⟩
    go_wp2
    go_ret
    exact ⟨by rw [HS.out]; rfl, Hb.out.trans (hb2.mono Hb.out.size)⟩
  have d3 : (k == 3) = false := beq_eq_false_iff_ne.2 q3
  by_cases q4 : k = 4
  · have Hd := Lib.hid (show textV (V.mk k n f s l) = 91 :: (joinS (textVs l) ++ [93]) from by rw [hdef, if_neg q1, if_neg q2, if_neg q3, if_pos q4])
    have d4 : (k == 4) = true := beq_iff_eq.2 q4
    have hlj : (joinS (textVs l)).length ≤ 999998 := by
      rw [if_neg q1, if_neg q2, if_neg q3, if_pos q4, List.length_cons, List.length_append] at hlen
      simp only [List.length_cons, List.length_nil] at hlen
      omega
    have IH := Lib.hid (fun (u : V) (hu : u ∈ l) (x : Array Value) (w : World) (hv : VIn w u x) => ih u hu x w (Nat.le_trans (textVs_mem hu) (by omega)) hv)
    have HV := Lib.hid (h.below hb)
    have hc4 : (w.alloc (.cells #[.int .i64 k, .int .i64 n, .float .f64 f, .string (str s), .slice a l.length cap] 25)).cell? ⟨w.heap.size, 4, none⟩ = some (.slice a l.length cap) := box_cell w (cells5 k n f s a l.length cap) 25 4
    have Hlj := Lib.hid hlj
    clear hdef hlen hb h ih hk hn hf hs q1 q2 q3 q4 hlj
    go_enter Tryz.func30, Tryz.ntmps30
    go_wp2
    have hwz : (w.alloc (.cells #[.int .i64 k, .int .i64 n, .float .f64 f, .string (str s), .slice a l.length cap] 25)).heap.size = w.heap.size + 1 := by simp
    generalize w.alloc (.cells #[.int .i64 k, .int .i64 n, .float .f64 f, .string (str s), .slice a l.length cap] 25) = w1 at *
    go_loopw [3, 4] (fun t i wr => ∃ j : Nat, j ≤ l.length ∧ i = .int .i64 (j : Int) ∧ t = .string (str (91 :: joinS (textVs (l.take j)))) ∧ Below w1.heap.size w1 wr) (fun _ i _ => l.length - (intOf i).toNat)
    case atStart => exact ⟨0, Nat.zero_le _, rfl, rfl, Below.refl _ _⟩
    case round =>
      obtain ⟨j, hj, rfl, rfl, hbr⟩ := hrel
      have hcr := cell_below hbr hc4
      have Hbr := Lib.hid hbr
      have hjle := textVs_take_le l j
      have hlj := Hlj.out
      by_cases hlt : j < l.length
      · obtain ⟨b, o, rfl, hvs⟩ := (HV.out.below hbr).list (by show l ≠ []; intro e; rw [e] at hlt; simp at hlt)
        change VsIn wr l b o at hvs
        obtain ⟨p, pc, hvy, c0, c1, c2, c3, c4⟩ := hvs.elem hlt
        have HI := Lib.hid (IH.out _ (get_mem hlt).2 _ wr hvy)
        have htk := textVs_take hlt
        have hju := textVs_mem (get_mem hlt).2
        have hjn := textVs_take_le l (j + 1)
        have hji : (j : Int) < (l.length : Int) := by omega
        have Hlt := Lib.hid hlt
        generalize l[j] = u at *
        by_cases hj0 : j = 0
        · rw [if_pos hj0] at htk
          have hpos : ¬ ((0 : Int) < (j : Int)) := by omega
          have hposn : ¬ 0 < j := by omega
          have hcat := str_append [91] (textV u)
          have hsz : (str (textV u)).size ≤ 1000000 := by rw [str_size]; omega
          have HS := Lib.hid (show str [91] ++ str (textV u) = str (91 :: joinS (textVs (l.take (j + 1)))) from by rw [hcat, htk]; rfl)
          have e0 : str (91 :: joinS (textVs (l.take j))) = str [91] := by rw [hj0]; rfl
          rw [e0]
          have hs1 : (str [91]).size = 1 := by rw [str_size]; rfl
          clear hbr hvs hvy hlt hjle hlj htk hju hjn hcat e0 hj0
          generalize str (textV u) = t at *
          generalize str [91] = t1 at *
          go_wp2_with fail
          refine HI.out.mono ?_
          rintro e w2 ⟨rfl, hb2⟩
          have hbw : Below w1.heap.size w1 w2 := Hbr.out.trans (hb2.mono Hbr.out.size)
          clear hb2 c0 c1 c2 c3 c4 hcr hc4
          go_wp2
          go_roundw
          case rel => exact ⟨j + 1, Hlt.out, by go_num, by rw [HS.out], hbw⟩
          case measure => simp [intOf]; have := Hlt.out; omega
        · rw [if_neg hj0] at htk
          have hcat1 := str_append (91 :: joinS (textVs (l.take j))) [32]
          have hcat2 := str_append (91 :: joinS (textVs (l.take j)) ++ [32]) (textV u)
          have hsz0 : (str (91 :: joinS (textVs (l.take j)))).size ≤ 1000000 := by rw [str_size, List.length_cons]; omega
          have hsz : (str (textV u)).size ≤ 1000000 := by rw [str_size]; omega
          have hs1 : (str [32]).size = 1 := by rw [str_size]; rfl
          have HS := Lib.hid (show str (91 :: joinS (textVs (l.take j))) ++ str [32] ++ str (textV u) = str (91 :: joinS (textVs (l.take (j + 1)))) from by rw [hcat1, hcat2, htk]; simp)
          have hpos : (0 : Int) < (j : Int) := by omega
          have hposn : 0 < j := by omega
          have hsz2 : (str (91 :: joinS (textVs (l.take j))) ++ str [32]).size ≤ 1000001 := by rw [ByteArray.size_append]; omega
          clear hbr hvs hvy hlt hjle hlj htk hju hjn hcat1 hcat2 hj0
          generalize str (textV u) = t at *
          generalize str (91 :: joinS (textVs (l.take j))) = t1 at *
          generalize hsp : str [32] = sp at *
          have hsp2 : ByteArray.mk #[32] = sp := hsp
          clear hsp
          go_wp2_with fail
          refine HI.out.mono ?_
          rintro e w2 ⟨rfl, hb2⟩
          have hbw : Below w1.heap.size w1 w2 := Hbr.out.trans (hb2.mono Hbr.out.size)
          clear hb2 c0 c1 c2 c3 c4 hcr hc4
          go_wp2
          go_roundw
          case rel => exact ⟨j + 1, Hlt.out, by go_num, by rw [HS.out], hbw⟩
          case measure => simp [intOf]; have := Hlt.out; omega
      · have hbw : Below w.heap.size w wr := Hb.out.trans (hbr.mono (by omega))
        have hji : ¬ ((j : Int) < (l.length : Int)) := by omega
        rw [List.take_of_length_le (by omega)]
        have hsz0 : (str (91 :: joinS (textVs l))).size ≤ 1000000 := by rw [str_size, List.length_cons]; omega
        have HS := Lib.hid (show str (textV (V.mk k n f s l)) = str (91 :: joinS (textVs l)) ++ str [93] from by rw [str_append, Hd.out]; rfl)
        clear hbr hlt hjle hlj
        generalize str (91 :: joinS (textVs l)) = t at *
        go_wp2
        go_ret
        exact ⟨by rw [HS.out]; rfl, hbw⟩
  · have d4 : (k == 4) = false := beq_eq_false_iff_ne.2 q4
    have Hd := Lib.hid (show textV (V.mk k n f s l) = [110, 105, 108] from by rw [hdef, if_neg q1, if_neg q2, if_neg q3, if_neg q4])
    clear hdef hlen hb h ih hk hn hf hs q1 q2 q3 q4
    go_enter Tryz.func30, Tryz.ntmps30
    go_wp2
    go_ret
    exact ⟨by rw [Hd.out]; rfl, Hb.out⟩
end Go.Proofs.YtpnfnmeilhiebaaGreatDoor

