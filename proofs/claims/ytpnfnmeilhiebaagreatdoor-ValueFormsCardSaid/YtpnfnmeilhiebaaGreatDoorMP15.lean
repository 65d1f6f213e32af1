import Derived.Test.YtpnfnmeilhiebaaGreatDoorMP14
import Derived.Test.YtpnfnmeilhiebaaGreatDoorMP9
import Derived.Deep.OwnRows
import Derived.Test.YtpnfnmeilhiebaaGreatDoorMP7
/- The walks of a reader's methods, where the bytes lie in blocks of which K holds: those that are left lie there too. -/
namespace Go.Proofs.YtpnfnmeilhiebaaGreatDoor
open Go.RowKit

/-- A reader in block g: the bytes that are left, whether it is ok, and where the bytes lie. -/
def RdK (K : Nat → Prop) (w : World) (g : Nat) (l : List Nat) (ok : Bool) : Prop :=
  ∃ a n c, w.heap[g]? = some (.cells #[.slice a n c, .bool ok] 55 (0, 0)) ∧ Bytes w a n c l ∧ Formed a c ∧ ∀ x : Addr, a = some x → K x.block

theorem RdK.rd {K : Nat → Prop} {w : World} {g : Nat} {l : List Nat} {ok : Bool} (h : RdK K w g l ok) : Rd w g l ok := by
  obtain ⟨a, n, c, h1, h2, h3, _⟩ := h
  exact ⟨a, n, c, h1, h2, h3⟩

theorem RdK.below {K : Nat → Prop} {w w' : World} {g : Nat} {l : List Nat} {ok : Bool} (h : RdK K w g l ok) (hb : Below w.heap.size w w') : RdK K w' g l ok := by
  obtain ⟨a, n, c, h1, h2, h3, h4⟩ := h
  exact ⟨a, n, c, (hb.block g (Array.getElem?_eq_some_iff.1 h1).1).trans h1, h2.grow hb, h3, h4⟩

/-- Another world in which the blocks of which K holds, and that of the reader, are as they were. -/
theorem RdK.keep {K : Nat → Prop} {w w' : World} {g : Nat} {l : List Nat} {ok : Bool} (h : RdK K w g l ok) (hg : w'.heap[g]? = w.heap[g]?) (hk : ∀ b, b < w.heap.size → K b → w'.heap[b]? = w.heap[b]?) : RdK K w' g l ok := by
  obtain ⟨a, n, c, h1, h2, h3, h4⟩ := h
  refine ⟨a, n, c, hg.trans h1, ?_, h3, h4⟩
  rcases Nat.eq_zero_or_pos n with rfl | hn
  · obtain rfl : l = [] := List.length_eq_zero_iff.1 h2.len
    exact ⟨rfl, h2.le, h2.capmax, h2.byte, h2.nil, fun h => absurd h (Nat.lt_irrefl _)⟩
  · refine h2.keep fun p hp hpx => ?_
    obtain ⟨b, o, rfl, _⟩ := h2.cell hn
    have hb := h4 _ rfl
    have hb2 := hpx _ rfl
    simp only at hb hb2
    exact World.cell?_of_block (hk p.block hp (by rw [hb2]; exact hb))

def RdEndK (K : Nat → Prop) (w : World) (g : Nat) (s : List Nat × Bool) (w' : World) : Prop := RdK K w' g s.1 s.2 ∧ w.grownBy w' (some g)

theorem RdEndK.below {K : Nat → Prop} {w w1 w2 : World} {g : Nat} {s : List Nat × Bool} (h : RdEndK K w g s w1) (hb : Below w1.heap.size w1 w2) : RdEndK K w g s w2 := ⟨h.1.below hb, only_below h.2 hb⟩
theorem RdEndK.go {K : Nat → Prop} {w w1 w2 : World} {g : Nat} {s s' : List Nat × Bool} (h : RdEndK K w g s w1) (k : RdEndK K w1 g s' w2) : RdEndK K w g s' w2 := ⟨k.1, only_trans h.2 k.2⟩

section
variable {K : Nat → Prop}

theorem rdEndK_fail {w : World} {g : Nat} {a : Option Addr} {n c : Nat} {ok : Bool} {l : List Nat} (h : w.heap[g]? = some (.cells #[.slice a n c, .bool ok] 55 (0, 0))) (hB : Bytes w a n c l) (hf : Formed a c) (hK : ∀ x : Addr, a = some x → K x.block) :
    RdEndK K w g (l, false) (w.setCell ⟨g, 1, none⟩ (.bool false)) :=
  ⟨⟨a, n, c, rd_store1 h, hB.setFar (fun hn _ hx => rd_other h hB hn hx) _, hf, hK⟩, only_set (only_refl _ _) _ _⟩

theorem rdEndK_go {w : World} {g : Nat} {a a' : Option Addr} {n c n' c' : Nat} {ok : Bool} {l' : List Nat} (h : w.heap[g]? = some (.cells #[.slice a n c, .bool ok] 55 (0, 0))) (hB : Bytes w a' n' c' l') (hf : Formed a' c') (hK : ∀ x : Addr, a' = some x → K x.block) :
    RdEndK K w g (l', true) ((w.setCell ⟨g, 1, none⟩ (.bool true)).setCell ⟨g, 0, none⟩ (.slice a' n' c')) :=
  ⟨⟨a', n', c', rd_store0 (rd_store1 h), (hB.setFar (fun hn _ hx => rd_other h hB hn hx) _).setFar (fun hn _ hx => rd_other h hB hn hx) _, hf, hK⟩, only_set (only_set (only_refl _ _) _ _) _ _⟩

theorem rdK_mark {w : World} {g : Nat} {a : Option Addr} {n c : Nat} {ok : Bool} {l : List Nat} (h : w.heap[g]? = some (.cells #[.slice a n c, .bool ok] 55 (0, 0))) (hB : Bytes w a n c l) (hf : Formed a c) (hK : ∀ x : Addr, a = some x → K x.block) :
    RdK K (w.setCell ⟨g, 1, none⟩ (.bool true)) g l true := ⟨a, n, c, rd_store1 h, hB.setFar (fun hn _ hx => rd_other h hB hn hx) _, hf, hK⟩

theorem slice_fromK {P : Program} {T E : TypeId} (hT : P.underlying T = some (.slice E)) (hin : (P.info? E).map (fun i => (i.zero, i.size, i.bytes)) = some (some (.int .u8 0), 1, 1)) {a : Option Addr} {n c k : Nat} (hk : k ≤ n) (hn : n ≤ c) (hf : Formed a c) (hK : ∀ x : Addr, a = some x → K x.block) :
    ∃ a', (∀ (w : World) (kl : IntKind), (Instr.slice T (.slice a n c) (some (.int kl (k : Int))) none none).run P w = .ok (.slice a' (n - k) (c - k)) w) ∧ Formed a' (c - k) ∧ (∀ x : Addr, a' = some x → K x.block) ∧ ∀ (w : World) (l : List Nat), Bytes w a n c l → Bytes w a' (n - k) (c - k) (l.drop k) := by
  obtain ⟨i, hi, _, hsz, _⟩ := info_parts hin
  have hT' : P.underlying T = some (.slice (P.elem T)) := by rw [hT]; simp [Program.elem, hT]
  have hE : P.elem T = E := by simp [Program.elem, hT]
  have hsize : ∀ w : World, (sizeOf (P.elem T)).run P w = .ok 1 w := fun w => by rw [hE]; simp [sizeOf, typeInfo, hi, hsz]
  refine ⟨if c = k then a else a.map (·.add (k * 1)), fun w kl => ?_, ?_, ?_, fun w l hl => ?_⟩
  · rw [run_slice_l w T a n c hT' kl (k : Int) (by omega) (by omega), hsize]
    rfl
  · intro h
    rw [if_neg (by omega)]
    obtain ⟨b, o, rfl⟩ := hf (by omega)
    exact ⟨b, o + k * 1, by simp [addr_add]⟩
  · intro x hx
    by_cases hck : c = k
    · rw [if_pos hck] at hx; exact hK x hx
    · rw [if_neg hck] at hx
      obtain ⟨b, o, rfl⟩ := hf (by omega)
      simp only [Option.map_some, addr_add] at hx
      cases hx
      exact hK ⟨b, o, none⟩ rfl
  · have hcm := hl.capmax
    by_cases e : k = n
    · subst e
      rw [Nat.sub_self, List.drop_eq_nil_of_le (by rw [hl.len]; exact Nat.le_refl _)]
      refine bytes_none (by omega) (fun h => ?_)
      by_cases hck : c = k
      · omega
      · rw [if_neg hck] at h
        obtain ⟨b, o, rfl⟩ := hf (by omega)
        cases h
    · obtain ⟨b, o, rfl⟩ := hf (by omega)
      rw [if_neg (by omega), Nat.mul_one]
      simp only [Option.map_some, addr_add]
      exact hl.dropTo (by omega)

set_option maxRecDepth 100000 in
theorem numberK_any (g : Nat) (l : List Nat) (ok : Bool) (w : World) (hR : RdK K w g l ok) :
    Calls Tryz.prog 63 #[.pointer (some ⟨g, 0, none⟩)] w fun e w' => e = .returned (.int .u64 ((readN l ok).1 : Int)) ∧ RdEndK K w g (readN l ok).2 w' := by
  obtain ⟨a, n, c, hg, hB, hf, hK⟩ := hR
  have HK := Lib.hid hK
  clear hK
  obtain ⟨z, s, hz⟩ : ∃ z s, numL l 0 0 = (z, s) := ⟨_, _, rfl⟩
  obtain ⟨hs1, hs2, hs3, hs4⟩ := numL_size_le hB.byte hz
  have hlen := hB.len
  have hle := hB.le
  have hsn : s ≤ n := by omega
  have hcm := hB.capmax
  obtain ⟨c0, c1, f0, f1⟩ := rd_cell hg
  have HG := Lib.hid hg
  have HB := Lib.hid hB
  have HZ := Lib.hid hz
  clear hg hB hz hs4 hlen hs1
  by_cases hok : ok = true ∧ 0 < s
  · obtain ⟨rfl, hs⟩ := hok
    have hrd : readN l true = (z, l.drop s, true) := by unfold readN; rw [HZ.out, if_pos ⟨rfl, hs⟩]
    rw [hrd]
    obtain ⟨a', hS, hf', hk', hB'⟩ := slice_fromK (K := K) (k := s) Tryz.underlying28 info_u8 hsn hle hf HK.out
    have Hk' := Lib.hid hk'
    clear hk'
    have HB' := Lib.hid hB'
    have hsI : (0 : Int) < (s : Int) := by omega
    clear hrd hB'
    go_enter Tryz.func63, Tryz.ntmps63
    go_wp2_with fail
    refine (parse_is a n c l w z s HB.out HZ.out).mono ?_
    rintro e w1 ⟨rfl, rfl⟩
    go_wp2
    go_ret
    exact ⟨rfl, rdEndK_go HG.out (HB'.out _ _ HB.out) hf' Hk'.out⟩
  · have hrd : readN l ok = (0, l, false) := by unfold readN; rw [HZ.out, if_neg hok]
    rw [hrd]
    clear hrd
    cases ok
    · clear hok
      go_enter Tryz.func63, Tryz.ntmps63
      go_wp2_with fail
      refine (parse_is a n c l w z s HB.out HZ.out).mono ?_
      rintro e w1 ⟨rfl, rfl⟩
      go_wp2
      go_ret
      exact ⟨rfl, rdEndK_fail HG.out HB.out hf HK.out⟩
    · have hsI : (s : Int) ≤ 0 := by have : ¬ 0 < s := fun h => hok ⟨rfl, h⟩; omega
      have hsD : decide (0 < s) = false := decide_eq_false (by omega)
      clear hok
      go_enter Tryz.func63, Tryz.ntmps63
      go_wp2_with fail
      refine (parse_is a n c l w z s HB.out HZ.out).mono ?_
      rintro e w1 ⟨rfl, rfl⟩
      go_wp2
      go_ret
      exact ⟨rfl, rdEndK_fail HG.out HB.out hf HK.out⟩

/-- A part of the bytes, and what is left of the reader. -/
def TakeEndK (K : Nat → Prop) (w : World) (g : Nat) (r : List Nat × List Nat × Bool) (e : Ending) (w' : World) : Prop :=
  ∃ p m cp, e = .returned (.slice p m cp) ∧ Bytes w' p m cp r.1 ∧ Formed p cp ∧ RdEndK K w g r.2 w'

set_option maxRecDepth 100000 in
theorem takeK_any (g : Nat) (l : List Nat) (ok : Bool) (k : Int) (w : World) (hR : RdK K w g l ok) (k1 : -9223372036854775808 ≤ k) (k2 : k ≤ 9223372036854775807) :
    Calls Tryz.prog 80 #[.pointer (some ⟨g, 0, none⟩), .int .i64 k] w (TakeEndK K w g (takeN l ok k)) := by
  obtain ⟨a, n, c, hg, hB, hf, hK⟩ := hR
  have HK := Lib.hid hK
  clear hK
  have hle := hB.le
  have hcm := hB.capmax
  have hlen := hB.len
  obtain ⟨c0, c1, f0, f1⟩ := rd_cell hg
  have HG := Lib.hid hg
  have HB := Lib.hid hB
  clear hg hB
  by_cases hok : ok = true ∧ 0 ≤ k ∧ k ≤ l.length
  · obtain ⟨rfl, hk1, hk2⟩ := hok
    have hrd : takeN l true k = (l.take k.toNat, l.drop k.toNat, true) := by unfold takeN; rw [if_pos ⟨rfl, hk1, hk2⟩]
    rw [hrd]
    obtain ⟨j, rfl⟩ := Int.eq_ofNat_of_zero_le hk1
    rw [Int.toNat_natCast]
    have hjn : j ≤ n := by omega
    obtain ⟨a1, hS1, hf1, hB1⟩ := slice_to (k := j) Tryz.underlying28 info_u8 hjn hle hf
    obtain ⟨a2, hS2, hf2, hk2, hB2⟩ := slice_fromK (K := K) (k := j) Tryz.underlying28 info_u8 hjn hle hf HK.out
    have Hk2 := Lib.hid hk2
    clear hk2
    have HB1 := Lib.hid hB1
    have HB2 := Lib.hid hB2
    have hj : (j : Int) ≤ (n : Int) := by omega
    clear hrd hB1 hB2 hlen hk2
    go_enter Tryz.func80, Tryz.ntmps80
    go_wp2
    go_ret
    refine ⟨_, _, _, rfl, HB1.out _ _ ((HB.out.setFar (fun hn _ hx => rd_other HG.out HB.out hn hx) _).setFar (fun hn _ hx => rd_other HG.out HB.out hn hx) _), hf1, rdEndK_go HG.out (HB2.out _ _ HB.out) hf2 Hk2.out⟩
  · have hrd : takeN l ok k = ([], l, false) := by unfold takeN; rw [if_neg hok]
    rw [hrd]
    clear hrd
    cases ok
    · clear hok hlen
      go_enter Tryz.func80, Tryz.ntmps80
      go_wp2
      go_ret
      exact ⟨none, 0, 0, rfl, bytes_nil _, formed_none 0 rfl, rdEndK_fail HG.out HB.out hf HK.out⟩
    · by_cases hk0 : 0 ≤ k
      · have hkn : (n : Int) < k := by have : ¬ k ≤ l.length := fun h => hok ⟨rfl, hk0, h⟩; omega
        have hkD : decide (k ≤ (n : Int)) = false := decide_eq_false (by omega)
        clear hok hlen
        go_enter Tryz.func80, Tryz.ntmps80
        go_wp2
        go_ret
        exact ⟨none, 0, 0, rfl, bytes_nil _, formed_none 0 rfl, rdEndK_fail HG.out HB.out hf HK.out⟩
      · have hkn : k < 0 := by omega
        clear hok hlen
        go_enter Tryz.func80, Tryz.ntmps80
        go_wp2
        go_ret
        exact ⟨none, 0, 0, rfl, bytes_nil _, formed_none 0 rfl, rdEndK_fail HG.out HB.out hf HK.out⟩

set_option maxRecDepth 100000 in
theorem countedK_any (g : Nat) (l : List Nat) (ok : Bool) (w : World) (hR : RdK K w g l ok) :
    Calls Tryz.prog 67 #[.pointer (some ⟨g, 0, none⟩)] w (TakeEndK K w g (readB l ok)) := by
  obtain ⟨a, n, c, hg, hB, hf, hK⟩ := hR
  have HK := Lib.hid hK
  clear hK
  obtain ⟨z, s, hz⟩ : ∃ z s, numL l 0 0 = (z, s) := ⟨_, _, rfl⟩
  obtain ⟨hs1, hs2, hs3, hs4⟩ := numL_size_le hB.byte hz
  have hlen := hB.len
  have hle := hB.le
  have hsn : s ≤ n := by omega
  have hcm := hB.capmax
  obtain ⟨c0, c1, f0, f1⟩ := rd_cell hg
  have HG := Lib.hid hg
  have HB := Lib.hid hB
  have HZ := Lib.hid hz
  clear hg hB hz hs4 hs1
  by_cases hok : ok = true ∧ 0 < s ∧ z ≤ n - s
  · obtain ⟨rfl, hs, hzn⟩ := hok
    have hrd : readB l true = ((l.drop s).take z, l.drop (s + z), true) := by unfold readB; rw [HZ.out, if_pos ⟨rfl, hs, by omega⟩]
    rw [hrd]
    have hsI : (0 : Int) < (s : Int) := by omega
    have hzI : (z : Int) ≤ (n : Int) - (s : Int) := by omega
    have hta : takeN l true ((s : Int) + (z : Int)) = (l.take (s + z), l.drop (s + z), true) := by
      unfold takeN
      rw [if_pos ⟨rfl, by omega, by omega⟩, show ((s : Int) + (z : Int)).toNat = s + z by omega]
    have Hta := Lib.hid hta
    have Hlen := Lib.hid hlen
    clear hrd hta hlen
    go_enter Tryz.func67, Tryz.ntmps67
    go_wp2_with fail
    refine (parse_is a n c l w z s HB.out HZ.out).mono ?_
    rintro e w1 ⟨rfl, rfl⟩
    go_wp2_with fail
    refine (takeK_any g l true _ _ (rdK_mark HG.out HB.out hf HK.out) (by omega) (by omega)).mono ?_
    rintro e w2 h2
    rw [Hta.out] at h2
    obtain ⟨p, m, cp, rfl, hP, hfp, hE⟩ := h2
    have HP := Lib.hid hP
    have hmm : m = s + z := by rw [← hP.len, List.length_take, Hlen.out]; omega
    have hpl := hP.le
    clear hP
    obtain ⟨p2, hS2, hf2, hB2⟩ := slice_from (k := s) Tryz.underlying28 info_u8 (show s ≤ m by omega) hpl hfp
    have HB2 := Lib.hid hB2
    have Hmm := Lib.hid hmm
    have hsm : (s : Int) ≤ (m : Int) := by omega
    clear hB2 hmm
    go_wp2
    go_ret
    refine ⟨_, _, _, rfl, ?_, hf2, hE.1, only_trans (only_set (only_refl _ _) _ _) hE.2⟩
    have hfin := HB2.out _ _ HP.out
    rw [List.drop_take, show s + z - s = z by omega] at hfin
    exact hfin
  · have hrd : readB l ok = ([], l, false) := by unfold readB; rw [HZ.out, hlen, if_neg hok]
    rw [hrd]
    clear hrd hlen
    cases ok
    · clear hok
      go_enter Tryz.func67, Tryz.ntmps67
      go_wp2_with fail
      refine (parse_is a n c l w z s HB.out HZ.out).mono ?_
      rintro e w1 ⟨rfl, rfl⟩
      go_wp2
      go_ret
      exact ⟨none, 0, 0, rfl, bytes_nil _, formed_none 0 rfl, rdEndK_fail HG.out HB.out hf HK.out⟩
    · by_cases hs : 0 < s
      · have hzI : (n : Int) - (s : Int) < (z : Int) := by have : ¬ z ≤ n - s := fun h => hok ⟨rfl, hs, h⟩; omega
        have hsI : (0 : Int) < (s : Int) := by omega
        have hzD : decide ((z : Int) ≤ (n : Int) - (s : Int)) = false := decide_eq_false (by omega)
        clear hok
        go_enter Tryz.func67, Tryz.ntmps67
        go_wp2_with fail
        refine (parse_is a n c l w z s HB.out HZ.out).mono ?_
        rintro e w1 ⟨rfl, rfl⟩
        go_wp2
        go_ret
        exact ⟨none, 0, 0, rfl, bytes_nil _, formed_none 0 rfl, rdEndK_fail HG.out HB.out hf HK.out⟩
      · have hsI : (s : Int) ≤ 0 := by omega
        have hsD : decide (0 < s) = false := decide_eq_false (by omega)
        clear hok
        go_enter Tryz.func67, Tryz.ntmps67
        go_wp2_with fail
        refine (parse_is a n c l w z s HB.out HZ.out).mono ?_
        rintro e w1 ⟨rfl, rfl⟩
        go_wp2
        go_ret
        exact ⟨none, 0, 0, rfl, bytes_nil _, formed_none 0 rfl, rdEndK_fail HG.out HB.out hf HK.out⟩

/-- Bytes in new memory. -/
def GiveEndK (K : Nat → Prop) (w : World) (g : Nat) (r : List Nat × List Nat × Bool) (e : Ending) (w' : World) : Prop :=
  ∃ p m cp, e = .returned (.slice p m cp) ∧ Bytes w' p m cp r.1 ∧ RdEndK K w g r.2 w'

theorem giveK_of_clone {w1 w2 w3 : World} {g : Nat} {r : List Nat × List Nat × Bool} {x : Value} (hE : RdEndK K w1 g r.2 w2) (hx : OwnBytes w2 w3 x r.1) (hb : ∀ y ∈ r.1, y < 256) : GiveEndK K w1 g r (.returned x) w3 := by
  obtain ⟨hown, hbel⟩ := hx
  obtain ⟨p, cp, rfl, hB⟩ := own_slice hown hb
  exact ⟨p, _, cp, rfl, hB, hE.below hbel⟩

section
variable (v : Value) (g : Nat) (l : List Nat) (ok : Bool) (w w1 : World) (hO : OrNone v g w w1) (hR : RdK K w1 g l ok)
include hO hR

theorem mUintK : Calls Tryz.prog 48 #[v] w fun e w' => e = .returned (.int .u64 ((readN l ok).1 : Int)) ∧ RdEndK K w1 g (readN l ok).2 w' := by
  have HO := Lib.hid hO
  have HR := Lib.hid hR
  clear hO hR
  go_enter Tryz.func48, Tryz.ntmps48
  go_wp2_with fail
  refine (show Calls _ _ _ _ _ from HO.out).mono ?_
  rintro e w2 ⟨rfl, rfl⟩
  go_wp2_with fail
  refine (numberK_any g l ok w1 HR.out).mono ?_
  rintro e w2 ⟨rfl, h2⟩
  go_wp2
  go_ret
  exact ⟨rfl, h2⟩

theorem mIntK : Calls Tryz.prog 49 #[v] w fun e w' => e = .returned (.int .i64 (unfoldL (readN l ok).1)) ∧ RdEndK K w1 g (readN l ok).2 w' := by
  have hlt := readN_lt g l ok w1 hR.rd
  have HO := Lib.hid hO
  have HR := Lib.hid hR
  clear hO hR
  go_enter Tryz.func49, Tryz.ntmps49
  go_wp2_with fail
  refine (show Calls _ _ _ _ _ from HO.out).mono ?_
  rintro e w2 ⟨rfl, rfl⟩
  go_wp2_with fail
  refine (numberK_any g l ok w1 HR.out).mono ?_
  rintro e w2 ⟨rfl, h2⟩
  go_wp2_with fail
  refine (unfold_any _ w2 hlt).mono ?_
  rintro e w3 ⟨rfl, rfl⟩
  go_wp2
  go_ret
  exact ⟨rfl, h2⟩

theorem mTakeK (k : Int) (k1 : -9223372036854775808 ≤ k) (k2 : k ≤ 9223372036854775807) (hl : l.length ≤ 1000000) : Calls Tryz.prog 65 #[v, .int .i64 k] w (GiveEndK K w1 g (takeN l ok k)) := by
  have HO := Lib.hid hO
  have HR := Lib.hid hR
  have hlen : (takeN l ok k).1.length ≤ 1000000 := by
    unfold takeN
    split
    · rw [List.length_take]; omega
    · simp
  clear hO hR
  go_enter Tryz.func65, Tryz.ntmps65
  go_wp2_with fail
  refine (show Calls _ _ _ _ _ from HO.out).mono ?_
  rintro e w2 ⟨rfl, rfl⟩
  go_wp2_with fail
  refine (takeK_any g l ok k w1 HR.out k1 k2).mono ?_
  rintro e w2 ⟨p, m, cp, rfl, hP, hfp, hE⟩
  have hm : m ≤ 1000000 := by rw [← hP.len]; exact hlen
  have HP := Lib.hid hP
  clear hP
  go_wp2_with fail
  refine (bclone_any p m cp _ w2 HP.out (by omega)).mono ?_
  rintro e w3 ⟨x, rfl, hx⟩
  go_wp2
  go_ret
  exact giveK_of_clone hE hx HP.out.byte

theorem mTextK : Calls Tryz.prog 51 #[v] w fun e w' => e = .returned (.string (str (readB l ok).1)) ∧ RdEndK K w1 g (readB l ok).2 w' := by
  have HO := Lib.hid hO
  have HR := Lib.hid hR
  clear hO hR
  go_enter Tryz.func51, Tryz.ntmps51
  go_wp2_with fail
  refine (show Calls _ _ _ _ _ from HO.out).mono ?_
  rintro e w2 ⟨rfl, rfl⟩
  go_wp2_with fail
  refine (countedK_any g l ok w1 HR.out).mono ?_
  rintro e w2 ⟨p, m, cp, rfl, hP, hfp, hE⟩
  have hcv := convert_bytes (P := Tryz.prog) hP 28 5 9 Tryz.underlying28 Tryz.underlying5 Tryz.underlying9
  clear hP
  go_wp2
  go_ret
  exact ⟨rfl, hE⟩
end
end
end Go.Proofs.YtpnfnmeilhiebaaGreatDoor

/- The walk of the library's FormatUint at base 16. -/
namespace Go.Proofs.YtpnfnmeilhiebaaGreatDoor
open Go.RowKit Fl

/-- The one place of the library's table that base 16 asks for. -/
def Tab16 (w : World) : Prop := w.cell? ⟨6, 15, none⟩ = some (.int .u8 4)

theorem tz64_any (w : World) (ht : Tab16 w) :
    Calls Tryz.prog 136 #[.int .u64 16] w fun e w' => e = .returned (.int .i64 4) ∧ w = w' := by
  have hc := ht
  unfold Tab16 at hc
  have e0 : bits .and .u64 16 (IntKind.u64.wrap (-16)) = 16 := by decide +kernel
  have e1 : bits .and .u64 16 18446744073709551600 = 16 := by decide +kernel
  have e2 : IntKind.u64.wrap (16 * 285870213051353865) = 4573923408821661840 := by decide +kernel
  have e3 : IntKind.u64.wrap 4573923408821661840 = 4573923408821661840 := by decide +kernel
  go_enter Tryz.func136, Tryz.ntmps136
  go_wp2
  go_ret
  exact ⟨rfl, rfl⟩

theorem tz_any (w : World) (ht : Tab16 w) :
    Calls Tryz.prog 131 #[.int .u64 16] w fun e w' => e = .returned (.int .i64 4) ∧ w = w' := by
  have H := Lib.hid (tz64_any w ht)
  go_enter Tryz.func131, Tryz.ntmps131
  go_wp2_with fail
  refine H.out.mono ?_
  rintro e w' ⟨rfl, rfl⟩
  go_wp2
  go_ret
  exact ⟨rfl, rfl⟩

theorem pow2_any (w : World) :
    Calls Tryz.prog 130 #[.int .i64 16] w fun e w' => e = .returned (.bool true) ∧ w = w' := by
  have e1 : bits .and .i64 16 15 = 0 := by decide +kernel
  go_enter Tryz.func130, Tryz.ntmps130
  go_wp2
  go_ret
  exact ⟨rfl, rfl⟩
end Go.Proofs.YtpnfnmeilhiebaaGreatDoor

/- The walk of the library's FormatUint at base 16: the digits. -/
namespace Go.Proofs.YtpnfnmeilhiebaaGreatDoor
open Go.RowKit Fl

theorem zero65 : Tryz.zeroCells156 = Array.replicate 65 (.int .u8 0) := by kernel_rfl

/-- The row of digits behind j rounds. -/
def fcell (x j p : Nat) : Value := if 65 ≤ p + j then .int .u8 (hexD (x / 16 ^ (64 - p) % 16) : Nat) else .int .u8 0

def FRel (x : Nat) (w : World) (u i : Value) (wr : World) : Prop :=
  ∃ j q : Nat, q + j = 65 ∧ j ≤ 15 ∧ i = .int .i64 (q : Int) ∧ u = .int .u64 ((x / 16 ^ j : Nat) : Int) ∧ wr.rowIs w.heap.size 156 65 (fcell x j) ∧ Below w.heap.size w wr

theorem fRel_start (x : Nat) (w : World) : FRel x w (.int .u64 (x : Int)) (.int .i64 65) (w.alloc (.cells Tryz.zeroCells156 156)) := by
  refine ⟨0, 65, rfl, by omega, rfl, by rw [Nat.pow_zero, Nat.div_one], ?_, (Below.refl _ _).alloc (Nat.le_refl _) _⟩
  have h := World.rowIs_alloc w Tryz.zeroCells156 156 (fun _ => .int .u8 0) (fun i hi => by
    rw [zero65] at hi ⊢
    rw [Array.size_replicate] at hi
    rw [Array.getElem?_replicate, if_pos hi])
  rw [zero65, Array.size_replicate] at h
  rw [zero65]
  exact h.congr (fun i hi => by unfold fcell; rw [if_neg (by omega)])

theorem fcell_set {x j p : Nat} (h : p + 1 + j = 65) (k : Nat) (hk : k < 65) : (if k = p then Value.int .u8 (hexD (x / 16 ^ j % 16) : Nat) else fcell x j k) = fcell x (j + 1) k := by
  unfold fcell
  by_cases e : k = p
  · subst e
    rw [if_pos rfl, if_pos (show 65 ≤ k + (j + 1) by omega), show 64 - k = j by omega]
  · rw [if_neg e]
    by_cases h2 : 65 ≤ k + j
    · rw [if_pos h2, if_pos (by omega)]
    · rw [if_neg h2, if_neg (by omega)]

theorem dig_all : ∀ d : Fin 16, ∀ h : d.val < (ByteArray.mk #[48, 49, 50, 51, 52, 53, 54, 55, 56, 57, 97, 98, 99, 100, 101, 102, 103, 104, 105, 106, 107, 108, 109, 110, 111, 112, 113, 114, 115, 116, 117, 118, 119, 120, 121, 122]).size, (((ByteArray.mk #[48, 49, 50, 51, 52, 53, 54, 55, 56, 57, 97, 98, 99, 100, 101, 102, 103, 104, 105, 106, 107, 108, 109, 110, 111, 112, 113, 114, 115, 116, 117, 118, 119, 120, 121, 122])[d.val]'h).toNat : Int) = (hexD d.val : Nat) := by decide +kernel

theorem dig_at {d : Nat} (hd : d < 16) (h : d < (ByteArray.mk #[48, 49, 50, 51, 52, 53, 54, 55, 56, 57, 97, 98, 99, 100, 101, 102, 103, 104, 105, 106, 107, 108, 109, 110, 111, 112, 113, 114, 115, 116, 117, 118, 119, 120, 121, 122]).size) : (((ByteArray.mk #[48, 49, 50, 51, 52, 53, 54, 55, 56, 57, 97, 98, 99, 100, 101, 102, 103, 104, 105, 106, 107, 108, 109, 110, 111, 112, 113, 114, 115, 116, 117, 118, 119, 120, 121, 122])[d]'h).toNat : Int) = (hexD d : Nat) := dig_all ⟨d, hd⟩ h

theorem slice65 (B p : Nat) (h : p < 65) (w : World) :
    (Instr.sliceAt 156 (.pointer (some ⟨B, 0, none⟩)) (some (.int .i64 (p : Int))) none none).run Tryz.prog w = .ok (.slice (some ⟨B, p, none⟩) (65 - p) (65 - p)) w := by
  have e := run_sliceAt_array_l (P := Tryz.prog) w 156 ⟨B, 0, none⟩ (by kernel_rfl) .i64 (p : Int) (by omega) (by rw [show Tryz.prog.arrayLen 156 = 65 by kernel_rfl]; omega)
  have es : (sizeOf (Tryz.prog.elem 156)).run Tryz.prog w = .ok 1 w := by kernel_rfl
  rw [e, es, show Tryz.prog.arrayLen 156 = 65 by kernel_rfl]
  show Result.ok (slicedAt ⟨B, 0, none⟩ (p : Int).toNat 65 65 1) w = _
  unfold slicedAt
  rw [if_neg (by omega), Int.toNat_natCast]
  simp [Addr.add]
  exact fun h => h.symm

theorem hexs_get (x n : Nat) : ∀ i, i < n → (hexs x n).getD i 0 = hexD (x / 2 ^ (4 * (15 - i)) % 16) := by
  induction n with
  | zero => intro i hi; omega
  | succ n ih =>
    intro i hi
    rw [hexs, List.getD_eq_getElem?_getD]
    rcases Nat.lt_or_eq_of_le (Nat.le_of_lt_succ hi) with h | h
    · rw [List.getElem?_append_left (by rw [hexs_len]; exact h), ← List.getD_eq_getElem?_getD]
      exact ih i h
    · subst h
      rw [List.getElem?_append_right (by rw [hexs_len]; exact Nat.le_refl _), hexs_len, Nat.sub_self]
      rfl

/-- The digits as bytes of a slice. -/
theorem digits_bytes {w : World} {B x j p : Nat} (hp : p + 1 + j = 65) (hj : j ≤ 15) (h : w.rowIs B 156 65 (fcell x (j + 1))) : Bytes w (some ⟨B, p, none⟩) (65 - p) (65 - p) ((hexs x 16).drop (16 - (j + 1))) := by
  refine ⟨by rw [List.length_drop, hexs_len]; omega, Nat.le_refl _, by omega, ?_, (fun h => by cases h), fun _ => ⟨B, p, rfl, fun i hi => ?_⟩⟩
  · intro c hc
    obtain ⟨k, hk, rfl⟩ := List.getElem_of_mem (List.mem_of_mem_drop hc)
    have hk2 : k < 16 := by rw [hexs_len] at hk; exact hk
    have e := hexs_get x 16 k hk2
    rw [List.getD_eq_getElem?_getD, List.getElem?_eq_getElem hk] at e
    have e2 : (hexs x 16)[k] = hexD (x / 2 ^ (4 * (15 - k)) % 16) := e
    have hm : x / 2 ^ (4 * (15 - k)) % 16 < 16 := Nat.mod_lt _ (by omega)
    have h5 : hexD (x / 2 ^ (4 * (15 - k)) % 16) < 256 := by
      unfold hexD
      split <;> omega
    rw [← e2] at h5
    exact h5
  · rw [h.cell (by omega)]
    unfold fcell
    rw [if_pos (by omega), List.getD_eq_getElem?_getD, List.getElem?_drop, ← List.getD_eq_getElem?_getD, hexs_get x 16 _ (by omega)]
    rw [show 64 - (p + i) = 15 - (16 - (j + 1) + i) by omega, show (16 : Nat) = 2 ^ 4 by decide, ← Nat.pow_mul]

set_option maxRecDepth 100000 in
set_option maxHeartbeats 1600000 in
theorem fbits_any (x : Nat) (w : World) (hx : x < 18446744073709551616) (ht : Tab16 w) :
    Calls Tryz.prog 121 #[.slice none 0 0, .int .u64 (x : Int), .int .i64 16, .bool false, .bool false] w fun e w' => (∃ m, 1 ≤ m ∧ m ≤ 16 ∧ x < 16 ^ m ∧ e = .returned (.tuple #[.slice none 0 0, .string (str ((hexs x 16).drop (16 - m)))])) ∧ Below w.heap.size w w' := by
  have HP := Lib.hid (fun w : World => pow2_any w)
  have HT := Lib.hid (fun w : World => tz_any w)
  have Ht := Lib.hid ht
  have Hst := Lib.hid (fRel_start x w)
  clear ht
  go_enter Tryz.func121, Tryz.ntmps121
  go_wp2_with fail
  refine (HP.out _).mono ?_
  rintro e w' ⟨rfl, rfl⟩
  go_wp2_with fail
  refine (HT.out _ ?_).mono ?_
  · have h := Ht.out
    unfold Tab16 at h ⊢
    rw [((Below.refl w.heap.size w).alloc (Nat.le_refl _) _).cell (World.block_lt_of_cell? _ _ h)]
    exact h
  rintro e w' ⟨rfl, rfl⟩
  go_wp2
  go_loopw [1, 13] (fun u i wr => FRel x w u i wr) (fun _ i _ => (intOf i).toNat)
  case atStart => exact Hst.out
  case round =>
    obtain ⟨j, q, hqj, hj, rfl, rfl, hrow, hbel⟩ := hrel
    obtain ⟨p, rfl⟩ : ∃ p, q = p + 1 := ⟨q - 1, by omega⟩
    have hult : x / 16 ^ j < 18446744073709551616 := Nat.lt_of_le_of_lt (Nat.div_le_self _ _) hx
    have Hn := Lib.hid (show x / 16 ^ j / 16 = x / 16 ^ (j + 1) by rw [Nat.div_div_eq_div_mul, ← Nat.pow_succ])
    have Hset := Lib.hid (fun k hk => fcell_set (x := x) hqj k hk)
    have Hp := Lib.hid (hrow.cell (show p < 65 by omega))
    have Hz := Lib.hid (hrow.frozen p)
    have hp65 : p < 65 := by omega
    generalize fcell x j p = old at *
    generalize hU : x / 16 ^ j = u at *
    by_cases h16 : 16 ≤ u
    · have ha := and15 hult
      have hd : u % 16 < 16 := Nat.mod_lt _ (by omega)
      have hdig := dig_at hd
      have hcell := Hp.out
      have hfz := Hz.out
      have hj2 : j < 15 := by
        rcases Nat.lt_or_eq_of_le hj with h | h
        · exact h
        · rw [h] at hU
          have : x / 16 ^ 15 < 16 := Nat.div_lt_of_lt_mul (by omega)
          omega
      have Hset2 := Lib.hid (show ∀ k, k < 65 → (if k = p then Value.int .u8 (hexD (u % 16) : Nat) else fcell x j k) = fcell x (j + 1) k by
        intro k hk
        have h := Hset.out k hk
        exact h)
      clear hU hx Hset
      generalize u % 16 = d at *
      go_wp2
      go_round
      case rel =>
        refine ⟨j + 1, p, by omega, by omega, rfl, congrArg (Value.int .u64) (congrArg Nat.cast Hn.out), ?_, hbel.setCell (Nat.le_refl _) _⟩
        exact (hrow.set p _).congr (fun k hk => Hset2.out k hk)
      case measure => simp [intOf]
    · have hd : u < 16 := by omega
      have hdig := dig_at hd
      have hcell := Hp.out
      have hfz := Hz.out
      have hsl := slice65 w.heap.size p hp65
      have Hset2 := Lib.hid (show ∀ k, k < 65 → (if k = p then Value.int .u8 (hexD u : Nat) else fcell x j k) = fcell x (j + 1) k by
        intro k hk
        have h := Hset.out k hk
        rw [Nat.mod_eq_of_lt hd] at h
        exact h)
      have hrow2 := (hrow.set p (.int .u8 (hexD u : Nat))).congr (fun k hk => Hset2.out k hk)
      have hby := digits_bytes (by omega) hj hrow2
      have hconv := convert_bytes hby 28 5 9 Tryz.underlying28 Tryz.underlying5 Tryz.underlying9
      have Hlast := Lib.hid (show x < 16 ^ (j + 1) by
        rw [← hU] at hd
        have h := (Nat.div_lt_iff_lt_mul (Nat.pow_pos (by omega))).1 hd
        rw [Nat.pow_succ, Nat.mul_comm]
        exact h)
      have Hbel := Lib.hid (hbel.setCell (show w.heap.size ≤ (Addr.mk w.heap.size p none).block from Nat.le_refl _) (.int .u8 (hexD u : Nat)))
      clear hx hU Hset Hset2 hrow2 hby
      go_wp2
      go_ret2
      exact ⟨⟨j + 1, by omega, by omega, Hlast.out, by rw [show 16 - (j + 1) = 15 - j by omega]; rfl⟩, Hbel.out⟩
end Go.Proofs.YtpnfnmeilhiebaaGreatDoor

/- The walk of the code's Scale. -/
namespace Go.Proofs.YtpnfnmeilhiebaaGreatDoor
open Go.RowKit Fl

theorem mul_runs (F b : Nat) (w : World) : ∃ r w1, (binOp .mul 22 (.float .f64 F) (.float .f64 b)).run Tryz.prog w = .ok (.float .f64 r) w1 ∧ Below w.heap.size w w1 := by
  cases h : floatBits .mul .f64 F b with
  | some r => exact ⟨r, w, run_float_arith w .mul 22 .f64 F b r h, Below.refl _ _⟩
  | none =>
    refine ⟨Question.cut (.nanBits .f64 F b) (w.tape w.drawn (.nanBits .f64 F b)), w.drew, ?_, Below.drew (Below.refl w.heap.size w)⟩
    unfold floatBits at h
    simp only at h
    simp [binOp, Op.floatArith, h, Question.forced]

theorem val_zero : val 0 = 0 := by decide

/-- A number is greater than 0 just where it is positive, or the infinity. -/
theorem gt_zero_no {b : Nat} (hb : b < 18446744073709551616) (hz : bitsB b = Q ∨ bitsB b = 0 ∨ W ≤ bitsB b) : (FloatKind.f64.format.order b 0 == some .gt) = false := by
  show (Ieee.double.order b 0 == some .gt) = false
  by_cases h : I < b % W
  · rw [order_none hb h]
    rfl
  · have e : bitsB b = b := if_neg h
    have hq : b ≠ Q := by
      intro hq
      rw [hq] at h
      exact h (by decide)
    have e0 : sv (decide (W ≤ 0)) (0 % W) = 0 := by decide
    rw [e] at hz
    rw [order_words hb (by omega) (by omega) (by decide), e0]
    by_cases h1 : W ≤ b
    · rw [decide_eq_true h1]
      have e1 : sv true (b % W) = -(val (b % W) : Int) := rfl
      rw [e1]
      rcases Nat.eq_zero_or_pos (val (b % W)) with h2 | h2
      · rw [h2]; decide
      · rw [cmp_lt (by omega)]; rfl
    · have h2 : b = 0 := by
        rcases hz with h | h | h
        · exact absurd h hq
        · exact h
        · exact absurd h h1
      rw [decide_eq_false h1, h2]
      decide

theorem gt_zero_yes {b : Nat} (hb : b < 18446744073709551616) (hz : ¬ (bitsB b = Q ∨ bitsB b = 0 ∨ W ≤ bitsB b)) : (FloatKind.f64.format.order b 0 == some .gt) = true := by
  show (Ieee.double.order b 0 == some .gt) = true
  by_cases h : I < b % W
  · exact absurd (.inl (if_pos h)) hz
  · have e : bitsB b = b := if_neg h
    have e0 : sv (decide (W ≤ 0)) (0 % W) = 0 := by decide
    rw [e] at hz
    have h1 : ¬ W ≤ b := fun h => hz (.inr (.inr h))
    have h2 : b ≠ 0 := fun h => hz (.inr (.inl h))
    rw [order_words hb (by omega) (by omega) (by decide), e0, decide_eq_false h1, Nat.mod_eq_of_lt (by omega)]
    have e1 : sv false b = (val b : Int) := rfl
    have h3 : val 0 < val b := val_lt_iff.2 (by omega)
    rw [e1, cmp_gt (by omega)]
    rfl

end Go.Proofs.YtpnfnmeilhiebaaGreatDoor

