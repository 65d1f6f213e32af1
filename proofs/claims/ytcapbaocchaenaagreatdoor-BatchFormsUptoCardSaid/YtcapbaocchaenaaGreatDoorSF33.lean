import Derived.Test.YtcapbaocchaenaaGreatDoorSF32
import Derived.Test.YtcapbaocchaenaaGreatDoorSF8
import Derived.Test.YtcapbaocchaenaaGreatDoorSF20
import Derived.Test.YtcapbaocchaenaaGreatDoorSF31
import Derived.Test.YtcapbaocchaenaaGreatDoorSF15
import Derived.Test.YtcapbaocchaenaaGreatDoorSF12
import Derived.Below
import Derived.Test.YtcapbaocchaenaaGreatDoorSF1
/- The walks of a reader's exported methods, for a reader and for none. -/
namespace Go.Proofs.YtcapbaocchaenaaGreatDoor
open Go.RowKit

theorem only_below {a b c : World} {r : Option Nat} (h : a.grownBy b r) (k : Below b.heap.size b c) : a.grownBy c r :=
  ⟨k.os.trans h.os, k.tape.trans h.tape, k.output.trans h.output, Nat.le_trans h.size k.size, fun i hi hne => (k.block i (Nat.lt_of_lt_of_le hi h.size)).trans (h.block i hi hne)⟩

theorem RdEnd.below {w w1 w2 : World} {g : Nat} {s : List Nat × Bool} (h : RdEnd w g s w1) (hb : Below w1.heap.size w1 w2) : RdEnd w g s w2 := ⟨h.1.below hb, only_below h.2 hb⟩

/-- What orNone answers: the receiver, or a new reader. -/
def OrNone (v : Value) (g : Nat) (w w1 : World) : Prop := Calls Tryz.prog 73 #[v] w fun e w' => e = .returned (.pointer (some ⟨g, 0, none⟩)) ∧ w1 = w'

theorem orNone_some (g : Nat) (w : World) : OrNone (.pointer (some ⟨g, 0, none⟩)) g w w := by
  show Calls _ _ _ _ _
  go_enter Tryz.func73, Tryz.ntmps73
  go_wp2
  go_ret
  exact ⟨rfl, rfl⟩

section
variable (v : Value) (g : Nat) (l : List Nat) (ok : Bool) (w w1 : World) (hO : OrNone v g w w1) (hR : Rd w1 g l ok)
include hO hR

omit hO in
theorem readN_lt : (readN l ok).1 < 18446744073709551616 := by
  obtain ⟨a, n, c, _, hB, _⟩ := hR
  obtain ⟨z, s, hz⟩ : ∃ z s, numL l 0 0 = (z, s) := ⟨_, _, rfl⟩
  have := (numL_size_le hB.byte hz).2.2.1
  unfold readN
  rw [hz]
  split
  · exact this
  · show (0 : Nat) < 18446744073709551616
    decide

theorem mLeft : Calls Tryz.prog 79 #[v] w fun e w' => e = .returned (.int .i64 (l.length : Nat)) ∧ w1 = w' := by
  have HO := Lib.hid hO
  obtain ⟨a, n, c, hg, hB, _⟩ := hR
  obtain ⟨c0, _, _, _⟩ := rd_cell hg
  have HL := Lib.hid hB.len
  clear hO hg hB
  go_enter Tryz.func79, Tryz.ntmps79
  go_wp2_with fail
  refine (show Calls _ _ _ _ _ from HO.out).mono ?_
  rintro e w2 ⟨rfl, rfl⟩
  go_wp2
  go_ret
  exact ⟨ret_i64 (by rw [HL.out]), rfl⟩

theorem mOk : Calls Tryz.prog 78 #[v] w fun e w' => e = .returned (.bool ok) ∧ w1 = w' := by
  have HO := Lib.hid hO
  obtain ⟨a, n, c, hg, hB, _⟩ := hR
  obtain ⟨_, c1, _, _⟩ := rd_cell hg
  clear hO hg hB
  go_enter Tryz.func78, Tryz.ntmps78
  go_wp2_with fail
  refine (show Calls _ _ _ _ _ from HO.out).mono ?_
  rintro e w2 ⟨rfl, rfl⟩
  go_wp2
  go_ret
  exact ⟨rfl, rfl⟩
end

def doneB (l : List Nat) (ok : Bool) : Bool := ok && decide (l.length = 0)

theorem mDone (g : Nat) (l : List Nat) (ok : Bool) (w : World) (hR : Rd w g l ok) :
    Calls Tryz.prog 43 #[.pointer (some ⟨g, 0, none⟩)] w fun e w' => e = .returned (.bool (doneB l ok)) ∧ w = w' := by
  have HR := Lib.hid hR
  clear hR
  cases ok
  · have hd : doneB l false = false := rfl
    rw [hd]
    clear hd
    go_enter Tryz.func43, Tryz.ntmps43
    go_wp2_with fail
    refine (mOk _ g l false w w (orNone_some g w) HR.out).mono ?_
    rintro e w2 ⟨rfl, rfl⟩
    go_wp2
    go_ret
    exact ⟨rfl, rfl⟩
  · have hd : doneB l true = decide (l.length = 0) := Bool.true_and _
    rw [hd]
    clear hd
    by_cases h0 : l.length = 0
    · have hq : (((l.length : Nat) : Int) == 0) = true := beq_iff_eq.2 (by omega)
      have H0 := Lib.hid h0
      clear h0
      go_enter Tryz.func43, Tryz.ntmps43
      go_wp2_with fail
      refine (mOk _ g l true w w (orNone_some g w) HR.out).mono ?_
      rintro e w2 ⟨rfl, rfl⟩
      go_wp2_with fail
      refine (mLeft _ g l true w w (orNone_some g w) HR.out).mono ?_
      rintro e w2 ⟨rfl, rfl⟩
      go_wp2
      go_ret
      exact ⟨ret_bool (decide_eq_true H0.out).symm, rfl⟩
    · have hq : (((l.length : Nat) : Int) == 0) = false := beq_eq_false_iff_ne.2 (by omega)
      have H0 := Lib.hid h0
      clear h0
      go_enter Tryz.func43, Tryz.ntmps43
      go_wp2_with fail
      refine (mOk _ g l true w w (orNone_some g w) HR.out).mono ?_
      rintro e w2 ⟨rfl, rfl⟩
      go_wp2_with fail
      refine (mLeft _ g l true w w (orNone_some g w) HR.out).mono ?_
      rintro e w2 ⟨rfl, rfl⟩
      go_wp2
      go_ret
      exact ⟨ret_bool (decide_eq_false H0.out).symm, rfl⟩

/-- A reader whose bytes lie beyond what there was. -/
def RdF (w : World) (g : Nat) (l : List Nat) (ok : Bool) (base : Nat) : Prop :=
  ∃ a n c, w.heap[g]? = some (.cells #[.slice a n c, .bool ok] 103 (0, 0)) ∧ Bytes w a n c l ∧ Formed a c ∧ ∀ x, a = some x → base ≤ x.block

theorem RdF.below {w w' : World} {g : Nat} {l : List Nat} {ok : Bool} {base : Nat} (h : RdF w g l ok base) (hb : Below w.heap.size w w') : RdF w' g l ok base := by
  obtain ⟨a, n, c, h1, h2, h3, h4⟩ := h
  exact ⟨a, n, c, (hb.block g (Array.getElem?_eq_some_iff.1 h1).1).trans h1, h2.grow hb, h3, h4⟩

end Go.Proofs.YtcapbaocchaenaaGreatDoor

/- The walks of a reader's methods, where the bytes lie in blocks of which K holds: those that are left lie there too. -/
namespace Go.Proofs.YtcapbaocchaenaaGreatDoor
open Go.RowKit

/-- A reader in block g: the bytes that are left, whether it is ok, and where the bytes lie. -/
def RdK (K : Nat → Prop) (w : World) (g : Nat) (l : List Nat) (ok : Bool) : Prop :=
  ∃ a n c, w.heap[g]? = some (.cells #[.slice a n c, .bool ok] 103 (0, 0)) ∧ Bytes w a n c l ∧ Formed a c ∧ ∀ x : Addr, a = some x → K x.block

theorem RdK.rd {K : Nat → Prop} {w : World} {g : Nat} {l : List Nat} {ok : Bool} (h : RdK K w g l ok) : Rd w g l ok := by
  obtain ⟨a, n, c, h1, h2, h3, _⟩ := h
  exact ⟨a, n, c, h1, h2, h3⟩

theorem RdK.below {K : Nat → Prop} {w w' : World} {g : Nat} {l : List Nat} {ok : Bool} (h : RdK K w g l ok) (hb : Below w.heap.size w w') : RdK K w' g l ok := by
  obtain ⟨a, n, c, h1, h2, h3, h4⟩ := h
  exact ⟨a, n, c, (hb.block g (Array.getElem?_eq_some_iff.1 h1).1).trans h1, h2.grow hb, h3, h4⟩

/-- Another world in which the blocks of which K holds, and that of the reader, are as they were. -/
theorem RdK.keep {K : Nat → Prop} {w w' : World} {g : Nat} {l : List Nat} {ok : Bool} (h : RdK K w g l ok) (hg : w'.heap[g]? = w.heap[g]?) (hk : ∀ b, b < w.heap.size → K b → w'.heap[b]? = w.heap[b]?) : RdK K w' g l ok := by
  obtain ⟨a, n, c, h1, h2, h3, h4⟩ := h
  refine ⟨a, n, c, hg.trans h1, ?_, h3, h4⟩
  rcases Nat.eq_zero_or_pos n with rfl | hn
  · obtain rfl : l = [] := List.length_eq_zero_iff.1 h2.len
    exact ⟨rfl, h2.le, h2.capmax, h2.byte, h2.nil, fun h => absurd h (Nat.lt_irrefl _)⟩
  · refine h2.keep fun p hp hpx => ?_
    obtain ⟨b, o, rfl, _⟩ := h2.cell hn
    have hb := h4 _ rfl
    have hb2 := hpx _ rfl
    simp only at hb hb2
    exact World.cell?_of_block (hk p.block hp (by rw [hb2]; exact hb))

def RdEndK (K : Nat → Prop) (w : World) (g : Nat) (s : List Nat × Bool) (w' : World) : Prop := RdK K w' g s.1 s.2 ∧ w.grownBy w' (some g)

theorem RdEndK.below {K : Nat → Prop} {w w1 w2 : World} {g : Nat} {s : List Nat × Bool} (h : RdEndK K w g s w1) (hb : Below w1.heap.size w1 w2) : RdEndK K w g s w2 := ⟨h.1.below hb, only_below h.2 hb⟩
theorem RdEndK.go {K : Nat → Prop} {w w1 w2 : World} {g : Nat} {s s' : List Nat × Bool} (h : RdEndK K w g s w1) (k : RdEndK K w1 g s' w2) : RdEndK K w g s' w2 := ⟨k.1, only_trans h.2 k.2⟩

section
variable {K : Nat → Prop}

theorem rdEndK_fail {w : World} {g : Nat} {a : Option Addr} {n c : Nat} {ok : Bool} {l : List Nat} (h : w.heap[g]? = some (.cells #[.slice a n c, .bool ok] 103 (0, 0))) (hB : Bytes w a n c l) (hf : Formed a c) (hK : ∀ x : Addr, a = some x → K x.block) :
    RdEndK K w g (l, false) (w.setCell ⟨g, 1, none⟩ (.bool false)) :=
  ⟨⟨a, n, c, rd_store1 h, hB.setFar (fun hn _ hx => rd_other h hB hn hx) _, hf, hK⟩, only_set (only_refl _ _) _ _⟩

theorem rdEndK_go {w : World} {g : Nat} {a a' : Option Addr} {n c n' c' : Nat} {ok : Bool} {l' : List Nat} (h : w.heap[g]? = some (.cells #[.slice a n c, .bool ok] 103 (0, 0))) (hB : Bytes w a' n' c' l') (hf : Formed a' c') (hK : ∀ x : Addr, a' = some x → K x.block) :
    RdEndK K w g (l', true) ((w.setCell ⟨g, 1, none⟩ (.bool true)).setCell ⟨g, 0, none⟩ (.slice a' n' c')) :=
  ⟨⟨a', n', c', rd_store0 (rd_store1 h), (hB.setFar (fun hn _ hx => rd_other h hB hn hx) _).setFar (fun hn _ hx => rd_other h hB hn hx) _, hf, hK⟩, only_set (only_set (only_refl _ _) _ _) _ _⟩

theorem rdK_mark {w : World} {g : Nat} {a : Option Addr} {n c : Nat} {ok : Bool} {l : List Nat} (h : w.heap[g]? = some (.cells #[.slice a n c, .bool ok] 103 (0, 0))) (hB : Bytes w a n c l) (hf : Formed a c) (hK : ∀ x : Addr, a = some x → K x.block) :
    RdK K (w.setCell ⟨g, 1, none⟩ (.bool true)) g l true := ⟨a, n, c, rd_store1 h, hB.setFar (fun hn _ hx => rd_other h hB hn hx) _, hf, hK⟩

theorem slice_fromK {P : Program} {T E : TypeId} (hT : P.underlying T = some (.slice E)) (hin : (P.info? E).map (fun i => (i.zero, i.size, i.bytes)) = some (some (.int .u8 0), 1, 1)) {a : Option Addr} {n c k : Nat} (hk : k ≤ n) (hn : n ≤ c) (hf : Formed a c) (hK : ∀ x : Addr, a = some x → K x.block) :
    ∃ a', (∀ (w : World) (kl : IntKind), (Instr.slice T (.slice a n c) (some (.int kl (k : Int))) none none).run P w = .ok (.slice a' (n - k) (c - k)) w) ∧ Formed a' (c - k) ∧ (∀ x : Addr, a' = some x → K x.block) ∧ ∀ (w : World) (l : List Nat), Bytes w a n c l → Bytes w a' (n - k) (c - k) (l.drop k) := by
  obtain ⟨i, hi, _, hsz, _⟩ := info_parts hin
  have hT' : P.underlying T = some (.slice (P.elem T)) := by rw [hT]; simp [Program.elem, hT]
  have hE : P.elem T = E := by simp [Program.elem, hT]
  have hsize : ∀ w : World, (sizeOf (P.elem T)).run P w = .ok 1 w := fun w => by rw [hE]; simp [sizeOf, typeInfo, hi, hsz]
  refine ⟨if c = k then a else a.map (·.add (k * 1)), fun w kl => ?_, ?_, ?_, fun w l hl => ?_⟩
  · rw [run_slice_l w T a n c hT' kl (k : Int) (by omega) (by omega), hsize]
    rfl
  · intro h
    rw [if_neg (by omega)]
    obtain ⟨b, o, rfl⟩ := hf (by omega)
    exact ⟨b, o + k * 1, by simp [addr_add]⟩
  · intro x hx
    by_cases hck : c = k
    · rw [if_pos hck] at hx; exact hK x hx
    · rw [if_neg hck] at hx
      obtain ⟨b, o, rfl⟩ := hf (by omega)
      simp only [Option.map_some, addr_add] at hx
      cases hx
      exact hK ⟨b, o, none⟩ rfl
  · have hcm := hl.capmax
    by_cases e : k = n
    · subst e
      rw [Nat.sub_self, List.drop_eq_nil_of_le (by rw [hl.len]; exact Nat.le_refl _)]
      refine bytes_none (by omega) (fun h => ?_)
      by_cases hck : c = k
      · omega
      · rw [if_neg hck] at h
        obtain ⟨b, o, rfl⟩ := hf (by omega)
        cases h
    · obtain ⟨b, o, rfl⟩ := hf (by omega)
      rw [if_neg (by omega), Nat.mul_one]
      simp only [Option.map_some, addr_add]
      exact hl.dropTo (by omega)

set_option maxRecDepth 100000 in
theorem numberK_any (g : Nat) (l : List Nat) (ok : Bool) (w : World) (hR : RdK K w g l ok) :
    Calls Tryz.prog 75 #[.pointer (some ⟨g, 0, none⟩)] w fun e w' => e = .returned (.int .u64 ((readN l ok).1 : Int)) ∧ RdEndK K w g (readN l ok).2 w' := by
  obtain ⟨a, n, c, hg, hB, hf, hK⟩ := hR
  have HK := Lib.hid hK
  clear hK
  obtain ⟨z, s, hz⟩ : ∃ z s, numL l 0 0 = (z, s) := ⟨_, _, rfl⟩
  obtain ⟨hs1, hs2, hs3, hs4⟩ := numL_size_le hB.byte hz
  have hlen := hB.len
  have hle := hB.le
  have hsn : s ≤ n := by omega
  have hcm := hB.capmax
  obtain ⟨c0, c1, f0, f1⟩ := rd_cell hg
  have HG := Lib.hid hg
  have HB := Lib.hid hB
  have HZ := Lib.hid hz
  clear hg hB hz hs4 hlen hs1
  by_cases hok : ok = true ∧ 0 < s
  · obtain ⟨rfl, hs⟩ := hok
    have hrd : readN l true = (z, l.drop s, true) := by unfold readN; rw [HZ.out, if_pos ⟨rfl, hs⟩]
    rw [hrd]
    obtain ⟨a', hS, hf', hk', hB'⟩ := slice_fromK (K := K) (k := s) Tryz.underlying28 info_u8 hsn hle hf HK.out
    have Hk' := Lib.hid hk'
    clear hk'
    have HB' := Lib.hid hB'
    have hsI : (0 : Int) < (s : Int) := by omega
    clear hrd hB'
    go_enter Tryz.func75, Tryz.ntmps75
    go_wp2_with fail
    refine (parse_is a n c l w z s HB.out HZ.out).mono ?_
    rintro e w1 ⟨rfl, rfl⟩
    go_wp2
    go_ret
    exact ⟨rfl, rdEndK_go HG.out (HB'.out _ _ HB.out) hf' Hk'.out⟩
  · have hrd : readN l ok = (0, l, false) := by unfold readN; rw [HZ.out, if_neg hok]
    rw [hrd]
    clear hrd
    cases ok
    · clear hok
      go_enter Tryz.func75, Tryz.ntmps75
      go_wp2_with fail
      refine (parse_is a n c l w z s HB.out HZ.out).mono ?_
      rintro e w1 ⟨rfl, rfl⟩
      go_wp2
      go_ret
      exact ⟨rfl, rdEndK_fail HG.out HB.out hf HK.out⟩
    · have hsI : (s : Int) ≤ 0 := by have : ¬ 0 < s := fun h => hok ⟨rfl, h⟩; omega
      have hsD : decide (0 < s) = false := decide_eq_false (by omega)
      clear hok
      go_enter Tryz.func75, Tryz.ntmps75
      go_wp2_with fail
      refine (parse_is a n c l w z s HB.out HZ.out).mono ?_
      rintro e w1 ⟨rfl, rfl⟩
      go_wp2
      go_ret
      exact ⟨rfl, rdEndK_fail HG.out HB.out hf HK.out⟩

/-- A part of the bytes, and what is left of the reader. -/
def TakeEndK (K : Nat → Prop) (w : World) (g : Nat) (r : List Nat × List Nat × Bool) (e : Ending) (w' : World) : Prop :=
  ∃ p m cp, e = .returned (.slice p m cp) ∧ Bytes w' p m cp r.1 ∧ Formed p cp ∧ RdEndK K w g r.2 w'

set_option maxRecDepth 100000 in
theorem takeK_any (g : Nat) (l : List Nat) (ok : Bool) (k : Int) (w : World) (hR : RdK K w g l ok) (k1 : -9223372036854775808 ≤ k) (k2 : k ≤ 9223372036854775807) :
    Calls Tryz.prog 112 #[.pointer (some ⟨g, 0, none⟩), .int .i64 k] w (TakeEndK K w g (takeN l ok k)) := by
  obtain ⟨a, n, c, hg, hB, hf, hK⟩ := hR
  have HK := Lib.hid hK
  clear hK
  have hle := hB.le
  have hcm := hB.capmax
  have hlen := hB.len
  obtain ⟨c0, c1, f0, f1⟩ := rd_cell hg
  have HG := Lib.hid hg
  have HB := Lib.hid hB
  clear hg hB
  by_cases hok : ok = true ∧ 0 ≤ k ∧ k ≤ l.length
  · obtain ⟨rfl, hk1, hk2⟩ := hok
    have hrd : takeN l true k = (l.take k.toNat, l.drop k.toNat, true) := by unfold takeN; rw [if_pos ⟨rfl, hk1, hk2⟩]
    rw [hrd]
    obtain ⟨j, rfl⟩ := Int.eq_ofNat_of_zero_le hk1
    rw [Int.toNat_natCast]
    have hjn : j ≤ n := by omega
    obtain ⟨a1, hS1, hf1, hB1⟩ := slice_to (k := j) Tryz.underlying28 info_u8 hjn hle hf
    obtain ⟨a2, hS2, hf2, hk2, hB2⟩ := slice_fromK (K := K) (k := j) Tryz.underlying28 info_u8 hjn hle hf HK.out
    have Hk2 := Lib.hid hk2
    clear hk2
    have HB1 := Lib.hid hB1
    have HB2 := Lib.hid hB2
    have hj : (j : Int) ≤ (n : Int) := by omega
    clear hrd hB1 hB2 hlen hk2
    go_enter Tryz.func112, Tryz.ntmps112
    go_wp2
    go_ret
    refine ⟨_, _, _, rfl, HB1.out _ _ ((HB.out.setFar (fun hn _ hx => rd_other HG.out HB.out hn hx) _).setFar (fun hn _ hx => rd_other HG.out HB.out hn hx) _), hf1, rdEndK_go HG.out (HB2.out _ _ HB.out) hf2 Hk2.out⟩
  · have hrd : takeN l ok k = ([], l, false) := by unfold takeN; rw [if_neg hok]
    rw [hrd]
    clear hrd
    cases ok
    · clear hok hlen
      go_enter Tryz.func112, Tryz.ntmps112
      go_wp2
      go_ret
      exact ⟨none, 0, 0, rfl, bytes_nil _, formed_none 0 rfl, rdEndK_fail HG.out HB.out hf HK.out⟩
    · by_cases hk0 : 0 ≤ k
      · have hkn : (n : Int) < k := by have : ¬ k ≤ l.length := fun h => hok ⟨rfl, hk0, h⟩; omega
        have hkD : decide (k ≤ (n : Int)) = false := decide_eq_false (by omega)
        clear hok hlen
        go_enter Tryz.func112, Tryz.ntmps112
        go_wp2
        go_ret
        exact ⟨none, 0, 0, rfl, bytes_nil _, formed_none 0 rfl, rdEndK_fail HG.out HB.out hf HK.out⟩
      · have hkn : k < 0 := by omega
        clear hok hlen
        go_enter Tryz.func112, Tryz.ntmps112
        go_wp2
        go_ret
        exact ⟨none, 0, 0, rfl, bytes_nil _, formed_none 0 rfl, rdEndK_fail HG.out HB.out hf HK.out⟩

set_option maxRecDepth 100000 in
theorem countedK_any (g : Nat) (l : List Nat) (ok : Bool) (w : World) (hR : RdK K w g l ok) :
    Calls Tryz.prog 74 #[.pointer (some ⟨g, 0, none⟩)] w (TakeEndK K w g (readB l ok)) := by
  obtain ⟨a, n, c, hg, hB, hf, hK⟩ := hR
  have HK := Lib.hid hK
  clear hK
  obtain ⟨z, s, hz⟩ : ∃ z s, numL l 0 0 = (z, s) := ⟨_, _, rfl⟩
  obtain ⟨hs1, hs2, hs3, hs4⟩ := numL_size_le hB.byte hz
  have hlen := hB.len
  have hle := hB.le
  have hsn : s ≤ n := by omega
  have hcm := hB.capmax
  obtain ⟨c0, c1, f0, f1⟩ := rd_cell hg
  have HG := Lib.hid hg
  have HB := Lib.hid hB
  have HZ := Lib.hid hz
  clear hg hB hz hs4 hs1
  by_cases hok : ok = true ∧ 0 < s ∧ z ≤ n - s
  · obtain ⟨rfl, hs, hzn⟩ := hok
    have hrd : readB l true = ((l.drop s).take z, l.drop (s + z), true) := by unfold readB; rw [HZ.out, if_pos ⟨rfl, hs, by omega⟩]
    rw [hrd]
    have hsI : (0 : Int) < (s : Int) := by omega
    have hzI : (z : Int) ≤ (n : Int) - (s : Int) := by omega
    have hta : takeN l true ((s : Int) + (z : Int)) = (l.take (s + z), l.drop (s + z), true) := by
      unfold takeN
      rw [if_pos ⟨rfl, by omega, by omega⟩, show ((s : Int) + (z : Int)).toNat = s + z by omega]
    have Hta := Lib.hid hta
    have Hlen := Lib.hid hlen
    clear hrd hta hlen
    go_enter Tryz.func74, Tryz.ntmps74
    go_wp2_with fail
    refine (parse_is a n c l w z s HB.out HZ.out).mono ?_
    rintro e w1 ⟨rfl, rfl⟩
    go_wp2_with fail
    refine (takeK_any g l true _ _ (rdK_mark HG.out HB.out hf HK.out) (by omega) (by omega)).mono ?_
    rintro e w2 h2
    rw [Hta.out] at h2
    obtain ⟨p, m, cp, rfl, hP, hfp, hE⟩ := h2
    have HP := Lib.hid hP
    have hmm : m = s + z := by rw [← hP.len, List.length_take, Hlen.out]; omega
    have hpl := hP.le
    clear hP
    obtain ⟨p2, hS2, hf2, hB2⟩ := slice_from (k := s) Tryz.underlying28 info_u8 (show s ≤ m by omega) hpl hfp
    have HB2 := Lib.hid hB2
    have Hmm := Lib.hid hmm
    have hsm : (s : Int) ≤ (m : Int) := by omega
    clear hB2 hmm
    go_wp2
    go_ret
    refine ⟨_, _, _, rfl, ?_, hf2, hE.1, only_trans (only_set (only_refl _ _) _ _) hE.2⟩
    have hfin := HB2.out _ _ HP.out
    rw [List.drop_take, show s + z - s = z by omega] at hfin
    exact hfin
  · have hrd : readB l ok = ([], l, false) := by unfold readB; rw [HZ.out, hlen, if_neg hok]
    rw [hrd]
    clear hrd hlen
    cases ok
    · clear hok
      go_enter Tryz.func74, Tryz.ntmps74
      go_wp2_with fail
      refine (parse_is a n c l w z s HB.out HZ.out).mono ?_
      rintro e w1 ⟨rfl, rfl⟩
      go_wp2
      go_ret
      exact ⟨none, 0, 0, rfl, bytes_nil _, formed_none 0 rfl, rdEndK_fail HG.out HB.out hf HK.out⟩
    · by_cases hs : 0 < s
      · have hzI : (n : Int) - (s : Int) < (z : Int) := by have : ¬ z ≤ n - s := fun h => hok ⟨rfl, hs, h⟩; omega
        have hsI : (0 : Int) < (s : Int) := by omega
        have hzD : decide ((z : Int) ≤ (n : Int) - (s : Int)) = false := decide_eq_false (by omega)
        clear hok
        go_enter Tryz.func74, Tryz.ntmps74
        go_wp2_with fail
        refine (parse_is a n c l w z s HB.out HZ.out).mono ?_
        rintro e w1 ⟨rfl, rfl⟩
        go_wp2
        go_ret
        exact ⟨none, 0, 0, rfl, bytes_nil _, formed_none 0 rfl, rdEndK_fail HG.out HB.out hf HK.out⟩
      · have hsI : (s : Int) ≤ 0 := by omega
        have hsD : decide (0 < s) = false := decide_eq_false (by omega)
        clear hok
        go_enter Tryz.func74, Tryz.ntmps74
        go_wp2_with fail
        refine (parse_is a n c l w z s HB.out HZ.out).mono ?_
        rintro e w1 ⟨rfl, rfl⟩
        go_wp2
        go_ret
        exact ⟨none, 0, 0, rfl, bytes_nil _, formed_none 0 rfl, rdEndK_fail HG.out HB.out hf HK.out⟩

/-- Bytes in new memory. -/
def GiveEndK (K : Nat → Prop) (w : World) (g : Nat) (r : List Nat × List Nat × Bool) (e : Ending) (w' : World) : Prop :=
  ∃ p m cp, e = .returned (.slice p m cp) ∧ Bytes w' p m cp r.1 ∧ RdEndK K w g r.2 w'

theorem giveK_of_clone {w1 w2 w3 : World} {g : Nat} {r : List Nat × List Nat × Bool} {x : Value} (hE : RdEndK K w1 g r.2 w2) (hx : OwnBytes w2 w3 x r.1) (hb : ∀ y ∈ r.1, y < 256) : GiveEndK K w1 g r (.returned x) w3 := by
  obtain ⟨hown, hbel⟩ := hx
  obtain ⟨p, cp, rfl, hB⟩ := own_slice hown hb
  exact ⟨p, _, cp, rfl, hB, hE.below hbel⟩

section
variable (v : Value) (g : Nat) (l : List Nat) (ok : Bool) (w w1 : World) (hO : OrNone v g w w1) (hR : RdK K w1 g l ok)
include hO hR

theorem mUintK : Calls Tryz.prog 41 #[v] w fun e w' => e = .returned (.int .u64 ((readN l ok).1 : Int)) ∧ RdEndK K w1 g (readN l ok).2 w' := by
  have HO := Lib.hid hO
  have HR := Lib.hid hR
  clear hO hR
  go_enter Tryz.func41, Tryz.ntmps41
  go_wp2_with fail
  refine (show Calls _ _ _ _ _ from HO.out).mono ?_
  rintro e w2 ⟨rfl, rfl⟩
  go_wp2_with fail
  refine (numberK_any g l ok w1 HR.out).mono ?_
  rintro e w2 ⟨rfl, h2⟩
  go_wp2
  go_ret
  exact ⟨rfl, h2⟩

theorem mIntK : Calls Tryz.prog 171 #[v] w fun e w' => e = .returned (.int .i64 (unfoldL (readN l ok).1)) ∧ RdEndK K w1 g (readN l ok).2 w' := by
  have hlt := readN_lt g l ok w1 hR.rd
  have HO := Lib.hid hO
  have HR := Lib.hid hR
  clear hO hR
  go_enter Tryz.func171, Tryz.ntmps171
  go_wp2_with fail
  refine (show Calls _ _ _ _ _ from HO.out).mono ?_
  rintro e w2 ⟨rfl, rfl⟩
  go_wp2_with fail
  refine (numberK_any g l ok w1 HR.out).mono ?_
  rintro e w2 ⟨rfl, h2⟩
  go_wp2_with fail
  refine (unfold_any _ w2 hlt).mono ?_
  rintro e w3 ⟨rfl, rfl⟩
  go_wp2
  go_ret
  exact ⟨rfl, h2⟩

theorem mTakeK (k : Int) (k1 : -9223372036854775808 ≤ k) (k2 : k ≤ 9223372036854775807) (hl : l.length ≤ 100000000000) : Calls Tryz.prog 181 #[v, .int .i64 k] w (GiveEndK K w1 g (takeN l ok k)) := by
  have HO := Lib.hid hO
  have HR := Lib.hid hR
  have hlen : (takeN l ok k).1.length ≤ 100000000000 := by
    unfold takeN
    split
    · rw [List.length_take]; omega
    · simp
  clear hO hR
  go_enter Tryz.func181, Tryz.ntmps181
  go_wp2_with fail
  refine (show Calls _ _ _ _ _ from HO.out).mono ?_
  rintro e w2 ⟨rfl, rfl⟩
  go_wp2_with fail
  refine (takeK_any g l ok k w1 HR.out k1 k2).mono ?_
  rintro e w2 ⟨p, m, cp, rfl, hP, hfp, hE⟩
  have hm : m ≤ 100000000000 := by rw [← hP.len]; exact hlen
  have HP := Lib.hid hP
  clear hP
  go_wp2_with fail
  refine (bclone_any p m cp _ w2 HP.out (by omega)).mono ?_
  rintro e w3 ⟨x, rfl, hx⟩
  go_wp2
  go_ret
  exact giveK_of_clone hE hx HP.out.byte

theorem mTextK : Calls Tryz.prog 40 #[v] w fun e w' => e = .returned (.string (str (readB l ok).1)) ∧ RdEndK K w1 g (readB l ok).2 w' := by
  have HO := Lib.hid hO
  have HR := Lib.hid hR
  clear hO hR
  go_enter Tryz.func40, Tryz.ntmps40
  go_wp2_with fail
  refine (show Calls _ _ _ _ _ from HO.out).mono ?_
  rintro e w2 ⟨rfl, rfl⟩
  go_wp2_with fail
  refine (countedK_any g l ok w1 HR.out).mono ?_
  rintro e w2 ⟨p, m, cp, rfl, hP, hfp, hE⟩
  have hcv := convert_bytes (P := Tryz.prog) hP 28 5 9 Tryz.underlying28 Tryz.underlying5 Tryz.underlying9
  clear hP
  go_wp2
  go_ret
  exact ⟨rfl, hE⟩
end
end
end Go.Proofs.YtcapbaocchaenaaGreatDoor

/- The number of some bits. -/
namespace Go.Proofs.YtcapbaocchaenaaGreatDoor
open Go.RowKit Fl

theorem bitsB_ofB {g : Nat} (h : bitsB g = g) : ofB g = some g := by rw [ofB_bits, if_pos h]
end Go.Proofs.YtcapbaocchaenaaGreatDoor

/- Forms that are read again: numbers and their bytes. -/
namespace Go.Proofs.YtcapbaocchaenaaGreatDoor
open Go.RowKit Go.Shelf Fl

theorem readN_form {y : Nat} (h : y < 18446744073709551616) (r : List Nat) : readN (form y ++ r) true = (y, r, true) := by
  have hp := form_pos y
  unfold readN
  rw [numL_of_form h r]
  simp only
  rw [if_pos ⟨trivial, hp⟩, List.drop_left]

theorem readB_form {s : List Nat} (h : s.length < 18446744073709551616) (r : List Nat) : readB (formB s ++ r) true = (s, r, true) := by
  have hp := form_pos s.length
  unfold readB formB
  rw [List.append_assoc, numL_of_form h (s ++ r)]
  simp only
  rw [if_pos ⟨trivial, hp, by rw [List.length_append, List.length_append]; omega⟩, List.drop_left, List.take_left, ← List.drop_drop, List.drop_left, List.drop_left]

theorem takeN_eight {b : List Nat} (h : b.length = 8) (r : List Nat) : takeN (b ++ r) true 8 = (b, r, true) := by
  unfold takeN
  rw [if_pos ⟨rfl, by omega, by rw [List.length_append]; omega⟩]
  have e : (8 : Int).toNat = b.length := by rw [h]; rfl
  rw [e, List.take_left, List.drop_left]

theorem or_next (y c : Nat) (hy : y < 72057594037927936) (hc : c < 256) : bits .or .u64 ((y : Int) * 256) (c : Int) = ((y * 256 + c : Nat) : Int) := by
  have h1 := u64_or_nat (y * 256) c (by omega) (by omega)
  have h2 := Nat.shiftLeft_add_eq_or_of_lt (i := 8) (b := c) (by omega) y
  rw [Nat.shiftLeft_eq, show (2 : Nat) ^ 8 = 256 by decide] at h2
  rw [← h2] at h1
  exact h1

theorem be8_getD (x j : Nat) (h : j < 8) : (be8 x).getD j 0 = x / 2 ^ (8 * (7 - j)) % 256 := by
  rw [List.getD_eq_getElem?_getD, List.getElem?_eq_getElem (by rw [be8_len]; exact h)]
  simp [be8]

theorem shift_next (x j : Nat) (h : j < 8) : x / 2 ^ (8 * (8 - j)) * 256 + x / 2 ^ (8 * (7 - j)) % 256 = x / 2 ^ (8 * (8 - (j + 1))) := by
  have e : x / 2 ^ (8 * (8 - j)) = x / 2 ^ (8 * (7 - j)) / 256 := by
    rw [Nat.div_div_eq_div_mul, show (256 : Nat) = 2 ^ 8 by decide, ← Nat.pow_add]
    congr 2
    omega
  rw [e, show 8 - (j + 1) = 7 - j by omega]
  omega

theorem shift_lt (x j : Nat) (h : j < 8) (hx : x < 18446744073709551616) : x / 2 ^ (8 * (8 - j)) < 72057594037927936 := by
  have h1 : 256 ≤ 2 ^ (8 * (8 - j)) := Nat.pow_le_pow_right (n := 2) (by omega) (show 8 ≤ 8 * (8 - j) by omega)
  rw [Nat.div_lt_iff_lt_mul (by omega)]
  omega

set_option maxRecDepth 100000 in
set_option maxHeartbeats 1600000 in
theorem readFloat_any (K : Nat → Prop) (g x : Nat) (rest : List Nat) (w : World) (hx : x < 18446744073709551616) (hc : bitsB x = x) (hl : (be8 x ++ rest).length ≤ 100000000000) (hR : RdK K w g (be8 x ++ rest) true) :
    Calls Tryz.prog 172 #[.pointer (some ⟨g, 0, none⟩)] w fun e w' => e = .returned (.iface 125 (.float .f64 x)) ∧ RdEndK K w g (rest, true) w' := by
  have HT := Lib.hid (mTakeK _ g _ true w w (orNone_some g w) hR 8 (by omega) (by omega) hl)
  rw [takeN_eight (be8_len x) rest] at HT
  have HO := Lib.hid (fun w => of_any x w hx)
  rw [bitsB_ofB hc] at HO
  have Hx := Lib.hid hx
  clear hx hc hl hR
  go_enter Tryz.func172, Tryz.ntmps172
  go_wp2_with fail
  refine HT.out.mono ?_
  rintro e w1 ⟨p, m, cp, rfl, hP, hE⟩
  have hm : m = 8 := by rw [← hP.len]; exact be8_len x
  subst hm
  have HP := Lib.hid hP
  have HE := Lib.hid hE
  clear hP hE
  go_wp2
  go_loop [3, 11] (fun b i => ∃ j : Nat, j ≤ 8 ∧ i = .int .i64 (j : Int) ∧ b = .int .u64 ((x / 2 ^ (8 * (8 - j)) : Nat) : Int)) (fun _ i => 8 - (intOf i).toNat)
  case atStart =>
    refine ⟨0, by omega, rfl, ?_⟩
    rw [Nat.div_eq_of_lt (by have := Hx.out; omega)]
    rfl
  case round =>
    obtain ⟨j, hj, rfl, rfl⟩ := hrel
    by_cases hlt : j < 8
    · obtain ⟨b, o, rfl, hc⟩ := HP.out.cell (by omega)
      have hcj := hc j hlt
      rw [be8_getD x j hlt] at hcj
      have Hsn := Lib.hid (shift_next x j hlt)
      have hy := shift_lt x j hlt Hx.out
      have hc8 : x / 2 ^ (8 * (7 - j)) % 256 < 256 := Nat.mod_lt _ (by omega)
      have Hlt := Lib.hid hlt
      clear hc
      generalize x / 2 ^ (8 * (7 - j)) % 256 = c at *
      generalize x / 2 ^ (8 * (8 - j)) = y at *
      have hor := or_next y c hy hc8
      go_wp2
      go_round
      case rel => exact ⟨j + 1, Hlt.out, by go_num, by rw [← Hsn.out]; go_num⟩
      case measure => simp [intOf]; have := Hlt.out; omega
    · obtain rfl : j = 8 := by omega
      have e : x / 2 ^ (8 * (8 - 8)) = x := by simp
      rw [e]
      clear hlt e
      go_wp2_with fail
      refine (HO.out _).mono ?_
      rintro e w' ⟨rfl, rfl⟩
      go_wp2
      go_ret
      exact ⟨rfl, HE.out⟩
end Go.Proofs.YtcapbaocchaenaaGreatDoor

/- What a valid list and a valid value of a kind are made of. -/
namespace Go.Proofs.YtcapbaocchaenaaGreatDoor
open Go Go.RowKit Fl

theorem bits_zero {f : Nat} (h : bitsB f = 0) : f = 0 := by
  unfold bitsB at h
  split at h
  · exact absurd h (by decide)
  · exact h

/-- A valid value is what whole makes of its content. -/
theorem whole_in {q : Nat → Prop} {w : World} {v : V} {a : Option Addr} {cap t : Nat} (hr : rightN t v = true) (hv : VInP q w v (cells5 v.kind v.n v.f v.s a v.l.length cap)) :
    ∃ a' cap', wholeOf v.kind v.n v.f v.s a v.l.length cap = cells5 v.kind v.n v.f v.s a' v.l.length cap' ∧ VInP q w v (cells5 v.kind v.n v.f v.s a' v.l.length cap') := by
  obtain ⟨k, n, f, s, l⟩ := v
  obtain ⟨⟨h1, h2, h3, h4⟩, h0, h5, _⟩ := right_parts hr
  change VInP q w (.mk k n f s l) (cells5 k n f s a l.length cap) at hv
  change ∃ a' cap', wholeOf k n f s a l.length cap = cells5 k n f s a' l.length cap' ∧ VInP q w (.mk k n f s l) (cells5 k n f s a' l.length cap')
  have hv' := hv
  rw [VInP] at hv'
  obtain ⟨b1, b2, b3, b4, b5, _⟩ := hv'
  by_cases hk : k = 4
  · have en : n = 0 := h1.resolve_left (by omega)
    have ef : f = 0 := bits_zero (h2.resolve_left (by omega))
    have es : s = [] := h3.resolve_left (by omega)
    subst hk en ef es
    exact ⟨a, cap, rfl, hv⟩
  · have el : l = [] := h4.resolve_left hk
    subst el
    refine ⟨none, 0, ?_, by rw [VInP]; exact ⟨b1, b2, b3, b4, b5, none, 0, rfl, Nat.le_refl _, by omega, .inl rfl⟩⟩
    unfold wholeOf
    by_cases k1 : k = 1
    · have ef : f = 0 := bits_zero (h2.resolve_left (by omega))
      have es : s = [] := h3.resolve_left (by omega)
      subst k1 ef es
      rfl
    rw [if_neg k1]
    have en : n = 0 := h1.resolve_left k1
    by_cases k2 : k = 2
    · have es : s = [] := h3.resolve_left (by omega)
      subst k2 en es
      rfl
    rw [if_neg k2]
    have ef : f = 0 := bits_zero (h2.resolve_left k2)
    by_cases k3 : k = 3
    · subst k3 en ef
      rfl
    have es : s = [] := h3.resolve_left k3
    have k0 : k = 0 := by omega
    subst k0 en ef es
    rfl

/-- A valid list in its parts. -/
theorem list_right {n : Int} {f : Nat} {s : List Nat} {us : List V} {t : Nat} (h : rightN (t + 1) (.mk 4 n f s us) = true) : n = 0 ∧ bitsB f = 0 ∧ s = [] ∧ ∀ u ∈ us, rightN t u = true := by
  obtain ⟨⟨h1, h2, h3, _⟩, _⟩ := right_parts h
  unfold rightN at h
  rw [Bool.and_eq_true, Bool.and_eq_true, List.all_eq_true] at h
  exact ⟨h1.resolve_left (by omega), h2.resolve_left (by omega), h3.resolve_left (by omega), h.1.2⟩

theorem list_is_right {vs : List V} {t : Nat} (h : ∀ v ∈ vs, rightN t v = true) : rightN (t + 1) (.mk 4 0 0 [] vs) = true := by
  rw [rightN_list (v := .mk 4 0 0 [] vs) ⟨.inr rfl, .inr (show bitsB 0 = 0 by decide), .inr rfl, .inl rfl⟩ rfl, List.all_eq_true]
  exact h

theorem con_iface {v : V} {a : Option Addr} {cap t : Nat} (hr : rightN t v = true) : ∃ T p, conOf v.kind v.n v.f v.s a v.l.length cap = .iface T p := by
  obtain ⟨k, n, f, s, l⟩ := v
  obtain ⟨_, h0, h5, _⟩ := right_parts hr
  change ∃ T p, conOf k n f s a l.length cap = .iface T p
  unfold conOf
  by_cases k0 : k = 0
  · rw [if_pos k0]; exact ⟨_, _, rfl⟩
  rw [if_neg k0]
  by_cases k1 : k = 1
  · rw [if_pos k1]; exact ⟨_, _, rfl⟩
  rw [if_neg k1]
  by_cases k2 : k = 2
  · rw [if_pos k2]; exact ⟨_, _, rfl⟩
  rw [if_neg k2]
  by_cases k3 : k = 3
  · rw [if_pos k3]; exact ⟨_, _, rfl⟩
  rw [if_neg k3, if_pos (by omega)]
  exact ⟨_, _, rfl⟩

end Go.Proofs.YtcapbaocchaenaaGreatDoor

/- The walk of read for values that are no lists. -/
namespace Go.Proofs.YtcapbaocchaenaaGreatDoor
open Go.RowKit Go.Shelf Fl

section
variable (K : Nat → Prop) (g : Nat) (T : Int) (rest : List Nat) (w : World)

set_option maxRecDepth 100000 in
theorem read_nil (hR : RdK K w g (form 0 ++ rest) true) :
    Calls Tryz.prog 156 #[.pointer (some ⟨g, 0, none⟩), .int .i64 T] w fun e w' => e = .returned (.iface 123 (.agg #[])) ∧ RdEndK K w g (rest, true) w' := by
  have HU := Lib.hid (mUintK _ g _ true w w (orNone_some g w) hR)
  rw [readN_form (by omega) rest] at HU
  clear hR
  go_enter Tryz.func156, Tryz.ntmps156
  go_wp2_with fail
  refine HU.out.mono ?_
  rintro e w1 ⟨rfl, h1⟩
  have H1 := Lib.hid h1
  clear h1
  go_wp2_with fail
  refine (mOk _ g rest true _ _ (orNone_some g _) H1.out.1.rd).mono ?_
  rintro e w2 ⟨rfl, rfl⟩
  go_wp2
  go_ret
  exact ⟨rfl, H1.out⟩

set_option maxRecDepth 100000 in
theorem read_int (n : Int) (h0 : -9223372036854775808 ≤ n) (h1 : n ≤ 9223372036854775807) (hR : RdK K w g (form 1 ++ (form (foldL n) ++ rest)) true) :
    Calls Tryz.prog 156 #[.pointer (some ⟨g, 0, none⟩), .int .i64 T] w fun e w' => e = .returned (.iface 124 (.int .i64 n)) ∧ RdEndK K w g (rest, true) w' := by
  have HU := Lib.hid (mUintK _ g _ true w w (orNone_some g w) hR)
  rw [readN_form (by omega) (form (foldL n) ++ rest)] at HU
  have HI := Lib.hid (fun W (h : RdK K W g (form (foldL n) ++ rest) true) => mIntK _ g _ true W W (orNone_some g W) h)
  rw [readN_form (fold_lt h0 h1) rest, unfold_fold] at HI
  clear hR h0 h1
  go_enter Tryz.func156, Tryz.ntmps156
  go_wp2_with fail
  refine HU.out.mono ?_
  rintro e w1 ⟨rfl, h1⟩
  have H1 := Lib.hid h1
  clear h1
  go_wp2_with fail
  refine (HI.out _ H1.out.1).mono ?_
  rintro e w2 ⟨rfl, h2⟩
  have H2 := Lib.hid h2
  clear h2
  go_wp2_with fail
  refine (mOk _ g rest true _ _ (orNone_some g _) H2.out.1.rd).mono ?_
  rintro e w3 ⟨rfl, rfl⟩
  go_wp2
  go_ret
  exact ⟨rfl, H1.out.go H2.out⟩

set_option maxRecDepth 100000 in
theorem read_float (x : Nat) (hx : x < 18446744073709551616) (hc : bitsB x = x) (hl : (form 2 ++ (be8 x ++ rest)).length ≤ 100000000000) (hR : RdK K w g (form 2 ++ (be8 x ++ rest)) true) :
    Calls Tryz.prog 156 #[.pointer (some ⟨g, 0, none⟩), .int .i64 T] w fun e w' => e = .returned (.iface 125 (.float .f64 x)) ∧ RdEndK K w g (rest, true) w' := by
  have HU := Lib.hid (mUintK _ g _ true w w (orNone_some g w) hR)
  rw [readN_form (by omega) (be8 x ++ rest)] at HU
  have HI := Lib.hid (fun W (h : RdK K W g (be8 x ++ rest) true) => readFloat_any K g x rest W hx hc (by rw [List.length_append] at hl; omega) h)
  clear hR hx hc hl
  go_enter Tryz.func156, Tryz.ntmps156
  go_wp2_with fail
  refine HU.out.mono ?_
  rintro e w1 ⟨rfl, h1⟩
  have H1 := Lib.hid h1
  clear h1
  go_wp2_with fail
  refine (HI.out _ H1.out.1).mono ?_
  rintro e w2 ⟨rfl, h2⟩
  have H2 := Lib.hid h2
  clear h2
  go_wp2_with fail
  refine (mOk _ g rest true _ _ (orNone_some g _) H2.out.1.rd).mono ?_
  rintro e w3 ⟨rfl, rfl⟩
  go_wp2
  go_ret
  exact ⟨rfl, H1.out.go H2.out⟩

set_option maxRecDepth 100000 in
theorem read_text (s : List Nat) (hs : s.length < 18446744073709551616) (hR : RdK K w g (form 3 ++ (formB s ++ rest)) true) :
    Calls Tryz.prog 156 #[.pointer (some ⟨g, 0, none⟩), .int .i64 T] w fun e w' => e = .returned (.iface 126 (.string (str s))) ∧ RdEndK K w g (rest, true) w' := by
  have HU := Lib.hid (mUintK _ g _ true w w (orNone_some g w) hR)
  rw [readN_form (by omega) (formB s ++ rest)] at HU
  have HI := Lib.hid (fun W (h : RdK K W g (formB s ++ rest) true) => mTextK _ g _ true W W (orNone_some g W) h)
  rw [readB_form hs rest] at HI
  clear hR hs
  go_enter Tryz.func156, Tryz.ntmps156
  go_wp2_with fail
  refine HU.out.mono ?_
  rintro e w1 ⟨rfl, h1⟩
  have H1 := Lib.hid h1
  clear h1
  go_wp2_with fail
  refine (HI.out _ H1.out.1).mono ?_
  rintro e w2 ⟨rfl, h2⟩
  have H2 := Lib.hid h2
  clear h2
  go_wp2_with fail
  refine (mOk _ g rest true _ _ (orNone_some g _) H2.out.1.rd).mono ?_
  rintro e w3 ⟨rfl, rfl⟩
  go_wp2
  go_ret
  exact ⟨rfl, H1.out.go H2.out⟩
end

theorem vin_atom {q : Nat → Prop} (w : World) (k n : Int) (f : Nat) (s : List Nat) (hk : -9223372036854775808 ≤ k ∧ k ≤ 9223372036854775807) (hn : -9223372036854775808 ≤ n ∧ n ≤ 9223372036854775807) (hf : f < 18446744073709551616) (hs : ∀ c ∈ s, c < 256) (hl : s.length ≤ 9223372036854775807) :
    VInP q w (.mk k n f s []) (cells5 k n f s none 0 0) := by
  rw [VInP]
  exact ⟨hk, hn, hf, hs, hl, none, 0, rfl, Nat.le_refl _, by omega, .inl rfl⟩

end Go.Proofs.YtcapbaocchaenaaGreatDoor

/- The walk of readList, where read does what it is to do at one level less. -/
namespace Go.Proofs.YtcapbaocchaenaaGreatDoor
open Go.RowKit Go.Shelf Fl

theorem formsV_drop {l : List V} {j : Nat} (h : j < l.length) : formsV (l.drop j) = formV l[j] ++ formsV (l.drop (j + 1)) := by
  rw [List.drop_eq_getElem_cons h]
  rfl

theorem only_far {w w1 w2 : World} {g : Nat} {r : Option Nat} (h : w.grownBy w1 (some g)) (k : w1.grownBy w2 r) (hr : ∀ b, r = some b → w.heap.size ≤ b) : w.grownBy w2 (some g) :=
  ⟨k.os.trans h.os, k.tape.trans h.tape, k.output.trans h.output, Nat.le_trans h.size k.size, fun i hi hne => (k.block i (Nat.lt_of_lt_of_le hi h.size) (fun e => by have := hr i e.symm; omega)).trans (h.block i hi hne)⟩

end Go.Proofs.YtcapbaocchaenaaGreatDoor

/- Five cells laid in one block leave the others. -/
namespace Go.Proofs.YtcapbaocchaenaaGreatDoor
open Go Go.RowKit

theorem set5_block {w1 : World} {g b : Nat} (h : b ≠ g) (a1 a2 a3 a4 a5 : Value) : (((((w1.setCell ⟨g, 0, none⟩ a1).setCell ⟨g, 1, none⟩ a2).setCell ⟨g, 2, none⟩ a3).setCell ⟨g, 3, none⟩ a4).setCell ⟨g, 4, none⟩ a5).heap[b]? = w1.heap[b]? := by
  rw [Below.heap_setCell _ _ _ _ h, Below.heap_setCell _ _ _ _ h, Below.heap_setCell _ _ _ _ h, Below.heap_setCell _ _ _ _ h, Below.heap_setCell _ _ _ _ h]

end Go.Proofs.YtcapbaocchaenaaGreatDoor

