/- The walks of a reader's exported methods, for a reader and for none. -/
import Derived.Test.YtjkpcpoplpgecaaReader
import Derived.Test.YtjkpcpoplpgecaaBClone
namespace Go.Proofs.Ytjkpcpoplpgecaa
open Go.RowKit

theorem only_below {a b c : World} {r : Option Nat} (h : a.grownBy b r) (k : Below b.heap.size b c) : a.grownBy c r :=
  ⟨k.os.trans h.os, k.tape.trans h.tape, k.output.trans h.output, Nat.le_trans h.size k.size, fun i hi hne => (k.block i (Nat.lt_of_lt_of_le hi h.size)).trans (h.block i hi hne)⟩

theorem RdEnd.below {w w1 w2 : World} {g : Nat} {s : List Nat × Bool} (h : RdEnd w g s w1) (hb : Below w1.heap.size w1 w2) : RdEnd w g s w2 := ⟨h.1.below hb, only_below h.2 hb⟩

/-- What orNone answers: the receiver, or a new reader. -/
def OrNone (v : Value) (g : Nat) (w w1 : World) : Prop := Calls Try.prog 35 #[v] w fun e w' => e = .returned (.pointer (some ⟨g, 0, none⟩)) ∧ w1 = w'

theorem orNone_some (g : Nat) (w : World) : OrNone (.pointer (some ⟨g, 0, none⟩)) g w w := by
  show Calls _ _ _ _ _
  go_enter Try.func35, Try.ntmps35
  go_wp2
  go_ret
  exact ⟨rfl, rfl⟩

theorem orNone_none (w : World) : OrNone (.pointer none) w.heap.size w (w.alloc (.cells #[.slice none 0 0, .bool false] 60)) := by
  show Calls _ _ _ _ _
  go_enter Try.func35, Try.ntmps35
  go_wp2
  go_ret
  exact ⟨rfl, rfl⟩

theorem rd_new (w : World) : Rd (w.alloc (.cells #[.slice none 0 0, .bool false] 60)) w.heap.size [] false :=
  ⟨none, 0, 0, heap_alloc_new _ _, bytes_nil _, formed_none 0 rfl⟩

theorem below_new {w w' : World} {s : List Nat × Bool} (h : RdEnd (w.alloc (.cells #[.slice none 0 0, .bool false] 60)) w.heap.size s w') : Below w.heap.size w w' :=
  ((Below.refl _ _).alloc (Nat.le_refl _) _).grown h.2 (by simp) (fun k hk => by cases hk; exact Nat.le_refl _)

section
variable (v : Value) (g : Nat) (l : List Nat) (ok : Bool) (w w1 : World) (hO : OrNone v g w w1) (hR : Rd w1 g l ok)
include hO hR

theorem mUint : Calls Try.prog 18 #[v] w fun e w' => e = .returned (.int .u64 ((readN l ok).1 : Int)) ∧ RdEnd w1 g (readN l ok).2 w' := by
  have HO := Lib.hid hO
  have HR := Lib.hid hR
  clear hO hR
  go_enter Try.func18, Try.ntmps18
  go_wp2_with fail
  refine (show Calls _ _ _ _ _ from HO.out).mono ?_
  rintro e w2 ⟨rfl, rfl⟩
  go_wp2_with fail
  refine (number_any g l ok w1 HR.out).mono ?_
  rintro e w2 ⟨rfl, h2⟩
  go_wp2
  go_ret
  exact ⟨rfl, h2⟩

omit hO in
theorem readN_lt : (readN l ok).1 < 18446744073709551616 := by
  obtain ⟨a, n, c, _, hB, _⟩ := hR
  obtain ⟨z, s, hz⟩ : ∃ z s, numL l 0 0 = (z, s) := ⟨_, _, rfl⟩
  have := (numL_size_le hB.byte hz).2.2.1
  unfold readN
  rw [hz]
  split
  · exact this
  · show (0 : Nat) < 18446744073709551616
    decide

theorem mInt : Calls Try.prog 20 #[v] w fun e w' => e = .returned (.int .i64 (unfoldL (readN l ok).1)) ∧ RdEnd w1 g (readN l ok).2 w' := by
  have hlt := readN_lt g l ok w1 hR
  have HO := Lib.hid hO
  have HR := Lib.hid hR
  clear hO hR
  go_enter Try.func20, Try.ntmps20
  go_wp2_with fail
  refine (show Calls _ _ _ _ _ from HO.out).mono ?_
  rintro e w2 ⟨rfl, rfl⟩
  go_wp2_with fail
  refine (number_any g l ok w1 HR.out).mono ?_
  rintro e w2 ⟨rfl, h2⟩
  go_wp2_with fail
  refine (unfold_any _ w2 hlt).mono ?_
  rintro e w3 ⟨rfl, rfl⟩
  go_wp2
  go_ret
  exact ⟨rfl, h2⟩

/-- Bytes in new memory. -/
def GiveEnd (w : World) (g : Nat) (r : List Nat × List Nat × Bool) (e : Ending) (w' : World) : Prop :=
  ∃ p m cp, e = .returned (.slice p m cp) ∧ Bytes w' p m cp r.1 ∧ RdEnd w g r.2 w'

omit hO hR in
theorem give_of_clone {w1 w2 w3 : World} {g : Nat} {r : List Nat × List Nat × Bool} {x : Value} (hE : RdEnd w1 g r.2 w2) (hx : OwnBytes w2 w3 x r.1) (hb : ∀ y ∈ r.1, y < 256) : GiveEnd w1 g r (.returned x) w3 := by
  obtain ⟨hown, hbel⟩ := hx
  obtain ⟨p, cp, rfl, hB⟩ := own_slice hown hb
  exact ⟨p, _, cp, rfl, hB, hE.below hbel⟩

theorem mBytes (hl : l.length ≤ 1000000) : Calls Try.prog 22 #[v] w (GiveEnd w1 g (readB l ok)) := by
  have HO := Lib.hid hO
  have HR := Lib.hid hR
  have hlen : (readB l ok).1.length ≤ 1000000 := by
    unfold readB
    split
    · rw [List.length_take, List.length_drop]; omega
    · simp
  clear hO hR
  go_enter Try.func22, Try.ntmps22
  go_wp2_with fail
  refine (show Calls _ _ _ _ _ from HO.out).mono ?_
  rintro e w2 ⟨rfl, rfl⟩
  go_wp2_with fail
  refine (counted_any g l ok w1 HR.out).mono ?_
  rintro e w2 ⟨p, m, cp, rfl, hP, hfp, hE⟩
  have hm : m ≤ 1000000 := by rw [← hP.len]; exact hlen
  have HP := Lib.hid hP
  clear hP
  go_wp2_with fail
  refine (bclone_any p m cp _ w2 HP.out (by omega)).mono ?_
  rintro e w3 ⟨x, rfl, hx⟩
  go_wp2
  go_ret
  exact give_of_clone hE hx HP.out.byte

theorem mTake (k : Int) (k1 : -9223372036854775808 ≤ k) (k2 : k ≤ 9223372036854775807) (hl : l.length ≤ 1000000) : Calls Try.prog 25 #[v, .int .i64 k] w (GiveEnd w1 g (takeN l ok k)) := by
  have HO := Lib.hid hO
  have HR := Lib.hid hR
  have hlen : (takeN l ok k).1.length ≤ 1000000 := by
    unfold takeN
    split
    · rw [List.length_take]; omega
    · simp
  clear hO hR
  go_enter Try.func25, Try.ntmps25
  go_wp2_with fail
  refine (show Calls _ _ _ _ _ from HO.out).mono ?_
  rintro e w2 ⟨rfl, rfl⟩
  go_wp2_with fail
  refine (take_any g l ok k w1 HR.out k1 k2).mono ?_
  rintro e w2 ⟨p, m, cp, rfl, hP, hfp, hE⟩
  have hm : m ≤ 1000000 := by rw [← hP.len]; exact hlen
  have HP := Lib.hid hP
  clear hP
  go_wp2_with fail
  refine (bclone_any p m cp _ w2 HP.out (by omega)).mono ?_
  rintro e w3 ⟨x, rfl, hx⟩
  go_wp2
  go_ret
  exact give_of_clone hE hx HP.out.byte

theorem mText : Calls Try.prog 24 #[v] w fun e w' => e = .returned (.string (str (readB l ok).1)) ∧ RdEnd w1 g (readB l ok).2 w' := by
  have HO := Lib.hid hO
  have HR := Lib.hid hR
  clear hO hR
  go_enter Try.func24, Try.ntmps24
  go_wp2_with fail
  refine (show Calls _ _ _ _ _ from HO.out).mono ?_
  rintro e w2 ⟨rfl, rfl⟩
  go_wp2_with fail
  refine (counted_any g l ok w1 HR.out).mono ?_
  rintro e w2 ⟨p, m, cp, rfl, hP, hfp, hE⟩
  have hcv := convert_bytes (P := Try.prog) hP 23 5 9 Try.underlying23 Try.underlying5 Try.underlying9
  clear hP
  go_wp2
  go_ret
  exact ⟨rfl, hE⟩

theorem mLeft : Calls Try.prog 27 #[v] w fun e w' => e = .returned (.int .i64 (l.length : Nat)) ∧ w1 = w' := by
  have HO := Lib.hid hO
  obtain ⟨a, n, c, hg, hB, _⟩ := hR
  obtain ⟨c0, _, _, _⟩ := rd_cell hg
  have HL := Lib.hid hB.len
  clear hO hg hB
  go_enter Try.func27, Try.ntmps27
  go_wp2_with fail
  refine (show Calls _ _ _ _ _ from HO.out).mono ?_
  rintro e w2 ⟨rfl, rfl⟩
  go_wp2
  go_ret
  exact ⟨ret_i64 (by rw [HL.out]), rfl⟩

theorem mOk : Calls Try.prog 28 #[v] w fun e w' => e = .returned (.bool ok) ∧ w1 = w' := by
  have HO := Lib.hid hO
  obtain ⟨a, n, c, hg, hB, _⟩ := hR
  obtain ⟨_, c1, _, _⟩ := rd_cell hg
  clear hO hg hB
  go_enter Try.func28, Try.ntmps28
  go_wp2_with fail
  refine (show Calls _ _ _ _ _ from HO.out).mono ?_
  rintro e w2 ⟨rfl, rfl⟩
  go_wp2
  go_ret
  exact ⟨rfl, rfl⟩
end

def doneB (l : List Nat) (ok : Bool) : Bool := ok && decide (l.length = 0)

theorem mDone (g : Nat) (l : List Nat) (ok : Bool) (w : World) (hR : Rd w g l ok) :
    Calls Try.prog 29 #[.pointer (some ⟨g, 0, none⟩)] w fun e w' => e = .returned (.bool (doneB l ok)) ∧ w = w' := by
  have HR := Lib.hid hR
  clear hR
  cases ok
  · have hd : doneB l false = false := rfl
    rw [hd]
    clear hd
    go_enter Try.func29, Try.ntmps29
    go_wp2_with fail
    refine (mOk _ g l false w w (orNone_some g w) HR.out).mono ?_
    rintro e w2 ⟨rfl, rfl⟩
    go_wp2
    go_ret
    exact ⟨rfl, rfl⟩
  · have hd : doneB l true = decide (l.length = 0) := Bool.true_and _
    rw [hd]
    clear hd
    by_cases h0 : l.length = 0
    · have hq : (((l.length : Nat) : Int) == 0) = true := beq_iff_eq.2 (by omega)
      have H0 := Lib.hid h0
      clear h0
      go_enter Try.func29, Try.ntmps29
      go_wp2_with fail
      refine (mOk _ g l true w w (orNone_some g w) HR.out).mono ?_
      rintro e w2 ⟨rfl, rfl⟩
      go_wp2_with fail
      refine (mLeft _ g l true w w (orNone_some g w) HR.out).mono ?_
      rintro e w2 ⟨rfl, rfl⟩
      go_wp2
      go_ret
      exact ⟨ret_bool (decide_eq_true H0.out).symm, rfl⟩
    · have hq : (((l.length : Nat) : Int) == 0) = false := beq_eq_false_iff_ne.2 (by omega)
      have H0 := Lib.hid h0
      clear h0
      go_enter Try.func29, Try.ntmps29
      go_wp2_with fail
      refine (mOk _ g l true w w (orNone_some g w) HR.out).mono ?_
      rintro e w2 ⟨rfl, rfl⟩
      go_wp2_with fail
      refine (mLeft _ g l true w w (orNone_some g w) HR.out).mono ?_
      rintro e w2 ⟨rfl, rfl⟩
      go_wp2
      go_ret
      exact ⟨ret_bool (decide_eq_false H0.out).symm, rfl⟩

theorem mDone_none (w : World) :
    Calls Try.prog 29 #[.pointer none] w fun e w' => e = .returned (.bool false) ∧ Below w.heap.size w w' := by
  go_enter Try.func29, Try.ntmps29
  go_wp2_with fail
  refine (mOk _ w.heap.size [] false w _ (orNone_none w) (rd_new w)).mono ?_
  rintro e w2 ⟨rfl, rfl⟩
  go_wp2
  go_ret
  exact ⟨rfl, (Below.refl _ _).alloc (Nat.le_refl _) _⟩

/-- New returns a reader of the bytes. -/
def NewEnd (w : World) (l : List Nat) (e : Ending) (w' : World) : Prop := ∃ g, e = .returned (.pointer (some ⟨g, 0, none⟩)) ∧ w.heap.size ≤ g ∧ Rd w' g l true ∧ Below w.heap.size w w'

theorem own_far {w : World} {base : Nat} {e : TypeId} {p : Option Addr} {n c m : Nat} {l : List Nat} (h : w.ownsRow base e 1 (.slice p n c) m (u8s l)) : ∀ x, p = some x → base ≤ x.block := by
  intro x hx
  rcases h.2 with ⟨hv, _⟩ | ⟨g, cap', cur, hv, hg, _⟩
  · cases hv; cases hx
  · cases hv; cases hx; exact hg

/-- A reader whose bytes lie beyond what there was. -/
def RdF (w : World) (g : Nat) (l : List Nat) (ok : Bool) (base : Nat) : Prop :=
  ∃ a n c, w.heap[g]? = some (.cells #[.slice a n c, .bool ok] 60 (0, 0)) ∧ Bytes w a n c l ∧ Formed a c ∧ ∀ x, a = some x → base ≤ x.block

theorem RdF.rd {w : World} {g : Nat} {l : List Nat} {ok : Bool} {base : Nat} (h : RdF w g l ok base) : Rd w g l ok := by
  obtain ⟨a, n, c, h1, h2, h3, _⟩ := h
  exact ⟨a, n, c, h1, h2, h3⟩

theorem RdF.below {w w' : World} {g : Nat} {l : List Nat} {ok : Bool} {base : Nat} (h : RdF w g l ok base) (hb : Below w.heap.size w w') : RdF w' g l ok base := by
  obtain ⟨a, n, c, h1, h2, h3, h4⟩ := h
  exact ⟨a, n, c, (hb.block g (Array.getElem?_eq_some_iff.1 h1).1).trans h1, h2.grow hb, h3, h4⟩

theorem RdF.keep {w w' : World} {g go : Nat} {l : List Nat} {ok : Bool} {base : Nat} (h : RdF w g l ok base) (hg : w.grownBy w' (some go)) (hlt : go < base) (hne : go < g) : RdF w' g l ok base := by
  obtain ⟨a, n, c, h1, h2, h3, h4⟩ := h
  refine ⟨a, n, c, (hg.block g (Array.getElem?_eq_some_iff.1 h1).1 (fun e => by cases e; omega)).trans h1, ?_, h3, h4⟩
  rcases Nat.eq_zero_or_pos n with rfl | hn
  · obtain rfl : l = [] := List.length_eq_zero_iff.1 h2.len
    exact ⟨rfl, h2.le, h2.capmax, h2.byte, h2.nil, fun h => absurd h (Nat.lt_irrefl _)⟩
  · refine h2.keep fun p hp hpx => ?_
    obtain ⟨b, o, rfl, _⟩ := h2.cell hn
    have hb := h4 _ rfl
    have hb2 := hpx _ rfl
    simp only at hb hb2
    exact World.cell?_of_block (hg.block p.block hp (fun e2 => by cases e2; omega))

def NewFar (w : World) (l : List Nat) (e : Ending) (w' : World) : Prop := ∃ g, e = .returned (.pointer (some ⟨g, 0, none⟩)) ∧ w.heap.size ≤ g ∧ RdF w' g l true w.heap.size ∧ Below w.heap.size w w'

theorem new_far (a : Option Addr) (n cap : Nat) (l : List Nat) (w : World) (hl : Bytes w a n cap l) (hn : n ≤ 100000000000000) :
    Calls Try.prog 17 #[.slice a n cap] w (NewFar w l) := by
  have HB := Lib.hid hl
  clear hl
  go_enter Try.func17, Try.ntmps17
  go_wp2_with fail
  refine (bclone_any a n cap l w HB.out (by omega)).mono ?_
  rintro e w1 ⟨x, rfl, hown, hb⟩
  have hown : w1.ownsRow w.heap.size 5 1 x l.length (u8s l) := hown
  obtain ⟨p, cp, rfl, hP⟩ := own_slice hown HB.out.byte
  have hfp := own_formed hown
  have hfar := own_far hown
  have HP := Lib.hid hP
  have Hfp := Lib.hid hfp
  have Hfar := Lib.hid hfar
  clear hP hown hfp hfar
  go_wp2
  go_ret
  refine ⟨w1.heap.size, rfl, hb.size, ⟨p, _, cp, heap_alloc_new _ _, HP.out.grow ((Below.refl _ _).alloc (Nat.le_refl _) _), Hfp.out, Hfar.out⟩, hb.alloc hb.size _⟩

theorem new_any (a : Option Addr) (n cap : Nat) (l : List Nat) (w : World) (hl : Bytes w a n cap l) (hn : n ≤ 100000000000000) :
    Calls Try.prog 17 #[.slice a n cap] w (NewEnd w l) := by
  refine (new_far a n cap l w hl hn).mono ?_
  rintro e w1 ⟨g, he, h1, h2, h3⟩
  exact ⟨g, he, h1, h2.rd, h3⟩
end Go.Proofs.Ytjkpcpoplpgecaa
