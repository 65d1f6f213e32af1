import Derived.Test.YtcapbaocchaenaaGreatDoorSF33
import Derived.Test.YtcapbaocchaenaaGreatDoorSF28
import Derived.Test.YtcapbaocchaenaaGreatDoorSF13
/- The walk of read and Read at forms of valid values. -/
namespace Go.Proofs.YtcapbaocchaenaaGreatDoor
open Go.RowKit Go.Shelf Fl

theorem formV_pos (v : V) : 0 < (formV v).length := by
  rw [formV_is]
  unfold pieceV
  rw [List.length_append, List.length_append]
  have := form_pos v.kind.toNat
  omega

theorem formsV_count : ∀ l : List V, l.length ≤ (formsV l).length
  | [] => Nat.le_refl _
  | v :: r => by
    show r.length + 1 ≤ (formV v ++ formsV r).length
    rw [List.length_append]
    have := formV_pos v
    have := formsV_count r
    omega

end Go.Proofs.YtcapbaocchaenaaGreatDoor

/- What bytes begin with: numbers, strings, values; and bytes that begin with none. -/
namespace Go.Proofs.YtcapbaocchaenaaGreatDoor
open Go.RowKit Go.Shelf Fl

theorem readN_only {l : List Nat} (hb : ∀ c ∈ l, c < 256) : (∃ x r, x < 18446744073709551616 ∧ l = form x ++ r) ∨ (readN l true = (0, l, false) ∧ ∀ x r, x < 18446744073709551616 → l ≠ form x ++ r) := by
  rcases Nat.eq_zero_or_pos (numL l 0 0).2 with h | h
  · right
    refine ⟨by unfold readN; rw [if_neg (fun k => by have := k.2; omega)], fun x r hx e => ?_⟩
    have h1 := numL_of_form hx r
    rw [← e] at h1
    rw [h1] at h
    have h : (form x).length = 0 := h
    have := form_pos x
    omega
  · left
    obtain ⟨h1, h2, h3⟩ := numL_read hb (show numL l 0 0 = ((numL l 0 0).1, (numL l 0 0).2) from rfl) h
    exact ⟨_, _, h1, h3⟩

theorem readB_only {l : List Nat} (hb : ∀ c ∈ l, c < 256) : (∃ s r, s.length < 18446744073709551616 ∧ l = formB s ++ r) ∨ (readB l true = ([], l, false) ∧ ∀ s r, s.length < 18446744073709551616 → l ≠ formB s ++ r) := by
  obtain ⟨z, n, hz⟩ : ∃ z n, numL l 0 0 = (z, n) := ⟨_, _, rfl⟩
  by_cases h : 0 < n ∧ z ≤ l.length - n
  · left
    obtain ⟨h1, h2, h3⟩ := numL_read hb hz h.1
    have hl : ((l.drop n).take z).length = z := by rw [List.length_take, List.length_drop]; omega
    refine ⟨(l.drop n).take z, (l.drop n).drop z, by rw [hl]; exact h1, ?_⟩
    unfold formB
    rw [hl, List.append_assoc, List.take_append_drop]
    exact h3
  · right
    refine ⟨by unfold readB; rw [hz, if_neg (fun k => h k.2)], fun s r hs e => h ?_⟩
    have e2 : l = form s.length ++ (s ++ r) := by rw [e]; unfold formB; rw [List.append_assoc]
    have h1 := numL_of_form hs (s ++ r)
    rw [← e2, hz] at h1
    obtain ⟨rfl, rfl⟩ := Prod.mk.inj h1
    have := form_pos s.length
    refine ⟨this, ?_⟩
    rw [e2, List.length_append, List.length_append]
    omega

theorem be8_onto {b : List Nat} (hl : b.length = 8) (hb : ∀ c ∈ b, c < 256) : ∃ x, x < 18446744073709551616 ∧ b = be8 x := by
  match b, hl with
  | [b0, b1, b2, b3, b4, b5, b6, b7], _ =>
    have h0 := hb b0 (by simp)
    have h1 := hb b1 (by simp)
    have h2 := hb b2 (by simp)
    have h3 := hb b3 (by simp)
    have h4 := hb b4 (by simp)
    have h5 := hb b5 (by simp)
    have h6 := hb b6 (by simp)
    have h7 := hb b7 (by simp)
    refine ⟨((((((b0 * 256 + b1) * 256 + b2) * 256 + b3) * 256 + b4) * 256 + b5) * 256 + b6) * 256 + b7, by omega, ?_⟩
    have e : ∀ x : Nat, be8 x = [x / 72057594037927936 % 256, x / 281474976710656 % 256, x / 1099511627776 % 256, x / 4294967296 % 256, x / 16777216 % 256, x / 65536 % 256, x / 256 % 256, x / 1 % 256] := fun x => rfl
    rw [e]
    simp only [List.cons.injEq, and_true]
    refine ⟨?_, ?_, ?_, ?_, ?_, ?_, ?_, ?_⟩ <;> omega

theorem fold_unfold (u : Nat) (h : u < 18446744073709551616) : foldL (unfoldL u) = u ∧ -9223372036854775808 ≤ unfoldL u ∧ unfoldL u ≤ 9223372036854775807 := by
  unfold foldL unfoldL
  refine ⟨?_, ?_, ?_⟩ <;> split <;> (try split) <;> omega

/-- The bytes l begin with the form of a valid value, and r comes behind it. -/
def IsV (t : Nat) (l : List Nat) (v : V) (r : List Nat) : Prop := rightN t v = true ∧ boundV v ∧ l = formV v ++ r
/-- No valid value's form stands at the beginning of l. -/
def NoV (t : Nat) (l : List Nat) : Prop := ∀ v r, ¬ IsV t l v r

theorem IsV.front {t x : Nat} {l1 r : List Nat} {v : V} (h : IsV t (form x ++ l1) v r) (hx : x < 18446744073709551616) : FieldsOk v ∧ v.kind = (x : Int) ∧ x ≤ 4 ∧ l1 = contF v.kind v.n v.f v.s v.l.length ++ (formsV v.l ++ r) := by
  obtain ⟨h1, h2, h3⟩ := h
  obtain ⟨hf, hk, _⟩ := rightN_field h1
  rw [formV_is] at h3
  unfold pieceV at h3
  rw [List.append_assoc, List.append_assoc] at h3
  obtain ⟨e1, e2⟩ := form_split hx (by omega) h3
  exact ⟨hf, by omega, by omega, e2⟩

theorem noV_bad {t : Nat} {l : List Nat} (h : ∀ x r, x < 18446744073709551616 → l ≠ form x ++ r) : NoV t l := by
  rintro v r ⟨h1, h2, h3⟩
  obtain ⟨_, hk, _⟩ := rightN_field h1
  rw [formV_is] at h3
  unfold pieceV at h3
  rw [List.append_assoc, List.append_assoc] at h3
  exact h _ _ (by omega) h3

theorem noV_big {t x : Nat} {l : List Nat} (hx : x < 18446744073709551616) (h : 4 < x) : NoV t (form x ++ l) := fun _ _ hv => by
  have := (hv.front hx).2.2.1
  omega

theorem noV_int {t : Nat} {l : List Nat} (h : ∀ x r, x < 18446744073709551616 → l ≠ form x ++ r) : NoV t (form 1 ++ l) := fun v r hv => by
  obtain ⟨_, hk, _, e⟩ := hv.front (by omega)
  have hk : v.kind = 1 := hk
  obtain ⟨_, hb, _⟩ := hv
  obtain ⟨k, n, f, s, vs⟩ := v
  rw [boundV] at hb
  unfold contF at e
  rw [if_pos hk] at e
  exact h _ _ (fold_lt hb.1.1 hb.1.2) e

theorem noV_short {t : Nat} {l : List Nat} (h : l.length < 8) : NoV t (form 2 ++ l) := fun v r hv => by
  obtain ⟨_, hk, _, e⟩ := hv.front (by omega)
  have hk : v.kind = 2 := hk
  unfold contF at e
  rw [if_neg (by omega), if_pos hk] at e
  have := congrArg List.length e
  rw [List.length_append, be8_len] at this
  omega

theorem noV_nan {t x : Nat} {l : List Nat} (hx : x < 18446744073709551616) (h : bitsB x ≠ x) : NoV t (form 2 ++ (be8 x ++ l)) := fun v r hv => by
  obtain ⟨_, hk, _, e⟩ := hv.front (by omega)
  have hk : v.kind = 2 := hk
  obtain ⟨_, hb, _⟩ := hv
  obtain ⟨k, n, f, s, vs⟩ := v
  rw [boundV] at hb
  unfold contF at e
  rw [if_neg (by omega), if_pos hk] at e
  obtain ⟨e1, _⟩ := be8_split hx (bitsB_lt hb.2.1) e
  exact h (by rw [e1]; exact bitsB_idem _)

theorem noV_text {t : Nat} {l : List Nat} (h : ∀ s r, s.length < 18446744073709551616 → l ≠ formB s ++ r) : NoV t (form 3 ++ l) := fun v r hv => by
  obtain ⟨_, hk, _, e⟩ := hv.front (by omega)
  have hk : v.kind = 3 := hk
  obtain ⟨_, hb, _⟩ := hv
  obtain ⟨k, n, f, s, vs⟩ := v
  rw [boundV] at hb
  unfold contF at e
  rw [if_neg (by omega), if_neg (by omega), if_pos hk] at e
  exact h _ _ hb.2.2.1 e

theorem noV_deep {l : List Nat} : NoV 0 (form 4 ++ l) := fun v r hv => by
  obtain ⟨_, hk, _, _⟩ := hv.front (by omega)
  have h := hv.1
  unfold rightN at h
  simp only [Bool.and_eq_true, decide_eq_true_eq] at h
  exact h.1.2 hk

theorem noV_count {t : Nat} {l : List Nat} (h : ∀ x r, x < 18446744073709551616 → l ≠ form x ++ r) : NoV t (form 4 ++ l) := fun v r hv => by
  obtain ⟨_, hk, _, e⟩ := hv.front (by omega)
  have hk : v.kind = 4 := hk
  obtain ⟨_, hb, _⟩ := hv
  obtain ⟨k, n, f, s, vs⟩ := v
  rw [boundV] at hb
  unfold contF at e
  rw [if_neg (by omega), if_neg (by omega), if_neg (by omega), if_pos hk] at e
  exact h _ _ hb.2.2.2.1 e

theorem boundL_mem : ∀ {l : List V}, boundL l → ∀ u ∈ l, boundV u
  | [], _, u, hu => by cases hu
  | v :: r, h, u, hu => by
    rw [boundL] at h
    rcases List.mem_cons.1 hu with e | e
    · rw [e]; exact h.1
    · exact boundL_mem h.2 u e
theorem boundL_of : ∀ {l : List V}, (∀ u ∈ l, boundV u) → boundL l
  | [], _ => by rw [boundL]; trivial
  | v :: r, h => by
    rw [boundL]
    exact ⟨h v (by simp), boundL_of (fun u hu => h u (by simp [hu]))⟩

theorem noV_elem {t n : Nat} {us : List V} {l : List Nat} (hn : n < 18446744073709551616) (hj : us.length < n) (hr : ∀ u ∈ us, rightN t u = true) (hb : ∀ u ∈ us, boundV u) (h : NoV t l) : NoV (t + 1) (form 4 ++ (form n ++ (formsV us ++ l))) := fun v r hv => by
  obtain ⟨_, hk, _, e⟩ := hv.front (by omega)
  have hk : v.kind = 4 := hk
  obtain ⟨hrv, hbv, _⟩ := hv
  obtain ⟨k, n', f, s, vs⟩ := v
  obtain rfl : k = 4 := hk
  rw [boundV] at hbv
  obtain ⟨_, _, _, hrs⟩ := list_right hrv
  change form n ++ (formsV us ++ l) = contF 4 n' f s vs.length ++ (formsV vs ++ r) at e
  unfold contF at e
  rw [if_neg (by omega), if_neg (by omega), if_neg (by omega), if_pos rfl] at e
  obtain ⟨e1, e2⟩ := form_split hn hbv.2.2.2.1 e
  have e3 : formsV vs = formsV (vs.take us.length) ++ formsV (vs.drop us.length) := by rw [← formsV_append, List.take_append_drop]
  rw [e3, List.append_assoc] at e2
  have hjv : us.length < vs.length := by omega
  obtain ⟨_, e4⟩ := formsV_split us (vs.take us.length) _ _ (by rw [List.length_take]; omega) (fun u hu => ⟨t, hr u hu⟩) (fun u hu => ⟨t, hrs u (List.mem_of_mem_take hu)⟩) (boundL_of hb) (boundL_of (fun u hu => boundL_mem hbv.2.2.2.2 u (List.mem_of_mem_take hu))) e2
  rw [formsV_drop hjv, List.append_assoc] at e4
  exact h _ _ ⟨hrs _ (List.getElem_mem hjv), boundL_mem hbv.2.2.2.2 _ (List.getElem_mem hjv), e4⟩

end Go.Proofs.YtcapbaocchaenaaGreatDoor

/- The walks of read where the bytes begin with no valid value, and of read at what is no list. -/
namespace Go.Proofs.YtcapbaocchaenaaGreatDoor
open Go.RowKit Go.Shelf Fl

theorem RdK.byte {K : Nat → Prop} {w : World} {g : Nat} {l : List Nat} {ok : Bool} (h : RdK K w g l ok) : ∀ c ∈ l, c < 256 := by
  obtain ⟨a, n, c, _, h2, _⟩ := h
  exact h2.byte

/-- read answers that there is no value. -/
def NilEnd (K : Nat → Prop) (w : World) (g : Nat) (e : Ending) (w' : World) : Prop := e = .returned .nilIface ∧ ∃ s, RdEndK K w g s w'

section
variable (K : Nat → Prop) (g : Nat) (T : Int) (w : World)

set_option maxRecDepth 100000 in
theorem read_bad0 (l : List Nat) (hn : readN l true = (0, l, false)) (hR : RdK K w g l true) :
    Calls Tryz.prog 156 #[.pointer (some ⟨g, 0, none⟩), .int .i64 T] w (NilEnd K w g) := by
  have HU := Lib.hid (mUintK _ g _ true w w (orNone_some g w) hR)
  rw [hn] at HU
  clear hR hn
  go_enter Tryz.func156, Tryz.ntmps156
  go_wp2_with fail
  refine HU.out.mono ?_
  rintro e w1 ⟨rfl, h1⟩
  have H1 := Lib.hid h1
  clear h1
  go_wp2_with fail
  refine (mOk _ g l false _ _ (orNone_some g _) H1.out.1.rd).mono ?_
  rintro e w2 ⟨rfl, rfl⟩
  go_wp2
  go_ret
  exact ⟨rfl, _, H1.out⟩

set_option maxRecDepth 100000 in
theorem read_big (x : Nat) (l : List Nat) (hx : x < 18446744073709551616) (h4 : 4 < x) (hR : RdK K w g (form x ++ l) true) :
    Calls Tryz.prog 156 #[.pointer (some ⟨g, 0, none⟩), .int .i64 T] w (NilEnd K w g) := by
  have HU := Lib.hid (mUintK _ g _ true w w (orNone_some g w) hR)
  rw [readN_form hx l] at HU
  have h0 : ((x : Int) == 0) = false := beq_eq_false_iff_ne.2 (by omega)
  have h1 : ((x : Int) == 1) = false := beq_eq_false_iff_ne.2 (by omega)
  have h2 : ((x : Int) == 2) = false := beq_eq_false_iff_ne.2 (by omega)
  have h3 : ((x : Int) == 3) = false := beq_eq_false_iff_ne.2 (by omega)
  have h4' : ((x : Int) == 4) = false := beq_eq_false_iff_ne.2 (by omega)
  clear hR hx h4
  go_enter Tryz.func156, Tryz.ntmps156
  go_wp2_with fail
  refine HU.out.mono ?_
  rintro e w1 ⟨rfl, k1⟩
  have H1 := Lib.hid k1
  clear k1
  go_wp2_with fail
  refine (mOk _ g l true _ _ (orNone_some g _) H1.out.1.rd).mono ?_
  rintro e w2 ⟨rfl, rfl⟩
  go_wp2
  go_ret
  exact ⟨rfl, _, H1.out⟩

set_option maxRecDepth 100000 in
theorem read_int_bad (l : List Nat) (hn : readN l true = (0, l, false)) (hR : RdK K w g (form 1 ++ l) true) :
    Calls Tryz.prog 156 #[.pointer (some ⟨g, 0, none⟩), .int .i64 T] w (NilEnd K w g) := by
  have HU := Lib.hid (mUintK _ g _ true w w (orNone_some g w) hR)
  rw [readN_form (by omega) l] at HU
  have HI := Lib.hid (fun W (h : RdK K W g l true) => mIntK _ g _ true W W (orNone_some g W) h)
  rw [hn] at HI
  clear hR hn
  go_enter Tryz.func156, Tryz.ntmps156
  go_wp2_with fail
  refine HU.out.mono ?_
  rintro e w1 ⟨rfl, h1⟩
  have H1 := Lib.hid h1
  clear h1
  go_wp2_with fail
  refine (HI.out _ H1.out.1).mono ?_
  rintro e w2 ⟨rfl, h2⟩
  have H2 := Lib.hid h2
  clear h2
  go_wp2_with fail
  refine (mOk _ g l false _ _ (orNone_some g _) H2.out.1.rd).mono ?_
  rintro e w3 ⟨rfl, rfl⟩
  go_wp2
  go_ret
  exact ⟨rfl, _, H1.out.go H2.out⟩

set_option maxRecDepth 100000 in
theorem read_text_bad (l : List Nat) (hn : readB l true = ([], l, false)) (hR : RdK K w g (form 3 ++ l) true) :
    Calls Tryz.prog 156 #[.pointer (some ⟨g, 0, none⟩), .int .i64 T] w (NilEnd K w g) := by
  have HU := Lib.hid (mUintK _ g _ true w w (orNone_some g w) hR)
  rw [readN_form (by omega) l] at HU
  have HI := Lib.hid (fun W (h : RdK K W g l true) => mTextK _ g _ true W W (orNone_some g W) h)
  rw [hn] at HI
  clear hR hn
  go_enter Tryz.func156, Tryz.ntmps156
  go_wp2_with fail
  refine HU.out.mono ?_
  rintro e w1 ⟨rfl, h1⟩
  have H1 := Lib.hid h1
  clear h1
  go_wp2_with fail
  refine (HI.out _ H1.out.1).mono ?_
  rintro e w2 ⟨rfl, h2⟩
  have H2 := Lib.hid h2
  clear h2
  go_wp2_with fail
  refine (mOk _ g l false _ _ (orNone_some g _) H2.out.1.rd).mono ?_
  rintro e w3 ⟨rfl, rfl⟩
  go_wp2
  go_ret
  exact ⟨rfl, _, H1.out.go H2.out⟩

set_option maxRecDepth 100000 in
theorem readFloat_short (l : List Nat) (h8 : l.length < 8) (hR : RdK K w g l true) :
    Calls Tryz.prog 172 #[.pointer (some ⟨g, 0, none⟩)] w fun e w' => e = .returned (.iface 125 (.float .f64 0)) ∧ RdEndK K w g (l, false) w' := by
  have HT := Lib.hid (mTakeK _ g _ true w w (orNone_some g w) hR 8 (by omega) (by omega) (by omega))
  have htk : takeN l true 8 = ([], l, false) := by unfold takeN; rw [if_neg (fun k => by have := k.2.2; omega)]
  rw [htk] at HT
  have HO := Lib.hid (fun w => of_any 0 w (by omega))
  rw [show ofB 0 = some 0 from bitsB_ofB (by decide)] at HO
  clear h8 hR htk
  go_enter Tryz.func172, Tryz.ntmps172
  go_wp2_with fail
  refine HT.out.mono ?_
  rintro e w1 ⟨p, m, cp, rfl, hP, hE⟩
  have hm : m = 0 := by rw [← hP.len]; rfl
  subst hm
  have HE := Lib.hid hE
  clear hE hP
  go_wp2
  go_loop [3, 11] (fun b i => i = .int .i64 0 ∧ b = .int .u64 0) (fun _ i => 0)
  case atStart => exact ⟨rfl, rfl⟩
  case round =>
    obtain ⟨rfl, rfl⟩ := hrel
    go_wp2_with fail
    refine (HO.out _).mono ?_
    rintro e w' ⟨rfl, rfl⟩
    go_wp2
    go_ret
    exact ⟨rfl, HE.out⟩

set_option maxRecDepth 100000 in
theorem read_float_short (l : List Nat) (h8 : l.length < 8) (hR : RdK K w g (form 2 ++ l) true) :
    Calls Tryz.prog 156 #[.pointer (some ⟨g, 0, none⟩), .int .i64 T] w (NilEnd K w g) := by
  have HU := Lib.hid (mUintK _ g _ true w w (orNone_some g w) hR)
  rw [readN_form (by omega) l] at HU
  have HI := Lib.hid (fun W (h : RdK K W g l true) => readFloat_short K g W l h8 h)
  clear hR h8
  go_enter Tryz.func156, Tryz.ntmps156
  go_wp2_with fail
  refine HU.out.mono ?_
  rintro e w1 ⟨rfl, h1⟩
  have H1 := Lib.hid h1
  clear h1
  go_wp2_with fail
  refine (HI.out _ H1.out.1).mono ?_
  rintro e w2 ⟨rfl, h2⟩
  have H2 := Lib.hid h2
  clear h2
  go_wp2_with fail
  refine (mOk _ g l false _ _ (orNone_some g _) H2.out.1.rd).mono ?_
  rintro e w3 ⟨rfl, rfl⟩
  go_wp2
  go_ret
  exact ⟨rfl, _, H1.out.go H2.out⟩

set_option maxRecDepth 100000 in
set_option maxHeartbeats 1600000 in
theorem readFloat_nan (x : Nat) (rest : List Nat) (hx : x < 18446744073709551616) (hc : bitsB x ≠ x) (hl : (be8 x ++ rest).length ≤ 100000000000) (hR : RdK K w g (be8 x ++ rest) true) :
    Calls Tryz.prog 172 #[.pointer (some ⟨g, 0, none⟩)] w fun e w' => e = .returned .nilIface ∧ RdEndK K w g (rest, true) w' := by
  have HT := Lib.hid (mTakeK _ g _ true w w (orNone_some g w) hR 8 (by omega) (by omega) hl)
  rw [takeN_eight (be8_len x) rest] at HT
  have HO := Lib.hid (fun w => of_any x w hx)
  rw [show ofB x = none by rw [ofB_bits, if_neg hc]] at HO
  have Hx := Lib.hid hx
  clear hx hc hl hR
  go_enter Tryz.func172, Tryz.ntmps172
  go_wp2_with fail
  refine HT.out.mono ?_
  rintro e w1 ⟨p, m, cp, rfl, hP, hE⟩
  have hm : m = 8 := by rw [← hP.len]; exact be8_len x
  subst hm
  have HP := Lib.hid hP
  have HE := Lib.hid hE
  clear hP hE
  go_wp2
  go_loop [3, 11] (fun b i => ∃ j : Nat, j ≤ 8 ∧ i = .int .i64 (j : Int) ∧ b = .int .u64 ((x / 2 ^ (8 * (8 - j)) : Nat) : Int)) (fun _ i => 8 - (intOf i).toNat)
  case atStart =>
    refine ⟨0, by omega, rfl, ?_⟩
    rw [Nat.div_eq_of_lt (by have := Hx.out; omega)]
    rfl
  case round =>
    obtain ⟨j, hj, rfl, rfl⟩ := hrel
    by_cases hlt : j < 8
    · obtain ⟨b, o, rfl, hc⟩ := HP.out.cell (by omega)
      have hcj := hc j hlt
      rw [be8_getD x j hlt] at hcj
      have Hsn := Lib.hid (shift_next x j hlt)
      have hy := shift_lt x j hlt Hx.out
      have hc8 : x / 2 ^ (8 * (7 - j)) % 256 < 256 := Nat.mod_lt _ (by omega)
      have Hlt := Lib.hid hlt
      clear hc
      generalize x / 2 ^ (8 * (7 - j)) % 256 = c at *
      generalize x / 2 ^ (8 * (8 - j)) = y at *
      have hor := or_next y c hy hc8
      go_wp2
      go_round
      case rel => exact ⟨j + 1, Hlt.out, by go_num, by rw [← Hsn.out]; go_num⟩
      case measure => simp [intOf]; have := Hlt.out; omega
    · obtain rfl : j = 8 := by omega
      have e : x / 2 ^ (8 * (8 - 8)) = x := by simp
      rw [e]
      clear hlt e
      go_wp2_with fail
      refine (HO.out _).mono ?_
      rintro e w' ⟨rfl, rfl⟩
      go_wp2
      go_ret
      exact ⟨rfl, HE.out⟩

set_option maxRecDepth 100000 in
theorem read_float_nan (x : Nat) (rest : List Nat) (hx : x < 18446744073709551616) (hc : bitsB x ≠ x) (hl : (be8 x ++ rest).length ≤ 100000000000) (hR : RdK K w g (form 2 ++ (be8 x ++ rest)) true) :
    Calls Tryz.prog 156 #[.pointer (some ⟨g, 0, none⟩), .int .i64 T] w (NilEnd K w g) := by
  have HU := Lib.hid (mUintK _ g _ true w w (orNone_some g w) hR)
  rw [readN_form (by omega) (be8 x ++ rest)] at HU
  have HI := Lib.hid (fun W (h : RdK K W g (be8 x ++ rest) true) => readFloat_nan K g W x rest hx hc hl h)
  clear hR hx hc hl
  go_enter Tryz.func156, Tryz.ntmps156
  go_wp2_with fail
  refine HU.out.mono ?_
  rintro e w1 ⟨rfl, h1⟩
  have H1 := Lib.hid h1
  clear h1
  go_wp2_with fail
  refine (HI.out _ H1.out.1).mono ?_
  rintro e w2 ⟨rfl, h2⟩
  have H2 := Lib.hid h2
  clear h2
  go_wp2_with fail
  refine (mOk _ g rest true _ _ (orNone_some g _) H2.out.1.rd).mono ?_
  rintro e w3 ⟨rfl, rfl⟩
  go_wp2
  go_ret
  exact ⟨rfl, _, H1.out.go H2.out⟩

set_option maxRecDepth 100000 in
theorem readList_deep :
    Calls Tryz.prog 173 #[.pointer (some ⟨g, 0, none⟩), .int .i64 0] w fun e w' => e = .returned .nilIface ∧ w = w' := by
  go_enter Tryz.func173, Tryz.ntmps173
  go_wp2
  go_ret
  exact ⟨rfl, rfl⟩

set_option maxRecDepth 100000 in
theorem read_deep (l : List Nat) (hR : RdK K w g (form 4 ++ l) true) :
    Calls Tryz.prog 156 #[.pointer (some ⟨g, 0, none⟩), .int .i64 0] w (NilEnd K w g) := by
  have HU := Lib.hid (mUintK _ g _ true w w (orNone_some g w) hR)
  rw [readN_form (by omega) l] at HU
  clear hR
  go_enter Tryz.func156, Tryz.ntmps156
  go_wp2_with fail
  refine HU.out.mono ?_
  rintro e w1 ⟨rfl, h1⟩
  have H1 := Lib.hid h1
  clear h1
  go_wp2_with fail
  refine (readList_deep g _).mono ?_
  rintro e w2 ⟨rfl, rfl⟩
  go_wp2_with fail
  refine (mOk _ g l true _ _ (orNone_some g _) H1.out.1.rd).mono ?_
  rintro e w3 ⟨rfl, rfl⟩
  go_wp2
  go_ret
  exact ⟨rfl, _, H1.out⟩
end

/-- What read answers, whatever the bytes. -/
def RdAny (K : Nat → Prop) (w : World) (g t : Nat) (l : List Nat) (e : Ending) (w' : World) : Prop :=
  (∃ (u : V) (rest : List Nat) (a : Option Addr) (cap : Nat), e = .returned (conOf u.kind u.n u.f u.s a u.l.length cap) ∧ VInP (fun b => w.heap.size ≤ b ∧ b < w'.heap.size) w' u (cells5 u.kind u.n u.f u.s a u.l.length cap) ∧ IsV t l u rest ∧ RdEndK K w g (rest, true) w') ∨
  (NoV t l ∧ NilEnd K w g e w')

theorem bound_atom {k n : Int} {f : Nat} {s : List Nat} (hn : -9223372036854775808 ≤ n ∧ n ≤ 9223372036854775807) (hf : f < 18446744073709551616) (hs : s.length < 18446744073709551616) : boundV (.mk k n f s []) := by
  rw [boundV, boundL]
  exact ⟨hn, hf, hs, by simp, trivial⟩

theorem rd_atom (K : Nat → Prop) (t : Nat) (l : List Nat) (g : Nat) (w : World) (hl : l.length ≤ 100000000000) (hR : RdK K w g l true) (h4 : ¬ ∃ r, l = form 4 ++ r) :
    Calls Tryz.prog 156 #[.pointer (some ⟨g, 0, none⟩), .int .i64 (t : Int)] w (RdAny K w g t l) := by
  have hz : bitsB 0 = 0 := by decide
  have hb := hR.byte
  rcases readN_only hb with ⟨x, l1, hx, rfl⟩ | ⟨hn, hno⟩
  · have hb1 : ∀ c ∈ l1, c < 256 := fun c hc => hb c (List.mem_append.2 (.inr hc))
    have hl1 : l1.length ≤ 100000000000 := by rw [List.length_append] at hl; omega
    by_cases x0 : x = 0
    · subst x0
      refine (read_nil K g t l1 w hR).mono ?_
      rintro e w' ⟨rfl, h⟩
      refine .inl ⟨.mk 0 0 0 [] [], l1, none, 0, rfl, vin_atom w' 0 0 0 [] (by omega) (by omega) (by omega) (by simp) (by simp), ⟨?_, bound_atom (by omega) (by omega) (by simp), ?_⟩, h⟩
      · exact rightN_plain ⟨.inr rfl, .inr hz, .inr rfl, .inr rfl⟩ (show (0 : Int) ≠ 4 by omega) (show (0 : Int) ≤ 0 ∧ (0 : Int) ≤ 4 by omega)
      · rw [formV_is]; simp [pieceV, contF, formsV, V.kind, V.l]
    by_cases x1 : x = 1
    · subst x1
      rcases readN_only hb1 with ⟨y, l2, hy, rfl⟩ | ⟨hn, hno⟩
      · obtain ⟨n, n0, n1, rfl⟩ : ∃ n : Int, -9223372036854775808 ≤ n ∧ n ≤ 9223372036854775807 ∧ y = foldL n := ⟨unfoldL y, (fold_unfold y hy).2.1, (fold_unfold y hy).2.2, (fold_unfold y hy).1.symm⟩
        refine (read_int K g t l2 w n n0 n1 hR).mono ?_
        rintro e w' ⟨rfl, h⟩
        refine .inl ⟨.mk 1 n 0 [] [], l2, none, 0, rfl, vin_atom w' 1 n 0 [] (by omega) ⟨n0, n1⟩ (by omega) (by simp) (by simp), ⟨?_, bound_atom ⟨n0, n1⟩ (by omega) (by simp), ?_⟩, h⟩
        · exact rightN_plain ⟨.inl rfl, .inr hz, .inr rfl, .inr rfl⟩ (show (1 : Int) ≠ 4 by omega) (show (0 : Int) ≤ 1 ∧ (1 : Int) ≤ 4 by omega)
        · rw [formV_is]; simp [pieceV, contF, formsV, V.kind, V.l, V.n]
      · exact (read_int_bad K g t w l1 hn hR).mono fun e w' h => .inr ⟨noV_int hno, h⟩
    by_cases x2 : x = 2
    · subst x2
      by_cases h8 : l1.length < 8
      · exact (read_float_short K g t w l1 h8 hR).mono fun e w' h => .inr ⟨noV_short h8, h⟩
      obtain ⟨y, hy, e8⟩ := be8_onto (b := l1.take 8) (by rw [List.length_take]; omega) (fun c hc => hb1 c (List.mem_of_mem_take hc))
      obtain ⟨l2, rfl⟩ : ∃ l2, l1 = be8 y ++ l2 := ⟨l1.drop 8, by rw [← e8, List.take_append_drop]⟩
      by_cases hc : bitsB y = y
      · refine (read_float K g t l2 w y hy hc hl hR).mono ?_
        rintro e w' ⟨rfl, h⟩
        refine .inl ⟨.mk 2 0 y [] [], l2, none, 0, rfl, vin_atom w' 2 0 y [] (by omega) (by omega) hy (by simp) (by simp), ⟨?_, bound_atom (by omega) hy (by simp), ?_⟩, h⟩
        · exact rightN_plain ⟨.inr rfl, .inl rfl, .inr rfl, .inr rfl⟩ (show (2 : Int) ≠ 4 by omega) (show (0 : Int) ≤ 2 ∧ (2 : Int) ≤ 4 by omega)
        · rw [formV_is]; simp [pieceV, contF, formsV, V.kind, V.l, V.f, hc]
      · exact (read_float_nan K g t w y l2 hy hc hl1 hR).mono fun e w' h => .inr ⟨noV_nan hy hc, h⟩
    by_cases x3 : x = 3
    · subst x3
      rcases readB_only hb1 with ⟨s, l2, hs, rfl⟩ | ⟨hn, hno⟩
      · refine (read_text K g t l2 w s hs hR).mono ?_
        rintro e w' ⟨rfl, h⟩
        have hs8 : ∀ c ∈ s, c < 256 := fun c hc => hb1 c (by unfold formB; simp [hc])
        have hsl : s.length ≤ 100000000000 := by rw [List.length_append] at hl1; unfold formB at hl1; rw [List.length_append] at hl1; omega
        refine .inl ⟨.mk 3 0 0 s [], l2, none, 0, rfl, vin_atom w' 3 0 0 s (by omega) (by omega) (by omega) hs8 (by omega), ⟨?_, bound_atom (by omega) (by omega) hs, ?_⟩, h⟩
        · exact rightN_plain ⟨.inr rfl, .inr hz, .inl rfl, .inr rfl⟩ (show (3 : Int) ≠ 4 by omega) (show (0 : Int) ≤ 3 ∧ (3 : Int) ≤ 4 by omega)
        · rw [formV_is]; simp [pieceV, contF, formsV, V.kind, V.l, V.s]
      · exact (read_text_bad K g t w l1 hn hR).mono fun e w' h => .inr ⟨noV_text hno, h⟩
    have x4 : x ≠ 4 := fun e => h4 ⟨l1, by rw [e]⟩
    exact (read_big K g t w x l1 hx (by omega) hR).mono fun e w' h => .inr ⟨noV_big hx (by omega), h⟩
  · exact (read_bad0 K g t w l hn hR).mono fun e w' h => .inr ⟨noV_bad hno, h⟩
end Go.Proofs.YtcapbaocchaenaaGreatDoor

/- The walk of readList, whatever the bytes, where read does what it is to do at one level less. -/
namespace Go.Proofs.YtcapbaocchaenaaGreatDoor
open Go.RowKit Go.Shelf Fl

/-- read does what it is to do at t levels, whatever the bytes. -/
def RdV (t : Nat) : Prop := ∀ (K : Nat → Prop) (l : List Nat) (g : Nat) (w : World), l.length ≤ 100000000000 → (∀ b, K b → b < w.heap.size) → RdK K w g l true →
  Calls Tryz.prog 156 #[.pointer (some ⟨g, 0, none⟩), .int .i64 (t : Int)] w (RdAny K w g t l)

/-- What readList answers at a count and the bytes behind it. -/
def RdsAny (K : Nat → Prop) (w : World) (g t n : Nat) (l : List Nat) (e : Ending) (w' : World) : Prop :=
  (∃ (us : List V) (rest : List Nat) (a : Option Addr) (cap : Nat), e = .returned (.iface 127 (.slice a us.length cap)) ∧
    (us.length ≤ cap ∧ cap ≤ 9223372036854775807 ∧ (us = [] ∨ ∃ gg, a = some ⟨gg, 0, none⟩ ∧ (w.heap.size ≤ gg ∧ gg < w'.heap.size) ∧ VsInP (fun b => w.heap.size ≤ b ∧ b < w'.heap.size) w' us gg 0)) ∧
    (∀ u ∈ us, rightN t u = true ∧ boundV u) ∧ us.length = n ∧ l = formsV us ++ rest ∧ RdEndK K w g (rest, true) w') ∨
  (NoV (t + 1) (form 4 ++ (form n ++ l)) ∧ NilEnd K w g e w')

theorem forms_snoc (us : List V) (u : V) (r : List Nat) : formsV (us ++ [u]) ++ r = formsV us ++ (formV u ++ r) := by
  rw [formsV_append, List.append_assoc]
  show _ ++ ((formV u ++ []) ++ r) = _
  rw [List.append_nil]

set_option maxRecDepth 100000 in
set_option maxHeartbeats 3200000 in
theorem readList_all (K : Nat → Prop) (t : Nat) (ht : t ≤ 1000) (hA : RdV t) (n : Nat) (l : List Nat) (g : Nat) (w : World) (hn : n < 18446744073709551616) (hl : l.length ≤ 100000000000)
    (hK : ∀ b, K b → b < w.heap.size) (hg : g < w.heap.size) (hR : RdK K w g (form n ++ l) true) :
    Calls Tryz.prog 173 #[.pointer (some ⟨g, 0, none⟩), .int .i64 ((t + 1 : Nat) : Int)] w (RdsAny K w g t n l) := by
  obtain ⟨T, hTe⟩ : ∃ T : Int, T = ((t + 1 : Nat) : Int) := ⟨_, rfl⟩
  have hT0 : (T == 0) = false := beq_eq_false_iff_ne.2 (by omega)
  have hT1 : T - 1 = (t : Int) := by omega
  have hT2 : 0 < T ∧ T ≤ 1001 := by omega
  rw [← hTe]
  have HA := Lib.hid hA
  have HK := Lib.hid hK
  have Hg := Lib.hid hg
  have Hl := Lib.hid hl
  have Hn := Lib.hid hn
  have HU := Lib.hid (mUintK _ g _ true w w (orNone_some g w) hR)
  rw [readN_form hn l] at HU
  have hnm : (n : Int) < 18446744073709551616 := by omega
  clear hA hK hg hl hTe hR hn
  go_enter Tryz.func173, Tryz.ntmps173
  go_wp2_with fail
  refine HU.out.mono ?_
  rintro e w1 ⟨rfl, h1⟩
  have H1 := Lib.hid h1
  clear h1
  go_wp2
  go_loopw [5, 11] (fun v i wr => ∃ (j : Nat) (us : List V) (lj : List Nat), j ≤ n ∧ i = .int .u64 (j : Int) ∧ us.length = j ∧ OwnVs wr w.heap.size v us ∧ (∀ u ∈ us, rightN t u = true ∧ boundV u) ∧ l = formsV us ++ lj ∧ RdEndK K w g (lj, true) wr) (fun _ i _ => n - (intOf i).toNat)
  case atStart => exact ⟨0, [], l, Nat.zero_le _, rfl, rfl, OwnVs.nil _ _, fun u hu => (by cases hu), rfl, H1.out⟩
  case round =>
    obtain ⟨j, us, lj, hj, rfl, hul, hO, hru, hsa, hrd⟩ := hrel
    have HO := Lib.hid hO
    have Hru := Lib.hid hru
    have Hsa := Lib.hid hsa
    have Hrd := Lib.hid hrd
    have Hul := Lib.hid hul
    have Hus := Lib.hid (show us.length ≤ 100000000000 from by
      have h1 := formsV_count us
      have h2 := Hl.out
      rw [hsa, List.length_append] at h2
      omega)
    clear hO hru hsa hrd hul
    by_cases hlt : j < n
    · have hlen : lj.length ≤ 100000000000 := by
        have h2 := Hl.out
        rw [Hsa.out, List.length_append] at h2
        omega
      have HA1 := Lib.hid (HA.out K lj g wr hlen (fun b hb => Nat.lt_of_lt_of_le (HK.out b hb) Hrd.out.2.size) Hrd.out.1)
      have Hlt := Lib.hid hlt
      have hji : (j : Int) < (n : Int) := by omega
      clear hlen hlt
      go_wp2_with fail
      refine HA1.out.mono ?_
      rintro e w2 (⟨u, rest, a, cap, rfl, hv, hiv, hrd2⟩ | ⟨hno, rfl, s, hrd2⟩)
      · obtain ⟨hrt, hbu, hlj⟩ := hiv
        obtain ⟨T', p', hci⟩ := con_iface (a := a) (cap := cap) hrt
        obtain ⟨a2, cap2, hwh, hv2⟩ := whole_in hrt hv
        have HW := Lib.hid (fun w => whole_any u.kind u.n u.f u.s a u.l.length cap w)
        rw [hwh] at HW
        rw [hci] at HW ⊢
        have Hrd2 := Lib.hid hrd2
        have Hv2 := Lib.hid hv2
        have Hrt := Lib.hid (And.intro hrt hbu)
        have Hsm := Lib.hid hlj
        clear hci hwh hv hv2 hrt hbu hlj hrd2
        go_wp2_with fail
        refine (HW.out _).mono ?_
        rintro e w3 ⟨rfl, hb3⟩
        have hwz := Hrd.out.2.size
        have hgw := Hg.out
        have hO2 := (HO.out.keep (fun b hb1 hb => Hrd2.out.2.block b hb (fun e => by cases e; omega)) Hrd2.out.2.size).keep (fun b _ hb => hb3.block b hb) hb3.size
        have hal : Below w3.heap.size w3 (w3.alloc (.cells #[.int .i64 u.kind, .int .i64 u.n, .float .f64 u.f, .string (str u.s), .slice a2 u.l.length cap2] 43)) := (Below.refl _ _).alloc (Nat.le_refl _) _
        have hO3 := hO2.keep (fun b _ hb => hal.block b hb) hal.size
        have hblk := fun e => (HO.out.block (g := e))
        obtain ⟨cs, hcl, hrow, hel⟩ := hO3
        have hrk : RdEndK K w g (rest, true) (w3.alloc (.cells #[.int .i64 u.kind, .int .i64 u.n, .float .f64 u.f, .string (str u.s), .slice a2 u.l.length cap2] 43)) := ((Hrd.out.go Hrd2.out).below hb3).below hal
        have hu : VInP (fun b => w.heap.size ≤ b ∧ some b ≠ u5.ownBlock ∧ b < (w3.alloc (.cells #[.int .i64 u.kind, .int .i64 u.n, .float .f64 u.f, .string (str u.s), .slice a2 u.l.length cap2] 43)).heap.size) (w3.alloc (.cells #[.int .i64 u.kind, .int .i64 u.n, .float .f64 u.f, .string (str u.s), .slice a2 u.l.length cap2] 43)) u (cells5 u.kind u.n u.f u.s a2 u.l.length cap2) :=
          VInP.turn (fun b hq => ⟨by omega, (fun e => by have := (hblk _ e.symm).2; omega), by have := hal.size; have := hb3.size; omega⟩) (fun p hp => by unfold World.cell?; rw [hal.block p.block (by have := hb3.size; omega), hb3.block p.block hp.2]) u _ Hv2.out
        have Hcl := Lib.hid hcl
        have Hrow := Lib.hid hrow
        have Hel := Lib.hid hel
        have Hu := Lib.hid hu
        have Hrk := Lib.hid hrk
        clear hb3 hO2 hal hblk hcl hrow hel hu hrk hwz hgw
        obtain ⟨i0, hi, hz0, hz1, hz2⟩ := info_parts info_value
        go_wp2_with (at_builtin; refine wpList_append_lies _ rfl _ _ 127 rfl w.heap.size 43 i0 _ 5 64 Tryz.underlying127 hi hz0 hz1 hz2 rfl (by decide) u5 us.length _ rfl Hrow.out ⟨w3.heap.size, 0, none⟩ 1 1 [.int .i64 u.kind, .int .i64 u.n, .float .f64 u.f, .string (str u.s), .slice a2 u.l.length cap2] rfl rfl (World.news_of_block (heap_alloc_new w3 _)) (by simp [Value.oneCell']) (by decide) (by have := Hus.out; rw [maxLen_nat]; omega) (by have := Hus.out; omega) Hrk.out.2.size _ rfl ?_; intro gg cap4 w4 g1 g2 g3 g4; have hO4 := OwnVs.snoc Hcl.out Hel.out Hu.out g1 g2 (g3.imp (fun e => e.symm) (fun e => by rw [e]; rfl)))
        have hfar : ∀ b, u5.ownBlock = some b → w.heap.size ≤ b := fun b hb => (Hrow.out.lt b hb).1
        have hgl : g < (w3.alloc (.cells #[.int .i64 u.kind, .int .i64 u.n, .float .f64 u.f, .string (str u.s), .slice a2 u.l.length cap2] 43)).heap.size := Nat.lt_of_lt_of_le Hg.out Hrk.out.2.size
        have hR4 : RdEndK K w g (rest, true) w4 := ⟨Hrk.out.1.keep (g2.block g hgl (fun e => by have := hfar g e.symm; have := Hg.out; omega)) (fun b hb hk => g2.block b hb (fun e => by have := hfar b e.symm; have := HK.out b hk; omega)), only_far Hrk.out.2 g2 hfar⟩
        go_roundw
        case rel => exact ⟨j + 1, us ++ [u], rest, Hlt.out, by go_num, by rw [List.length_append, Hul.out]; rfl, hO4, (fun x hx => by
          rcases List.mem_append.1 hx with h | h
          · exact Hru.out x h
          · have e : x = u := by simpa using h
            rw [e]; exact Hrt.out), by rw [forms_snoc, ← Hsm.out]; exact Hsa.out, hR4⟩
        case measure => simp [intOf]; have := Hlt.out; omega
      · have Hno := Lib.hid hno
        have Hrd2 := Lib.hid hrd2
        clear hno hrd2
        go_wp2
        go_ret
        refine .inr ⟨?_, rfl, _, Hrd.out.go Hrd2.out⟩
        rw [Hsa.out]
        exact noV_elem Hn.out (by have := Hul.out; have := Hlt.out; omega) (fun u hu => (Hru.out u hu).1) (fun u hu => (Hru.out u hu).2) Hno.out
    · obtain ⟨a, cap, rfl, hle⟩ := HO.out.lies
      have Hle := Lib.hid hle
      have hjn : j = n := by omega
      have Hjn := Lib.hid hjn
      have hji : ¬ ((j : Int) < (n : Int)) := by omega
      clear hle hlt hjn
      go_wp2
      go_ret
      exact .inl ⟨us, lj, a, cap, rfl, Hle.out, Hru.out, Hul.out.trans Hjn.out, Hsa.out, Hrd.out⟩

set_option maxRecDepth 100000 in
theorem readList_count (K : Nat → Prop) (t : Nat) (ht : t ≤ 1000) (l : List Nat) (g : Nat) (w : World) (hn : readN l true = (0, l, false)) (hR : RdK K w g l true) :
    Calls Tryz.prog 173 #[.pointer (some ⟨g, 0, none⟩), .int .i64 ((t + 1 : Nat) : Int)] w fun e w' => e = .returned (.iface 127 (.slice none 0 0)) ∧ RdEndK K w g (l, false) w' := by
  obtain ⟨T, hTe⟩ : ∃ T : Int, T = ((t + 1 : Nat) : Int) := ⟨_, rfl⟩
  have hT0 : (T == 0) = false := beq_eq_false_iff_ne.2 (by omega)
  have hT2 : 0 < T ∧ T ≤ 1001 := by omega
  rw [← hTe]
  have HU := Lib.hid (mUintK _ g _ true w w (orNone_some g w) hR)
  rw [hn] at HU
  clear hTe hR hn
  go_enter Tryz.func173, Tryz.ntmps173
  go_wp2_with fail
  refine HU.out.mono ?_
  rintro e w1 ⟨rfl, h1⟩
  have H1 := Lib.hid h1
  clear h1
  go_wp2
  go_loop [5, 11] (fun v i => i = .int .u64 0 ∧ v = .slice none 0 0) (fun _ _ => 0)
  case atStart => exact ⟨rfl, rfl⟩
  case round =>
    obtain ⟨rfl, rfl⟩ := hrel
    go_wp2
    go_ret
    exact ⟨rfl, H1.out⟩
end Go.Proofs.YtcapbaocchaenaaGreatDoor

/- The walk of read and Read, whatever the bytes. -/
namespace Go.Proofs.YtcapbaocchaenaaGreatDoor
open Go.RowKit Go.Shelf Fl

set_option maxRecDepth 100000 in
theorem rd_list (K : Nat → Prop) (t : Nat) (ht : t ≤ 1000) (hA : RdV t) (l : List Nat) (g : Nat) (w : World) (hl : (form 4 ++ l).length ≤ 100000000000) (hK : ∀ b, K b → b < w.heap.size) (hR : RdK K w g (form 4 ++ l) true) :
    Calls Tryz.prog 156 #[.pointer (some ⟨g, 0, none⟩), .int .i64 ((t + 1 : Nat) : Int)] w (RdAny K w g (t + 1) (form 4 ++ l)) := by
  have hb1 : ∀ c ∈ l, c < 256 := fun c hc => hR.byte c (List.mem_append.2 (.inr hc))
  have hl1 : l.length ≤ 100000000000 := by rw [List.length_append] at hl; omega
  have hg : g < w.heap.size := by
    obtain ⟨a, n, c, h1, _⟩ := hR
    exact (Array.getElem?_eq_some_iff.1 h1).1
  have HU := Lib.hid (mUintK _ g _ true w w (orNone_some g w) hR)
  rw [readN_form (by omega) l] at HU
  rcases readN_only hb1 with ⟨n, l2, hn, rfl⟩ | ⟨hn, hno⟩
  · have hl2 : l2.length ≤ 100000000000 := by rw [List.length_append] at hl1; omega
    have HL := Lib.hid (fun W (hs : w.heap.size ≤ W.heap.size) (h : RdK K W g (form n ++ l2) true) => readList_all K t ht hA n l2 g W hn hl2 (fun b hb => Nat.lt_of_lt_of_le (hK b hb) hs) (Nat.lt_of_lt_of_le hg hs) h)
    obtain ⟨T, hT⟩ : ∃ T : Int, T = ((t + 1 : Nat) : Int) := ⟨_, rfl⟩
    rw [← hT] at HL ⊢
    have Hn := Lib.hid hn
    have Hl2 := Lib.hid hl2
    clear hl hl1 hl2 hg hR hK hT hA hb1 hn
    go_enter Tryz.func156, Tryz.ntmps156
    go_wp2_with fail
    refine HU.out.mono ?_
    rintro e w1 ⟨rfl, h1⟩
    have H1 := Lib.hid h1
    clear h1
    go_wp2_with fail
    refine (HL.out _ H1.out.2.size H1.out.1).mono ?_
    rintro e w2 (⟨us, rest, a, cap, rfl, hle, hru, hun, hsa, hrd⟩ | ⟨hno, rfl, s, hrd⟩)
    · have Hle := Lib.hid hle
      have Hru := Lib.hid hru
      have Hun := Lib.hid hun
      have Hsa := Lib.hid hsa
      have Hrd := Lib.hid hrd
      clear hle hru hun hsa hrd
      go_wp2_with fail
      refine (mOk _ g rest true _ _ (orNone_some g _) Hrd.out.1.rd).mono ?_
      rintro e w3 ⟨rfl, rfl⟩
      go_wp2
      go_ret
      have hsz := H1.out.2.size
      refine .inl ⟨.mk 4 0 0 [] us, rest, a, cap, rfl, ?_, ⟨list_is_right (fun u hu => (Hru.out u hu).1), ?_, ?_⟩, H1.out.go Hrd.out⟩
      · rw [VInP]
        obtain ⟨h1, h2, h3⟩ := Hle.out
        refine ⟨by omega, by omega, by omega, by simp, by simp, a, cap, rfl, h1, h2, h3.imp id (fun ⟨gg, e, hb, hv⟩ => ⟨gg, 0, e, ⟨by omega, hb.2⟩, VsInP.turn (fun b hb => ⟨by omega, hb.2⟩) (fun _ _ => rfl) us gg 0 hb hv⟩)⟩
      · rw [boundV]
        exact ⟨by omega, by omega, by simp, by have := Hun.out; have := Hn.out; omega, boundL_of (fun u hu => (Hru.out u hu).2)⟩
      · rw [formV_is, ← Hun.out, Hsa.out]
        simp [pieceV, contF, V.kind, V.l]
    · have Hno := Lib.hid hno
      have Hrd := Lib.hid hrd
      clear hno hrd
      obtain ⟨ls, ok⟩ := s
      go_wp2_with fail
      refine (mOk _ g ls ok _ _ (orNone_some g _) Hrd.out.1.rd).mono ?_
      rintro e w3 ⟨rfl, rfl⟩
      cases ok
      all_goals go_wp2
      all_goals go_ret
      all_goals exact .inr ⟨Hno.out, rfl, _, H1.out.go Hrd.out⟩
  · have HL := Lib.hid (fun W (h : RdK K W g l true) => readList_count K t ht l g W hn h)
    obtain ⟨T, hT⟩ : ∃ T : Int, T = ((t + 1 : Nat) : Int) := ⟨_, rfl⟩
    rw [← hT] at HL ⊢
    have Hno := Lib.hid hno
    clear hl hl1 hg hR hK hT hA hb1 hn hno
    go_enter Tryz.func156, Tryz.ntmps156
    go_wp2_with fail
    refine HU.out.mono ?_
    rintro e w1 ⟨rfl, h1⟩
    have H1 := Lib.hid h1
    clear h1
    go_wp2_with fail
    refine (HL.out _ H1.out.1).mono ?_
    rintro e w2 ⟨rfl, hrd⟩
    have Hrd := Lib.hid hrd
    clear hrd
    go_wp2_with fail
    refine (mOk _ g l false _ _ (orNone_some g _) Hrd.out.1.rd).mono ?_
    rintro e w3 ⟨rfl, rfl⟩
    go_wp2
    go_ret
    exact .inr ⟨noV_count Hno.out, rfl, _, H1.out.go Hrd.out⟩

theorem rd_any (t : Nat) (ht : t ≤ 1000) : RdV t := by
  induction t with
  | zero =>
    intro K l g w hl _ hR
    by_cases h4 : ∃ r, l = form 4 ++ r
    · obtain ⟨r, rfl⟩ := h4
      exact (read_deep K g w r hR).mono fun e w' h => .inr ⟨noV_deep, h⟩
    · exact rd_atom K 0 l g w hl hR h4
  | succ t ih =>
    intro K l g w hl hK hR
    by_cases h4 : ∃ r, l = form 4 ++ r
    · obtain ⟨r, rfl⟩ := h4
      exact rd_list K t (by omega) (ih (by omega)) r g w hl hK hR
    · exact rd_atom K (t + 1) l g w hl hR h4

/-- What Read answers, whatever the bytes. -/
def ReadAll (K : Nat → Prop) (w : World) (g : Nat) (l : List Nat) (e : Ending) (w' : World) : Prop :=
  (∃ (u : V) (rest : List Nat) (a : Option Addr) (cap : Nat), e = .returned (.tuple #[.agg (cells5 u.kind u.n u.f u.s a u.l.length cap), .bool true]) ∧ VInP (fun b => w.heap.size ≤ b ∧ b < w'.heap.size) w' u (cells5 u.kind u.n u.f u.s a u.l.length cap) ∧ IsV 8 l u rest ∧ RdEndK K w g (rest, true) w') ∨
  (NoV 8 l ∧ e = .returned (.tuple #[.agg (cells5 0 0 0 [] none 0 0), .bool false]) ∧ ∃ s, RdEndK K w g s w')

set_option maxRecDepth 100000 in
theorem vread_all (K : Nat → Prop) (l : List Nat) (g : Nat) (w : World) (hl : l.length ≤ 100000000000) (hK : ∀ b, K b → b < w.heap.size) (hR : RdK K w g l true) :
    Calls Tryz.prog 119 #[.pointer (some ⟨g, 0, none⟩)] w (ReadAll K w g l) := by
  have hg : g < w.heap.size := by
    obtain ⟨a, n, c, h1, _⟩ := hR
    exact (Array.getElem?_eq_some_iff.1 h1).1
  have hb0 := (Below.refl w.heap.size w).alloc (Nat.le_refl _) (.cells #[.int .i64 0, .int .i64 0, .float .f64 0, .string ⟨#[]⟩, .slice none 0 0] 43)
  have HA := Lib.hid (rd_any 8 (by omega) K l g _ hl (fun b h => Nat.lt_of_lt_of_le (hK b h) hb0.size) (hR.below hb0))
  have Hb0 := Lib.hid hb0
  have hfl : ∀ (w : World) (a : Addr) (m : Mode) (b : Nat), (store a (.float .f64 b) m).run Tryz.prog w = stored Tryz.prog w a (.float .f64 b) m := fun w a m b => run_store Tryz.prog w a _ m rfl
  have H0 := Lib.hid (heap_alloc_new w (.cells #[.int .i64 0, .int .i64 0, .float .f64 0, .string ⟨#[]⟩, .slice none 0 0] 43))
  have hwz : (w.alloc (.cells #[.int .i64 0, .int .i64 0, .float .f64 0, .string ⟨#[]⟩, .slice none 0 0] 43)).heap.size = w.heap.size + 1 := by simp
  have Hg := Lib.hid hg
  have HK := Lib.hid hK
  clear hl hR hb0 hg hK
  go_enter Tryz.func119, Tryz.ntmps119
  go_wp2_with fail
  generalize w.alloc (.cells #[.int .i64 0, .int .i64 0, .float .f64 0, .string ⟨#[]⟩, .slice none 0 0] 43) = w1 at *
  refine (show Calls Tryz.prog 156 #[.pointer (some ⟨g, 0, none⟩), .int .i64 8] w1 _ from HA.out).mono ?_
  rintro e w2 (⟨u, rest, a, cap, rfl, hv, hiv, hrd2⟩ | ⟨hno, rfl, s, hrd2⟩)
  · obtain ⟨hrt, hbu, hlu⟩ := hiv
    obtain ⟨T', p', hci⟩ := con_iface (a := a) (cap := cap) hrt
    obtain ⟨a2, cap2, hwh, hv2⟩ := whole_in hrt hv
    have HW := Lib.hid (fun w => whole_any u.kind u.n u.f u.s a u.l.length cap w)
    rw [hwh] at HW
    rw [hci] at HW ⊢
    have Hrd2 := Lib.hid hrd2
    have Hv2 := Lib.hid hv2
    have Hrt := Lib.hid (show IsV 8 l u rest from ⟨hrt, hbu, hlu⟩)
    have Hres2 := Lib.hid ((hrd2.2.block w.heap.size (by omega) (fun e => by cases e; exact absurd Hg.out (Nat.lt_irrefl _))).trans H0.out)
    have Hs2 := Lib.hid (show w.heap.size < w2.heap.size by have := hrd2.2.size; omega)
    clear hci hwh hv hv2 hrt hbu hlu hrd2
    unfold cells5 at *
    go_wp2_with fail
    go_region_law
      (first
        | (go_simp; go_at_call 145; (with_reducible refine (HW.out _).mono ?_); rintro e w4 ⟨rfl, hb4⟩
           have hb5 : Below w2.heap.size w2 w4 := ((Below.refl _ _).drew).trans hb4
           obtain ⟨⟨z0, z1, z2, z3, z4⟩, ⟨y0, y1, y2, y3, y4⟩⟩ := res_cells ((hb5.block w.heap.size Hs2.out).trans Hres2.out)
           have Hb4 := Lib.hid hb5
           clear hb4 hb5))
    all_goals go_wp2
    all_goals refine bodyPost_ret (v := .tuple #[.agg #[.int .i64 u.kind, .int .i64 u.n, .float .f64 u.f, .string (str u.s), .slice a2 u.l.length cap2], .bool true]) (by simp [results, Tryz.results119, go_sem, Act.put, *]) rfl ?_
    all_goals have hs4 := Hb4.out.size
    all_goals have hwz1 := Hb0.out.size
    all_goals refine .inl ⟨u, rest, a2, cap2, rfl, VInP.turn (fun b hb => ⟨by omega, ?_⟩) (fun p hp => ?_) u _ Hv2.out, Hrt.out, ?_, ?_⟩
    · unfold World.cell?
      rw [set5_block (by omega), Hb4.out.block p.block hp.2]
    · have hne : g ≠ w.heap.size := by have := Hg.out; omega
      exact (Hrd2.out.1.below Hb4.out).keep (set5_block hne _ _ _ _ _) (fun b _ hb => set5_block (by have := HK.out b hb; omega) _ _ _ _ _)
    · have h1 : w.grownBy w1 (some g) := ⟨Hb0.out.os, Hb0.out.tape, Hb0.out.output, Hb0.out.size, fun i hi _ => Hb0.out.block i hi⟩
      have h4 := only_below (only_trans h1 Hrd2.out.2) Hb4.out
      have h5 := ((((((Below.refl w.heap.size w4).setCell (p := ⟨w.heap.size, 0, none⟩) (Nat.le_refl _) (.int .i64 u.kind)).setCell (p := ⟨w.heap.size, 1, none⟩) (Nat.le_refl _) (.int .i64 u.n)).setCell (p := ⟨w.heap.size, 2, none⟩) (Nat.le_refl _) (.float .f64 u.f)).setCell (p := ⟨w.heap.size, 3, none⟩) (Nat.le_refl _) (.string (str u.s))).setCell (p := ⟨w.heap.size, 4, none⟩) (Nat.le_refl _) (.slice a2 u.l.length cap2))
      exact ⟨h5.os.trans h4.os, h5.tape.trans h4.tape, h5.output.trans h4.output, Nat.le_trans h4.size h5.size, fun i hi hne => (h5.block i hi).trans (h4.block i hi hne)⟩
    · have hs5 := ((((((Below.refl w.heap.size w4).setCell (p := ⟨w.heap.size, 0, none⟩) (Nat.le_refl _) (.int .i64 u.kind)).setCell (p := ⟨w.heap.size, 1, none⟩) (Nat.le_refl _) (.int .i64 u.n)).setCell (p := ⟨w.heap.size, 2, none⟩) (Nat.le_refl _) (.float .f64 u.f)).setCell (p := ⟨w.heap.size, 3, none⟩) (Nat.le_refl _) (.string (str u.s))).setCell (p := ⟨w.heap.size, 4, none⟩) (Nat.le_refl _) (.slice a2 u.l.length cap2)).size
      have := hb.2
      omega
  · have HW := Lib.hid (fun w => whole_any 5 0 0 [] none 0 0 w)
    have e1 : conOf 5 0 0 [] none 0 0 = .nilIface := rfl
    have e2 : wholeOf 5 0 0 [] none 0 0 = cells5 0 0 0 [] none 0 0 := rfl
    rw [e1, e2] at HW
    have Hno := Lib.hid hno
    have Hrd2 := Lib.hid hrd2
    have Hres2 := Lib.hid ((hrd2.2.block w.heap.size (by omega) (fun e => by cases e; exact absurd Hg.out (Nat.lt_irrefl _))).trans H0.out)
    have Hs2 := Lib.hid (show w.heap.size < w2.heap.size by have := hrd2.2.size; omega)
    clear hno hrd2 e1 e2
    unfold cells5 at *
    go_wp2_with fail
    go_region_law
      (first
        | (go_simp; go_at_call 145; (with_reducible refine (HW.out _).mono ?_); rintro e w4 ⟨rfl, hb4⟩
           have hb5 : Below w2.heap.size w2 w4 := ((Below.refl _ _).drew).trans hb4
           obtain ⟨⟨z0, z1, z2, z3, z4⟩, ⟨y0, y1, y2, y3, y4⟩⟩ := res_cells ((hb5.block w.heap.size Hs2.out).trans Hres2.out)
           have Hb4 := Lib.hid hb5
           clear hb4 hb5))
    all_goals go_wp2
    all_goals refine bodyPost_ret (v := .tuple #[.agg #[.int .i64 0, .int .i64 0, .float .f64 0, .string (str []), .slice none 0 0], .bool false]) (by simp [results, Tryz.results119, go_sem, Act.put, *]) rfl ?_
    all_goals refine .inr ⟨Hno.out, rfl, s, ?_, ?_⟩
    · have hne : g ≠ w.heap.size := by have := Hg.out; omega
      exact (Hrd2.out.1.below Hb4.out).keep (set5_block hne _ _ _ _ _) (fun b _ hb => set5_block (by have := HK.out b hb; omega) _ _ _ _ _)
    · have h1 : w.grownBy w1 (some g) := ⟨Hb0.out.os, Hb0.out.tape, Hb0.out.output, Hb0.out.size, fun i hi _ => Hb0.out.block i hi⟩
      have h4 := only_below (only_trans h1 Hrd2.out.2) Hb4.out
      have h5 := ((((((Below.refl w.heap.size w4).setCell (p := ⟨w.heap.size, 0, none⟩) (Nat.le_refl _) (.int .i64 0)).setCell (p := ⟨w.heap.size, 1, none⟩) (Nat.le_refl _) (.int .i64 0)).setCell (p := ⟨w.heap.size, 2, none⟩) (Nat.le_refl _) (.float .f64 0)).setCell (p := ⟨w.heap.size, 3, none⟩) (Nat.le_refl _) (.string (str []))).setCell (p := ⟨w.heap.size, 4, none⟩) (Nat.le_refl _) (.slice none 0 0))
      exact ⟨h5.os.trans h4.os, h5.tape.trans h4.tape, h5.output.trans h4.output, Nat.le_trans h4.size h5.size, fun i hi hne => (h5.block i hi).trans (h4.block i hi hne)⟩
end Go.Proofs.YtcapbaocchaenaaGreatDoor

/- The walks of the readers of events' fields. -/
namespace Go.Proofs.YtcapbaocchaenaaGreatDoor
open Go.RowKit Go.Shelf Fl
attribute [local go_sem] run_store_func run_store_nilFunc

/-- Nothing but the blocks g and E, and new ones, has turned. -/
def TwoG (w w' : World) (g E : Nat) : Prop := w'.os = w.os ∧ w'.tape = w.tape ∧ w'.output = w.output ∧ w.heap.size ≤ w'.heap.size ∧ ∀ i, i < w.heap.size → i ≠ g → i ≠ E → w'.heap[i]? = w.heap[i]?

/-- Where the two captured variables of the readers lie, and what they point to. -/
structure Boxes (w : World) (A B g E : Nat) : Prop where
  a : w.heap[A]? = some (.cells #[.pointer (some ⟨g, 0, none⟩)] 63 (0, 0))
  b : w.heap[B]? = some (.cells #[.pointer (some ⟨E, 0, none⟩)] 110 (0, 0))

theorem box1 {w : World} {B : Nat} {v : Value} {t : TypeId} (h : w.heap[B]? = some (.cells #[v] t (0, 0))) : w.cell? ⟨B, 0, none⟩ = some v := by
  rw [cell_of_row _ _ _ _ _ (0, 0) h]; rfl

theorem Boxes.below {w w' : World} {A B g E : Nat} (h : Boxes w A B g E) (hb : Below w.heap.size w w') : Boxes w' A B g E :=
  ⟨(hb.block _ (Array.getElem?_eq_some_iff.1 h.a).1).trans h.a, (hb.block _ (Array.getElem?_eq_some_iff.1 h.b).1).trans h.b⟩
theorem Boxes.turn {w w' : World} {A B g E : Nat} (h : Boxes w A B g E) (hn : A ≠ g ∧ B ≠ g ∧ E ≠ g ∧ A ≠ E ∧ B ≠ E) (hb : w.grownBy w' (some g)) : Boxes w' A B g E :=
  ⟨(hb.block _ (Array.getElem?_eq_some_iff.1 h.a).1 (fun e => hn.1 (Option.some.inj e))).trans h.a, (hb.block _ (Array.getElem?_eq_some_iff.1 h.b).1 (fun e => hn.2.1 (Option.some.inj e))).trans h.b⟩
theorem Boxes.cells {w : World} {A B g E : Nat} (h : Boxes w A B g E) : w.cell? ⟨A, 0, none⟩ = some (.pointer (some ⟨g, 0, none⟩)) ∧ w.cell? ⟨B, 0, none⟩ = some (.pointer (some ⟨E, 0, none⟩)) := ⟨box1 h.a, box1 h.b⟩
theorem Boxes.set {w : World} {A B g E : Nat} (h : Boxes w A B g E) (hn : A ≠ g ∧ B ≠ g ∧ E ≠ g ∧ A ≠ E ∧ B ≠ E) (i : Nat) (v : Value) : Boxes (w.setCell ⟨E, i, none⟩ v) A B g E :=
  ⟨by rw [← h.a]; simp [World.setCell, Array.getElem?_modify, Ne.symm hn.2.2.2.1], by rw [← h.b]; simp [World.setCell, Array.getElem?_modify, Ne.symm hn.2.2.2.2]⟩
theorem froz {w : World} {E : Nat} {cs : Array Value} {t : TypeId} (h : w.heap[E]? = some (.cells cs t (0, 0))) (i : Nat) : w.frozen? ⟨E, i, none⟩ = false := by simp [World.frozen?, h]
theorem evAt_turn {w w' : World} {g E : Nat} {x : Obj} (h : w.heap[E]? = some x) (hn : E ≠ g) (hb : w.grownBy w' (some g)) : w'.heap[E]? = some x :=
  (hb.block _ (Array.getElem?_eq_some_iff.1 h).1 (fun e => hn (Option.some.inj e))).trans h
theorem TwoG.of {w w' : World} {g E : Nat} (h : w.grownBy w' (some g)) : TwoG w w' g E := ⟨h.os, h.tape, h.output, h.size, fun i hi hg _ => h.block i hi (fun e => hg (Option.some.inj e))⟩
theorem TwoG.refl (w : World) (g E : Nat) : TwoG w w g E := ⟨rfl, rfl, rfl, Nat.le_refl _, fun _ _ _ _ => rfl⟩
theorem TwoG.trans {w w1 w2 : World} {g E : Nat} (h : TwoG w w1 g E) (k : TwoG w1 w2 g E) : TwoG w w2 g E := by
  obtain ⟨a1, a2, a3, a4, a5⟩ := h
  obtain ⟨b1, b2, b3, b4, b5⟩ := k
  exact ⟨b1.trans a1, b2.trans a2, b3.trans a3, Nat.le_trans a4 b4, fun i hi hg hE => (b5 i (Nat.lt_of_lt_of_le hi a4) hg hE).trans (a5 i hi hg hE)⟩
theorem TwoG.below {w w1 w2 : World} {g E : Nat} (h : TwoG w w1 g E) (k : Below w1.heap.size w1 w2) : TwoG w w2 g E := by
  obtain ⟨a1, a2, a3, a4, a5⟩ := h
  exact ⟨k.os.trans a1, k.tape.trans a2, k.output.trans a3, Nat.le_trans a4 k.size, fun i hi hg hE => (k.block i (Nat.lt_of_lt_of_le hi a4)).trans (a5 i hi hg hE)⟩
theorem TwoG.set {w w1 : World} {g E : Nat} (h : TwoG w w1 g E) (i : Nat) (v : Value) : TwoG w (w1.setCell ⟨E, i, none⟩ v) g E := by
  obtain ⟨a1, a2, a3, a4, a5⟩ := h
  have hs := (Below.refl E w1).setCell (p := ⟨E, i, none⟩) (Nat.le_refl _) v
  refine ⟨hs.os.trans a1, hs.tape.trans a2, hs.output.trans a3, Nat.le_trans a4 hs.size, fun j hj hg hE => ?_⟩
  rw [show (w1.setCell ⟨E, i, none⟩ v).heap[j]? = w1.heap[j]? from by simp [World.setCell, Array.getElem?_modify, Ne.symm hE]]
  exact a5 j hj hg hE
theorem RdK.setE {K : Nat → Prop} {w : World} {g E i : Nat} {l : List Nat} {ok : Bool} (h : RdK K w g l ok) (hn : E ≠ g) (hK : ¬ K E) (v : Value) : RdK K (w.setCell ⟨E, i, none⟩ v) g l ok :=
  h.keep (by simp [World.setCell, Array.getElem?_modify, hn]) (fun b _ hk => by
    have : E ≠ b := fun e => hK (by rw [e]; exact hk)
    simp [World.setCell, Array.getElem?_modify, this])

set_option maxRecDepth 100000 in
set_option maxHeartbeats 3200000 in
theorem fr1_any (K : Nat → Prop) (A B g E : Nat) (l : List Nat) (w : World) (hB : Boxes w A B g E) (hne : A ≠ g ∧ B ≠ g ∧ E ≠ g ∧ A ≠ E ∧ B ≠ E) (hK : ¬ K E) (hR : RdK K w g l true)
    (k : Int) (id : Nat) (n : Int) (t : Nat) (nm tx : List Nat) (vk vn : Int) (vf : Nat) (vs : List Nat) (a : Option Addr) (len cap : Nat) (hE : w.heap[E]? = some (.cells (evC k id n t nm tx vk vn vf vs a len cap) 45 (0, 0))) :
    Calls Tryz.prog 113 #[.pointer (some ⟨A, 0, none⟩), .pointer (some ⟨B, 0, none⟩)] w fun e w' => e = .returned (.bool (readN l true).2.2) ∧ RdK K w' g (readN l true).2.1 (readN l true).2.2 ∧ TwoG w w' g E ∧ w'.heap[E]? = some (.cells (evC k (readN l true).1 n t nm tx vk vn vf vs a len cap) 45 (0, 0)) := by
  have HB := Lib.hid hB
  have HU := Lib.hid (fun W (h : RdK K W g l true) => mUintK _ g _ true W W (orNone_some g W) h)
  obtain ⟨x, l2, ok, hx⟩ : ∃ x l2 ok, readN l true = (x, l2, ok) := ⟨_, _, _, rfl⟩
  rw [hx] at HU ⊢
  have HE := Lib.hid hE
  have HR := Lib.hid hR
  have Hne := Lib.hid hne
  have HK := Lib.hid hK
  clear hE hR hB hx hne hK
  go_enter Tryz.func113, Tryz.ntmps113
  go_wp2_with fail
  go_region_held3 (fun W => W.cell? ⟨A, 0, none⟩ = some (.pointer (some ⟨g, 0, none⟩)) ∧ W.cell? ⟨B, 0, none⟩ = some (.pointer (some ⟨E, 0, none⟩)))
    (first | exact (HB.out.below ((Below.refl _ _).drew)).cells | exact hB2.cells | exact (hB2.set Hne.out _ _).cells)
    (first
      | (go_at_call 41; (with_reducible refine (HU.out _ (HR.out.below ((Below.refl _ _).drew))).mono ?_); rintro e w2 ⟨rfl, h2⟩
         have hB2 := (HB.out.below ((Below.refl _ _).drew)).turn Hne.out h2.2
         have hE2 := evAt_turn (((Below.refl _ _).drew.block _ (Array.getElem?_eq_some_iff.1 HE.out).1).trans HE.out) Hne.out.2.2.1 h2.2
         have e1 := (box11 hE2).2.1
         have f1 := froz hE2 1
         have H2 := Lib.hid h2
         have HE2 := Lib.hid hE2
         clear h2 hE2))
  have hB3 := hB2.set Hne.out 1 (.int .u64 (x : Int))
  have HR3 := Lib.hid (H2.out.1.setE (i := 1) Hne.out.2.2.1 HK.out (.int .u64 (x : Int)))
  have HT3 := Lib.hid (((((TwoG.refl w g E).below (Below.refl _ _).drew)).trans (TwoG.of H2.out.2)).set 1 (.int .u64 (x : Int)))
  have HE3 := Lib.hid (set_headE HE2.out (i := 1) (.int .u64 (x : Int)))
  obtain ⟨c0, c1⟩ := hB3.cells
  clear hB2 e1 f1 hB3
  generalize w2.setCell ⟨E, 1, none⟩ (.int .u64 (x : Int)) = w3 at *
  go_wp2_with fail
  refine (mOk _ g l2 ok _ _ (orNone_some g _) HR3.out.rd).mono ?_
  rintro e w4 ⟨rfl, rfl⟩
  go_wp2
  go_ret
  exact ⟨rfl, HR3.out, HT3.out, HE3.out⟩
set_option maxRecDepth 100000 in
set_option maxHeartbeats 3200000 in
theorem fr3_any (K : Nat → Prop) (A B g E : Nat) (l : List Nat) (w : World) (hB : Boxes w A B g E) (hne : A ≠ g ∧ B ≠ g ∧ E ≠ g ∧ A ≠ E ∧ B ≠ E) (hK : ¬ K E) (hR : RdK K w g l true)
    (k : Int) (id : Nat) (n : Int) (t : Nat) (nm tx : List Nat) (vk vn : Int) (vf : Nat) (vs : List Nat) (a : Option Addr) (len cap : Nat) (hE : w.heap[E]? = some (.cells (evC k id n t nm tx vk vn vf vs a len cap) 45 (0, 0))) :
    Calls Tryz.prog 115 #[.pointer (some ⟨A, 0, none⟩), .pointer (some ⟨B, 0, none⟩)] w fun e w' => e = .returned (.bool (readN l true).2.2) ∧ RdK K w' g (readN l true).2.1 (readN l true).2.2 ∧ TwoG w w' g E ∧ w'.heap[E]? = some (.cells (evC k id n (readN l true).1 nm tx vk vn vf vs a len cap) 45 (0, 0)) := by
  have HB := Lib.hid hB
  have HU := Lib.hid (fun W (h : RdK K W g l true) => mUintK _ g _ true W W (orNone_some g W) h)
  obtain ⟨x, l2, ok, hx⟩ : ∃ x l2 ok, readN l true = (x, l2, ok) := ⟨_, _, _, rfl⟩
  rw [hx] at HU ⊢
  have HE := Lib.hid hE
  have HR := Lib.hid hR
  have Hne := Lib.hid hne
  have HK := Lib.hid hK
  clear hE hR hB hx hne hK
  go_enter Tryz.func115, Tryz.ntmps115
  go_wp2_with fail
  go_region_held3 (fun W => W.cell? ⟨A, 0, none⟩ = some (.pointer (some ⟨g, 0, none⟩)) ∧ W.cell? ⟨B, 0, none⟩ = some (.pointer (some ⟨E, 0, none⟩)))
    (first | exact (HB.out.below ((Below.refl _ _).drew)).cells | exact hB2.cells | exact (hB2.set Hne.out _ _).cells)
    (first
      | (go_at_call 41; (with_reducible refine (HU.out _ (HR.out.below ((Below.refl _ _).drew))).mono ?_); rintro e w2 ⟨rfl, h2⟩
         have hB2 := (HB.out.below ((Below.refl _ _).drew)).turn Hne.out h2.2
         have hE2 := evAt_turn (((Below.refl _ _).drew.block _ (Array.getElem?_eq_some_iff.1 HE.out).1).trans HE.out) Hne.out.2.2.1 h2.2
         have e1 := (box11 hE2).2.2.2.1
         have f1 := froz hE2 3
         have H2 := Lib.hid h2
         have HE2 := Lib.hid hE2
         clear h2 hE2))
  have hB3 := hB2.set Hne.out 3 (.int .u64 (x : Int))
  have HR3 := Lib.hid (H2.out.1.setE (i := 3) Hne.out.2.2.1 HK.out (.int .u64 (x : Int)))
  have HT3 := Lib.hid (((((TwoG.refl w g E).below (Below.refl _ _).drew)).trans (TwoG.of H2.out.2)).set 3 (.int .u64 (x : Int)))
  have HE3 := Lib.hid (set_headE HE2.out (i := 3) (.int .u64 (x : Int)))
  obtain ⟨c0, c1⟩ := hB3.cells
  clear hB2 e1 f1 hB3
  generalize w2.setCell ⟨E, 3, none⟩ (.int .u64 (x : Int)) = w3 at *
  go_wp2_with fail
  refine (mOk _ g l2 ok _ _ (orNone_some g _) HR3.out.rd).mono ?_
  rintro e w4 ⟨rfl, rfl⟩
  go_wp2
  go_ret
  exact ⟨rfl, HR3.out, HT3.out, HE3.out⟩
set_option maxRecDepth 100000 in
set_option maxHeartbeats 3200000 in
theorem fr4_any (K : Nat → Prop) (A B g E : Nat) (l : List Nat) (w : World) (hB : Boxes w A B g E) (hne : A ≠ g ∧ B ≠ g ∧ E ≠ g ∧ A ≠ E ∧ B ≠ E) (hK : ¬ K E) (hR : RdK K w g l true)
    (k : Int) (id : Nat) (n : Int) (t : Nat) (nm tx : List Nat) (vk vn : Int) (vf : Nat) (vs : List Nat) (a : Option Addr) (len cap : Nat) (hE : w.heap[E]? = some (.cells (evC k id n t nm tx vk vn vf vs a len cap) 45 (0, 0))) :
    Calls Tryz.prog 116 #[.pointer (some ⟨A, 0, none⟩), .pointer (some ⟨B, 0, none⟩)] w fun e w' => e = .returned (.bool (readB l true).2.2) ∧ RdK K w' g (readB l true).2.1 (readB l true).2.2 ∧ TwoG w w' g E ∧ w'.heap[E]? = some (.cells (evC k id n t (readB l true).1 tx vk vn vf vs a len cap) 45 (0, 0)) := by
  have HB := Lib.hid hB
  have HU := Lib.hid (fun W (h : RdK K W g l true) => mTextK _ g _ true W W (orNone_some g W) h)
  obtain ⟨x, l2, ok, hx⟩ : ∃ (x l2 : List Nat) (ok : Bool), readB l true = (x, l2, ok) := ⟨_, _, _, rfl⟩
  rw [hx] at HU ⊢
  have HE := Lib.hid hE
  have HR := Lib.hid hR
  have Hne := Lib.hid hne
  have HK := Lib.hid hK
  clear hE hR hB hx hne hK
  go_enter Tryz.func116, Tryz.ntmps116
  go_wp2_with fail
  go_region_held3 (fun W => W.cell? ⟨A, 0, none⟩ = some (.pointer (some ⟨g, 0, none⟩)) ∧ W.cell? ⟨B, 0, none⟩ = some (.pointer (some ⟨E, 0, none⟩)))
    (first | exact (HB.out.below ((Below.refl _ _).drew)).cells | exact hB2.cells | exact (hB2.set Hne.out _ _).cells)
    (first
      | (go_at_call 40; (with_reducible refine (HU.out _ (HR.out.below ((Below.refl _ _).drew))).mono ?_); rintro e w2 ⟨rfl, h2⟩
         have hB2 := (HB.out.below ((Below.refl _ _).drew)).turn Hne.out h2.2
         have hE2 := evAt_turn (((Below.refl _ _).drew.block _ (Array.getElem?_eq_some_iff.1 HE.out).1).trans HE.out) Hne.out.2.2.1 h2.2
         have e1 := (box11 hE2).2.2.2.2.1
         have f1 := froz hE2 4
         have H2 := Lib.hid h2
         have HE2 := Lib.hid hE2
         clear h2 hE2))
  have hB3 := hB2.set Hne.out 4 (.string (str x))
  have HR3 := Lib.hid (H2.out.1.setE (i := 4) Hne.out.2.2.1 HK.out (.string (str x)))
  have HT3 := Lib.hid (((((TwoG.refl w g E).below (Below.refl _ _).drew)).trans (TwoG.of H2.out.2)).set 4 (.string (str x)))
  have HE3 := Lib.hid (set_headE HE2.out (i := 4) (.string (str x)))
  obtain ⟨c0, c1⟩ := hB3.cells
  clear hB2 e1 f1 hB3
  generalize w2.setCell ⟨E, 4, none⟩ (.string (str x)) = w3 at *
  go_wp2_with fail
  refine (mOk _ g l2 ok _ _ (orNone_some g _) HR3.out.rd).mono ?_
  rintro e w4 ⟨rfl, rfl⟩
  go_wp2
  go_ret
  exact ⟨rfl, HR3.out, HT3.out, HE3.out⟩
set_option maxRecDepth 100000 in
set_option maxHeartbeats 3200000 in
theorem fr5_any (K : Nat → Prop) (A B g E : Nat) (l : List Nat) (w : World) (hB : Boxes w A B g E) (hne : A ≠ g ∧ B ≠ g ∧ E ≠ g ∧ A ≠ E ∧ B ≠ E) (hK : ¬ K E) (hR : RdK K w g l true)
    (k : Int) (id : Nat) (n : Int) (t : Nat) (nm tx : List Nat) (vk vn : Int) (vf : Nat) (vs : List Nat) (a : Option Addr) (len cap : Nat) (hE : w.heap[E]? = some (.cells (evC k id n t nm tx vk vn vf vs a len cap) 45 (0, 0))) :
    Calls Tryz.prog 117 #[.pointer (some ⟨A, 0, none⟩), .pointer (some ⟨B, 0, none⟩)] w fun e w' => e = .returned (.bool (readB l true).2.2) ∧ RdK K w' g (readB l true).2.1 (readB l true).2.2 ∧ TwoG w w' g E ∧ w'.heap[E]? = some (.cells (evC k id n t nm (readB l true).1 vk vn vf vs a len cap) 45 (0, 0)) := by
  have HB := Lib.hid hB
  have HU := Lib.hid (fun W (h : RdK K W g l true) => mTextK _ g _ true W W (orNone_some g W) h)
  obtain ⟨x, l2, ok, hx⟩ : ∃ (x l2 : List Nat) (ok : Bool), readB l true = (x, l2, ok) := ⟨_, _, _, rfl⟩
  rw [hx] at HU ⊢
  have HE := Lib.hid hE
  have HR := Lib.hid hR
  have Hne := Lib.hid hne
  have HK := Lib.hid hK
  clear hE hR hB hx hne hK
  go_enter Tryz.func117, Tryz.ntmps117
  go_wp2_with fail
  go_region_held3 (fun W => W.cell? ⟨A, 0, none⟩ = some (.pointer (some ⟨g, 0, none⟩)) ∧ W.cell? ⟨B, 0, none⟩ = some (.pointer (some ⟨E, 0, none⟩)))
    (first | exact (HB.out.below ((Below.refl _ _).drew)).cells | exact hB2.cells | exact (hB2.set Hne.out _ _).cells)
    (first
      | (go_at_call 40; (with_reducible refine (HU.out _ (HR.out.below ((Below.refl _ _).drew))).mono ?_); rintro e w2 ⟨rfl, h2⟩
         have hB2 := (HB.out.below ((Below.refl _ _).drew)).turn Hne.out h2.2
         have hE2 := evAt_turn (((Below.refl _ _).drew.block _ (Array.getElem?_eq_some_iff.1 HE.out).1).trans HE.out) Hne.out.2.2.1 h2.2
         have e1 := (box11 hE2).2.2.2.2.2.1
         have f1 := froz hE2 5
         have H2 := Lib.hid h2
         have HE2 := Lib.hid hE2
         clear h2 hE2))
  have hB3 := hB2.set Hne.out 5 (.string (str x))
  have HR3 := Lib.hid (H2.out.1.setE (i := 5) Hne.out.2.2.1 HK.out (.string (str x)))
  have HT3 := Lib.hid (((((TwoG.refl w g E).below (Below.refl _ _).drew)).trans (TwoG.of H2.out.2)).set 5 (.string (str x)))
  have HE3 := Lib.hid (set_headE HE2.out (i := 5) (.string (str x)))
  obtain ⟨c0, c1⟩ := hB3.cells
  clear hB2 e1 f1 hB3
  generalize w2.setCell ⟨E, 5, none⟩ (.string (str x)) = w3 at *
  go_wp2_with fail
  refine (mOk _ g l2 ok _ _ (orNone_some g _) HR3.out.rd).mono ?_
  rintro e w4 ⟨rfl, rfl⟩
  go_wp2
  go_ret
  exact ⟨rfl, HR3.out, HT3.out, HE3.out⟩
end Go.Proofs.YtcapbaocchaenaaGreatDoor

