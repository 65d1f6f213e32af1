import Derived.Test.YtpnfnmeilhiebaaGreatDoorMP18
import Derived.Test.YtpnfnmeilhiebaaGreatDoorMP22
/- The walk of read for values that are no lists. -/
namespace Go.Proofs.YtpnfnmeilhiebaaGreatDoor
open Go.RowKit Go.Shelf Fl

/-- The shapes of valid values that are no lists. -/
theorem plain_shape {t : Nat} {v : V} (h : rightN t v = true) (h4 : v.kind ≠ 4) : v = .mk 0 0 0 [] [] ∨ (∃ n, v = .mk 1 n 0 [] []) ∨ (∃ f, v = .mk 2 0 f [] []) ∨ ∃ s, v = .mk 3 0 0 s [] := by
  obtain ⟨k, n, f, s, l⟩ := v
  obtain ⟨⟨h1, h2, h3, h5⟩, h6, h7, _⟩ := right_parts h
  have h4 : k ≠ 4 := h4
  obtain rfl : l = [] := h5.resolve_left h4
  by_cases k1 : k = 1
  · subst k1
    obtain rfl := bits_zero (h2.resolve_left (by omega))
    obtain rfl := h3.resolve_left (by omega)
    exact .inr (.inl ⟨n, rfl⟩)
  obtain rfl := h1.resolve_left k1
  by_cases k2 : k = 2
  · subst k2
    obtain rfl := h3.resolve_left (by omega)
    exact .inr (.inr (.inl ⟨f, rfl⟩))
  obtain rfl := bits_zero (h2.resolve_left k2)
  by_cases k3 : k = 3
  · subst k3
    exact .inr (.inr (.inr ⟨s, rfl⟩))
  obtain rfl := h3.resolve_left k3
  obtain rfl : k = 0 := by omega
  exact .inl rfl

section
variable (K : Nat → Prop) (g : Nat) (T : Int) (rest : List Nat) (w : World)

set_option maxRecDepth 100000 in
theorem read_nil (hR : RdK K w g (form 0 ++ rest) true) :
    Calls Tryz.prog 32 #[.pointer (some ⟨g, 0, none⟩), .int .i64 T] w fun e w' => e = .returned (.iface 66 (.agg #[])) ∧ RdEndK K w g (rest, true) w' := by
  have HU := Lib.hid (mUintK _ g _ true w w (orNone_some g w) hR)
  rw [readN_form (by omega) rest] at HU
  clear hR
  go_enter Tryz.func32, Tryz.ntmps32
  go_wp2_with fail
  refine HU.out.mono ?_
  rintro e w1 ⟨rfl, h1⟩
  have H1 := Lib.hid h1
  clear h1
  go_wp2_with fail
  refine (mOk _ g rest true _ _ (orNone_some g _) H1.out.1.rd).mono ?_
  rintro e w2 ⟨rfl, rfl⟩
  go_wp2
  go_ret
  exact ⟨rfl, H1.out⟩

set_option maxRecDepth 100000 in
theorem read_int (n : Int) (h0 : -9223372036854775808 ≤ n) (h1 : n ≤ 9223372036854775807) (hR : RdK K w g (form 1 ++ (form (foldL n) ++ rest)) true) :
    Calls Tryz.prog 32 #[.pointer (some ⟨g, 0, none⟩), .int .i64 T] w fun e w' => e = .returned (.iface 67 (.int .i64 n)) ∧ RdEndK K w g (rest, true) w' := by
  have HU := Lib.hid (mUintK _ g _ true w w (orNone_some g w) hR)
  rw [readN_form (by omega) (form (foldL n) ++ rest)] at HU
  have HI := Lib.hid (fun W (h : RdK K W g (form (foldL n) ++ rest) true) => mIntK _ g _ true W W (orNone_some g W) h)
  rw [readN_form (fold_lt h0 h1) rest, unfold_fold] at HI
  clear hR h0 h1
  go_enter Tryz.func32, Tryz.ntmps32
  go_wp2_with fail
  refine HU.out.mono ?_
  rintro e w1 ⟨rfl, h1⟩
  have H1 := Lib.hid h1
  clear h1
  go_wp2_with fail
  refine (HI.out _ H1.out.1).mono ?_
  rintro e w2 ⟨rfl, h2⟩
  have H2 := Lib.hid h2
  clear h2
  go_wp2_with fail
  refine (mOk _ g rest true _ _ (orNone_some g _) H2.out.1.rd).mono ?_
  rintro e w3 ⟨rfl, rfl⟩
  go_wp2
  go_ret
  exact ⟨rfl, H1.out.go H2.out⟩

set_option maxRecDepth 100000 in
theorem read_float (x : Nat) (hx : x < 18446744073709551616) (hc : bitsB x = x) (hl : (form 2 ++ (be8 x ++ rest)).length ≤ 1000000) (hR : RdK K w g (form 2 ++ (be8 x ++ rest)) true) :
    Calls Tryz.prog 32 #[.pointer (some ⟨g, 0, none⟩), .int .i64 T] w fun e w' => e = .returned (.iface 68 (.float .f64 x)) ∧ RdEndK K w g (rest, true) w' := by
  have HU := Lib.hid (mUintK _ g _ true w w (orNone_some g w) hR)
  rw [readN_form (by omega) (be8 x ++ rest)] at HU
  have HI := Lib.hid (fun W (h : RdK K W g (be8 x ++ rest) true) => readFloat_any K g x rest W hx hc (by rw [List.length_append] at hl; omega) h)
  clear hR hx hc hl
  go_enter Tryz.func32, Tryz.ntmps32
  go_wp2_with fail
  refine HU.out.mono ?_
  rintro e w1 ⟨rfl, h1⟩
  have H1 := Lib.hid h1
  clear h1
  go_wp2_with fail
  refine (HI.out _ H1.out.1).mono ?_
  rintro e w2 ⟨rfl, h2⟩
  have H2 := Lib.hid h2
  clear h2
  go_wp2_with fail
  refine (mOk _ g rest true _ _ (orNone_some g _) H2.out.1.rd).mono ?_
  rintro e w3 ⟨rfl, rfl⟩
  go_wp2
  go_ret
  exact ⟨rfl, H1.out.go H2.out⟩

set_option maxRecDepth 100000 in
theorem read_text (s : List Nat) (hs : s.length < 18446744073709551616) (hR : RdK K w g (form 3 ++ (formB s ++ rest)) true) :
    Calls Tryz.prog 32 #[.pointer (some ⟨g, 0, none⟩), .int .i64 T] w fun e w' => e = .returned (.iface 69 (.string (str s))) ∧ RdEndK K w g (rest, true) w' := by
  have HU := Lib.hid (mUintK _ g _ true w w (orNone_some g w) hR)
  rw [readN_form (by omega) (formB s ++ rest)] at HU
  have HI := Lib.hid (fun W (h : RdK K W g (formB s ++ rest) true) => mTextK _ g _ true W W (orNone_some g W) h)
  rw [readB_form hs rest] at HI
  clear hR hs
  go_enter Tryz.func32, Tryz.ntmps32
  go_wp2_with fail
  refine HU.out.mono ?_
  rintro e w1 ⟨rfl, h1⟩
  have H1 := Lib.hid h1
  clear h1
  go_wp2_with fail
  refine (HI.out _ H1.out.1).mono ?_
  rintro e w2 ⟨rfl, h2⟩
  have H2 := Lib.hid h2
  clear h2
  go_wp2_with fail
  refine (mOk _ g rest true _ _ (orNone_some g _) H2.out.1.rd).mono ?_
  rintro e w3 ⟨rfl, rfl⟩
  go_wp2
  go_ret
  exact ⟨rfl, H1.out.go H2.out⟩
end

/-- What read answers at the form of a valid value. -/
def ReadEnd (K : Nat → Prop) (w : World) (g t : Nat) (v : V) (rest : List Nat) (e : Ending) (w' : World) : Prop :=
  ∃ (u : V) (a : Option Addr) (cap : Nat), e = .returned (conOf u.kind u.n u.f u.s a u.l.length cap) ∧ VInP (fun b => w.heap.size ≤ b ∧ b < w'.heap.size) w' u (cells5 u.kind u.n u.f u.s a u.l.length cap) ∧ rightN t u = true ∧ sameV u v = true ∧ RdEndK K w g (rest, true) w'

/-- A value that a world could hold. -/
def Fit (v : V) : Prop := ∃ w x, VIn w v x

theorem Fit.child {v u : V} (h : Fit v) (hu : u ∈ v.l) : Fit u := by
  obtain ⟨w, x, hv⟩ := h
  obtain ⟨_, _, _, _, _, a, cap, _, _, _, hL⟩ := hv.parts
  rcases hL with hL | ⟨b, o, _, hs⟩
  · rw [hL] at hu; cases hu
  · obtain ⟨i, hi, rfl⟩ := List.getElem_of_mem hu
    obtain ⟨y, _, _, hy⟩ := hs.get i _ (List.getElem?_eq_getElem hi)
    exact ⟨w, y, hy⟩

/-- read does what it is to do at t levels. -/
def ReadV (t : Nat) : Prop := ∀ (K : Nat → Prop) (v : V) (rest : List Nat) (g : Nat) (w : World), rightN t v = true → Fit v → (formV v ++ rest).length ≤ 1000000 → (∀ b, K b → b < w.heap.size) → RdK K w g (formV v ++ rest) true →
  Calls Tryz.prog 32 #[.pointer (some ⟨g, 0, none⟩), .int .i64 (t : Int)] w (ReadEnd K w g t v rest)

theorem vin_atom {q : Nat → Prop} (w : World) (k n : Int) (f : Nat) (s : List Nat) (hk : -9223372036854775808 ≤ k ∧ k ≤ 9223372036854775807) (hn : -9223372036854775808 ≤ n ∧ n ≤ 9223372036854775807) (hf : f < 18446744073709551616) (hs : ∀ c ∈ s, c < 256) (hl : s.length ≤ 9223372036854775807) :
    VInP q w (.mk k n f s []) (cells5 k n f s none 0 0) := by
  rw [VInP]
  exact ⟨hk, hn, hf, hs, hl, none, 0, rfl, Nat.le_refl _, by omega, .inl rfl⟩

theorem sameV_bits {k n : Int} {f f' : Nat} {s : List Nat} (h : bitsB f = bitsB f') : sameV (.mk k n f s []) (.mk k n f' s []) = true := by
  rw [sameV]
  simp [h, sameL]

theorem read_plain (K : Nat → Prop) (t : Nat) (v : V) (rest : List Nat) (g : Nat) (w : World) (hr : rightN t v = true) (h4 : v.kind ≠ 4) (hf : Fit v) (hl : (formV v ++ rest).length ≤ 1000000) (hR : RdK K w g (formV v ++ rest) true) :
    Calls Tryz.prog 32 #[.pointer (some ⟨g, 0, none⟩), .int .i64 (t : Int)] w (ReadEnd K w g t v rest) := by
  obtain ⟨w0, x0, hv⟩ := hf
  obtain ⟨_, hn, hf8, hs8, hsl, _⟩ := hv.parts
  rcases plain_shape hr h4 with rfl | ⟨n, rfl⟩ | ⟨f, rfl⟩ | ⟨s, rfl⟩
  · have e : formV (.mk 0 0 0 [] []) = form 0 := by rw [formV_is]; simp [pieceV, contF, formsV, V.kind, V.l]
    rw [e] at hR
    refine (read_nil K g t rest w hR).mono ?_
    rintro e w' ⟨rfl, h⟩
    exact ⟨.mk 0 0 0 [] [], none, 0, rfl, vin_atom w' 0 0 0 [] (by omega) (by omega) (by omega) (by simp) (by simp), hr, sameV_bits rfl, h⟩
  · have e : formV (.mk 1 n 0 [] []) = form 1 ++ form (foldL n) := by rw [formV_is]; simp [pieceV, contF, formsV, V.kind, V.l, V.n]
    rw [e, List.append_assoc] at hR
    refine (read_int K g t rest w n hn.1 hn.2 hR).mono ?_
    rintro e w' ⟨rfl, h⟩
    exact ⟨.mk 1 n 0 [] [], none, 0, rfl, vin_atom w' 1 n 0 [] (by omega) hn (by omega) (by simp) (by simp), hr, sameV_bits rfl, h⟩
  · have e : formV (.mk 2 0 f [] []) = form 2 ++ be8 (bitsB f) := by rw [formV_is]; simp [pieceV, contF, formsV, V.kind, V.l, V.f]
    rw [e, List.append_assoc] at hR hl
    have hb : bitsB f < 18446744073709551616 := bitsB_lt hf8
    refine (read_float K g t rest w (bitsB f) hb (bitsB_idem f) hl hR).mono ?_
    rintro e w' ⟨rfl, h⟩
    exact ⟨.mk 2 0 (bitsB f) [] [], none, 0, rfl, vin_atom w' 2 0 (bitsB f) [] (by omega) (by omega) hb (by simp) (by simp), rightN_plain ⟨.inr rfl, .inl rfl, .inr rfl, .inr rfl⟩ (show (2 : Int) ≠ 4 by omega) (show (0 : Int) ≤ 2 ∧ (2 : Int) ≤ 4 by omega), sameV_bits (bitsB_idem f), h⟩
  · have e : formV (.mk 3 0 0 s []) = form 3 ++ formB s := by rw [formV_is]; simp [pieceV, contF, formsV, V.kind, V.l, V.s]
    rw [e, List.append_assoc] at hR
    have hsl : s.length ≤ 9223372036854775807 := hsl
    refine (read_text K g t rest w s (by omega) hR).mono ?_
    rintro e w' ⟨rfl, h⟩
    exact ⟨.mk 3 0 0 s [], none, 0, rfl, vin_atom w' 3 0 0 s (by omega) (by omega) (by omega) hs8 hsl, hr, sameV_bits rfl, h⟩
end Go.Proofs.YtpnfnmeilhiebaaGreatDoor

/- The walk of readList, where read does what it is to do at one level less. -/
namespace Go.Proofs.YtpnfnmeilhiebaaGreatDoor
open Go.RowKit Go.Shelf Fl

theorem formsV_drop {l : List V} {j : Nat} (h : j < l.length) : formsV (l.drop j) = formV l[j] ++ formsV (l.drop (j + 1)) := by
  rw [List.drop_eq_getElem_cons h]
  rfl

/-- What readList answers at the form of the values of a valid list. -/
def ReadsEnd (K : Nat → Prop) (w : World) (g t : Nat) (vs : List V) (rest : List Nat) (e : Ending) (w' : World) : Prop :=
  ∃ (us : List V) (a : Option Addr) (cap : Nat), e = .returned (.iface 70 (.slice a us.length cap)) ∧
    (us.length ≤ cap ∧ cap ≤ 9223372036854775807 ∧ (us = [] ∨ ∃ gg, a = some ⟨gg, 0, none⟩ ∧ (w.heap.size ≤ gg ∧ gg < w'.heap.size) ∧ VsInP (fun b => w.heap.size ≤ b ∧ b < w'.heap.size) w' us gg 0)) ∧
    (∀ u ∈ us, rightN t u = true) ∧ sameL us vs = true ∧ RdEndK K w g (rest, true) w'

theorem only_far {w w1 w2 : World} {g : Nat} {r : Option Nat} (h : w.grownBy w1 (some g)) (k : w1.grownBy w2 r) (hr : ∀ b, r = some b → w.heap.size ≤ b) : w.grownBy w2 (some g) :=
  ⟨k.os.trans h.os, k.tape.trans h.tape, k.output.trans h.output, Nat.le_trans h.size k.size, fun i hi hne => (k.block i (Nat.lt_of_lt_of_le hi h.size) (fun e => by have := hr i e.symm; omega)).trans (h.block i hi hne)⟩

set_option maxRecDepth 100000 in
set_option maxHeartbeats 3200000 in
theorem readList_any (K : Nat → Prop) (t : Nat) (ht : t ≤ 1000) (hA : ReadV t) (vs : List V) (rest : List Nat) (g : Nat) (w : World) (hr : ∀ u ∈ vs, rightN t u = true) (hf : ∀ u ∈ vs, Fit u) (hl : (form vs.length ++ (formsV vs ++ rest)).length ≤ 1000000) (hvl : vs.length ≤ 1000000)
    (hK : ∀ b, K b → b < w.heap.size) (hg : g < w.heap.size) (hR : RdK K w g (form vs.length ++ (formsV vs ++ rest)) true) :
    Calls Tryz.prog 52 #[.pointer (some ⟨g, 0, none⟩), .int .i64 ((t + 1 : Nat) : Int)] w (ReadsEnd K w g t vs rest) := by
  obtain ⟨T, hTe⟩ : ∃ T : Int, T = ((t + 1 : Nat) : Int) := ⟨_, rfl⟩
  have hT0 : (T == 0) = false := beq_eq_false_iff_ne.2 (by omega)
  have hT1 : T - 1 = (t : Int) := by omega
  have hT2 : 0 < T ∧ T ≤ 1001 := by omega
  rw [← hTe]
  have HA := Lib.hid hA
  have HR := Lib.hid hr
  have HF := Lib.hid hf
  have HK := Lib.hid hK
  have Hg := Lib.hid hg
  have Hl := Lib.hid (show (formsV vs ++ rest).length ≤ 1000000 by rw [List.length_append] at hl; omega)
  have HU := Lib.hid (mUintK _ g _ true w w (orNone_some g w) hR)
  rw [readN_form (by omega) (formsV vs ++ rest)] at HU
  have Hvl := Lib.hid hvl
  have hvm : (vs.length : Int) ≤ 1000000 := by omega
  clear hA hr hf hK hg hl hvl hTe hR
  go_enter Tryz.func52, Tryz.ntmps52
  go_wp2_with fail
  refine HU.out.mono ?_
  rintro e w1 ⟨rfl, h1⟩
  have H1 := Lib.hid h1
  clear h1
  go_wp2
  go_loopw [5, 11] (fun v i wr => ∃ (j : Nat) (us : List V), j ≤ vs.length ∧ i = .int .u64 (j : Int) ∧ us.length = j ∧ OwnVs wr w.heap.size v us ∧ (∀ u ∈ us, rightN t u = true) ∧ sameL us (vs.take j) = true ∧ RdEndK K w g (formsV (vs.drop j) ++ rest, true) wr) (fun _ i _ => vs.length - (intOf i).toNat)
  case atStart => exact ⟨0, [], Nat.zero_le _, rfl, rfl, OwnVs.nil _ _, fun u hu => (by cases hu), rfl, H1.out⟩
  case round =>
    obtain ⟨j, us, hj, rfl, hul, hO, hru, hsa, hrd⟩ := hrel
    have HO := Lib.hid hO
    have Hru := Lib.hid hru
    have Hsa := Lib.hid hsa
    have Hrd := Lib.hid hrd
    have Hul := Lib.hid hul
    clear hO hru hsa hrd hul
    by_cases hlt : j < vs.length
    · have hrd := Hrd.out
      rw [formsV_drop hlt, List.append_assoc] at hrd
      have hmem : vs[j] ∈ vs := List.getElem_mem hlt
      have hlen : (formV vs[j] ++ (formsV (vs.drop (j + 1)) ++ rest)).length ≤ 1000000 := by
        have h1 := Hl.out
        have h2 := formsV_le vs j
        have e : formsV vs = formsV (vs.take j) ++ formsV (vs.drop j) := by rw [← formsV_append, List.take_append_drop]
        rw [e, formsV_drop hlt] at h1
        simp only [List.length_append] at h1 ⊢
        omega
      have HA1 := Lib.hid (HA.out K vs[j] (formsV (vs.drop (j + 1)) ++ rest) g wr (HR.out _ hmem) (HF.out _ hmem) hlen (fun b hb => Nat.lt_of_lt_of_le (HK.out b hb) Hrd.out.2.size) hrd.1)
      have Htk := Lib.hid (show vs.take (j + 1) = vs.take j ++ [vs[j]] from List.take_succ_eq_append_getElem hlt)
      have Hlt := Lib.hid hlt
      clear hrd hmem hlen
      generalize vs[j] = y at *
      clear hlt
      have hji : (j : Int) < (vs.length : Int) := by have := Hlt.out; omega
      go_wp2_with fail
      refine HA1.out.mono ?_
      rintro e w2 ⟨u, a, cap, rfl, hv, hrt, hsm, hrd2⟩
      obtain ⟨T', p', hci⟩ := con_iface (a := a) (cap := cap) hrt
      obtain ⟨a2, cap2, hwh, hv2⟩ := whole_in hrt hv
      have HW := Lib.hid (fun w => whole_any u.kind u.n u.f u.s a u.l.length cap w)
      rw [hwh] at HW
      rw [hci] at HW ⊢
      have Hrd2 := Lib.hid hrd2
      have Hv2 := Lib.hid hv2
      have Hrt := Lib.hid hrt
      have Hsm := Lib.hid hsm
      clear hci hwh hv hv2 hrt hsm hrd2
      go_wp2_with fail
      refine (HW.out _).mono ?_
      rintro e w3 ⟨rfl, hb3⟩
      have hwz := Hrd.out.2.size
      have hgw := Hg.out
      have hO2 := (HO.out.keep (fun b hb1 hb => Hrd2.out.2.block b hb (fun e => by cases e; omega)) Hrd2.out.2.size).keep (fun b _ hb => hb3.block b hb) hb3.size
      have hal : Below w3.heap.size w3 (w3.alloc (.cells #[.int .i64 u.kind, .int .i64 u.n, .float .f64 u.f, .string (str u.s), .slice a2 u.l.length cap2] 25)) := (Below.refl _ _).alloc (Nat.le_refl _) _
      have hO3 := hO2.keep (fun b _ hb => hal.block b hb) hal.size
      have hblk := fun e => (HO.out.block (g := e))
      obtain ⟨cs, hcl, hrow, hel⟩ := hO3
      have hrk : RdEndK K w g (formsV (vs.drop (j + 1)) ++ rest, true) (w3.alloc (.cells #[.int .i64 u.kind, .int .i64 u.n, .float .f64 u.f, .string (str u.s), .slice a2 u.l.length cap2] 25)) := ((Hrd.out.go Hrd2.out).below hb3).below hal
      have hu : VInP (fun b => w.heap.size ≤ b ∧ some b ≠ u5.ownBlock ∧ b < (w3.alloc (.cells #[.int .i64 u.kind, .int .i64 u.n, .float .f64 u.f, .string (str u.s), .slice a2 u.l.length cap2] 25)).heap.size) (w3.alloc (.cells #[.int .i64 u.kind, .int .i64 u.n, .float .f64 u.f, .string (str u.s), .slice a2 u.l.length cap2] 25)) u (cells5 u.kind u.n u.f u.s a2 u.l.length cap2) :=
        VInP.turn (fun b hq => ⟨by omega, (fun e => by have := (hblk _ e.symm).2; omega), by have := hal.size; have := hb3.size; omega⟩) (fun p hp => by unfold World.cell?; rw [hal.block p.block (by have := hb3.size; omega), hb3.block p.block hp.2]) u _ Hv2.out
      have Hcl := Lib.hid hcl
      have Hrow := Lib.hid hrow
      have Hel := Lib.hid hel
      have Hu := Lib.hid hu
      have Hrk := Lib.hid hrk
      have Hus := Lib.hid (show us.length ≤ 1000000 by have := Hvl.out; have := Hlt.out; have := Hul.out; omega)
      clear hb3 hO2 hal hblk hcl hrow hel hu hrk hwz hgw
      obtain ⟨i0, hi, hz0, hz1, hz2⟩ := info_parts info_value
      go_wp2_with (at_builtin; refine wpList_append_lies _ rfl _ _ 70 rfl w.heap.size 25 i0 _ 5 64 Tryz.underlying70 hi hz0 hz1 hz2 rfl (by decide) u5 us.length _ rfl Hrow.out ⟨w3.heap.size, 0, none⟩ 1 1 [.int .i64 u.kind, .int .i64 u.n, .float .f64 u.f, .string (str u.s), .slice a2 u.l.length cap2] rfl rfl (World.news_of_block (heap_alloc_new w3 _)) (by simp [Value.oneCell']) (by decide) (by have := Hus.out; rw [maxLen_nat]; omega) (by have := Hus.out; omega) Hrk.out.2.size _ rfl ?_; intro gg cap4 w4 g1 g2 g3 g4; have hO4 := OwnVs.snoc Hcl.out Hel.out Hu.out g1 g2 (g3.imp (fun e => e.symm) (fun e => by rw [e]; rfl)))
      have hfar : ∀ b, u5.ownBlock = some b → w.heap.size ≤ b := fun b hb => (Hrow.out.lt b hb).1
      have hgl : g < (w3.alloc (.cells #[.int .i64 u.kind, .int .i64 u.n, .float .f64 u.f, .string (str u.s), .slice a2 u.l.length cap2] 25)).heap.size := Nat.lt_of_lt_of_le Hg.out Hrk.out.2.size
      have hR4 : RdEndK K w g (formsV (vs.drop (j + 1)) ++ rest, true) w4 := ⟨Hrk.out.1.keep (g2.block g hgl (fun e => by have := hfar g e.symm; have := Hg.out; omega)) (fun b hb hk => g2.block b hb (fun e => by have := hfar b e.symm; have := HK.out b hk; omega)), only_far Hrk.out.2 g2 hfar⟩
      go_roundw
      case rel => exact ⟨j + 1, us ++ [u], Hlt.out, by go_num, by rw [List.length_append, Hul.out]; rfl, hO4, (fun x hx => by
        rcases List.mem_append.1 hx with h | h
        · exact Hru.out x h
        · have e : x = u := by simpa using h
          rw [e]; exact Hrt.out), by rw [Htk.out]; exact sameL_snoc Hsa.out Hsm.out, hR4⟩
      case measure => simp [intOf]; have := Hlt.out; omega
    · obtain ⟨a, cap, rfl, hle⟩ := HO.out.lies
      have Hle := Lib.hid hle
      have Htk := Lib.hid (show vs.take j = vs from List.take_of_length_le (by omega))
      have Hdr := Lib.hid (show formsV (vs.drop j) ++ rest = rest by rw [List.drop_eq_nil_of_le (by omega)]; rfl)
      have hji : ¬ ((j : Int) < (vs.length : Int)) := by omega
      clear hle hlt
      go_wp2
      go_ret
      have h1 := Hsa.out
      rw [Htk.out] at h1
      have h2 := Hrd.out
      rw [Hdr.out] at h2
      exact ⟨us, a, cap, rfl, Hle.out, Hru.out, h1, h2⟩
end Go.Proofs.YtpnfnmeilhiebaaGreatDoor

/- Parse of the code. -/
namespace Go.Proofs.YtpnfnmeilhiebaaGreatDoor
open Go.RowKit Go.Shelf Fl

theorem guess_all : ∀ t, t ≤ 1000 → GuessAt t
  | 0, _ => fun l w hl hn he hT hix => vguess_any 0 l w hl hn he hT (hix 0) (fun d e => by rw [e]; exact glist_zero d w)
  | t + 1, h => fun l w hl hn he hT hix => vguess_any (t + 1) l w hl hn he hT (hix 0) (fun d e => by
      subst e
      exact glist_any t (by omega) (guess_all t (by omega)) d w (fun x hx => hl x (by simp [hx])) (by rw [List.length_cons] at hn; omega) he hT (fun i => hix (i + 1)))

mutual
/-- The same values have the same text. -/
theorem same_text : ∀ u v : V, sameV u v = true → textV u = textV v
  | .mk k n f s l, .mk k' n' f' s' l', h => by
    rw [sameV, Bool.and_eq_true, decide_eq_true_eq] at h
    obtain ⟨⟨rfl, rfl, rfl, hf⟩, hl⟩ := h
    rw [textV, textV, hf, same_texts l l' hl]
theorem same_texts : ∀ u v : List V, sameL u v = true → textVs u = textVs v
  | [], [], _ => rfl
  | [], _ :: _, h => by simp [sameL] at h
  | _ :: _, [], h => by simp [sameL] at h
  | a :: r, b :: q, h => by
    rw [sameL, Bool.and_eq_true] at h
    rw [textVs, textVs, same_text a b h.1, same_texts r q h.2]
end

/-- What Parse answers. -/
def VParseEnd (w : World) (l : List Nat) (e : Ending) (w' : World) : Prop :=
  ∃ (v : V) (x : Array Value) (ok : Bool), e = .returned (.tuple #[.agg x, .bool ok]) ∧ VIn w' v x ∧ Below w.heap.size w w' ∧ (ok = true → rightN 8 v = true ∧ textV v = l) ∧
    (ok = false → v = .mk 0 0 0 [] [] ∧ ∀ u, rightN 8 u = true → soundV u → textV u ≠ l)

theorem joinS_byte : ∀ a : List (List Nat), (∀ x ∈ a, ∀ c ∈ x, c < 256) → ∀ c ∈ joinS a, c < 256
  | [], _, c, hc => by simp [joinS] at hc
  | [y], h, c, hc => h y (by simp) c hc
  | y :: z :: r, h, c, hc => by
    rw [joinS] at hc
    rcases List.mem_append.1 hc with e | e
    · exact h y (by simp) c e
    · rcases List.mem_cons.1 e with e | e
      · omega
      · exact joinS_byte (z :: r) (fun x hx => h x (by simp [hx])) c e

theorem text_byte : ∀ v : V, soundV v → ∀ c ∈ textV v, c < 256 := by
  refine V.ind ?_
  rintro ⟨k, n, f, s, l⟩ ih hs c hc
  change ∀ u ∈ l, _ at ih
  rw [soundV] at hs
  rw [textV] at hc
  split at hc
  · exact decL_byte n c hc
  split at hc
  · rcases List.mem_cons.1 hc with e | e
    · omega
    · exact textL_byte _ c e
  split at hc
  · rcases List.mem_cons.1 hc with e | e
    · omega
    · rcases List.mem_append.1 e with e | e
      · exact hex2_byte hs.2.2.1 c e
      · have := List.mem_singleton.1 e; omega
  split at hc
  · rcases List.mem_cons.1 hc with e | e
    · omega
    · rcases List.mem_append.1 e with e | e
      · refine joinS_byte _ (fun x hx => ?_) c e
        rw [textVs_map] at hx
        obtain ⟨u, hu, rfl⟩ := List.mem_map.1 hx
        exact ih u hu (soundL_mem hs.2.2.2 u hu)
      · have := List.mem_singleton.1 e; omega
  · simp at hc; omega

theorem set5_block {w1 : World} {g b : Nat} (h : b ≠ g) (a1 a2 a3 a4 a5 : Value) : (((((w1.setCell ⟨g, 0, none⟩ a1).setCell ⟨g, 1, none⟩ a2).setCell ⟨g, 2, none⟩ a3).setCell ⟨g, 3, none⟩ a4).setCell ⟨g, 4, none⟩ a5).heap[b]? = w1.heap[b]? := by
  rw [Below.heap_setCell _ _ _ _ h, Below.heap_setCell _ _ _ _ h, Below.heap_setCell _ _ _ _ h, Below.heap_setCell _ _ _ _ h, Below.heap_setCell _ _ _ _ h]

theorem vin_zero (w : World) : VIn w (.mk 0 0 0 [] []) (cells5 0 0 0 [] none 0 0) := by
  rw [VIn]
  exact ⟨by omega, by omega, by omega, by simp, by simp, none, 0, rfl, Nat.le_refl _, by omega, .inl rfl⟩

set_option maxRecDepth 100000 in
set_option maxHeartbeats 1600000 in
theorem vparse_any (l : List Nat) (w : World) (hl : ∀ x ∈ l, x < 256) (hn : l.length ≤ 100000) (he : Errs w) (hT : Tab16 w) (hP : Pow10 w) (hix : ∀ i, IdxAt (l.drop i)) :
    Calls Tryz.prog 16 #[.string (str l)] w (VParseEnd w l) := by
  have hb0 := (Below.refl w.heap.size w).alloc (Nat.le_refl _) (.cells #[.int .i64 0, .int .i64 0, .float .f64 0, .string ⟨#[]⟩, .slice none 0 0] 25)
  have HA := Lib.hid (guess_all 8 (by omega) l _ hl hn (he.below hb0) (tab_below hT hb0) hix)
  have HT := Lib.hid (tab_below hT hb0)
  have HP := Lib.hid (hP.below hb0)
  have Hb0 := Lib.hid hb0
  have HN := Lib.hid hn
  have HL := Lib.hid hl
  have hfl : ∀ (w : World) (a : Addr) (m : Mode) (b : Nat), (store a (.float .f64 b) m).run Tryz.prog w = stored Tryz.prog w a (.float .f64 b) m := fun w a m b => run_store Tryz.prog w a _ m rfl
  have H0 := Lib.hid (heap_alloc_new w (.cells #[.int .i64 0, .int .i64 0, .float .f64 0, .string ⟨#[]⟩, .slice none 0 0] 25))
  have hwz : (w.alloc (.cells #[.int .i64 0, .int .i64 0, .float .f64 0, .string ⟨#[]⟩, .slice none 0 0] 25)).heap.size = w.heap.size + 1 := by simp
  have HLS := Lib.hid (str_eq l)
  clear hl hn he hT hP hix hb0
  go_enter Tryz.func16, Tryz.ntmps16
  go_wp2_with fail
  generalize w.alloc (.cells #[.int .i64 0, .int .i64 0, .float .f64 0, .string ⟨#[]⟩, .slice none 0 0] 25) = w1 at *
  refine HA.out.mono ?_
  rintro e w2 ⟨con, rest, rfl, hb2, hcon⟩
  have hres := (hb2.block w.heap.size (by omega)).trans H0.out
  obtain ⟨⟨z0, z1, z2, z3, z4⟩, ⟨y0, y1, y2, y3, y4⟩⟩ := res_cells hres
  have Hres := Lib.hid hres
  have Hb2 := Lib.hid hb2
  have Hbw := Lib.hid (Hb0.out.trans (hb2.mono (by omega)))
  clear hb2 hres
  rcases hcon with ⟨rfl, hno⟩ | ⟨v, a, cap, hc, hv, hr, hat, hsz, hco⟩
  · have Hno := Lib.hid hno
    clear hno
    go_wp2_with fail
    refine bodyPost_ret (v := .tuple #[.agg #[.int .i64 0, .int .i64 0, .float .f64 0, .string (str []), .slice none 0 0], .bool false]) (by simp [results, Tryz.results16, go_sem, *]; rfl) rfl ?_
    refine ⟨.mk 0 0 0 [] [], _, false, rfl, vin_zero _, set5 Hbw.out _ _ _ _ _, (fun h => by cases h), fun _ => ⟨rfl, fun u hu hsu e => ?_⟩⟩
    exact Hno.out u [] (by rw [List.append_nil, e]) hu hsu ends_nil
  · obtain ⟨T, pv, f, hci, hm, hen, hcall⟩ := textAt_any v 8 a cap w2 hr (VInP.weak v _ hv) (by have := HN.out; omega) (HP.out.below Hb2.out) (tab_below HT.out Hb2.out)
    rw [hci] at hc
    obtain ⟨a2, cap2, hwh, hv2⟩ := whole_in hr hv
    have HW := Lib.hid (fun w => whole_any v.kind v.n v.f v.s a v.l.length cap w)
    rw [hwh, hci] at HW
    subst hc
    have HM := Lib.hid hm
    have HK := Lib.hid hcall
    have Hco := Lib.hid hco
    have Hr := Lib.hid hr
    have Hv2 := Lib.hid hv2
    have HLt := Lib.hid (text_byte v (VIn.sound v _ (VInP.weak v _ hv)))
    clear hci hm hcall hwh hv hv2 hr hat hsz hco
    go_wp2_with fail
    rw [HM.out]
    go_wp2_with fail
    refine (HK.out _ (Below.refl _ _)).mono ?_
    rintro e w3 ⟨rfl, hb3⟩
    by_cases htx : textV v = l
    · have hq : ((str (textV v)).toList == (str l).toList) = true := by rw [htx]; exact HLS.out
      have Htx := Lib.hid htx
      have hres3 := (hb3.block w.heap.size (by have := Hb2.out.size; omega)).trans Hres.out
      have Hb3 := Lib.hid hb3
      have Hres3 := Lib.hid hres3
      generalize str (textV v) = S at *
      clear hb3 htx z0 z1 z2 z3 z4 y0 y1 y2 y3 y4 hres3
      go_wp2_with fail
      refine (HW.out _).mono ?_
      rintro e w4 ⟨rfl, hb4⟩
      obtain ⟨⟨z0, z1, z2, z3, z4⟩, ⟨y0, y1, y2, y3, y4⟩⟩ := res_cells ((hb4.block w.heap.size (by have := Hb2.out.size; have := Hb3.out.size; omega)).trans Hres3.out)
      have Hb4 := Lib.hid (Hb3.out.trans (hb4.mono Hb3.out.size))
      clear hb4
      unfold cells5 at *
      go_wp2
      refine bodyPost_ret (v := .tuple #[.agg #[.int .i64 v.kind, .int .i64 v.n, .float .f64 v.f, .string (str v.s), .slice a2 v.l.length cap2], .bool true]) (by simp [results, Tryz.results16, go_sem, *]) rfl ?_
      refine ⟨v, _, true, rfl, VInP.weak v _ (VInP.turn (fun _ h => h) (fun p hp => ?_) v _ Hv2.out), set5 (Hbw.out.trans (Hb4.out.mono Hbw.out.size)) _ _ _ _ _, fun _ => ⟨Hr.out, Htx.out⟩, (fun h => by cases h)⟩
      unfold World.cell?
      rw [set5_block (by omega), Hb4.out.block p.block hp.2]
    · have hq : ((str (textV v)).toList == (str l).toList) = false := str_ne HLt.out HL.out htx
      have Htx := Lib.hid htx
      have hres3 := (hb3.block w.heap.size (by have := Hb2.out.size; omega)).trans Hres.out
      have Hb3 := Lib.hid (Hbw.out.trans (hb3.mono Hbw.out.size))
      generalize str (textV v) = S at *
      clear hb3 htx z0 z1 z2 z3 z4 y0 y1 y2 y3 y4
      obtain ⟨⟨z0, z1, z2, z3, z4⟩, ⟨y0, y1, y2, y3, y4⟩⟩ := res_cells hres3
      clear hres3
      go_wp2
      refine bodyPost_ret (v := .tuple #[.agg #[.int .i64 0, .int .i64 0, .float .f64 0, .string (str []), .slice none 0 0], .bool false]) (by simp [results, Tryz.results16, go_sem, *]; rfl) rfl ?_
      refine ⟨.mk 0 0 0 [] [], _, false, rfl, vin_zero _, set5 Hb3.out _ _ _ _ _, (fun h => by cases h), fun _ => ⟨rfl, fun u hu hsu e => ?_⟩⟩
      have h1 := (Hco.out u [] (by rw [List.append_nil, e]) hu hsu ends_nil).1
      exact Htx.out ((same_text _ _ h1).trans e)
end Go.Proofs.YtpnfnmeilhiebaaGreatDoor

/- The walk of read and Read at forms of valid values. -/
namespace Go.Proofs.YtpnfnmeilhiebaaGreatDoor
open Go.RowKit Go.Shelf Fl

theorem formV_pos (v : V) : 0 < (formV v).length := by
  rw [formV_is]
  unfold pieceV
  rw [List.length_append, List.length_append]
  have := form_pos v.kind.toNat
  omega

theorem formsV_count : ∀ l : List V, l.length ≤ (formsV l).length
  | [] => Nat.le_refl _
  | v :: r => by
    show r.length + 1 ≤ (formV v ++ formsV r).length
    rw [List.length_append]
    have := formV_pos v
    have := formsV_count r
    omega

set_option maxRecDepth 100000 in
theorem read_list (K : Nat → Prop) (t : Nat) (ht : t ≤ 1000) (hA : ReadV t) (v : V) (rest : List Nat) (g : Nat) (w : World) (hr : rightN (t + 1) v = true) (h4 : v.kind = 4) (hf : Fit v) (hl : (formV v ++ rest).length ≤ 1000000) (hK : ∀ b, K b → b < w.heap.size) (hR : RdK K w g (formV v ++ rest) true) :
    Calls Tryz.prog 32 #[.pointer (some ⟨g, 0, none⟩), .int .i64 ((t + 1 : Nat) : Int)] w (ReadEnd K w g (t + 1) v rest) := by
  have hfc := fun u (hu : u ∈ v.l) => hf.child hu
  obtain ⟨k, n, f, s, l⟩ := v
  have h4 : k = 4 := h4
  subst h4
  obtain ⟨rfl, hb, rfl, hrs⟩ := list_right hr
  obtain rfl := bits_zero hb
  have e : formV (.mk 4 0 0 [] l) = form 4 ++ (form l.length ++ formsV l) := by rw [formV_is]; simp [pieceV, contF, V.kind, V.l]
  rw [e, List.append_assoc, List.append_assoc] at hR hl
  have hl1 : (form l.length ++ (formsV l ++ rest)).length ≤ 1000000 := by rw [List.length_append] at hl; omega
  have hcl : l.length ≤ 1000000 := by
    have := formsV_count l
    rw [List.length_append, List.length_append] at hl1
    omega
  have hg : g < w.heap.size := by
    obtain ⟨a, n, c, h1, _⟩ := hR
    exact (Array.getElem?_eq_some_iff.1 h1).1
  have HU := Lib.hid (mUintK _ g _ true w w (orNone_some g w) hR)
  rw [readN_form (by omega) (form l.length ++ (formsV l ++ rest))] at HU
  have HL := Lib.hid (fun W (hs : w.heap.size ≤ W.heap.size) (h : RdK K W g (form l.length ++ (formsV l ++ rest)) true) => readList_any K t ht hA l rest g W hrs hfc hl1 hcl (fun b hb => Nat.lt_of_lt_of_le (hK b hb) hs) (Nat.lt_of_lt_of_le hg hs) h)
  obtain ⟨T, hT⟩ : ∃ T : Int, T = ((t + 1 : Nat) : Int) := ⟨_, rfl⟩
  rw [← hT] at HL ⊢
  have HRS := Lib.hid hrs
  clear hfc hf hr hrs hb hl hl1 hcl hg hR hK e hT hA
  go_enter Tryz.func32, Tryz.ntmps32
  go_wp2_with fail
  refine HU.out.mono ?_
  rintro e w1 ⟨rfl, h1⟩
  have H1 := Lib.hid h1
  clear h1
  go_wp2_with fail
  refine (HL.out _ H1.out.2.size H1.out.1).mono ?_
  rintro e w2 ⟨us, a, cap, rfl, hle, hru, hsa, hrd⟩
  have Hle := Lib.hid hle
  have Hru := Lib.hid hru
  have Hsa := Lib.hid hsa
  have Hrd := Lib.hid hrd
  clear hle hru hsa hrd
  go_wp2_with fail
  refine (mOk _ g rest true _ _ (orNone_some g _) Hrd.out.1.rd).mono ?_
  rintro e w3 ⟨rfl, rfl⟩
  go_wp2
  go_ret
  have hsz := H1.out.2.size
  refine ⟨.mk 4 0 0 [] us, a, cap, rfl, ?_, list_is_right Hru.out, ?_, H1.out.go Hrd.out⟩
  · rw [VInP]
    obtain ⟨h1, h2, h3⟩ := Hle.out
    refine ⟨by omega, by omega, by omega, by simp, by simp, a, cap, rfl, h1, h2, h3.imp id (fun ⟨gg, e, hb, hv⟩ => ⟨gg, 0, e, ⟨by omega, hb.2⟩, VsInP.turn (fun b hb => ⟨by omega, hb.2⟩) (fun _ _ => rfl) us gg 0 hb hv⟩)⟩
  · rw [sameV, Hsa.out, Bool.and_true]
    simp

theorem read_any (t : Nat) (ht : t ≤ 1000) : ReadV t := by
  induction t with
  | zero =>
    intro K v rest g w hr hf hl _ hR
    refine read_plain K 0 v rest g w hr ?_ hf hl hR
    unfold rightN at hr
    simp at hr
    exact hr.1.2
  | succ t ih =>
    intro K v rest g w hr hf hl hK hR
    by_cases h4 : v.kind = 4
    · exact read_list K t (by omega) (ih (by omega)) v rest g w hr h4 hf hl hK hR
    · exact read_plain K (t + 1) v rest g w hr h4 hf hl hR

/-- What Read answers at the form of a valid value. -/
def ReadOk (w : World) (g : Nat) (v : V) (rest : List Nat) (e : Ending) (w' : World) : Prop :=
  ∃ (u : V) (x : Array Value), e = .returned (.tuple #[.agg x, .bool true]) ∧ VIn w' u x ∧ rightN 8 u = true ∧ sameV u v = true ∧ Rd w' g rest true ∧ w.grownBy w' (some g)

set_option maxRecDepth 100000 in
theorem vread_any (v : V) (rest : List Nat) (g : Nat) (w : World) (hr : rightN 8 v = true) (hf : Fit v) (hl : (formV v ++ rest).length ≤ 1000000) (hR : Rd w g (formV v ++ rest) true) :
    Calls Tryz.prog 15 #[.pointer (some ⟨g, 0, none⟩)] w (ReadOk w g v rest) := by
  have hRK : RdK (fun b => b < w.heap.size) w g (formV v ++ rest) true := by
    obtain ⟨a, n, c, h1, h2, h3⟩ := hR
    refine ⟨a, n, c, h1, h2, h3, fun x hx => ?_⟩
    have hn : 0 < n := by
      rw [← h2.len, List.length_append]
      have := formV_pos v
      omega
    obtain ⟨b, o, e, hc⟩ := h2.cell hn
    rw [e] at hx
    cases hx
    exact World.block_lt_of_cell? _ _ (hc 0 hn)
  have hg : g < w.heap.size := by
    obtain ⟨a, n, c, h1, _⟩ := hR
    exact (Array.getElem?_eq_some_iff.1 h1).1
  have hb0 := (Below.refl w.heap.size w).alloc (Nat.le_refl _) (.cells #[.int .i64 0, .int .i64 0, .float .f64 0, .string ⟨#[]⟩, .slice none 0 0] 25)
  have HA := Lib.hid (read_any 8 (by omega) (fun b => b < w.heap.size) v rest g _ hr hf hl (fun b h => Nat.lt_of_lt_of_le h hb0.size) (hRK.below hb0))
  have Hb0 := Lib.hid hb0
  have hfl : ∀ (w : World) (a : Addr) (m : Mode) (b : Nat), (store a (.float .f64 b) m).run Tryz.prog w = stored Tryz.prog w a (.float .f64 b) m := fun w a m b => run_store Tryz.prog w a _ m rfl
  have H0 := Lib.hid (heap_alloc_new w (.cells #[.int .i64 0, .int .i64 0, .float .f64 0, .string ⟨#[]⟩, .slice none 0 0] 25))
  have hwz : (w.alloc (.cells #[.int .i64 0, .int .i64 0, .float .f64 0, .string ⟨#[]⟩, .slice none 0 0] 25)).heap.size = w.heap.size + 1 := by simp
  have Hg := Lib.hid hg
  clear hr hf hl hR hRK hb0 hg
  go_enter Tryz.func15, Tryz.ntmps15
  go_wp2_with fail
  generalize w.alloc (.cells #[.int .i64 0, .int .i64 0, .float .f64 0, .string ⟨#[]⟩, .slice none 0 0] 25) = w1 at *
  refine (show Calls Tryz.prog 32 #[.pointer (some ⟨g, 0, none⟩), .int .i64 8] w1 _ from HA.out).mono ?_
  rintro e w2 ⟨u, a, cap, rfl, hv, hrt, hsm, hrd2⟩
  obtain ⟨T', p', hci⟩ := con_iface (a := a) (cap := cap) hrt
  obtain ⟨a2, cap2, hwh, hv2⟩ := whole_in hrt hv
  have HW := Lib.hid (fun w => whole_any u.kind u.n u.f u.s a u.l.length cap w)
  rw [hwh] at HW
  rw [hci] at HW ⊢
  have Hrd2 := Lib.hid hrd2
  have Hv2 := Lib.hid hv2
  have Hrt := Lib.hid hrt
  have Hsm := Lib.hid hsm
  have Hres2 := Lib.hid ((hrd2.2.block w.heap.size (by omega) (fun e => by cases e; exact absurd Hg.out (Nat.lt_irrefl _))).trans H0.out)
  have Hs2 := Lib.hid (show w.heap.size < w2.heap.size by have := hrd2.2.size; omega)
  clear hci hwh hv hv2 hrt hsm hrd2
  unfold cells5 at *
  go_wp2_with fail
  go_region_law
    (first
      | (go_simp; go_at_call 33; (with_reducible refine (HW.out _).mono ?_); rintro e w4 ⟨rfl, hb4⟩
         have hb5 : Below w2.heap.size w2 w4 := ((Below.refl _ _).drew).trans hb4
         obtain ⟨⟨z0, z1, z2, z3, z4⟩, ⟨y0, y1, y2, y3, y4⟩⟩ := res_cells ((hb5.block w.heap.size Hs2.out).trans Hres2.out)
         have Hb4 := Lib.hid hb5
         clear hb4 hb5))
  all_goals go_wp2
  all_goals refine bodyPost_ret (v := .tuple #[.agg #[.int .i64 u.kind, .int .i64 u.n, .float .f64 u.f, .string (str u.s), .slice a2 u.l.length cap2], .bool true]) (by simp [results, Tryz.results15, go_sem, Act.put, *]) rfl ?_
  all_goals have hs4 := Hb4.out.size
  all_goals refine ⟨u, _, rfl, VInP.weak u _ (VInP.turn (q' := fun _ => True) (fun _ _ => trivial) (fun p hp => ?_) u _ Hv2.out), Hrt.out, Hsm.out, ?_, ?_⟩
  · unfold World.cell?
    rw [set5_block (by omega), Hb4.out.block p.block hp.2]
  · have hne : g ≠ w.heap.size := by have := Hg.out; omega
    exact ((Hrd2.out.1.below Hb4.out).keep (set5_block hne _ _ _ _ _) (fun b _ hb => set5_block (by have : b < w.heap.size := hb; omega) _ _ _ _ _)).rd
  · have h1 : w.grownBy w1 (some g) := ⟨Hb0.out.os, Hb0.out.tape, Hb0.out.output, Hb0.out.size, fun i hi _ => Hb0.out.block i hi⟩
    have h4 := only_below (only_trans h1 Hrd2.out.2) Hb4.out
    have h5 := ((((((Below.refl w.heap.size w4).setCell (p := ⟨w.heap.size, 0, none⟩) (Nat.le_refl _) (.int .i64 u.kind)).setCell (p := ⟨w.heap.size, 1, none⟩) (Nat.le_refl _) (.int .i64 u.n)).setCell (p := ⟨w.heap.size, 2, none⟩) (Nat.le_refl _) (.float .f64 u.f)).setCell (p := ⟨w.heap.size, 3, none⟩) (Nat.le_refl _) (.string (str u.s))).setCell (p := ⟨w.heap.size, 4, none⟩) (Nat.le_refl _) (.slice a2 u.l.length cap2))
    exact ⟨h5.os.trans h4.os, h5.tape.trans h4.tape, h5.output.trans h4.output, Nat.le_trans h4.size h5.size, fun i hi hne => (h5.block i hi).trans (h4.block i hi hne)⟩
end Go.Proofs.YtpnfnmeilhiebaaGreatDoor

