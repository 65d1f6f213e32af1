import Derived.Test.YtpnfnmeilhiebaaGreatDoorMP20
import Derived.Test.YtpnfnmeilhiebaaGreatDoorMP12
import Derived.Test.YtpnfnmeilhiebaaGreatDoorMP8
import Derived.Test.YtpnfnmeilhiebaaGreatDoorMP17
import Derived.Test.YtpnfnmeilhiebaaGreatDoorMP19
import Derived.Deep.RegionLaw
import Derived.Deep.AppendLies
/- The walk of the reference's Text. -/
namespace Go.Proofs.YtpnfnmeilhiebaaGreatDoor
open Go.RowKit Fl

/-- The text of a valid value, and nothing for others. -/
def textB (v : V) : List Nat := if rightN 8 v = true then textV v else []

set_option maxRecDepth 100000 in
theorem rvtext_any (v : V) (x : Array Value) (w : World) (hlen : (textB v).length ≤ 1000000) (h : VIn w v x) :
    Calls Tryz.prog 13 #[.agg x] w fun e w' => e = .returned (.string (str (textB v))) ∧ Below w.heap.size w w' := by
  obtain ⟨_, _, _, _, _, a, cap, rfl, _, _, _⟩ := h.parts
  have hb := (Below.refl w.heap.size w).alloc (Nat.le_refl _) (.cells (cells5 v.kind v.n v.f v.s a v.l.length cap) 25)
  have HW := Lib.hid (rvalid_any v _ _ (h.below hb))
  have HV := Lib.hid (h.below hb)
  have Hb := Lib.hid hb
  have hc := fun j => box_cell w (cells5 v.kind v.n v.f v.s a v.l.length cap) 25 j
  have hc0 : (w.alloc (.cells #[.int .i64 v.kind, .int .i64 v.n, .float .f64 v.f, .string (str v.s), .slice a v.l.length cap] 25)).cell? ⟨w.heap.size, 0, none⟩ = some (.int .i64 v.kind) := hc 0
  have hc1 : (w.alloc (.cells #[.int .i64 v.kind, .int .i64 v.n, .float .f64 v.f, .string (str v.s), .slice a v.l.length cap] 25)).cell? ⟨w.heap.size, 1, none⟩ = some (.int .i64 v.n) := hc 1
  have hc2 : (w.alloc (.cells #[.int .i64 v.kind, .int .i64 v.n, .float .f64 v.f, .string (str v.s), .slice a v.l.length cap] 25)).cell? ⟨w.heap.size, 2, none⟩ = some (.float .f64 v.f) := hc 2
  have hc3 : (w.alloc (.cells #[.int .i64 v.kind, .int .i64 v.n, .float .f64 v.f, .string (str v.s), .slice a v.l.length cap] 25)).cell? ⟨w.heap.size, 3, none⟩ = some (.string (str v.s)) := hc 3
  have hc4 : (w.alloc (.cells #[.int .i64 v.kind, .int .i64 v.n, .float .f64 v.f, .string (str v.s), .slice a v.l.length cap] 25)).cell? ⟨w.heap.size, 4, none⟩ = some (.slice a v.l.length cap) := hc 4
  clear h hb hc
  change Calls _ _ #[.agg #[.int .i64 v.kind, .int .i64 v.n, .float .f64 v.f, .string (str v.s), .slice a v.l.length cap]] _ _
  cases hr : rightN 8 v with
  | false =>
    rw [hr] at HW
    have Hf := Lib.hid (show textB v = [] from by unfold textB; rw [hr]; rfl)
    clear hr hlen
    go_enter Tryz.func13, Tryz.ntmps13
    go_wp2_with fail
    refine HW.out.mono ?_
    rintro e w2 ⟨rfl, hb2⟩
    go_wp2
    go_ret
    exact ⟨by rw [Hf.out]; rfl, Hb.out.trans (hb2.mono Hb.out.size)⟩
  | true =>
    rw [hr] at HW
    have hf : textB v = textV v := by unfold textB; rw [if_pos hr]
    rw [hf] at hlen
    have Hf := Lib.hid hf
    have Hlen := Lib.hid hlen
    clear hr hlen hf
    go_enter Tryz.func13, Tryz.ntmps13
    go_wp2_with fail
    refine HW.out.mono ?_
    generalize w.alloc (.cells #[.int .i64 v.kind, .int .i64 v.n, .float .f64 v.f, .string (str v.s), .slice a v.l.length cap] 25) = w1 at *
    rintro e w2 ⟨rfl, hb2⟩
    have d0 := cell_below hb2 hc0
    have d1 := cell_below hb2 hc1
    have d2 := cell_below hb2 hc2
    have d3 := cell_below hb2 hc3
    have d4 := cell_below hb2 hc4
    have g2 : Below w.heap.size w w2 := Hb.out.trans (hb2.mono Hb.out.size)
    have HS := Lib.hid (vtext_any v _ w2 Hlen.out (HV.out.below hb2))
    clear hc0 hc1 hc2 hc3 hc4
    generalize hT : str (textV v) = t at *
    have HT := Lib.hid hT
    clear hT
    go_wp2_with fail
    refine HS.out.mono ?_
    rintro e w3 ⟨rfl, hb3⟩
    go_wp2
    go_ret
    exact ⟨by rw [Hf.out, HT.out]; rfl, g2.trans (hb3.mono g2.size)⟩
end Go.Proofs.YtpnfnmeilhiebaaGreatDoor

/- Text of the code. -/
namespace Go.Proofs.YtpnfnmeilhiebaaGreatDoor
open Go.RowKit Go.Shelf Fl

theorem meth_nil (n : Nat) (w : World) : (method (n + 1) 66 (.agg #[]) "clockwork/value.text").run Tryz.prog w = .ok (153, .agg #[]) w := by kernel_rfl
theorem meth_int (n : Nat) (x : Int) (w : World) : (method (n + 1) 67 (.int .i64 x) "clockwork/value.text").run Tryz.prog w = .ok (155, .int .i64 x) w := by kernel_rfl
theorem meth_float (n : Nat) (x : Nat) (w : World) : (method (n + 1) 68 (.float .f64 x) "clockwork/value.text").run Tryz.prog w = .ok (160, .float .f64 x) w := by kernel_rfl
theorem meth_text (n : Nat) (x : ByteArray) (w : World) : (method (n + 1) 69 (.string x) "clockwork/value.text").run Tryz.prog w = .ok (162, .string x) w := by kernel_rfl
theorem meth_list (n : Nat) (a : Option Addr) (len cap : Nat) (w : World) : (method (n + 1) 70 (.slice a len cap) "clockwork/value.text").run Tryz.prog w = .ok (165, .slice a len cap) w := by kernel_rfl

theorem Pow10.below {w w' : World} (h : Pow10 w) (hb : Below w.heap.size w w') : Pow10 w' := by
  unfold Pow10 Lib.TabIs World.var? at h ⊢
  cases hg : Tryz.prog.globalNamed "internal/strconv.uint64pow10" with
  | none => rw [hg] at h; cases h
  | some g =>
    rw [hg] at h
    change (match w'.heap[g]? with | some (.cells cs _ _) => some cs | _ => none) = _
    change (match w.heap[g]? with | some (.cells cs _ _) => some cs | _ => none) = _ at h
    have hlt : g < w.heap.size := by
      rcases Nat.lt_or_ge g w.heap.size with h1 | h1
      · exact h1
      · rw [Array.getElem?_eq_none h1] at h; cases h
    rw [hb.block g hlt]
    exact h

theorem tab_below {w w' : World} (h : Tab16 w) (hb : Below w.heap.size w w') : Tab16 w' := cell_below hb h

theorem textAt_any : ∀ (v : V) (t : Nat) (a : Option Addr) (cap : Nat) (w : World), rightN t v = true → VIn w v (cells5 v.kind v.n v.f v.s a v.l.length cap) → (textV v).length ≤ 1000000 → Pow10 w → Tab16 w →
    TextAt w (conOf v.kind v.n v.f v.s a v.l.length cap) (textV v) := by
  refine V.ind ?_
  rintro ⟨k, n, f, s, l⟩ ih t a cap w hr hv hlen hp ht
  change ∀ u ∈ l, _ at ih
  obtain ⟨_, hn, hf, hs, _, _⟩ := hv.parts
  have hkk : 0 ≤ k ∧ k ≤ 4 := by
    by_cases h : 0 ≤ k ∧ k ≤ 4
    · exact h
    · rw [rightN_kind (v := .mk k n f s l) h] at hr
      cases hr
  change TextAt w (conOf k n f s a l.length cap) _
  change f < 18446744073709551616 at hf
  change ∀ c ∈ s, c < 256 at hs
  unfold conOf
  rw [textV] at hlen ⊢
  by_cases h0 : k = 0
  · subst h0
    rw [if_pos rfl, if_neg (by decide), if_neg (by decide), if_neg (by decide), if_neg (by decide)]
    exact ⟨_, _, _, rfl, fun n w => meth_nil n w, enters_of Tryz.func153 (by kernel_rfl) rfl, fun w' _ => nilText_any w'⟩
  rw [if_neg h0]
  by_cases h1 : k = 1
  · rw [if_pos h1, if_pos h1]
    exact ⟨_, _, _, rfl, fun n w => meth_int n _ w, enters_of Tryz.func155 (by kernel_rfl) rfl, fun w' hb => intText_any n w' hn.1 hn.2 (hp.below hb)⟩
  rw [if_neg h1] at hlen
  rw [if_neg h1, if_neg h1]
  by_cases h2 : k = 2
  · rw [if_pos h2, if_pos h2]
    exact ⟨_, _, _, rfl, fun n w => meth_float n _ w, enters_of Tryz.func160 (by kernel_rfl) rfl, fun w' hb => floatText_any f w' hf (tab_below ht hb)⟩
  rw [if_neg h2] at hlen
  rw [if_neg h2, if_neg h2]
  by_cases h3 : k = 3
  · rw [if_pos h3] at hlen
    rw [if_pos h3, if_pos h3]
    have hsl : s.length ≤ 1000000 := by
      rw [List.length_cons, List.length_append, hex2_len] at hlen; omega
    exact ⟨_, _, _, rfl, fun n w => meth_text n _ w, enters_of Tryz.func162 (by kernel_rfl) rfl, fun w' _ => textText_any s w' hs hsl⟩
  have h4 : k = 4 := by omega
  subst h4
  rw [if_neg h3, if_pos rfl] at hlen
  rw [if_neg h3, if_neg h3, if_pos rfl, if_pos rfl]
  have hall : ∃ t', ∀ u ∈ l, rightN t' u = true := by
    cases t with
    | zero => unfold rightN at hr; simp [V.kind] at hr
    | succ t =>
      refine ⟨t, ?_⟩
      unfold rightN at hr
      rw [Bool.and_eq_true, Bool.and_eq_true, List.all_eq_true] at hr
      exact hr.1.2
  obtain ⟨t', hall⟩ := hall
  have hl : l = [] ∨ ∃ b o, a = some ⟨b, o, none⟩ ∧ VsIn w l b o := by
    by_cases e : l = []
    · exact .inl e
    · exact .inr (hv.list e)
  have hlen' : (textV (.mk 4 0 0 [] l)).length ≤ 1000000 := by
    rw [textV, if_neg (by decide), if_neg (by decide), if_neg (by decide), if_pos rfl]
    exact hlen
  refine ⟨_, _, _, rfl, fun n w => meth_list n _ _ _ w, enters_of Tryz.func165 (by kernel_rfl) rfl, fun w' hb => ?_⟩
  have h := listText_any l a cap w' hlen' (hl.imp id (fun ⟨b, o, e, h⟩ => ⟨b, o, e, VsIn.keep (fun _ hp => hb.cell hp) l b o h⟩)) (fun u hu a' cap' hvu => by
    have hmem := textVs_mem hu
    have hle : (textV u).length ≤ 1000000 := by
      rw [List.length_cons, List.length_append] at hlen
      omega
    exact ih u hu t' a' cap' w' (hall u hu) hvu hle (hp.below hb) (tab_below ht hb))
  rw [textV, if_neg (by decide), if_neg (by decide), if_neg (by decide), if_pos rfl] at h
  exact h
set_option maxRecDepth 100000 in
theorem vText_any (t : Nat) (ht1 : t ≤ 1000) (v : V) (x : Array Value) (w : World) (hs : smallN t v = true) (hv : VIn w v x) (hlen : (textB v).length ≤ 1000000) (hp : Pow10 w) (ht : Tab16 w) :
    Calls Tryz.prog 8 #[.agg x] w fun e w' => e = .returned (.string (str (textB v))) ∧ Below w.heap.size w w' := by
  obtain ⟨_, _, _, _, _, a, cap, rfl, _⟩ := hv.parts
  have hal := (Below.refl w.heap.size w).alloc (Nat.le_refl _) (.cells (cells5 v.kind v.n v.f v.s a v.l.length cap) 25)
  have HA := Lib.hid hal
  have HW := Lib.hid (valid_any t ht1 v _ _ hs (hv.below hal))
  have hwz : (w.alloc (.cells (cells5 v.kind v.n v.f v.s a v.l.length cap) 25)).heap.size = w.heap.size + 1 := by simp
  have C0 := Lib.hid (new5 w (.int .i64 v.kind) (.int .i64 v.n) (.float .f64 v.f) (.string (str v.s)) (.slice a v.l.length cap) 25)
  have HC := Lib.hid (fun w => contentOf_any v.kind v.n v.f v.s a v.l.length cap w)
  have HV := Lib.hid (hv.below hal)
  have HP := Lib.hid (hp.below hal)
  have HT := Lib.hid (tab_below ht hal)
  have Hlen := Lib.hid hlen
  clear hv hs ht hal hp hlen
  cases hr : rightN 8 v with
  | false =>
    have HB := Lib.hid (show textB v = [] from by unfold textB; rw [hr]; rfl)
    rw [hr] at HW
    clear hr
    unfold cells5 at *
    go_enter Tryz.func8, Tryz.ntmps8
    go_wp2_with fail
    refine HW.out.mono ?_
    rintro e w1 ⟨rfl, hb⟩
    have Hb := Lib.hid (HA.out.trans (hb.mono HA.out.size))
    clear hb
    go_wp2
    go_ret
    exact ⟨by rw [HB.out]; rfl, Hb.out⟩
  | true =>
    have HB := Lib.hid (show textB v = textV v from by unfold textB; rw [hr]; rfl)
    rw [hr] at HW
    have Hr := Lib.hid hr
    clear hr
    unfold cells5 at *
    go_enter Tryz.func8, Tryz.ntmps8
    go_wp2_with fail
    generalize w.alloc (.cells #[.int .i64 v.kind, .int .i64 v.n, .float .f64 v.f, .string (str v.s), .slice a v.l.length cap] 25) = w1 at *
    refine HW.out.mono ?_
    rintro e w2 ⟨rfl, hb⟩
    have Hb := Lib.hid hb
    obtain ⟨z0, z1, z2, z3, z4⟩ := keep5 hb C0.out
    clear hb
    go_wp2_with fail
    refine (HC.out _).mono ?_
    rintro e w3 ⟨rfl, hb3⟩
    have Hb3 := Lib.hid (Hb.out.trans (hb3.mono Hb.out.size))
    have hwb : Below w1.heap.size w1 w3 := Hb3.out
    obtain ⟨T, pv, f, hc, hm, he, hcall⟩ := textAt_any v 8 a cap w3 Hr.out (HV.out.below hwb) (by rw [← HB.out]; exact Hlen.out) (HP.out.below hwb) (tab_below HT.out hwb)
    rw [hc]
    have HM := Lib.hid hm
    have HK := Lib.hid hcall
    clear hb3 hwb hc hm hcall z0 z1 z2 z3 z4
    go_wp2_with fail
    rw [HM.out]
    go_wp2_with fail
    refine (HK.out _ (Below.refl _ _)).mono ?_
    rintro e w4 ⟨rfl, hb4⟩
    have Hb4 := Lib.hid (HA.out.trans ((Hb3.out.trans (hb4.mono Hb3.out.size)).mono HA.out.size))
    clear hb4
    go_wp2
    go_ret
    exact ⟨by rw [HB.out]; rfl, Hb4.out⟩
end Go.Proofs.YtpnfnmeilhiebaaGreatDoor

/- The only value but a list that may have a text: guessOne. -/
namespace Go.Proofs.YtpnfnmeilhiebaaGreatDoor
open Go.RowKit Go.Shelf Fl

/-- What guessOne answers: nothing, where no value has the text; or a value that has it if any has. -/
def OneEnd (w : World) (l : List Nat) (e : Ending) (w' : World) : Prop :=
  ∃ con, e = .returned con ∧ Below w.heap.size w w' ∧
    ((con = .nilIface ∧ ∀ (t : Nat) (u : V), rightN t u = true → soundV u → u.kind ≠ 4 → textV u ≠ l) ∨
     ∃ (k n : Int) (f : Nat) (s : List Nat), con = conOf k n f s none 0 0 ∧ k ≠ 4 ∧ (∀ t, rightN t (.mk k n f s []) = true) ∧ soundV (.mk k n f s []) ∧ s.length ≤ 9223372036854775807 ∧ (textV (.mk k n f s [])).length ≤ l.length + 1 ∧ 0 < l.length ∧
       ∀ (t : Nat) (u : V), rightN t u = true → soundV u → u.kind ≠ 4 → textV u = l → textV (.mk k n f s []) = l)

theorem plain_right {k n : Int} {f : Nat} {s : List Nat} (h1 : k = 1 ∨ n = 0) (h2 : k = 2 ∨ bitsB f = 0) (h3 : k = 3 ∨ s = []) (hk : 0 ≤ k ∧ k ≤ 3) : ∀ t, rightN t (.mk k n f s []) = true := fun t =>
  rightN_plain (v := .mk k n f s []) ⟨h1, h2, h3, .inr rfl⟩ (show k ≠ 4 by omega) (show 0 ≤ k ∧ k ≤ 4 by omega)

theorem trim_any (r : List Nat) (w : World) (hr : ∀ x ∈ r, x < 256) (hn : r.length ≤ 1000000) :
    Calls Tryz.prog 75 #[.string (str r), .string ⟨#[34]⟩] w fun e w' => ∃ d, e = .returned (.string (str d)) ∧ (∀ x ∈ d, x < 256) ∧ d.length ≤ r.length ∧ (∀ x, r = x ++ [34] → d = x) ∧ w = w' := by
  have h := Tryz.strings_TrimSuffix (str r) ⟨#[34]⟩ w (by rw [str_size]; omega)
  have h1 : (str r).data.toList = r.map UInt8.ofNat := rfl
  have h2 : ((⟨#[34]⟩ : ByteArray)).data.toList = [34] := rfl
  rw [h1, h2] at h
  unfold Lib.trimSuffix at h
  have key : ∀ x, r = x ++ [34] → Lib.hasSuffix (r.map UInt8.ofNat) [34] = true := by
    intro x e
    rw [e, List.map_append]
    unfold Lib.hasSuffix
    simp
  cases hs : Lib.hasSuffix (r.map UInt8.ofNat) [34] with
  | true =>
    rw [hs, if_pos rfl, List.length_map, show ([34] : List UInt8).length = 1 from rfl, ← List.map_take] at h
    refine h.mono ?_
    rintro e w' ⟨rfl, rfl⟩
    refine ⟨r.take (r.length - 1), rfl, fun x hx => hr x (List.mem_of_mem_take hx), by rw [List.length_take]; omega, fun x e => ?_, rfl⟩
    rw [e]
    simp
  | false =>
    rw [hs] at h
    refine h.mono ?_
    rintro e w' ⟨rfl, rfl⟩
    exact ⟨r, rfl, hr, Nat.le_refl _, fun x e => absurd (key x e) (by rw [hs]; decide), rfl⟩

theorem head_ne {n : Int} : ∀ {c : Nat} {r : List Nat}, decL n = c :: r → c ≠ 34 ∧ c ≠ 35 ∧ c ≠ 110 := by
  intro c r e
  obtain ⟨d, q, e1, h1, h2⟩ := decD_head n.natAbs
  unfold decL at e
  split at e
  · have := (List.cons.inj e).1
    omega
  · rw [e1] at e
    have := (List.cons.inj e).1
    omega

set_option maxRecDepth 100000 in
set_option maxHeartbeats 1600000 in
theorem gone_any (l : List Nat) (w : World) (hl : ∀ x ∈ l, x < 256) (hn : l.length ≤ 1000000) (he : Errs w) (ht : Tab16 w) :
    Calls Tryz.prog 56 #[.string (str l)] w (OneEnd w l) := by
  have hb0 : bitsB 0 = 0 := by decide
  by_cases q0 : l = [110, 105, 108]
  · have hq : ((str l).toList == ([110, 105, 108] : List UInt8)) = true := by rw [q0, str_list]; rfl
    have Q0 := Lib.hid q0
    clear q0 hl hb0
    go_enter Tryz.func56, Tryz.ntmps56
    go_wp2
    go_ret
    refine ⟨_, rfl, Below.refl _ _, .inr ⟨0, 0, 0, [], rfl, by omega, plain_right (.inr rfl) (.inr (by decide)) (.inr rfl) (by omega), ?_, by simp, ?_, by rw [Q0.out]; simp, fun _ _ _ _ _ _ => by rw [Q0.out, textV]; rfl⟩⟩
    · rw [soundV, soundL]; exact ⟨by omega, by omega, by simp, trivial⟩
    · rw [Q0.out, textV]; simp
  · have hq : ((str l).toList == ([110, 105, 108] : List UInt8)) = false := by
      have h := str_ne (b := [110, 105, 108]) hl (by decide) q0
      rw [str_list [110, 105, 108]] at h
      exact h
    have Q0 := Lib.hid q0
    by_cases q1 : ∃ r, l = 34 :: r
    · obtain ⟨r, rfl⟩ := q1
      have hr : ∀ x ∈ r, x < 256 := fun x hx => hl x (by simp [hx])
      have hrn : r.length ≤ 999999 := by rw [List.length_cons] at hn; omega
      have HC := Lib.hid (fun w => show Calls Tryz.prog 53 #[.string (str (34 :: r)), .string ⟨#[34]⟩] w _ from cut_yes 34 r w)
      have HT := Lib.hid (fun w => trim_any r w hr (by omega))
      have HE := Lib.hid he
      have Hl := Lib.hid hl
      have Hrn := Lib.hid hrn
      clear hl hr q0 hn he ht hrn
      generalize str (34 :: r) = S at *
      go_enter Tryz.func56, Tryz.ntmps56
      go_wp2_with fail
      refine (HC.out _).mono ?_
      rintro e w' ⟨rfl, rfl⟩
      go_wp2_with fail
      refine (HT.out _).mono ?_
      rintro e w' ⟨d, rfl, hd8, hdn, hdx, rfl⟩
      have Hdx := Lib.hid hdx
      have HG := Lib.hid (gtext_any d w hd8 (by have := Hrn.out; omega) HE.out)
      have Hdn := Lib.hid hdn
      clear hdx hd8 hdn
      go_wp2_with fail
      refine HG.out.mono ?_
      rintro e w1 ⟨b, rfl, hb8, hbl, hbq, hbe⟩
      have Hb8 := Lib.hid hb8
      have Hbl := Lib.hid hbl
      have Hbq := Lib.hid hbq
      have Hbe := Lib.hid hbe
      clear hb8 hbl hbq hbe
      go_wp2
      go_ret
      refine ⟨_, rfl, Hbe.out, .inr ⟨3, 0, 0, b, rfl, by omega, plain_right (.inr rfl) (.inr (by decide)) (.inl rfl) (by omega), ?_, ?_, ?_, by simp, fun t u hu hsu hk e => ?_⟩⟩
      · rw [soundV, soundL]; exact ⟨by omega, by omega, Hb8.out, trivial⟩
      · have := Hbl.out; have := Hdn.out; have := Hrn.out; omega
      · rw [textV, if_neg (by omega), if_neg (by omega), if_pos rfl, List.length_cons, List.length_cons, List.length_append, hex2_len, Hbl.out]
        have := Hdn.out
        simp only [List.length_cons, List.length_nil]
        omega
      · rcases plain_text hu hsu hk e with e | ⟨n, _, _, e⟩ | ⟨c, _, e⟩ | ⟨x, hx, e⟩
        · exact absurd e (by simp)
        · exact absurd rfl (head_ne e).1
        · exact absurd e (by simp)
        · have h1 : r = hex2 x ++ [34] := (List.cons.inj e).2
          have h2 := Hbq.out x hx (Hdx.out _ h1)
          rw [h2, textV, if_neg (by omega), if_neg (by omega), if_pos rfl, h1]
    · have hd34 : ∀ d, l ≠ 34 :: d := fun d e => q1 ⟨d, e⟩
      have HC := Lib.hid (fun w => show Calls Tryz.prog 53 #[.string (str l), .string ⟨#[34]⟩] w _ from cut_no 34 l w (by omega) hl hd34)
      by_cases q2 : ∃ r, l = 35 :: r
      · obtain ⟨r, rfl⟩ := q2
        have hr : ∀ x ∈ r, x < 256 := fun x hx => hl x (by simp [hx])
        have HC2 := Lib.hid (fun w => show Calls Tryz.prog 53 #[.string (str (35 :: r)), .string ⟨#[35]⟩] w _ from cut_yes 35 r w)
        have HP := Lib.hid (fun w he ht => nparse_any r w hr (by rw [List.length_cons] at hn; omega) he ht)
        have HE := Lib.hid he
        have HT := Lib.hid ht
        clear hl hr q0 hn he ht q1 hd34
        generalize str (35 :: r) = S at *
        go_enter Tryz.func56, Tryz.ntmps56
        go_wp2_with fail
        refine (HC.out _).mono ?_
        rintro e w' ⟨rfl, rfl⟩
        go_wp2_with fail
        refine (HC2.out _).mono ?_
        rintro e w' ⟨rfl, rfl⟩
        go_wp2_with fail
        refine (HP.out _ HE.out HT.out).mono ?_
        rintro e w1 ⟨hb1, ⟨b, hb, htx, rfl⟩ | ⟨hno, rfl⟩⟩
        · have Htx := Lib.hid htx
          have Hb := Lib.hid hb
          clear htx hb
          go_wp2
          go_ret
          refine ⟨_, rfl, hb1, .inr ⟨2, 0, b, [], rfl, by omega, plain_right (.inr rfl) (.inl rfl) (.inr rfl) (by omega), ?_, by simp, ?_, by simp, fun _ _ _ _ _ _ => ?_⟩⟩
          · rw [soundV, soundL]; exact ⟨by omega, Hb.out, by simp, trivial⟩
          · rw [textV, if_neg (by omega), if_pos rfl, Htx.out]; simp
          · rw [textV, if_neg (by omega), if_pos rfl, Htx.out]
        · have Hno := Lib.hid hno
          clear hno
          go_wp2
          go_ret
          refine ⟨_, rfl, hb1, .inl ⟨rfl, fun t u hu hsu hk e => ?_⟩⟩
          rcases plain_text hu hsu hk e with e | ⟨n, _, _, e⟩ | ⟨c, hc, e⟩ | ⟨x, hx, e⟩
          · exact absurd e (by simp)
          · exact absurd rfl (head_ne e).2.1
          · exact Hno.out c hc (List.cons.inj e).2.symm
          · exact absurd e (by simp)
      · have hd35 : ∀ d, l ≠ 35 :: d := fun d e => q2 ⟨d, e⟩
        have HC2 := Lib.hid (fun w => show Calls Tryz.prog 53 #[.string (str l), .string ⟨#[35]⟩] w _ from cut_no 35 l w (by omega) hl hd35)
        have hdl : (str l).data.toList = l.map UInt8.ofNat := rfl
        have hsz := str_size l
        cases hp : Lib.parseIntB 64 (l.map UInt8.ofNat) with
        | ok n =>
          have HP := Lib.hid (fun w => Tryz.strconv_ParseInt_10_at64_ok (str l) (by omega) n (by rw [hdl]; exact hp) w)
          have Hlen := Lib.hid (parseInt_len hp)
          rw [List.length_map] at Hlen
          have Hnb := Lib.hid (Lib.parseIntB_bounds hp)
          have Hun := Lib.hid (show ∀ m : Int, -9223372036854775808 ≤ m → m ≤ 9223372036854775807 → decL m = l → n = m from fun m h1 h2 e => by
            have h3 := parseInt_dec h1 h2
            rw [e, hp] at h3
            exact Lib.NumEnd.ok.inj h3)
          have H34 := Lib.hid hd34
          have H35 := Lib.hid hd35
          clear hl q0 hn he ht q1 q2 hd34 hd35 hdl hp hsz
          generalize str l = S at *
          go_enter Tryz.func56, Tryz.ntmps56
          go_wp2_with fail
          refine (HC.out _).mono ?_
          rintro e w' ⟨rfl, rfl⟩
          go_wp2_with fail
          refine (HC2.out _).mono ?_
          rintro e w' ⟨rfl, rfl⟩
          go_wp2_with fail
          refine (HP.out _).mono ?_
          rintro e w1 ⟨rfl, hw1⟩
          have Hw1 := Lib.hid (show Below w.heap.size w w1 from by
            rcases hw1 with rfl | ⟨t, rfl⟩
            · exact Below.refl _ _
            · exact Lib.bytesWorld_below _ _ _)
          clear hw1
          go_wp2
          go_ret
          have hnb := Hnb.out
          have h63 : (2 : Nat) ^ (64 - 1) = 9223372036854775808 := by decide
          rw [h63] at hnb
          refine ⟨_, rfl, Hw1.out, .inr ⟨1, n, 0, [], rfl, by omega, plain_right (.inl rfl) (.inr (by decide)) (.inr rfl) (by omega), ?_, by simp, ?_, Hlen.out.2, fun t u hu hsu hk e => ?_⟩⟩
          · rw [soundV, soundL]; exact ⟨by omega, by omega, by simp, trivial⟩
          · rw [textV, if_pos rfl]; exact Hlen.out.1
          · rw [textV, if_pos rfl]
            rcases plain_text hu hsu hk e with e | ⟨m, h1, h2, e⟩ | ⟨c, hc, e⟩ | ⟨x, hx, e⟩
            · exact absurd e Q0.out
            · rw [Hun.out m h1 h2 e]; exact e
            · exact absurd e (H35.out _)
            · exact absurd e (H34.out _)
        | range =>
          obtain ⟨tt, pp, hcell⟩ := he.2
          have HP := Lib.hid (fun w1 (hw : Below w.heap.size w w1) => Tryz.strconv_ParseInt_10_at64_range (str l) (by omega) (by rw [hdl]; exact hp) (.iface tt pp) w1 (cell_below hw hcell) (.inr ⟨tt, pp, rfl⟩))
          have Hno := Lib.hid (show ∀ m : Int, -9223372036854775808 ≤ m → m ≤ 9223372036854775807 → decL m ≠ l from fun m h1 h2 e => by
            have h3 := parseInt_dec h1 h2
            rw [e, hp] at h3
            cases h3)
          have H34 := Lib.hid hd34
          have H35 := Lib.hid hd35
          clear hl q0 hn he ht q1 q2 hd34 hd35 hdl hp hsz hcell
          generalize hS : str l = S at *
          clear hS
          go_enter Tryz.func56, Tryz.ntmps56
          go_wp2_with fail
          refine (HC.out _).mono ?_
          rintro e w' ⟨rfl, rfl⟩
          go_wp2_with fail
          refine (HC2.out _).mono ?_
          rintro e w' ⟨rfl, rfl⟩
          go_wp2_with fail
          refine (HP.out _ (Below.refl _ _)).mono ?_
          rintro e w1 ⟨N, rfl, _, _, hb1⟩
          go_wp2
          go_ret
          refine ⟨_, rfl, hb1, .inl ⟨rfl, fun t u hu hsu hk e => ?_⟩⟩
          rcases plain_text hu hsu hk e with e | ⟨m, h1, h2, e⟩ | ⟨c, hc, e⟩ | ⟨x, hx, e⟩
          · exact Q0.out e
          · exact Hno.out m h1 h2 e
          · exact H35.out _ e
          · exact H34.out _ e
        | _ =>
          obtain ⟨tt, pp, hcell⟩ := he.1
          have HP := Lib.hid (fun w1 (hw : Below w.heap.size w w1) => Tryz.strconv_ParseInt_10_at64_syntax (str l) (by omega) (by rw [hdl]; exact hp) (.iface tt pp) w1 (cell_below hw hcell) (.inr ⟨tt, pp, rfl⟩))
          have Hno := Lib.hid (show ∀ m : Int, -9223372036854775808 ≤ m → m ≤ 9223372036854775807 → decL m ≠ l from fun m h1 h2 e => by
            have h3 := parseInt_dec h1 h2
            rw [e, hp] at h3
            cases h3)
          have H34 := Lib.hid hd34
          have H35 := Lib.hid hd35
          clear hl q0 hn he ht q1 q2 hd34 hd35 hdl hp hsz hcell
          generalize hS : str l = S at *
          clear hS
          go_enter Tryz.func56, Tryz.ntmps56
          go_wp2_with fail
          refine (HC.out _).mono ?_
          rintro e w' ⟨rfl, rfl⟩
          go_wp2_with fail
          refine (HC2.out _).mono ?_
          rintro e w' ⟨rfl, rfl⟩
          go_wp2_with fail
          refine (HP.out _ (Below.refl _ _)).mono ?_
          rintro e w1 ⟨N, rfl, _, _, hb1⟩
          go_wp2
          go_ret
          refine ⟨_, rfl, hb1, .inl ⟨rfl, fun t u hu hsu hk e => ?_⟩⟩
          rcases plain_text hu hsu hk e with e | ⟨m, h1, h2, e⟩ | ⟨c, hc, e⟩ | ⟨x, hx, e⟩
          · exact Q0.out e
          · exact Hno.out m h1 h2 e
          · exact H35.out _ e
          · exact H34.out _ e
end Go.Proofs.YtpnfnmeilhiebaaGreatDoor

/- The walk of the reference's Clone. -/
namespace Go.Proofs.YtpnfnmeilhiebaaGreatDoor
open Go.RowKit Fl

theorem info_value : (Tryz.prog.info? 25).map (fun i => (i.zero, i.size, i.bytes)) = some (some (.agg #[.int .i64 0, .int .i64 0, .float .f64 0, .string ⟨#[]⟩, .slice none 0 0]), 5, 64) := by kernel_rfl

theorem bulkL_mem : ∀ {l : List V} {u : V}, u ∈ l → bulkV u ≤ bulkL l
  | v :: r, u, h => by
    rw [bulkL]
    rcases List.mem_cons.1 h with e | e
    · rw [e]; omega
    · have := bulkL_mem e; omega

theorem bulk_pos (v : V) : 1 ≤ bulkV v := by
  obtain ⟨k, n, f, s, l⟩ := v
  rw [bulkV]; omega

theorem bulkL_len : ∀ l : List V, l.length ≤ bulkL l
  | [] => by simp [bulkL]
  | v :: r => by
    rw [bulkL, List.length_cons]
    have := bulkL_len r
    have := bulk_pos v
    omega

theorem OwnVs.keep {w w' : World} {base : Nat} {v : Value} {l : List V} (h : OwnVs w base v l) (hb : ∀ b, base ≤ b → b < w.heap.size → w'.heap[b]? = w.heap[b]?) (hs : w.heap.size ≤ w'.heap.size) : OwnVs w' base v l := by
  obtain ⟨cs, hlen, ⟨hx, hrow⟩, hel⟩ := h
  refine ⟨cs, hlen, ⟨hx, ?_⟩, fun i x u hi hu => VInP.turn (fun b hq => ⟨hq.1, hq.2.1, by omega⟩) (fun p hp => ?_) u x (hel i x u hi hu)⟩
  · rcases hrow with hn | ⟨g, cap, cur, e, hbg, hg, rest⟩
    · exact .inl hn
    · exact .inr ⟨g, cap, cur, e, hbg, (hb g hbg (Array.getElem?_eq_some_iff.1 hg).1).trans hg, rest⟩
  · unfold World.cell?
    rw [hb p.block hp.1 hp.2.2]

theorem OwnVs.block {w : World} {base : Nat} {v : Value} {l : List V} (h : OwnVs w base v l) {g : Nat} (hg : v.ownBlock = some g) : base ≤ g ∧ g < w.heap.size := by
  obtain ⟨cs, hlen, ⟨hx, hrow⟩, hel⟩ := h
  rcases hrow with ⟨e, _⟩ | ⟨g', cap, cur, e, hbg, hg', rest⟩
  · rw [e] at hg
    cases hg
  · rw [e] at hg
    have e2 : g' = g := Option.some.inj hg
    rw [← e2]
    exact ⟨hbg, (Array.getElem?_eq_some_iff.1 hg').1⟩

/-- The three blocks of a call of Clone: its argument, its result, the value that it fills. -/
structure CloH (w wr : World) (k n : Int) (f : Nat) (s : List Nat) (a : Option Addr) (m cap : Nat) (acc : Value) : Prop where
  box : wr.heap[w.heap.size]? = some (.cells #[.int .i64 k, .int .i64 n, .float .f64 f, .string (str s), .slice a m cap] 25 (0, 0))
  res : wr.heap[w.heap.size + 1]? = some (.cells #[.int .i64 0, .int .i64 0, .float .f64 0, .string ⟨#[]⟩, .slice none 0 0] 25 (0, 0))
  out : wr.heap[w.heap.size + 2]? = some (.cells #[.int .i64 k, .int .i64 n, .float .f64 f, .string (str s), acc] 25 (0, 0))
  below : Below w.heap.size w wr

theorem CloH.size {w wr : World} {k n : Int} {f : Nat} {s : List Nat} {a : Option Addr} {m cap : Nat} {acc : Value} (h : CloH w wr k n f s a m cap acc) : w.heap.size + 3 ≤ wr.heap.size := by
  have := (Array.getElem?_eq_some_iff.1 h.out).1
  omega

theorem CloH.go {w wr w' : World} {k n : Int} {f : Nat} {s : List Nat} {a : Option Addr} {m cap : Nat} {acc : Value} (h : CloH w wr k n f s a m cap acc) (hb : Below wr.heap.size wr w') : CloH w w' k n f s a m cap acc := by
  have hs := h.size
  exact ⟨(hb.block _ (by omega)).trans h.box, (hb.block _ (by omega)).trans h.res, (hb.block _ (by omega)).trans h.out, h.below.trans (hb.mono (by omega))⟩

theorem CloH.grown {w wr w' : World} {k n : Int} {f : Nat} {s : List Nat} {a : Option Addr} {m cap : Nat} {acc : Value} (h : CloH w wr k n f s a m cap acc) (hg : wr.grownBy w' acc.ownBlock) (hb : ∀ g, acc.ownBlock = some g → w.heap.size + 3 ≤ g) : CloH w w' k n f s a m cap acc := by
  have hs := h.size
  have hne : ∀ g, g < w.heap.size + 3 → some g ≠ acc.ownBlock := fun g hg e => by have := hb g e.symm; omega
  exact ⟨(hg.block _ (by omega) (hne _ (by omega))).trans h.box, (hg.block _ (by omega) (hne _ (by omega))).trans h.res, (hg.block _ (by omega) (hne _ (by omega))).trans h.out, h.below.grown hg (by omega) (fun g e => by have := hb g e; omega)⟩

theorem CloH.store {w wr : World} {k n : Int} {f : Nat} {s : List Nat} {a : Option Addr} {m cap : Nat} {acc : Value} (h : CloH w wr k n f s a m cap acc) (acc' : Value) : CloH w (wr.setCell ⟨w.heap.size + 2, 4, none⟩ acc') k n f s a m cap acc' := by
  refine ⟨(Below.heap_setCell _ _ _ _ (by simp)).trans h.box, (Below.heap_setCell _ _ _ _ (by simp)).trans h.res, ?_, h.below.setCell (by simp) _⟩
  simp [World.setCell, Array.getElem?_modify, h.out]

theorem CloH.cells {w wr : World} {k n : Int} {f : Nat} {s : List Nat} {a : Option Addr} {m cap : Nat} {acc : Value} (h : CloH w wr k n f s a m cap acc) :
    wr.cell? ⟨w.heap.size, 4, none⟩ = some (.slice a m cap) ∧ wr.cell? ⟨w.heap.size + 2, 4, none⟩ = some acc ∧ wr.frozen? ⟨w.heap.size + 2, 4, none⟩ = false := by
  refine ⟨?_, ?_, ?_⟩
  · rw [cell_of_row _ _ _ _ _ _ h.box]; rfl
  · rw [cell_of_row _ _ _ _ _ _ h.out]; rfl
  · simp [World.frozen?, h.out]

theorem CloH.all {w wr : World} {k n : Int} {f : Nat} {s : List Nat} {a : Option Addr} {m cap : Nat} {acc : Value} (h : CloH w wr k n f s a m cap acc) :
    (wr.cell? ⟨w.heap.size + 2, 0, none⟩ = some (.int .i64 k) ∧ wr.cell? ⟨w.heap.size + 2, 1, none⟩ = some (.int .i64 n) ∧ wr.cell? ⟨w.heap.size + 2, 2, none⟩ = some (.float .f64 f) ∧ wr.cell? ⟨w.heap.size + 2, 3, none⟩ = some (.string (str s))) ∧
    (wr.cell? ⟨w.heap.size + 1, 0, none⟩ = some (.int .i64 0) ∧ wr.cell? ⟨w.heap.size + 1, 1, none⟩ = some (.int .i64 0) ∧ wr.cell? ⟨w.heap.size + 1, 2, none⟩ = some (.float .f64 0) ∧ wr.cell? ⟨w.heap.size + 1, 3, none⟩ = some (.string ⟨#[]⟩) ∧ wr.cell? ⟨w.heap.size + 1, 4, none⟩ = some (.slice none 0 0)) ∧
    (∀ j, wr.frozen? ⟨w.heap.size + 1, j, none⟩ = false) := by
  refine ⟨⟨?_, ?_, ?_, ?_⟩, ⟨?_, ?_, ?_, ?_, ?_⟩, fun j => ?_⟩
  · rw [cell_of_row _ _ _ _ _ _ h.out]; rfl
  · rw [cell_of_row _ _ _ _ _ _ h.out]; rfl
  · rw [cell_of_row _ _ _ _ _ _ h.out]; rfl
  · rw [cell_of_row _ _ _ _ _ _ h.out]; rfl
  · rw [cell_of_row _ _ _ _ _ _ h.res]; rfl
  · rw [cell_of_row _ _ _ _ _ _ h.res]; rfl
  · rw [cell_of_row _ _ _ _ _ _ h.res]; rfl
  · rw [cell_of_row _ _ _ _ _ _ h.res]; rfl
  · rw [cell_of_row _ _ _ _ _ _ h.res]; rfl
  · simp [World.frozen?, h.res]

/-- The value that the call fills, at its end. -/
theorem vin_done {base : Nat} {k n : Int} {f : Nat} {s : List Nat} {l : List V} {acc : Value} {wr w' : World} (hk : -9223372036854775808 ≤ k ∧ k ≤ 9223372036854775807) (hn : -9223372036854775808 ≤ n ∧ n ≤ 9223372036854775807)
    (hf : f < 18446744073709551616) (hs : ∀ c ∈ s, c < 256) (hss : s.length ≤ 9223372036854775807) (hO : OwnVs wr (base + 3) acc l) (hw : ∀ b, base + 3 ≤ b → b < wr.heap.size → w'.heap[b]? = wr.heap[b]?) (hz : wr.heap.size ≤ w'.heap.size) :
    VInP (fun b => base ≤ b ∧ b < w'.heap.size) w' (V.mk k n f s l) #[.int .i64 k, .int .i64 n, .float .f64 f, .string (str s), acc] := by
  obtain ⟨a, cap, rfl, hcap, hmax, hl⟩ := (hO.keep hw hz).lies
  rw [VInP]
  refine ⟨hk, hn, hf, hs, hss, a, cap, rfl, hcap, hmax, ?_⟩
  rcases hl with hl | ⟨g, ha, hg, hv⟩
  · exact .inl hl
  · exact .inr ⟨g, 0, ha, ⟨by omega, hg.2⟩, VsInP.turn (fun b hb => ⟨by omega, hb.2⟩) (fun _ _ => rfl) l g 0 hg hv⟩

theorem VInP.parts5 {q : Nat → Prop} {w : World} {v : V} {x : Array Value} (h : VInP q w v x) : ∃ a cap, x = #[.int .i64 v.kind, .int .i64 v.n, .float .f64 v.f, .string (str v.s), .slice a v.l.length cap] := by
  obtain ⟨_, _, _, _, _, a, cap, e, _⟩ := (VInP.weak v x h).parts
  exact ⟨a, cap, e⟩

end Go.Proofs.YtpnfnmeilhiebaaGreatDoor

