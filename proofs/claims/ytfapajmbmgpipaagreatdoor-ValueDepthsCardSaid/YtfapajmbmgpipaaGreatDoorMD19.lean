import Derived.Test.YtfapajmbmgpipaaGreatDoorMD18
import Derived.Test.YtfapajmbmgpipaaGreatDoorMD17
import Derived.Test.YtfapajmbmgpipaaGreatDoorMD10
/- The walk of guessList, where guess does what it is to do at one level less. -/
namespace Go.Proofs.YtfapajmbmgpipaaGreatDoor
open Go.RowKit Go.Shelf Fl

theorem bits_zero {f : Nat} (h : bitsB f = 0) : f = 0 := by
  unfold bitsB at h
  split at h
  · exact absurd h (by decide)
  · exact h

/-- A valid value is what whole makes of its content. -/
theorem whole_in {q : Nat → Prop} {w : World} {v : V} {a : Option Addr} {cap t : Nat} (hr : rightN t v = true) (hv : VInP q w v (cells5 v.kind v.n v.f v.s a v.l.length cap)) :
    ∃ a' cap', wholeOf v.kind v.n v.f v.s a v.l.length cap = cells5 v.kind v.n v.f v.s a' v.l.length cap' ∧ VInP q w v (cells5 v.kind v.n v.f v.s a' v.l.length cap') := by
  obtain ⟨k, n, f, s, l⟩ := v
  obtain ⟨⟨h1, h2, h3, h4⟩, h0, h5, _⟩ := right_parts hr
  change VInP q w (.mk k n f s l) (cells5 k n f s a l.length cap) at hv
  change ∃ a' cap', wholeOf k n f s a l.length cap = cells5 k n f s a' l.length cap' ∧ VInP q w (.mk k n f s l) (cells5 k n f s a' l.length cap')
  have hv' := hv
  rw [VInP] at hv'
  obtain ⟨b1, b2, b3, b4, b5, _⟩ := hv'
  by_cases hk : k = 4
  · have en : n = 0 := h1.resolve_left (by omega)
    have ef : f = 0 := bits_zero (h2.resolve_left (by omega))
    have es : s = [] := h3.resolve_left (by omega)
    subst hk en ef es
    exact ⟨a, cap, rfl, hv⟩
  · have el : l = [] := h4.resolve_left hk
    subst el
    refine ⟨none, 0, ?_, by rw [VInP]; exact ⟨b1, b2, b3, b4, b5, none, 0, rfl, Nat.le_refl _, by omega, .inl rfl⟩⟩
    unfold wholeOf
    by_cases k1 : k = 1
    · have ef : f = 0 := bits_zero (h2.resolve_left (by omega))
      have es : s = [] := h3.resolve_left (by omega)
      subst k1 ef es
      rfl
    rw [if_neg k1]
    have en : n = 0 := h1.resolve_left k1
    by_cases k2 : k = 2
    · have es : s = [] := h3.resolve_left (by omega)
      subst k2 en es
      rfl
    rw [if_neg k2]
    have ef : f = 0 := bits_zero (h2.resolve_left k2)
    by_cases k3 : k = 3
    · subst k3 en ef
      rfl
    have es : s = [] := h3.resolve_left k3
    have k0 : k = 0 := by omega
    subst k0 en ef es
    rfl

theorem trimp_any (x : List Nat) (w : World) (hx : ∀ c ∈ x, c < 256) :
    Calls Tryz.prog 74 #[.string (str x), .string ⟨#[32]⟩] w fun e w' => e = .returned (.string (str (trim32 x))) ∧ w = w' := by
  have h := Tryz.strings_TrimPrefix (str x) ⟨#[32]⟩ w
  have h1 : (str x).data.toList = x.map UInt8.ofNat := rfl
  have h2 : ((⟨#[32]⟩ : ByteArray)).data.toList = [32] := rfl
  rw [h1, h2] at h
  have e : (⟨(Lib.trimPrefix (x.map UInt8.ofNat) [32]).toArray⟩ : ByteArray) = str (trim32 x) := by
    unfold str
    congr 2
    unfold Lib.trimPrefix Lib.hasPrefix
    cases x with
    | nil => rfl
    | cons c r =>
      rw [List.map_cons, List.isPrefixOf_cons_cons]
      by_cases hc : c = 32
      · subst hc
        simp [trim32]
      · have hne : ((32 : UInt8) == UInt8.ofNat c) = false := by
          rw [beq_eq_false_iff_ne]
          intro e
          have e2 := congrArg UInt8.toNat e
          have h256 := hx c (by simp)
          rw [UInt8.toNat_ofNat'] at e2
          have : (32 : UInt8).toNat = 32 := rfl
          omega
        rw [hne, Bool.false_and]
        have ht : trim32 (c :: r) = c :: r := by
          unfold trim32
          split
          · rename_i y e
            exact absurd (List.cons.inj e).1 hc
          · rfl
        rw [ht]
        rfl
  rw [e] at h
  refine h.mono ?_
  rintro e w' ⟨rfl, rfl⟩
  exact ⟨rfl, rfl⟩

/-- guess does what it is to do at t levels. -/
def GuessAt (t : Nat) : Prop := ∀ (l : List Nat) (w : World), (∀ x ∈ l, x < 256) → l.length ≤ 100000 → Errs w → Tab16 w → (∀ i, IdxAt (l.drop i)) → Calls Tryz.prog 37 #[.string (str l), .int .i64 (t : Int)] w (GuessT w l t)

theorem glist_zero (q : List Nat) (w : World) : Calls Tryz.prog 58 #[.string (str q), .int .i64 0] w (GuessT w (91 :: q) 0) := by
  go_enter Tryz.func58, Tryz.ntmps58
  go_wp2
  go_ret2
  refine ⟨_, [], rfl, Below.refl _ _, .inl ⟨rfl, fun u r e hu _ _ => ?_⟩⟩
  obtain ⟨us, e1, _⟩ := list_text e hu
  rw [e1] at hu
  unfold rightN at hu
  simp [V.kind] at hu

/-- A valid list in its parts. -/
theorem list_right {n : Int} {f : Nat} {s : List Nat} {us : List V} {t : Nat} (h : rightN (t + 1) (.mk 4 n f s us) = true) : n = 0 ∧ bitsB f = 0 ∧ s = [] ∧ ∀ u ∈ us, rightN t u = true := by
  obtain ⟨⟨h1, h2, h3, _⟩, _⟩ := right_parts h
  unfold rightN at h
  rw [Bool.and_eq_true, Bool.and_eq_true, List.all_eq_true] at h
  exact ⟨h1.resolve_left (by omega), h2.resolve_left (by omega), h3.resolve_left (by omega), h.1.2⟩

theorem list_is_right {vs : List V} {t : Nat} (h : ∀ v ∈ vs, rightN t v = true) : rightN (t + 1) (.mk 4 0 0 [] vs) = true := by
  rw [rightN_list (v := .mk 4 0 0 [] vs) ⟨.inr rfl, .inr (show bitsB 0 = 0 by decide), .inr rfl, .inl rfl⟩ rfl, List.all_eq_true]
  exact h

/-- What guessList answers at the closing bracket. -/
theorem list_end {w wr : World} {q r : List Nat} {t : Nat} {vs : List V} {a : Option Addr} {cap : Nat} (hG : GL q t vs (93 :: r)) (hbr : Below w.heap.size w wr)
    (hle : vs.length ≤ cap ∧ cap ≤ 9223372036854775807 ∧ (vs = [] ∨ ∃ g, a = some ⟨g, 0, none⟩ ∧ (w.heap.size ≤ g ∧ g < wr.heap.size) ∧ VsInP (fun b => w.heap.size ≤ b ∧ b < wr.heap.size) wr vs g 0)) :
    GuessT w (91 :: q) (t + 1) (.returned (.tuple #[.iface 74 (.slice a vs.length cap), .string (str r)])) wr := by
  refine ⟨_, r, rfl, hbr, .inr ⟨.mk 4 0 0 [] vs, a, cap, rfl, ?_, list_is_right hG.right, ?_, ?_, fun u r0 e hu hsu _ => ?_⟩⟩
  · rw [VInP]
    exact ⟨by omega, by omega, by omega, by simp, by simp, a, cap, rfl, hle.1, hle.2.1, hle.2.2.imp id (fun ⟨g, e, hb, hv⟩ => ⟨g, 0, e, hb, hv⟩)⟩
  · obtain ⟨i, e1, hi⟩ := hG.at_
    have hlt : i < q.length := by
      rcases Nat.lt_or_ge i q.length with h | h
      · exact h
      · rw [List.drop_of_length_le h] at e1; cases e1
    refine ⟨i + 2, ?_, by omega, by rw [List.length_cons]; omega⟩
    rw [List.drop_succ_cons, ← List.drop_drop, ← e1]
    rfl
  · have h1 := hG.size
    have h2 := joinS_tsum vs
    rw [textV_list, List.length_cons, List.length_append]
    simp only [List.length_cons, List.length_nil] at h1 ⊢
    omega
  · obtain ⟨us, e1, _, e3⟩ := list_text e hu
    rw [e1] at hu hsu
    rw [soundV] at hsu
    obtain ⟨h1, h2, h3, h4⟩ := list_right hu
    obtain ⟨h5, h6⟩ := hG.end_ us r0 e3 h4 hsu.2.2.2
    refine ⟨?_, h6⟩
    rw [e1, sameV, h5, Bool.and_true, decide_eq_true_eq]
    exact ⟨rfl, h1.symm, h3.symm, by rw [h2]; decide⟩

/-- The string that is left, and the values so far. -/
def LsRel (w : World) (q : List Nat) (t : Nat) (d v : Value) (wr : World) : Prop :=
  ∃ (vs : List V) (x : List Nat), d = .string (str x) ∧ GL q t vs x ∧ OwnVs wr w.heap.size v vs ∧ Below w.heap.size w wr

theorem con_iface {v : V} {a : Option Addr} {cap t : Nat} (hr : rightN t v = true) : ∃ T p, conOf v.kind v.n v.f v.s a v.l.length cap = .iface T p := by
  obtain ⟨k, n, f, s, l⟩ := v
  obtain ⟨_, h0, h5, _⟩ := right_parts hr
  change ∃ T p, conOf k n f s a l.length cap = .iface T p
  unfold conOf
  by_cases k0 : k = 0
  · rw [if_pos k0]; exact ⟨_, _, rfl⟩
  rw [if_neg k0]
  by_cases k1 : k = 1
  · rw [if_pos k1]; exact ⟨_, _, rfl⟩
  rw [if_neg k1]
  by_cases k2 : k = 2
  · rw [if_pos k2]; exact ⟨_, _, rfl⟩
  rw [if_neg k2]
  by_cases k3 : k = 3
  · rw [if_pos k3]; exact ⟨_, _, rfl⟩
  rw [if_neg k3, if_pos (by omega)]
  exact ⟨_, _, rfl⟩

set_option maxRecDepth 100000 in
set_option maxHeartbeats 3200000 in
theorem glist_any (t : Nat) (ht : t ≤ 1000) (hA : GuessAt t) (q : List Nat) (w : World) (hq : ∀ x ∈ q, x < 256) (hn : q.length ≤ 100000) (he : Errs w) (hT : Tab16 w) (hix : ∀ i, IdxAt (q.drop i)) :
    Calls Tryz.prog 58 #[.string (str q), .int .i64 ((t + 1 : Nat) : Int)] w (GuessT w (91 :: q) (t + 1)) := by
  obtain ⟨T, hTe⟩ : ∃ T : Int, T = ((t + 1 : Nat) : Int) := ⟨_, rfl⟩
  have hT0 : (T == 0) = false := beq_eq_false_iff_ne.2 (by omega)
  have hT1 : T - 1 = (t : Int) := by omega
  have hT2 : 0 < T ∧ T ≤ 1001 := by omega
  rw [← hTe]
  have HA := Lib.hid hA
  have HQ := Lib.hid hq
  have HN := Lib.hid hn
  have HE := Lib.hid he
  have HT := Lib.hid hT
  have HX := Lib.hid hix
  clear hA hq hn he hT hix hTe
  go_enter Tryz.func58, Tryz.ntmps58
  go_wp2
  go_loopw [0, 6] (fun d v wr => LsRel w q t d v wr) (fun d _ _ => match d with | .string s => s.size | _ => 0)
  case atStart => exact ⟨[], q, rfl, GL.start q t, OwnVs.nil _ _, Below.refl _ _⟩
  case round =>
    obtain ⟨vs, x, rfl, hG, hO, hbr⟩ := hrel
    have HG := Lib.hid hG
    have HO := Lib.hid hO
    have Hbr := Lib.hid hbr
    obtain ⟨i, hxi, hi⟩ := hG.at_
    have hx8 : ∀ c ∈ x, c < 256 := fun c hc => HQ.out c (by rw [hxi] at hc; exact List.mem_of_mem_drop hc)
    have hxn : x.length ≤ q.length := by rw [hxi, List.length_drop]; omega
    by_cases h93 : ∃ r, x = 93 :: r
    · obtain ⟨r, rfl⟩ := h93
      have HC := Lib.hid (fun w => show Calls Tryz.prog 57 #[.string (str (93 :: r)), .string ⟨#[93]⟩] w _ from cut_yes 93 r w)
      obtain ⟨a, cap, rfl, hle⟩ := hO.lies
      have Hle := Lib.hid hle
      clear hG hO hbr hxi hx8 hxn hle
      generalize str (93 :: r) = S at *
      go_wp2_with fail
      refine (HC.out _).mono ?_
      rintro e w' ⟨rfl, rfl⟩
      go_wp2
      go_ret2
      exact list_end HG.out Hbr.out Hle.out
    · have hd93 : ∀ d, x ≠ 93 :: d := fun d e => h93 ⟨d, e⟩
      have HC := Lib.hid (fun w => show Calls Tryz.prog 57 #[.string (str x), .string ⟨#[93]⟩] w _ from cut_no 93 x w (by omega) hx8 hd93)
      have HP := Lib.hid (fun w => trimp_any x w hx8)
      obtain ⟨k, hk, hy⟩ := trim32_drop x
      have HA1 := Lib.hid (HA.out (trim32 x) wr (fun c hc => hx8 c (by rw [hy] at hc; exact List.mem_of_mem_drop hc)) (by have := trim32_len x; have := HN.out; omega) (HE.out.below Hbr.out) (tab_below HT.out Hbr.out)
        (fun j => by rw [hy, hxi, List.drop_drop, List.drop_drop]; exact HX.out _))
      have H93 := Lib.hid hd93
      have Hsz := Lib.hid (str_size x)
      clear hG hO hbr hxi hx8 hxn hk hy h93 hd93
      generalize str x = S at *
      generalize hY : str (trim32 x) = Y at *
      clear hY
      go_wp2_with fail
      refine (HC.out _).mono ?_
      rintro e w' ⟨rfl, rfl⟩
      go_wp2_with fail
      refine (HP.out _).mono ?_
      rintro e w' ⟨rfl, rfl⟩
      go_wp2_with fail
      refine HA1.out.mono ?_
      rintro e w2 ⟨con, rest, rfl, hb2, ⟨rfl, hno⟩ | ⟨v, a, cap, hc, hv, hr, hat, hsz, hco⟩⟩
      · have Hno := Lib.hid (HG.out.none H93.out hno)
        have Hb2 := Lib.hid (Hbr.out.trans (hb2.mono Hbr.out.size))
        clear hno hb2
        go_wp2
        go_ret2
        refine ⟨_, [], rfl, Hb2.out, .inl ⟨rfl, fun u r e hu hsu _ => ?_⟩⟩
        obtain ⟨us, e1, _, e3⟩ := list_text e hu
        rw [e1] at hu hsu
        rw [soundV] at hsu
        exact Hno.out us r e3 (list_right hu).2.2.2 hsu.2.2.2
      · obtain ⟨T', p', hci⟩ := con_iface (a := a) (cap := cap) hr
        obtain ⟨a2, cap2, hwh, hv2⟩ := whole_in hr hv
        have HW := Lib.hid (fun w => whole_any v.kind v.n v.f v.s a v.l.length cap w)
        rw [hwh] at HW
        rw [hc]
        rw [hci] at HW ⊢
        have HS := Lib.hid (HG.out.step H93.out hr hat hsz hco)
        have Hrl := Lib.hid (show rest.length < x.length from by
          obtain ⟨i1, e1, h1, h2⟩ := hat
          have := trim32_len x
          rw [e1, List.length_drop]
          omega)
        have Hb2 := Lib.hid hb2
        have Hv2 := Lib.hid hv2
        clear hc hci hwh hb2 hv hv2 hr hat hsz hco
        go_wp2_with fail
        refine (HW.out _).mono ?_
        rintro e w3 ⟨rfl, hb3⟩
        have hO2 := (HO.out.keep (fun b _ hb => Hb2.out.block b hb) Hb2.out.size).keep (fun b _ hb => hb3.block b hb) hb3.size
        have hal : Below w3.heap.size w3 (w3.alloc (.cells #[.int .i64 v.kind, .int .i64 v.n, .float .f64 v.f, .string (str v.s), .slice a2 v.l.length cap2] 25)) := (Below.refl _ _).alloc (Nat.le_refl _) _
        have hO3 := hO2.keep (fun b _ hb => hal.block b hb) hal.size
        have hblk := fun e => (HO.out.block (g := e))
        obtain ⟨cs, hcl, hrow, hel⟩ := hO3
        have hbw : Below w.heap.size w (w3.alloc (.cells #[.int .i64 v.kind, .int .i64 v.n, .float .f64 v.f, .string (str v.s), .slice a2 v.l.length cap2] 25)) := Hbr.out.trans ((Hb2.out.trans ((hb3.trans (hal.mono hb3.size)).mono Hb2.out.size)).mono Hbr.out.size)
        have hu : VInP (fun b => w.heap.size ≤ b ∧ some b ≠ u6.ownBlock ∧ b < (w3.alloc (.cells #[.int .i64 v.kind, .int .i64 v.n, .float .f64 v.f, .string (str v.s), .slice a2 v.l.length cap2] 25)).heap.size) (w3.alloc (.cells #[.int .i64 v.kind, .int .i64 v.n, .float .f64 v.f, .string (str v.s), .slice a2 v.l.length cap2] 25)) v (cells5 v.kind v.n v.f v.s a2 v.l.length cap2) :=
          VInP.turn (fun b hq => ⟨by have := Hbr.out.size; omega, (fun e => by have := (hblk _ e.symm).2; omega), by have := hal.size; have := hb3.size; omega⟩) (fun p hp => by unfold World.cell?; rw [hal.block p.block (by have := hb3.size; omega), hb3.block p.block hp.2]) v _ Hv2.out
        have Hcl := Lib.hid hcl
        have Hrow := Lib.hid hrow
        have Hel := Lib.hid hel
        have Hu := Lib.hid hu
        have Hbw := Lib.hid hbw
        have Hvl := Lib.hid (show vs.length ≤ 300001 from by
          have h1 := HG.out.size
          have h2 := joinS_tsum vs
          have h3 := join_len (textVs vs)
          rw [textVs_map, List.length_map, ← textVs_map] at h3
          have := HN.out
          omega)
        clear hb3 hO2 hal hblk hcl hrow hel hbw hu
        obtain ⟨i0, hi, hz0, hz1, hz2⟩ := info_parts info_value
        go_wp2_with (at_builtin; refine wpList_append_lies _ rfl _ _ 74 rfl w.heap.size 25 i0 _ 5 64 Tryz.underlying74 hi hz0 hz1 hz2 rfl (by decide) u6 vs.length _ rfl Hrow.out ⟨w3.heap.size, 0, none⟩ 1 1 [.int .i64 v.kind, .int .i64 v.n, .float .f64 v.f, .string (str v.s), .slice a2 v.l.length cap2] rfl rfl (World.news_of_block (heap_alloc_new w3 _)) (by simp [Value.oneCell']) (by decide) (by have := Hvl.out; rw [maxLen_nat]; omega) (by have := Hvl.out; omega) Hbw.out.size _ rfl ?_; intro g cap4 w4 g1 g2 g3 g4; have hO4 := OwnVs.snoc Hcl.out Hel.out Hu.out g1 g2 (g3.imp (fun e => e.symm) (fun e => by rw [e]; rfl)))
        case roundEnd =>
          refine ⟨⟨vs ++ [v], rest, rfl, HS.out, hO4, Hbw.out.grown g2 Hbw.out.size (fun k hk => (Hrow.out.lt k hk).1)⟩, ?_⟩
          show (str rest).size < S.size
          rw [str_size, Hsz.out]
          exact Hrl.out
end Go.Proofs.YtfapajmbmgpipaaGreatDoor

/- Parse of the code. -/
namespace Go.Proofs.YtfapajmbmgpipaaGreatDoor
open Go.RowKit Go.Shelf Fl

theorem guess_all : ∀ t, t ≤ 1000 → GuessAt t
  | 0, _ => fun l w hl hn he hT hix => vguess_any 0 l w hl hn he hT (hix 0) (fun d e => by rw [e]; exact glist_zero d w)
  | t + 1, h => fun l w hl hn he hT hix => vguess_any (t + 1) l w hl hn he hT (hix 0) (fun d e => by
      subst e
      exact glist_any t (by omega) (guess_all t (by omega)) d w (fun x hx => hl x (by simp [hx])) (by rw [List.length_cons] at hn; omega) he hT (fun i => hix (i + 1)))

mutual
/-- The same values have the same text. -/
theorem same_text : ∀ u v : V, sameV u v = true → textV u = textV v
  | .mk k n f s l, .mk k' n' f' s' l', h => by
    rw [sameV, Bool.and_eq_true, decide_eq_true_eq] at h
    obtain ⟨⟨rfl, rfl, rfl, hf⟩, hl⟩ := h
    rw [textV, textV, hf, same_texts l l' hl]
theorem same_texts : ∀ u v : List V, sameL u v = true → textVs u = textVs v
  | [], [], _ => rfl
  | [], _ :: _, h => by simp [sameL] at h
  | _ :: _, [], h => by simp [sameL] at h
  | a :: r, b :: q, h => by
    rw [sameL, Bool.and_eq_true] at h
    rw [textVs, textVs, same_text a b h.1, same_texts r q h.2]
end

/-- What Parse answers. -/
def VParseEnd (w : World) (l : List Nat) (e : Ending) (w' : World) : Prop :=
  ∃ (v : V) (x : Array Value) (ok : Bool), e = .returned (.tuple #[.agg x, .bool ok]) ∧ VIn w' v x ∧ Below w.heap.size w w' ∧ (ok = true → rightN 8 v = true ∧ textV v = l) ∧
    (ok = false → v = .mk 0 0 0 [] [] ∧ ∀ u, rightN 8 u = true → soundV u → textV u ≠ l)

theorem joinS_byte : ∀ a : List (List Nat), (∀ x ∈ a, ∀ c ∈ x, c < 256) → ∀ c ∈ joinS a, c < 256
  | [], _, c, hc => by simp [joinS] at hc
  | [y], h, c, hc => h y (by simp) c hc
  | y :: z :: r, h, c, hc => by
    rw [joinS] at hc
    rcases List.mem_append.1 hc with e | e
    · exact h y (by simp) c e
    · rcases List.mem_cons.1 e with e | e
      · omega
      · exact joinS_byte (z :: r) (fun x hx => h x (by simp [hx])) c e

theorem text_byte : ∀ v : V, soundV v → ∀ c ∈ textV v, c < 256 := by
  refine V.ind ?_
  rintro ⟨k, n, f, s, l⟩ ih hs c hc
  change ∀ u ∈ l, _ at ih
  rw [soundV] at hs
  rw [textV] at hc
  split at hc
  · exact decL_byte n c hc
  split at hc
  · rcases List.mem_cons.1 hc with e | e
    · omega
    · exact textL_byte _ c e
  split at hc
  · rcases List.mem_cons.1 hc with e | e
    · omega
    · rcases List.mem_append.1 e with e | e
      · exact hex2_byte hs.2.2.1 c e
      · have := List.mem_singleton.1 e; omega
  split at hc
  · rcases List.mem_cons.1 hc with e | e
    · omega
    · rcases List.mem_append.1 e with e | e
      · refine joinS_byte _ (fun x hx => ?_) c e
        rw [textVs_map] at hx
        obtain ⟨u, hu, rfl⟩ := List.mem_map.1 hx
        exact ih u hu (soundL_mem hs.2.2.2 u hu)
      · have := List.mem_singleton.1 e; omega
  · simp at hc; omega

theorem set5_block {w1 : World} {g b : Nat} (h : b ≠ g) (a1 a2 a3 a4 a5 : Value) : (((((w1.setCell ⟨g, 0, none⟩ a1).setCell ⟨g, 1, none⟩ a2).setCell ⟨g, 2, none⟩ a3).setCell ⟨g, 3, none⟩ a4).setCell ⟨g, 4, none⟩ a5).heap[b]? = w1.heap[b]? := by
  rw [Below.heap_setCell _ _ _ _ h, Below.heap_setCell _ _ _ _ h, Below.heap_setCell _ _ _ _ h, Below.heap_setCell _ _ _ _ h, Below.heap_setCell _ _ _ _ h]

theorem vin_zero (w : World) : VIn w (.mk 0 0 0 [] []) (cells5 0 0 0 [] none 0 0) := by
  rw [VIn]
  exact ⟨by omega, by omega, by omega, by simp, by simp, none, 0, rfl, Nat.le_refl _, by omega, .inl rfl⟩

set_option maxRecDepth 100000 in
set_option maxHeartbeats 1600000 in
theorem vparse_any (l : List Nat) (w : World) (hl : ∀ x ∈ l, x < 256) (hn : l.length ≤ 100000) (he : Errs w) (hT : Tab16 w) (hP : Pow10 w) (hix : ∀ i, IdxAt (l.drop i)) :
    Calls Tryz.prog 18 #[.string (str l)] w (VParseEnd w l) := by
  have hb0 := (Below.refl w.heap.size w).alloc (Nat.le_refl _) (.cells #[.int .i64 0, .int .i64 0, .float .f64 0, .string ⟨#[]⟩, .slice none 0 0] 25)
  have HA := Lib.hid (guess_all 8 (by omega) l _ hl hn (he.below hb0) (tab_below hT hb0) hix)
  have HT := Lib.hid (tab_below hT hb0)
  have HP := Lib.hid (hP.below hb0)
  have Hb0 := Lib.hid hb0
  have HN := Lib.hid hn
  have HL := Lib.hid hl
  have hfl : ∀ (w : World) (a : Addr) (m : Mode) (b : Nat), (store a (.float .f64 b) m).run Tryz.prog w = stored Tryz.prog w a (.float .f64 b) m := fun w a m b => run_store Tryz.prog w a _ m rfl
  have H0 := Lib.hid (heap_alloc_new w (.cells #[.int .i64 0, .int .i64 0, .float .f64 0, .string ⟨#[]⟩, .slice none 0 0] 25))
  have hwz : (w.alloc (.cells #[.int .i64 0, .int .i64 0, .float .f64 0, .string ⟨#[]⟩, .slice none 0 0] 25)).heap.size = w.heap.size + 1 := by simp
  have HLS := Lib.hid (str_eq l)
  clear hl hn he hT hP hix hb0
  go_enter Tryz.func18, Tryz.ntmps18
  go_wp2_with fail
  generalize w.alloc (.cells #[.int .i64 0, .int .i64 0, .float .f64 0, .string ⟨#[]⟩, .slice none 0 0] 25) = w1 at *
  refine HA.out.mono ?_
  rintro e w2 ⟨con, rest, rfl, hb2, hcon⟩
  have hres := (hb2.block w.heap.size (by omega)).trans H0.out
  obtain ⟨⟨z0, z1, z2, z3, z4⟩, ⟨y0, y1, y2, y3, y4⟩⟩ := res_cells hres
  have Hres := Lib.hid hres
  have Hb2 := Lib.hid hb2
  have Hbw := Lib.hid (Hb0.out.trans (hb2.mono (by omega)))
  clear hb2 hres
  rcases hcon with ⟨rfl, hno⟩ | ⟨v, a, cap, hc, hv, hr, hat, hsz, hco⟩
  · have Hno := Lib.hid hno
    clear hno
    go_wp2_with fail
    refine bodyPost_ret (v := .tuple #[.agg #[.int .i64 0, .int .i64 0, .float .f64 0, .string (str []), .slice none 0 0], .bool false]) (by simp [results, Tryz.results18, go_sem, *]; rfl) rfl ?_
    refine ⟨.mk 0 0 0 [] [], _, false, rfl, vin_zero _, set5 Hbw.out _ _ _ _ _, (fun h => by cases h), fun _ => ⟨rfl, fun u hu hsu e => ?_⟩⟩
    exact Hno.out u [] (by rw [List.append_nil, e]) hu hsu ends_nil
  · obtain ⟨T, pv, f, hci, hm, hen, hcall⟩ := textAt_any v 8 a cap w2 hr (VInP.weak v _ hv) (by have := HN.out; omega) (HP.out.below Hb2.out) (tab_below HT.out Hb2.out)
    rw [hci] at hc
    obtain ⟨a2, cap2, hwh, hv2⟩ := whole_in hr hv
    have HW := Lib.hid (fun w => whole_any v.kind v.n v.f v.s a v.l.length cap w)
    rw [hwh, hci] at HW
    subst hc
    have HM := Lib.hid hm
    have HK := Lib.hid hcall
    have Hco := Lib.hid hco
    have Hr := Lib.hid hr
    have Hv2 := Lib.hid hv2
    have HLt := Lib.hid (text_byte v (VIn.sound v _ (VInP.weak v _ hv)))
    clear hci hm hcall hwh hv hv2 hr hat hsz hco
    go_wp2_with fail
    rw [HM.out]
    go_wp2_with fail
    refine (HK.out _ (Below.refl _ _)).mono ?_
    rintro e w3 ⟨rfl, hb3⟩
    by_cases htx : textV v = l
    · have hq : ((str (textV v)).toList == (str l).toList) = true := by rw [htx]; exact HLS.out
      have Htx := Lib.hid htx
      have hres3 := (hb3.block w.heap.size (by have := Hb2.out.size; omega)).trans Hres.out
      have Hb3 := Lib.hid hb3
      have Hres3 := Lib.hid hres3
      generalize str (textV v) = S at *
      clear hb3 htx z0 z1 z2 z3 z4 y0 y1 y2 y3 y4 hres3
      go_wp2_with fail
      refine (HW.out _).mono ?_
      rintro e w4 ⟨rfl, hb4⟩
      obtain ⟨⟨z0, z1, z2, z3, z4⟩, ⟨y0, y1, y2, y3, y4⟩⟩ := res_cells ((hb4.block w.heap.size (by have := Hb2.out.size; have := Hb3.out.size; omega)).trans Hres3.out)
      have Hb4 := Lib.hid (Hb3.out.trans (hb4.mono Hb3.out.size))
      clear hb4
      unfold cells5 at *
      go_wp2
      refine bodyPost_ret (v := .tuple #[.agg #[.int .i64 v.kind, .int .i64 v.n, .float .f64 v.f, .string (str v.s), .slice a2 v.l.length cap2], .bool true]) (by simp [results, Tryz.results18, go_sem, *]) rfl ?_
      refine ⟨v, _, true, rfl, VInP.weak v _ (VInP.turn (fun _ h => h) (fun p hp => ?_) v _ Hv2.out), set5 (Hbw.out.trans (Hb4.out.mono Hbw.out.size)) _ _ _ _ _, fun _ => ⟨Hr.out, Htx.out⟩, (fun h => by cases h)⟩
      unfold World.cell?
      rw [set5_block (by omega), Hb4.out.block p.block hp.2]
    · have hq : ((str (textV v)).toList == (str l).toList) = false := str_ne HLt.out HL.out htx
      have Htx := Lib.hid htx
      have hres3 := (hb3.block w.heap.size (by have := Hb2.out.size; omega)).trans Hres.out
      have Hb3 := Lib.hid (Hbw.out.trans (hb3.mono Hbw.out.size))
      generalize str (textV v) = S at *
      clear hb3 htx z0 z1 z2 z3 z4 y0 y1 y2 y3 y4
      obtain ⟨⟨z0, z1, z2, z3, z4⟩, ⟨y0, y1, y2, y3, y4⟩⟩ := res_cells hres3
      clear hres3
      go_wp2
      refine bodyPost_ret (v := .tuple #[.agg #[.int .i64 0, .int .i64 0, .float .f64 0, .string (str []), .slice none 0 0], .bool false]) (by simp [results, Tryz.results18, go_sem, *]; rfl) rfl ?_
      refine ⟨.mk 0 0 0 [] [], _, false, rfl, vin_zero _, set5 Hb3.out _ _ _ _ _, (fun h => by cases h), fun _ => ⟨rfl, fun u hu hsu e => ?_⟩⟩
      have h1 := (Hco.out u [] (by rw [List.append_nil, e]) hu hsu ends_nil).1
      exact Htx.out ((same_text _ _ h1).trans e)
end Go.Proofs.YtfapajmbmgpipaaGreatDoor

/- The forms of numbers and the reading of them, on lists of plain numbers; no program is named. -/
namespace Go.Proofs.YtfapajmbmgpipaaGreatDoor

/-- The form of a number. -/
def form (x : Nat) : List Nat := if x < 128 then [x] else (x % 128 + 128) :: form (x / 128)
termination_by x
decreasing_by omega

theorem form_small {x : Nat} (h : x < 128) : form x = [x] := by rw [form, if_pos h]
theorem form_big {x : Nat} (h : 128 ≤ x) : form x = (x % 128 + 128) :: form (x / 128) := by rw [form, if_neg (by omega)]

theorem form_ne (x : Nat) : form x ≠ [] := by
  by_cases h : x < 128
  · rw [form_small h]; simp
  · rw [form_big (by omega)]; simp

theorem form_pos (x : Nat) : 0 < (form x).length := List.length_pos_iff.2 (form_ne x)

theorem form_byte (x : Nat) : ∀ y ∈ form x, y < 256 := by
  induction x using Nat.strongRecOn with
  | ind x ih =>
    intro y hy
    by_cases h : x < 128
    · rw [form_small h] at hy
      simp only [List.mem_singleton] at hy
      omega
    · rw [form_big (by omega)] at hy
      rcases List.mem_cons.1 hy with rfl | hy
      · omega
      · exact ih (x / 128) (by omega) y hy

theorem form_le (k : Nat) : ∀ x : Nat, x < 128 ^ (k + 1) → (form x).length ≤ k + 1 := by
  induction k with
  | zero => intro x h; rw [form_small (by simpa using h)]; simp
  | succ k ih =>
    intro x h
    by_cases hx : x < 128
    · rw [form_small hx]; simp
    · rw [form_big (by omega), List.length_cons]
      have := ih (x / 128) (by rw [Nat.div_lt_iff_lt_mul (by omega), ← Nat.pow_succ]; exact h)
      omega

theorem form_len {x : Nat} (h : x < 18446744073709551616) : (form x).length ≤ 10 := form_le 9 x (by omega)

/-- What reading a number yields, from the i-th digit on, x having been read: the number, and how many bytes it has; 0 if there is none. -/
def numL : List Nat → Nat → Nat → Nat × Nat
  | [], _, _ => (0, 0)
  | c :: r, i, x =>
    if i = 10 then (0, 0) else if i = 9 ∧ 1 < c % 128 then (0, 0) else
    if c < 128 then (if 0 < i ∧ c % 128 = 0 then (0, 0) else (x + c % 128 * 128 ^ i, i + 1)) else numL r (i + 1) (x + c % 128 * 128 ^ i)

theorem numL_nil (i x : Nat) : numL [] i x = (0, 0) := rfl
theorem numL_ten (l : List Nat) (x : Nat) : numL l 10 x = (0, 0) := by cases l <;> simp [numL]
theorem numL_nine {c : Nat} {r : List Nat} {x : Nat} (h : 1 < c % 128) : numL (c :: r) 9 x = (0, 0) := by simp [numL, h]
theorem numL_zero {c : Nat} {r : List Nat} {i x : Nat} (hi : i < 10) (h : c < 128) (h0 : 0 < i) (hc : c % 128 = 0) : numL (c :: r) i x = (0, 0) := by
  rw [numL, if_neg (by omega), if_neg (by omega), if_pos h, if_pos ⟨h0, hc⟩]
theorem numL_last {c : Nat} {r : List Nat} {i x : Nat} (hi : i < 10) (h9 : ¬ (i = 9 ∧ 1 < c % 128)) (h : c < 128) (h0 : ¬ (0 < i ∧ c % 128 = 0)) : numL (c :: r) i x = (x + c % 128 * 128 ^ i, i + 1) := by
  rw [numL, if_neg (by omega), if_neg h9, if_pos h, if_neg h0]
theorem numL_more {c : Nat} {r : List Nat} {i x : Nat} (hi : i < 10) (h9 : ¬ (i = 9 ∧ 1 < c % 128)) (h : ¬ c < 128) : numL (c :: r) i x = numL r (i + 1) (x + c % 128 * 128 ^ i) := by
  rw [numL, if_neg (by omega), if_neg h9, if_neg h]

theorem drop_cons {l : List Nat} {k : Nat} (h : k < l.length) : l.drop k = l.getD k 0 :: l.drop (k + 1) := by
  rw [List.drop_eq_getElem_cons h, List.getD_eq_getElem?_getD, List.getElem?_eq_getElem h]; rfl

/-- Reading inverts writing. -/
theorem numL_form (y : Nat) : ∀ (i x : Nat) (r : List Nat), i < 10 → y * 128 ^ i < 18446744073709551616 → (0 < i → y ≠ 0) → numL (form y ++ r) i x = (x + y * 128 ^ i, i + (form y).length) := by
  induction y using Nat.strongRecOn with
  | ind y ih =>
    intro i x r hi hy h0
    have h9 : i = 9 → y < 2 := by
      intro e
      subst e
      omega
    by_cases h : y < 128
    · rw [form_small h, List.singleton_append, numL_last hi (by omega) h (by omega), Nat.mod_eq_of_lt h]; rfl
    · have hi9 : i < 9 := by
        rcases Nat.lt_or_ge i 9 with hh | hh
        · exact hh
        · have := h9 (by omega); omega
      rw [form_big (by omega), List.cons_append, numL_more hi (by omega) (by omega)]
      have e1 : (y % 128 + 128) % 128 = y % 128 := by omega
      have e2 : y / 128 * 128 ^ (i + 1) = (y / 128 * 128) * 128 ^ i := by rw [Nat.pow_succ, Nat.mul_assoc, Nat.mul_comm 128]
      have e3 : y % 128 * 128 ^ i + y / 128 * 128 ^ (i + 1) = y * 128 ^ i := by
        rw [e2, ← Nat.add_mul]
        congr 1
        omega
      rw [e1, ih (y / 128) (by omega) (i + 1) _ r (by omega) (by omega) (fun _ => by omega)]
      rw [Nat.add_assoc, e3, List.length_cons, Nat.add_assoc, Nat.add_comm 1]

theorem numL_of_form {y : Nat} (h : y < 18446744073709551616) (r : List Nat) : numL (form y ++ r) 0 0 = (y, (form y).length) := by
  rw [numL_form y 0 0 r (by omega) (by simpa using h) (fun h => absurd h (by omega))]
  simp

/-- What is read is a form. -/
theorem numL_only (l : List Nat) : ∀ (i x z n : Nat), i ≤ 10 → (∀ c ∈ l, c < 256) → numL l i x = (z, n) → 0 < n →
    ∃ (y : Nat) (r : List Nat), l = form y ++ r ∧ z = x + y * 128 ^ i ∧ n = i + (form y).length ∧ (0 < i → y ≠ 0) ∧ y * 128 ^ i < 18446744073709551616 := by
  induction l with
  | nil => intro i x z n _ _ h h0; rw [numL_nil] at h; cases h; omega
  | cons c r ih =>
    intro i x z n hi hb h h0
    have hc : c < 256 := hb c (by simp)
    by_cases hi10 : i = 10
    · subst hi10; rw [numL_ten] at h; cases h; omega
    by_cases h9 : i = 9 ∧ 1 < c % 128
    · obtain ⟨rfl, h9⟩ := h9; rw [numL_nine h9] at h; cases h; omega
    have hp : 128 ^ i ≤ 128 ^ 9 := Nat.pow_le_pow_right (by omega) (by omega)
    have hp8 : i < 9 → 128 ^ i ≤ 128 ^ 8 := fun h => Nat.pow_le_pow_right (by omega) (by omega)
    by_cases hlt : c < 128
    · by_cases hz : 0 < i ∧ c % 128 = 0
      · rw [numL_zero (by omega) hlt hz.1 hz.2] at h; cases h; omega
      · rw [numL_last (by omega) h9 hlt hz] at h
        cases h
        refine ⟨c, r, by rw [form_small hlt]; rfl, by rw [Nat.mod_eq_of_lt hlt], by rw [form_small hlt]; rfl, fun h e => hz ⟨h, by omega⟩, ?_⟩
        by_cases e9 : i = 9
        · subst e9; omega
        · have := hp8 (by omega)
          have h2 : c * 128 ^ i ≤ 127 * 128 ^ 8 := Nat.mul_le_mul (by omega) this
          omega
    · rw [numL_more (by omega) h9 hlt] at h
      obtain ⟨y, r', rfl, rfl, rfl, hy, hlim⟩ := ih (i + 1) _ _ _ (by omega) (fun c hc => hb c (by simp [hc])) h h0
      have hy1 : y ≠ 0 := hy (by omega)
      have e1 : (c % 128 + y * 128) / 128 = y := by omega
      have e2 : (c % 128 + y * 128) % 128 + 128 = c := by omega
      have e3 : form (c % 128 + y * 128) = c :: form y := by rw [form_big (by omega), e1, e2]
      have e4 : c % 128 * 128 ^ i + y * 128 ^ (i + 1) = (c % 128 + y * 128) * 128 ^ i := by
        rw [Nat.add_mul, Nat.pow_succ, Nat.mul_assoc, Nat.mul_comm 128]
      refine ⟨c % 128 + y * 128, r', by rw [e3]; rfl, by rw [Nat.add_assoc, e4], by rw [e3, List.length_cons]; omega, fun _ => by omega, ?_⟩
      rw [← e4]
      by_cases e8 : i = 9
      · subst e8
        exfalso
        exact absurd hlim (Nat.not_lt.2 (Nat.le_trans (by decide) (Nat.mul_le_mul (Nat.pos_of_ne_zero hy1) (Nat.le_refl _))))
      · have h2 : c % 128 * 128 ^ i < 128 * 128 ^ i := Nat.mul_lt_mul_of_pos_right (by omega) (Nat.pow_pos (by omega))
        have h3 : 128 * 128 ^ i = 128 ^ (i + 1) := by rw [Nat.pow_succ, Nat.mul_comm]
        have h5 : 128 ^ (i + 1) ∣ 18446744073709551616 ∨ i = 8 := by
          by_cases e : i = 8
          · exact .inr e
          · left
            have : (18446744073709551616 : Nat) = 128 ^ (i + 1) * (2 ^ (64 - 7 * (i + 1))) := by
              rw [show (128 : Nat) = 2 ^ 7 from rfl, ← Nat.pow_mul, ← Nat.pow_add]
              rw [show 7 * (i + 1) + (64 - 7 * (i + 1)) = 64 by omega]
            rw [this]
            exact Nat.dvd_mul_right _ _
        have h5 : 128 ^ (i + 1) ∣ 18446744073709551616 := by
          rcases h5 with h | rfl
          · exact h
          · exact ⟨2, by decide⟩
        obtain ⟨q, hq⟩ := h5
        rw [hq] at hlim ⊢
        have h6 : y < q := by
          rw [Nat.mul_comm] at hlim
          exact Nat.lt_of_mul_lt_mul_left hlim
        have h7 : (y + 1) * 128 ^ (i + 1) ≤ q * 128 ^ (i + 1) := Nat.mul_le_mul_right _ h6
        rw [Nat.add_mul, Nat.one_mul] at h7
        rw [Nat.mul_comm (128 ^ (i + 1)) q]
        omega

theorem numL_read {l : List Nat} {z n : Nat} (hb : ∀ c ∈ l, c < 256) (h : numL l 0 0 = (z, n)) (h0 : 0 < n) : z < 18446744073709551616 ∧ n ≤ l.length ∧ l = form z ++ l.drop n := by
  obtain ⟨y, r, rfl, rfl, rfl, _, h2⟩ := numL_only l 0 0 z n (by omega) hb h h0
  simp only [Nat.pow_zero, Nat.mul_one, Nat.zero_add] at h2 ⊢
  refine ⟨h2, by rw [List.length_append]; omega, by rw [List.drop_left]⟩

theorem numL_size_le {l : List Nat} {z n : Nat} (hb : ∀ c ∈ l, c < 256) (h : numL l 0 0 = (z, n)) : n ≤ l.length ∧ n ≤ 10 ∧ z < 18446744073709551616 ∧ (n = 0 → z = 0) := by
  rcases Nat.eq_zero_or_pos n with rfl | h0
  · have hz : ∀ (l : List Nat) (i x z : Nat), numL l i x = (z, 0) → z = 0 := by
      intro l
      induction l with
      | nil => intro i x z h; rw [numL_nil] at h; cases h; rfl
      | cons c r ih =>
        intro i x z h
        unfold numL at h
        split at h
        · cases h; rfl
        · split at h
          · cases h; rfl
          · split at h
            · split at h
              · cases h; rfl
              · cases h
            · exact ih _ _ _ h
    have := hz l 0 0 z h
    subst this
    exact ⟨Nat.zero_le _, by omega, by omega, fun _ => rfl⟩
  · obtain ⟨h1, h2, h3⟩ := numL_read hb h h0
    refine ⟨h2, ?_, h1, fun h => by omega⟩
    have h4 := numL_of_form h1 (l.drop n)
    rw [← h3, h] at h4
    cases h4
    exact form_len h1

/-- The form of a number with a sign. -/
def foldL (y : Int) : Nat := if 0 ≤ y then 2 * y.toNat else (-(2 * y) - 1).toNat
def unfoldL (u : Nat) : Int := if u % 2 = 0 then ((u / 2 : Nat) : Int) else -((u / 2 : Nat) : Int) - 1

theorem unfold_fold (y : Int) : unfoldL (foldL y) = y := by unfold unfoldL foldL; split <;> split <;> omega
theorem fold_lt {y : Int} (h1 : -9223372036854775808 ≤ y) (h2 : y ≤ 9223372036854775807) : foldL y < 18446744073709551616 := by unfold foldL; split <;> omega
end Go.Proofs.YtfapajmbmgpipaaGreatDoor

/- The walk of the reference's Uint: it returns the form of the number, in memory of its own. -/
namespace Go.Proofs.YtfapajmbmgpipaaGreatDoor
open Go.RowKit

/-- A new row of one byte. -/
theorem one_bytes (w : World) {z : Int} {x : Nat} (h : z = (x : Int)) (hx : x < 256) : Bytes (w.alloc (.cells #[.int .u8 z] 5)) (some ⟨w.heap.size, 0, none⟩) 1 1 [x] := by
  subst h
  exact bytes_of_own (new_row w [x] (by simp)) (by simpa using hx)

def FormRel (w : World) (x : Nat) (u v : Value) (wr : World) : Prop :=
  ∃ (pre : List Nat) (y : Nat), u = .int .u64 y ∧ y < 18446744073709551616 ∧ form x = pre ++ form y ∧ wr.ownsRow w.heap.size 5 1 v pre.length (u8s pre) ∧ Below w.heap.size w wr

theorem formRel_step {w wr w1 : World} {x y : Nat} {pre : List Nat} {v v' : Value} {u : Value} (hy : 128 ≤ y) (hl : y < 18446744073709551616) (hf : form x = pre ++ form y) (hu : u = .int .u64 ((y / 128 : Nat) : Int))
    (hown : wr.ownsRow w.heap.size 5 1 v pre.length (u8s pre)) (hbel : Below w.heap.size w wr) {o : Obj}
    (g1 : w1.ownsRow w.heap.size 5 1 v' (pre.length + 1) (u8s (pre ++ [y % 128 + 128]))) (g2 : (wr.alloc o).grownBy w1 v.ownBlock) : FormRel w x u v' w1 := by
  refine ⟨pre ++ [y % 128 + 128], y / 128, hu, by omega, by rw [hf, form_big hy]; simp, by rw [List.length_append]; exact g1, ?_⟩
  have hb : Below w.heap.size w (wr.alloc o) := hbel.alloc hbel.size o
  exact hb.grown g2 hb.size (fun x hx => (hown.lt x hx).1)

theorem form_pre_len {x y : Nat} {pre : List Nat} (hx : x < 18446744073709551616) (h : form x = pre ++ form y) : pre.length ≤ 9 := by
  have h1 := form_len hx
  have h2 := form_pos y
  rw [h, List.length_append] at h1
  omega

set_option maxRecDepth 100000 in
set_option maxHeartbeats 800000 in
theorem ruint_any (x : Nat) (w : World) (hx : x < 18446744073709551616) :
    Calls Tryz.prog 44 #[.int .u64 (x : Int)] w (NewBytes w (form x)) := by
  go_enter Tryz.func44, Tryz.ntmps44
  go_wp2
  go_loopw [0, 3] (fun u v wr => FormRel w x u v wr) (fun u _ _ => (intOf u).toNat)
  case atStart => exact ⟨[], x, rfl, hx, rfl, World.ownsRow_nil _ _ _ _, Below.refl _ _⟩
  case round =>
    obtain ⟨pre, y, rfl, hy, hf, hown, hbel⟩ := hrel
    have h9 := form_pre_len hx hf
    have Hf := Lib.hid hf
    clear hf
    have hsz := hbel.size
    have Hx := Lib.hid hx
    clear hx
    by_cases hlt : 128 ≤ y
    · go_wp2_with (at_builtin; refine wpList_append_bytes _ rfl _ _ 28 rfl w.heap.size 5 Tryz.underlying28 info_u8 _ _ _ rfl (hown.alloc _) _ 1 1 [y % 128 + 128] rfl (one_bytes _ (by omega) (by omega)) (by omega) (by simp; omega) ?_; intro v' w1 g1 g2)
      go_roundw
      case rel => exact formRel_step hlt hy Hf.out (by go_num) hown hbel g1 g2
      case measure => simp [intOf]; omega
    · go_wp2_with (at_builtin; refine wpList_append_bytes _ rfl _ _ 28 rfl w.heap.size 5 Tryz.underlying28 info_u8 _ _ _ rfl (hown.alloc _) _ 1 1 [y] rfl (one_bytes _ (by omega) (by omega)) (by omega) (by simp; omega) ?_; intro v' w1 g1 g2)
      go_ret
      have hb : Below w.heap.size w (wr.alloc (.cells #[.int .u8 (y : Int)] 5)) := hbel.alloc hbel.size _
      refine ⟨_, rfl, ?_, hb.grown g2 hb.size (fun x hx => (hown.lt x hx).1)⟩
      rw [Hf.out, form_small (by omega), List.length_append]
      exact g1
end Go.Proofs.YtfapajmbmgpipaaGreatDoor

