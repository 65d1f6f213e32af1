import Derived.Test.YtpnfnmeilhiebaaGreatDoorMP19
import Derived.Test.YtpnfnmeilhiebaaGreatDoorMP21
/- The walk of the reference's parse where no list begins. -/
namespace Go.Proofs.YtpnfnmeilhiebaaGreatDoor
open Go.RowKit Fl

/-- No space and no closing bracket. -/
def NoEnd (x : List Nat) : Prop := ∀ c ∈ x, c ≠ 32 ∧ c ≠ 93

theorem noEnd_split : ∀ {x y r r' : List Nat}, NoEnd x → NoEnd y → Ends r → Ends r' → x ++ r = y ++ r' → x = y ∧ r = r'
  | [], [], r, r', _, _, _, _, h => ⟨rfl, h⟩
  | [], c :: y, r, r', _, hy, he, _, h => by
    have h1 := he c (y ++ r') h
    have h2 := hy c (by simp)
    omega
  | c :: x, [], r, r', hx, _, _, he, h => by
    have h1 := he c (x ++ r) h.symm
    have h2 := hx c (by simp)
    omega
  | c :: x, d :: y, r, r', hx, hy, he, he', h => by
    obtain ⟨h1, h2⟩ := List.cons.inj h
    obtain ⟨h3, h4⟩ := noEnd_split (x := x) (y := y) (fun z hz => hx z (by simp [hz])) (fun z hz => hy z (by simp [hz])) he he' h2
    exact ⟨by rw [h1, h3], h4⟩

/-- What parse answers. -/
def ParseT (w : World) (l : List Nat) (t : Nat) (e : Ending) (w' : World) : Prop :=
  ∃ (v : V) (x : Array Value) (rest : List Nat) (ok : Bool), e = .returned (.tuple #[.agg x, .string (str rest), .bool ok]) ∧ VInP (fun b => w.heap.size ≤ b ∧ b < w'.heap.size) w' v x ∧ Below w.heap.size w w' ∧ (∀ c ∈ rest, c < 256) ∧ rest.length ≤ l.length ∧
    (ok = true → (textV v).length + rest.length = l.length) ∧
    ∀ (u : V) (r : List Nat), l = textV u ++ r → rightN t u = true → soundV u → Ends r → ok = true ∧ rest = r ∧ sameV v u = true

/-- A word, as atom took it: what parse owes. -/
theorem word_answer {l : List Nat} {j t : Nat} {v : V} {ok : Bool} (hj : j ≤ l.length) (hw : NoEnd (l.take j)) (he : Ends (l.drop j)) (h91 : ∀ q, l ≠ 91 :: q) (hok : ok = true → textV v = l.take j ∧ ∀ t, rightN t v = true) (hs : soundV v)
    (hno : ok = false → ∀ (t : Nat) (u : V), rightN t u = true → soundV u → u.kind ≠ 4 → textV u ≠ l.take j) :
    (ok = true → (textV v).length + (l.drop j).length = l.length) ∧ ∀ (u : V) (r : List Nat), l = textV u ++ r → rightN t u = true → soundV u → Ends r → ok = true ∧ l.drop j = r ∧ sameV v u = true := by
  refine ⟨fun h => ?_, fun u r e hu hsu her => ?_⟩
  · rw [(hok h).1, List.length_take, List.length_drop]
    omega
  · obtain ⟨k, n, f, s, q⟩ := u
    have h0 := right_parts hu
    have hk : k ≠ 4 := by
      intro hk
      subst hk
      rw [textV_list] at e
      exact h91 _ e
    have hT := textV_word (n := n) (f := f) (s := s) (l := q) hk
    have e2 : l.take j ++ l.drop j = textV (.mk k n f s q) ++ r := by rw [List.take_append_drop]; exact e
    obtain ⟨h1, h2⟩ := noEnd_split hw (fun c hc => ⟨(hT c hc).1, (hT c hc).2.1⟩) he her e2
    cases hb : ok with
    | false => exact absurd h1.symm (hno hb t _ hu hsu hk)
    | true =>
      obtain ⟨h3, h4⟩ := hok hb
      have hv : v.kind ≠ 4 := by
        have h5 := h4 0
        unfold rightN at h5
        rw [Bool.and_eq_true, Bool.and_eq_true, decide_eq_true_eq, decide_eq_true_eq] at h5
        exact h5.1.2
      obtain ⟨k', n', f', s', q'⟩ := v
      have h0' := right_parts (h4 t)
      rw [soundV] at hs hsu
      exact ⟨rfl, h2, word_same h0'.1 h0.1 h0'.2.1 h0'.2.2.1 h0.2.1 h0.2.2.1 hv hk hs.2.1 hsu.2.1 (h3.trans h1)⟩

theorem box_cells {w : World} {g : Nat} {a b c d e : Value} {t : TypeId} (h : w.heap[g]? = some (.cells #[a, b, c, d, e] t (0, 0))) :
    w.cell? ⟨g, 0, none⟩ = some a ∧ w.cell? ⟨g, 1, none⟩ = some b ∧ w.cell? ⟨g, 2, none⟩ = some c ∧ w.cell? ⟨g, 3, none⟩ = some d ∧ w.cell? ⟨g, 4, none⟩ = some e := by
  refine ⟨?_, ?_, ?_, ?_, ?_⟩
  · rw [cell_of_row _ _ _ _ _ _ h]; rfl
  · rw [cell_of_row _ _ _ _ _ _ h]; rfl
  · rw [cell_of_row _ _ _ _ _ _ h]; rfl
  · rw [cell_of_row _ _ _ _ _ _ h]; rfl
  · rw [cell_of_row _ _ _ _ _ _ h]; rfl

theorem noEnd_take {l : List Nat} {j : Nat} (h : ∀ i, i < j → l.getD i 0 ≠ 32 ∧ l.getD i 0 ≠ 93) : NoEnd (l.take j) := by
  intro c hc
  obtain ⟨i, hi, rfl⟩ := List.getElem_of_mem hc
  rw [List.length_take] at hi
  have h1 := h i (by omega)
  rw [List.getD_eq_getElem?_getD, List.getElem?_eq_getElem (by omega)] at h1
  rw [List.getElem_take]
  exact h1

theorem ends_drop {l : List Nat} {j : Nat} (h : j < l.length → l.getD j 0 = 32 ∨ l.getD j 0 = 93) : Ends (l.drop j) := by
  intro c q e
  have hj : j < l.length := by
    have := congrArg List.length e
    rw [List.length_drop, List.length_cons] at this
    omega
  have h1 := h hj
  rw [List.drop_eq_getElem_cons hj] at e
  rw [List.getD_eq_getElem?_getD, List.getElem?_eq_getElem hj] at h1
  rw [← (List.cons.inj e).1]
  exact h1

/-- The end of parse at a word. -/
theorem word_end {w w2 : World} {l : List Nat} {j t : Nat} {v : V} {x : Array Value} {ok : Bool} {w' : World} (hj : j ≤ l.length) (hw : NoEnd (l.take j)) (he : Ends (l.drop j)) (h91 : ∀ q, l ≠ 91 :: q) (hl : ∀ c ∈ l, c < 256) (hv : VInP (fun _ => False) w2 v x)
    (hok : ok = true → textV v = l.take j ∧ ∀ t, rightN t v = true) (hno : ok = false → ∀ (t : Nat) (u : V), rightN t u = true → soundV u → u.kind ≠ 4 → textV u ≠ l.take j) (hb : Below w.heap.size w w') :
    ParseT w l t (.returned (.tuple #[.agg x, .string (str (l.drop j)), .bool ok])) w' := by
  obtain ⟨h1, h2⟩ := word_answer (t := t) hj hw he h91 hok (VIn.sound v x (VInP.weak v x hv)) hno
  exact ⟨v, x, l.drop j, ok, rfl, VInP.turn (fun _ h => h.elim) (fun _ h => h.elim) v x hv, hb, fun c hc => hl c (List.mem_of_mem_drop hc), by rw [List.length_drop]; omega, h1, h2⟩

end Go.Proofs.YtpnfnmeilhiebaaGreatDoor

/- The only value whose text a string may begin with: guess, where guessList does what it is to do. -/
namespace Go.Proofs.YtpnfnmeilhiebaaGreatDoor
open Go.RowKit Go.Shelf Fl

/-- strings.IndexAny finds the first space or closing bracket. -/
def IdxAt (x : List Nat) : Prop := ∀ w, Calls Tryz.prog 55 #[.string (str x), .string ⟨#[32, 93]⟩] w fun e w' => Below w.heap.size w w' ∧ ∃ j, j ≤ x.length ∧ NoEnd (x.take j) ∧ Ends (x.drop j) ∧
  (j < x.length ∧ e = .returned (.int .i64 (j : Int)) ∨ j = x.length ∧ e = .returned (.int .i64 (-1)))

/-- What guess answers. -/
def GuessT (w : World) (l : List Nat) (t : Nat) (e : Ending) (w' : World) : Prop :=
  ∃ (con : Value) (rest : List Nat), e = .returned (.tuple #[con, .string (str rest)]) ∧ Below w.heap.size w w' ∧
    ((con = .nilIface ∧ ∀ (u : V) (r : List Nat), l = textV u ++ r → rightN t u = true → soundV u → Ends r → False) ∨
     ∃ (v : V) (a : Option Addr) (cap : Nat), con = conOf v.kind v.n v.f v.s a v.l.length cap ∧ VInP (fun b => w.heap.size ≤ b ∧ b < w'.heap.size) w' v (cells5 v.kind v.n v.f v.s a v.l.length cap) ∧ rightN t v = true ∧
       (∃ i, rest = l.drop i ∧ 0 < i ∧ i ≤ l.length) ∧ (textV v).length + 1 + 3 * rest.length ≤ 3 * l.length ∧
       ∀ (u : V) (r : List Nat), l = textV u ++ r → rightN t u = true → soundV u → Ends r → sameV v u = true ∧ rest = r)

/-- What guess answers at a word, out of what guessOne answers. -/
theorem word_guess {w w1 w2 : World} {l : List Nat} {j t : Nat} {con : Value} (hj : j ≤ l.length) (hw : NoEnd (l.take j)) (he : Ends (l.drop j)) (h91 : ∀ q, l ≠ 91 :: q) (hb1 : Below w.heap.size w w1) (hb2 : Below w1.heap.size w1 w2)
    (hc : (con = .nilIface ∧ ∀ (t : Nat) (u : V), rightN t u = true → soundV u → u.kind ≠ 4 → textV u ≠ l.take j) ∨
     ∃ (k n : Int) (f : Nat) (s : List Nat), con = conOf k n f s none 0 0 ∧ k ≠ 4 ∧ (∀ t, rightN t (.mk k n f s []) = true) ∧ soundV (.mk k n f s []) ∧ s.length ≤ 9223372036854775807 ∧ (textV (.mk k n f s [])).length ≤ (l.take j).length + 1 ∧ 0 < (l.take j).length ∧
       ∀ (t : Nat) (u : V), rightN t u = true → soundV u → u.kind ≠ 4 → textV u = l.take j → textV (.mk k n f s []) = l.take j) :
    GuessT w l t (.returned (.tuple #[con, .string (str (l.drop j))])) w2 := by
  have hplain : ∀ (u : V) (r : List Nat), l = textV u ++ r → rightN t u = true → soundV u → Ends r → u.kind ≠ 4 ∧ l.take j = textV u ∧ l.drop j = r := by
    intro u r e hu hsu her
    obtain ⟨k, n, f, s, q⟩ := u
    have hk : k ≠ 4 := by
      intro hk
      subst hk
      rw [textV_list] at e
      exact h91 _ e
    have hT := textV_word (n := n) (f := f) (s := s) (l := q) hk
    have e2 : l.take j ++ l.drop j = textV (.mk k n f s q) ++ r := by rw [List.take_append_drop]; exact e
    obtain ⟨h1, h2⟩ := noEnd_split hw (fun c hc => ⟨(hT c hc).1, (hT c hc).2.1⟩) he her e2
    exact ⟨hk, h1, h2⟩
  have hlt : (l.take j).length = j := by rw [List.length_take]; omega
  refine ⟨con, l.drop j, rfl, hb1.trans (hb2.mono hb1.size), ?_⟩
  rcases hc with ⟨hc, hno⟩ | ⟨k, n, f, s, hc, hk, hr, hs, hss, htx, h0, hco⟩
  · refine .inl ⟨hc, fun u r e hu hsu her => ?_⟩
    obtain ⟨h1, h2, _⟩ := hplain u r e hu hsu her
    exact hno t u hu hsu h1 h2.symm
  · rw [hlt] at htx h0
    have hs' := hs
    rw [soundV] at hs'
    have h0' := right_parts (hr t)
    refine .inr ⟨.mk k n f s [], none, 0, hc, ?_, hr t, ⟨j, rfl, h0, hj⟩, ?_, fun u r e hu hsu her => ?_⟩
    · exact VInP.turn (w := w2) (fun _ h => h.elim) (fun _ h => h.elim) _ _ (vin_plain (w := w2) ⟨h0'.2.1, h0'.2.2.1⟩ hs'.1 hs'.2.1 hs'.2.2.1 hss)
    · rw [List.length_drop]; omega
    · obtain ⟨h1, h2, h3⟩ := hplain u r e hu hsu her
      have h4 := hco t u hu hsu h1 h2.symm
      obtain ⟨k', n', f', s', q'⟩ := u
      have h5 := right_parts hu
      rw [soundV] at hsu
      exact ⟨word_same h0'.1 h5.1 h0'.2.1 h0'.2.2.1 h5.2.1 h5.2.2.1 hk h1 hs'.2.1 hsu.2.1 (h4.trans h2), h3⟩

set_option maxRecDepth 100000 in
set_option maxHeartbeats 1600000 in
theorem guess_word (t : Nat) (l : List Nat) (w : World) (hl : ∀ x ∈ l, x < 256) (hn : l.length ≤ 100000) (he : Errs w) (hT : Tab16 w) (hix : IdxAt l) (h91 : ∀ d, l ≠ 91 :: d) :
    Calls Tryz.prog 34 #[.string (str l), .int .i64 (t : Int)] w (GuessT w l t) := by
  have HC := Lib.hid (fun w => show Calls Tryz.prog 53 #[.string (str l), .string ⟨#[91]⟩] w _ from cut_no 91 l w (by omega) hl h91)
  have HI := Lib.hid hix
  have hsz := str_size l
  have HG := Lib.hid (fun (j : Nat) w he hT => gone_any (l.take j) w (fun x hx => hl x (List.mem_of_mem_take hx)) (by rw [List.length_take]; omega) he hT)
  have HE := Lib.hid he
  have HT := Lib.hid hT
  have H91 := Lib.hid h91
  clear hl hn he hT hix h91
  go_enter Tryz.func34, Tryz.ntmps34
  go_wp2_with fail
  refine (HC.out _).mono ?_
  rintro e w' ⟨rfl, rfl⟩
  go_wp2_with fail
  refine (HI.out _).mono ?_
  rintro e w1 ⟨hb1, j, hj, hne, hen, ⟨hjl, rfl⟩ | ⟨rfl, rfl⟩⟩
  · have Hb1 := Lib.hid hb1
    have Hne := Lib.hid hne
    have Hen := Lib.hid hen
    have hx1 : (str l).extract 0 j = str (l.take j) := by rw [str_extract]; simp
    have hx2 : (str l).extract j l.length = str (l.drop j) := by rw [str_extract, List.take_of_length_le (Nat.le_refl _)]
    have HG1 := Lib.hid (HG.out j w1.drew (HE.out.below (hb1.drew)) (tab_below HT.out (hb1.drew)))
    generalize hS2 : str (l.drop j) = S2 at *
    have HS2 := Lib.hid hS2
    have hj64 : (j : Int) ≤ (l.length : Int) := by omega
    clear hb1 hne hen hS2
    go_wp2_with fail
    go_region_held (fun _ => True) (exact trivial) (first | (go_at_call 56; (with_reducible refine HG1.out.mono ?_); rintro e w2 ⟨con, rfl, hb2, hcon⟩; have Hb2 := Lib.hid hb2; have Hcon := Lib.hid hcon; clear hb2 hcon))
    go_wp2
    go_ret2
    rw [← HS2.out]
    exact word_guess hj Hne.out Hen.out H91.out Hb1.out.drew Hb2.out Hcon.out
  · have Hb1 := Lib.hid hb1
    have Hne := Lib.hid hne
    have Hen := Lib.hid hen
    have hx1 : (str l).extract 0 l.length = str (l.take l.length) := by rw [str_extract]; simp
    have HZ := Lib.hid (show str (l.drop l.length) = ByteArray.empty from by rw [List.drop_length]; rfl)
    have HG1 := Lib.hid (HG.out l.length w1.drew (HE.out.below (hb1.drew)) (tab_below HT.out (hb1.drew)))
    generalize hS1 : str (l.take l.length) = S1 at *
    clear hb1 hne hen hj hS1
    go_wp2_with fail
    go_region_held (fun _ => True) (exact trivial) (first | (go_at_call 56; (with_reducible refine HG1.out.mono ?_); rintro e w2 ⟨con, rfl, hb2, hcon⟩; have Hb2 := Lib.hid hb2; have Hcon := Lib.hid hcon; clear hb2 hcon))
    go_wp2
    go_ret2
    have h := word_guess (t := t) (Nat.le_refl _) Hne.out Hen.out H91.out Hb1.out.drew Hb2.out Hcon.out
    rw [HZ.out] at h
    exact h

/-- What guessList is to do, and guess then does. -/
theorem vguess_any (t : Nat) (l : List Nat) (w : World) (hl : ∀ x ∈ l, x < 256) (hn : l.length ≤ 100000) (he : Errs w) (hT : Tab16 w) (hix : IdxAt l)
    (hL : ∀ d, l = 91 :: d → Calls Tryz.prog 54 #[.string (str d), .int .i64 (t : Int)] w (GuessT w l t)) :
    Calls Tryz.prog 34 #[.string (str l), .int .i64 (t : Int)] w (GuessT w l t) := by
  by_cases h : ∃ d, l = 91 :: d
  · obtain ⟨d, rfl⟩ := h
    have HC := Lib.hid (fun w => show Calls Tryz.prog 53 #[.string (str (91 :: d)), .string ⟨#[91]⟩] w _ from cut_yes 91 d w)
    have HL := Lib.hid (hL d rfl)
    clear hl hn he hT hix hL
    generalize str (91 :: d) = S at *
    go_enter Tryz.func34, Tryz.ntmps34
    go_wp2_with fail
    refine (HC.out _).mono ?_
    rintro e w' ⟨rfl, rfl⟩
    go_wp2_with fail
    refine HL.out.mono ?_
    rintro e w1 ⟨con, rest, rfl, hb, hcon⟩
    have Hcon := Lib.hid hcon
    clear hcon
    go_wp2
    go_ret2
    exact ⟨con, rest, rfl, hb, Hcon.out⟩
  · exact guess_word t l w hl hn he hT hix (fun d e => h ⟨d, e⟩)
end Go.Proofs.YtpnfnmeilhiebaaGreatDoor

/- Lists of values and their texts, as guessList reads them: plain mathematics. -/
namespace Go.Proofs.YtpnfnmeilhiebaaGreatDoor
open Go.RowKit Fl

/-- What is left of a list's text: the values us, and what follows. -/
def tailT (first : Bool) (us : List V) (r : List Nat) : List Nat :=
  match us with
  | [] => 93 :: r
  | u :: q => (if first then [] else [32]) ++ (joinS (textVs (u :: q)) ++ 93 :: r)

def tsum : List V → Nat
  | [] => 0
  | v :: r => (textV v).length + 1 + tsum r

theorem tsum_append : ∀ (a b : List V), tsum (a ++ b) = tsum a + tsum b
  | [], b => by simp [tsum]
  | v :: r, b => by rw [List.cons_append, tsum, tsum, tsum_append r b]; omega

theorem joinS_tsum : ∀ (a : List V), (joinS (textVs a)).length ≤ tsum a
  | [] => by simp [textVs, joinS]
  | [v] => by simp [textVs, joinS, tsum]
  | v :: u :: r => by
    have ih := joinS_tsum (u :: r)
    rw [textVs, tsum]
    rw [textVs] at ih ⊢
    rw [joinS, List.length_append, List.length_cons]
    omega

/-- How far guessList has come. -/
structure GL (q : List Nat) (t : Nat) (vs : List V) (x : List Nat) : Prop where
  at_ : ∃ i, x = q.drop i ∧ i ≤ q.length
  right : ∀ v ∈ vs, rightN t v = true
  size : tsum vs + 3 * x.length ≤ 3 * q.length
  full : ∀ (us : List V) (r : List Nat), q = joinS (textVs us) ++ 93 :: r → (∀ u ∈ us, rightN t u = true) → soundL us → ∃ us1 us2, us = us1 ++ us2 ∧ sameL vs us1 = true ∧ x = tailT (vs.isEmpty) us2 r

theorem GL.start (q : List Nat) (t : Nat) : GL q t [] q where
  at_ := ⟨0, rfl, Nat.zero_le _⟩
  right := fun v h => by cases h
  size := by simp [tsum]
  full := fun us r e _ _ => by
    refine ⟨[], us, rfl, by rw [sameL], ?_⟩
    cases us with
    | nil => rw [e]; rfl
    | cons u q' => rw [e]; rfl

theorem soundL_mem : ∀ {l : List V}, soundL l → ∀ u ∈ l, soundV u
  | v :: r, h, u, hu => by
    rw [soundL] at h
    rcases List.mem_cons.1 hu with e | e
    · rw [e]; exact h.1
    · exact soundL_mem h.2 u e

theorem joinS_cons (u : V) (us : List V) (r : List Nat) : joinS (textVs (u :: us)) ++ 93 :: r = textV u ++ tailT false us r := by
  cases us with
  | nil => rw [textVs, textVs, joinS]; rfl
  | cons v q =>
    have e : tailT false (v :: q) r = 32 :: (joinS (textVs (v :: q)) ++ 93 :: r) := rfl
    rw [e, textVs, textVs, joinS]
    simp

theorem tail_ends (us : List V) (r : List Nat) : Ends (tailT false us r) := by
  intro c q e
  cases us with
  | nil => exact .inr (List.cons.inj e).1.symm
  | cons u p => exact .inl (List.cons.inj e).1.symm

/-- Without the space in front of it. -/
def trim32 : List Nat → List Nat
  | 32 :: y => y
  | x => x

theorem tail_trim {first : Bool} {u : V} {us : List V} {r : List Nat} {t : Nat} (h : rightN t u = true) : trim32 (tailT first (u :: us) r) = textV u ++ tailT false us r := by
  have e : tailT first (u :: us) r = (if first then [] else [32]) ++ (joinS (textVs (u :: us)) ++ 93 :: r) := rfl
  rw [e, joinS_cons]
  cases first with
  | false => rfl
  | true =>
    show trim32 (textV u ++ tailT false us r) = _
    unfold trim32
    split
    · rename_i y e
      exact absurd e (text_no_end h (.inl rfl))
    · rfl

theorem sameL_snoc : ∀ {a b : List V} {u v : V}, sameL a b = true → sameV u v = true → sameL (a ++ [u]) (b ++ [v]) = true
  | [], [], u, v, _, h => by simp [sameL, h]
  | [], _ :: _, _, _, h, _ => by simp [sameL] at h
  | _ :: _, [], _, _, h, _ => by simp [sameL] at h
  | x :: a, y :: b, u, v, h, h' => by
    rw [sameL, Bool.and_eq_true] at h
    rw [List.cons_append, List.cons_append, sameL, h.1, sameL_snoc h.2 h', Bool.and_self]

theorem trim32_len (x : List Nat) : (trim32 x).length ≤ x.length := by
  unfold trim32
  split
  · rw [List.length_cons]; omega
  · exact Nat.le_refl _

theorem trim32_drop (x : List Nat) : ∃ i, i ≤ x.length ∧ trim32 x = x.drop i := by
  unfold trim32
  split
  · exact ⟨1, by rw [List.length_cons]; omega, rfl⟩
  · exact ⟨0, Nat.zero_le _, rfl⟩

/-- One value more. -/
theorem GL.step {q : List Nat} {t : Nat} {vs : List V} {x : List Nat} {v : V} {rest : List Nat} (h : GL q t vs x) (h93 : ∀ d, x ≠ 93 :: d) (hr : rightN t v = true)
    (hat : ∃ i, rest = (trim32 x).drop i ∧ 0 < i ∧ i ≤ (trim32 x).length) (hsz : (textV v).length + 1 + 3 * rest.length ≤ 3 * (trim32 x).length)
    (hco : ∀ (u : V) (r : List Nat), trim32 x = textV u ++ r → rightN t u = true → soundV u → Ends r → sameV v u = true ∧ rest = r) : GL q t (vs ++ [v]) rest where
  at_ := by
    obtain ⟨i, e1, h1⟩ := h.at_
    obtain ⟨j, h2, e2⟩ := trim32_drop x
    obtain ⟨k, e3, _, h3⟩ := hat
    refine ⟨i + (j + k), by rw [e3, e2, e1, List.drop_drop, List.drop_drop], ?_⟩
    rw [e2, List.length_drop] at h3
    rw [e1, List.length_drop] at h2 h3
    omega
  right := fun u hu => by
    rcases List.mem_append.1 hu with h1 | h1
    · exact h.right u h1
    · rw [List.mem_singleton.1 h1]; exact hr
  size := by
    have h1 := h.size
    have h2 := trim32_len x
    rw [tsum_append]
    simp only [tsum]
    omega
  full := fun us r e hu hs => by
    obtain ⟨us1, us2, e1, h1, e2⟩ := h.full us r e hu hs
    cases us2 with
    | nil => exact absurd e2 (h93 _)
    | cons u us3 =>
      have hur : rightN t u = true := hu u (by rw [e1]; simp)
      have hus : soundV u := soundL_mem hs u (by rw [e1]; simp)
      have h3 : trim32 x = textV u ++ tailT false us3 r := by rw [e2]; exact tail_trim hur
      obtain ⟨h4, h5⟩ := hco u _ h3 hur hus (tail_ends us3 r)
      refine ⟨us1 ++ [u], us3, by rw [e1, List.append_assoc]; rfl, sameL_snoc h1 h4, ?_⟩
      rw [h5]
      cases vs <;> rfl

/-- No value: no list. -/
theorem GL.none {q : List Nat} {t : Nat} {vs : List V} {x : List Nat} (h : GL q t vs x) (h93 : ∀ d, x ≠ 93 :: d) (hno : ∀ (u : V) (r : List Nat), trim32 x = textV u ++ r → rightN t u = true → soundV u → Ends r → False) :
    ∀ (us : List V) (r : List Nat), q = joinS (textVs us) ++ 93 :: r → (∀ u ∈ us, rightN t u = true) → soundL us → False := by
  intro us r e hu hs
  obtain ⟨us1, us2, e1, h1, e2⟩ := h.full us r e hu hs
  cases us2 with
  | nil => exact absurd e2 (h93 _)
  | cons u us3 =>
    have hur : rightN t u = true := hu u (by rw [e1]; simp)
    exact hno u _ (by rw [e2]; exact tail_trim hur) hur (soundL_mem hs u (by rw [e1]; simp)) (tail_ends us3 r)

/-- The closing bracket. -/
theorem GL.end_ {q : List Nat} {t : Nat} {vs : List V} {rest : List Nat} (h : GL q t vs (93 :: rest)) :
    ∀ (us : List V) (r : List Nat), q = joinS (textVs us) ++ 93 :: r → (∀ u ∈ us, rightN t u = true) → soundL us → sameL vs us = true ∧ rest = r := by
  intro us r e hu hs
  obtain ⟨us1, us2, e1, h1, e2⟩ := h.full us r e hu hs
  cases us2 with
  | nil =>
    rw [List.append_nil] at e1
    rw [e1]
    exact ⟨h1, (List.cons.inj e2).2⟩
  | cons u us3 =>
    have hur : rightN t u = true := hu u (by rw [e1]; simp)
    have h3 := tail_trim (first := vs.isEmpty) (us := us3) (r := r) hur
    rw [← e2] at h3
    exact absurd h3.symm (text_no_end hur (.inr rfl))

/-- A list among the values: its text behind the first bracket. -/
theorem list_text {u : V} {q r : List Nat} {t : Nat} (e : 91 :: q = textV u ++ r) (hu : rightN t u = true) : ∃ us, u = .mk 4 u.n u.f u.s us ∧ u.l = us ∧ q = joinS (textVs us) ++ 93 :: r := by
  obtain ⟨k, n, f, s, l⟩ := u
  have hp := right_parts hu
  have hk : k = 4 := by
    by_cases hk : k = 4
    · exact hk
    · have hw := textV_word (n := n) (f := f) (s := s) (l := l) hk
      obtain ⟨c, p, e1, _⟩ := textV_head (n := n) (f := f) (s := s) (l := l) hp.2.1 hp.2.2.1
      rw [e1] at e
      have hc := (List.cons.inj e).1
      exact absurd hc.symm (hw c (by rw [e1]; simp)).2.2
  subst hk
  rw [textV_list] at e
  refine ⟨l, rfl, rfl, ?_⟩
  have := (List.cons.inj e).2
  simpa using this
end Go.Proofs.YtpnfnmeilhiebaaGreatDoor

/- The walk of guessList, where guess does what it is to do at one level less. -/
namespace Go.Proofs.YtpnfnmeilhiebaaGreatDoor
open Go.RowKit Go.Shelf Fl

theorem bits_zero {f : Nat} (h : bitsB f = 0) : f = 0 := by
  unfold bitsB at h
  split at h
  · exact absurd h (by decide)
  · exact h

/-- A valid value is what whole makes of its content. -/
theorem whole_in {q : Nat → Prop} {w : World} {v : V} {a : Option Addr} {cap t : Nat} (hr : rightN t v = true) (hv : VInP q w v (cells5 v.kind v.n v.f v.s a v.l.length cap)) :
    ∃ a' cap', wholeOf v.kind v.n v.f v.s a v.l.length cap = cells5 v.kind v.n v.f v.s a' v.l.length cap' ∧ VInP q w v (cells5 v.kind v.n v.f v.s a' v.l.length cap') := by
  obtain ⟨k, n, f, s, l⟩ := v
  obtain ⟨⟨h1, h2, h3, h4⟩, h0, h5, _⟩ := right_parts hr
  change VInP q w (.mk k n f s l) (cells5 k n f s a l.length cap) at hv
  change ∃ a' cap', wholeOf k n f s a l.length cap = cells5 k n f s a' l.length cap' ∧ VInP q w (.mk k n f s l) (cells5 k n f s a' l.length cap')
  have hv' := hv
  rw [VInP] at hv'
  obtain ⟨b1, b2, b3, b4, b5, _⟩ := hv'
  by_cases hk : k = 4
  · have en : n = 0 := h1.resolve_left (by omega)
    have ef : f = 0 := bits_zero (h2.resolve_left (by omega))
    have es : s = [] := h3.resolve_left (by omega)
    subst hk en ef es
    exact ⟨a, cap, rfl, hv⟩
  · have el : l = [] := h4.resolve_left hk
    subst el
    refine ⟨none, 0, ?_, by rw [VInP]; exact ⟨b1, b2, b3, b4, b5, none, 0, rfl, Nat.le_refl _, by omega, .inl rfl⟩⟩
    unfold wholeOf
    by_cases k1 : k = 1
    · have ef : f = 0 := bits_zero (h2.resolve_left (by omega))
      have es : s = [] := h3.resolve_left (by omega)
      subst k1 ef es
      rfl
    rw [if_neg k1]
    have en : n = 0 := h1.resolve_left k1
    by_cases k2 : k = 2
    · have es : s = [] := h3.resolve_left (by omega)
      subst k2 en es
      rfl
    rw [if_neg k2]
    have ef : f = 0 := bits_zero (h2.resolve_left k2)
    by_cases k3 : k = 3
    · subst k3 en ef
      rfl
    have es : s = [] := h3.resolve_left k3
    have k0 : k = 0 := by omega
    subst k0 en ef es
    rfl

theorem trimp_any (x : List Nat) (w : World) (hx : ∀ c ∈ x, c < 256) :
    Calls Tryz.prog 69 #[.string (str x), .string ⟨#[32]⟩] w fun e w' => e = .returned (.string (str (trim32 x))) ∧ w = w' := by
  have h := Tryz.strings_TrimPrefix (str x) ⟨#[32]⟩ w
  have h1 : (str x).data.toList = x.map UInt8.ofNat := rfl
  have h2 : ((⟨#[32]⟩ : ByteArray)).data.toList = [32] := rfl
  rw [h1, h2] at h
  have e : (⟨(Lib.trimPrefix (x.map UInt8.ofNat) [32]).toArray⟩ : ByteArray) = str (trim32 x) := by
    unfold str
    congr 2
    unfold Lib.trimPrefix Lib.hasPrefix
    cases x with
    | nil => rfl
    | cons c r =>
      rw [List.map_cons, List.isPrefixOf_cons_cons]
      by_cases hc : c = 32
      · subst hc
        simp [trim32]
      · have hne : ((32 : UInt8) == UInt8.ofNat c) = false := by
          rw [beq_eq_false_iff_ne]
          intro e
          have e2 := congrArg UInt8.toNat e
          have h256 := hx c (by simp)
          rw [UInt8.toNat_ofNat'] at e2
          have : (32 : UInt8).toNat = 32 := rfl
          omega
        rw [hne, Bool.false_and]
        have ht : trim32 (c :: r) = c :: r := by
          unfold trim32
          split
          · rename_i y e
            exact absurd (List.cons.inj e).1 hc
          · rfl
        rw [ht]
        rfl
  rw [e] at h
  refine h.mono ?_
  rintro e w' ⟨rfl, rfl⟩
  exact ⟨rfl, rfl⟩

/-- guess does what it is to do at t levels. -/
def GuessAt (t : Nat) : Prop := ∀ (l : List Nat) (w : World), (∀ x ∈ l, x < 256) → l.length ≤ 100000 → Errs w → Tab16 w → (∀ i, IdxAt (l.drop i)) → Calls Tryz.prog 34 #[.string (str l), .int .i64 (t : Int)] w (GuessT w l t)

theorem glist_zero (q : List Nat) (w : World) : Calls Tryz.prog 54 #[.string (str q), .int .i64 0] w (GuessT w (91 :: q) 0) := by
  go_enter Tryz.func54, Tryz.ntmps54
  go_wp2
  go_ret2
  refine ⟨_, [], rfl, Below.refl _ _, .inl ⟨rfl, fun u r e hu _ _ => ?_⟩⟩
  obtain ⟨us, e1, _⟩ := list_text e hu
  rw [e1] at hu
  unfold rightN at hu
  simp [V.kind] at hu

/-- A valid list in its parts. -/
theorem list_right {n : Int} {f : Nat} {s : List Nat} {us : List V} {t : Nat} (h : rightN (t + 1) (.mk 4 n f s us) = true) : n = 0 ∧ bitsB f = 0 ∧ s = [] ∧ ∀ u ∈ us, rightN t u = true := by
  obtain ⟨⟨h1, h2, h3, _⟩, _⟩ := right_parts h
  unfold rightN at h
  rw [Bool.and_eq_true, Bool.and_eq_true, List.all_eq_true] at h
  exact ⟨h1.resolve_left (by omega), h2.resolve_left (by omega), h3.resolve_left (by omega), h.1.2⟩

theorem list_is_right {vs : List V} {t : Nat} (h : ∀ v ∈ vs, rightN t v = true) : rightN (t + 1) (.mk 4 0 0 [] vs) = true := by
  rw [rightN_list (v := .mk 4 0 0 [] vs) ⟨.inr rfl, .inr (show bitsB 0 = 0 by decide), .inr rfl, .inl rfl⟩ rfl, List.all_eq_true]
  exact h

/-- What guessList answers at the closing bracket. -/
theorem list_end {w wr : World} {q r : List Nat} {t : Nat} {vs : List V} {a : Option Addr} {cap : Nat} (hG : GL q t vs (93 :: r)) (hbr : Below w.heap.size w wr)
    (hle : vs.length ≤ cap ∧ cap ≤ 9223372036854775807 ∧ (vs = [] ∨ ∃ g, a = some ⟨g, 0, none⟩ ∧ (w.heap.size ≤ g ∧ g < wr.heap.size) ∧ VsInP (fun b => w.heap.size ≤ b ∧ b < wr.heap.size) wr vs g 0)) :
    GuessT w (91 :: q) (t + 1) (.returned (.tuple #[.iface 70 (.slice a vs.length cap), .string (str r)])) wr := by
  refine ⟨_, r, rfl, hbr, .inr ⟨.mk 4 0 0 [] vs, a, cap, rfl, ?_, list_is_right hG.right, ?_, ?_, fun u r0 e hu hsu _ => ?_⟩⟩
  · rw [VInP]
    exact ⟨by omega, by omega, by omega, by simp, by simp, a, cap, rfl, hle.1, hle.2.1, hle.2.2.imp id (fun ⟨g, e, hb, hv⟩ => ⟨g, 0, e, hb, hv⟩)⟩
  · obtain ⟨i, e1, hi⟩ := hG.at_
    have hlt : i < q.length := by
      rcases Nat.lt_or_ge i q.length with h | h
      · exact h
      · rw [List.drop_of_length_le h] at e1; cases e1
    refine ⟨i + 2, ?_, by omega, by rw [List.length_cons]; omega⟩
    rw [List.drop_succ_cons, ← List.drop_drop, ← e1]
    rfl
  · have h1 := hG.size
    have h2 := joinS_tsum vs
    rw [textV_list, List.length_cons, List.length_append]
    simp only [List.length_cons, List.length_nil] at h1 ⊢
    omega
  · obtain ⟨us, e1, _, e3⟩ := list_text e hu
    rw [e1] at hu hsu
    rw [soundV] at hsu
    obtain ⟨h1, h2, h3, h4⟩ := list_right hu
    obtain ⟨h5, h6⟩ := hG.end_ us r0 e3 h4 hsu.2.2.2
    refine ⟨?_, h6⟩
    rw [e1, sameV, h5, Bool.and_true, decide_eq_true_eq]
    exact ⟨rfl, h1.symm, h3.symm, by rw [h2]; decide⟩

/-- The string that is left, and the values so far. -/
def LsRel (w : World) (q : List Nat) (t : Nat) (d v : Value) (wr : World) : Prop :=
  ∃ (vs : List V) (x : List Nat), d = .string (str x) ∧ GL q t vs x ∧ OwnVs wr w.heap.size v vs ∧ Below w.heap.size w wr

theorem con_iface {v : V} {a : Option Addr} {cap t : Nat} (hr : rightN t v = true) : ∃ T p, conOf v.kind v.n v.f v.s a v.l.length cap = .iface T p := by
  obtain ⟨k, n, f, s, l⟩ := v
  obtain ⟨_, h0, h5, _⟩ := right_parts hr
  change ∃ T p, conOf k n f s a l.length cap = .iface T p
  unfold conOf
  by_cases k0 : k = 0
  · rw [if_pos k0]; exact ⟨_, _, rfl⟩
  rw [if_neg k0]
  by_cases k1 : k = 1
  · rw [if_pos k1]; exact ⟨_, _, rfl⟩
  rw [if_neg k1]
  by_cases k2 : k = 2
  · rw [if_pos k2]; exact ⟨_, _, rfl⟩
  rw [if_neg k2]
  by_cases k3 : k = 3
  · rw [if_pos k3]; exact ⟨_, _, rfl⟩
  rw [if_neg k3, if_pos (by omega)]
  exact ⟨_, _, rfl⟩

set_option maxRecDepth 100000 in
set_option maxHeartbeats 3200000 in
theorem glist_any (t : Nat) (ht : t ≤ 1000) (hA : GuessAt t) (q : List Nat) (w : World) (hq : ∀ x ∈ q, x < 256) (hn : q.length ≤ 100000) (he : Errs w) (hT : Tab16 w) (hix : ∀ i, IdxAt (q.drop i)) :
    Calls Tryz.prog 54 #[.string (str q), .int .i64 ((t + 1 : Nat) : Int)] w (GuessT w (91 :: q) (t + 1)) := by
  obtain ⟨T, hTe⟩ : ∃ T : Int, T = ((t + 1 : Nat) : Int) := ⟨_, rfl⟩
  have hT0 : (T == 0) = false := beq_eq_false_iff_ne.2 (by omega)
  have hT1 : T - 1 = (t : Int) := by omega
  have hT2 : 0 < T ∧ T ≤ 1001 := by omega
  rw [← hTe]
  have HA := Lib.hid hA
  have HQ := Lib.hid hq
  have HN := Lib.hid hn
  have HE := Lib.hid he
  have HT := Lib.hid hT
  have HX := Lib.hid hix
  clear hA hq hn he hT hix hTe
  go_enter Tryz.func54, Tryz.ntmps54
  go_wp2
  go_loopw [0, 6] (fun d v wr => LsRel w q t d v wr) (fun d _ _ => match d with | .string s => s.size | _ => 0)
  case atStart => exact ⟨[], q, rfl, GL.start q t, OwnVs.nil _ _, Below.refl _ _⟩
  case round =>
    obtain ⟨vs, x, rfl, hG, hO, hbr⟩ := hrel
    have HG := Lib.hid hG
    have HO := Lib.hid hO
    have Hbr := Lib.hid hbr
    obtain ⟨i, hxi, hi⟩ := hG.at_
    have hx8 : ∀ c ∈ x, c < 256 := fun c hc => HQ.out c (by rw [hxi] at hc; exact List.mem_of_mem_drop hc)
    have hxn : x.length ≤ q.length := by rw [hxi, List.length_drop]; omega
    by_cases h93 : ∃ r, x = 93 :: r
    · obtain ⟨r, rfl⟩ := h93
      have HC := Lib.hid (fun w => show Calls Tryz.prog 53 #[.string (str (93 :: r)), .string ⟨#[93]⟩] w _ from cut_yes 93 r w)
      obtain ⟨a, cap, rfl, hle⟩ := hO.lies
      have Hle := Lib.hid hle
      clear hG hO hbr hxi hx8 hxn hle
      generalize str (93 :: r) = S at *
      go_wp2_with fail
      refine (HC.out _).mono ?_
      rintro e w' ⟨rfl, rfl⟩
      go_wp2
      go_ret2
      exact list_end HG.out Hbr.out Hle.out
    · have hd93 : ∀ d, x ≠ 93 :: d := fun d e => h93 ⟨d, e⟩
      have HC := Lib.hid (fun w => show Calls Tryz.prog 53 #[.string (str x), .string ⟨#[93]⟩] w _ from cut_no 93 x w (by omega) hx8 hd93)
      have HP := Lib.hid (fun w => trimp_any x w hx8)
      obtain ⟨k, hk, hy⟩ := trim32_drop x
      have HA1 := Lib.hid (HA.out (trim32 x) wr (fun c hc => hx8 c (by rw [hy] at hc; exact List.mem_of_mem_drop hc)) (by have := trim32_len x; have := HN.out; omega) (HE.out.below Hbr.out) (tab_below HT.out Hbr.out)
        (fun j => by rw [hy, hxi, List.drop_drop, List.drop_drop]; exact HX.out _))
      have H93 := Lib.hid hd93
      have Hsz := Lib.hid (str_size x)
      clear hG hO hbr hxi hx8 hxn hk hy h93 hd93
      generalize str x = S at *
      generalize hY : str (trim32 x) = Y at *
      clear hY
      go_wp2_with fail
      refine (HC.out _).mono ?_
      rintro e w' ⟨rfl, rfl⟩
      go_wp2_with fail
      refine (HP.out _).mono ?_
      rintro e w' ⟨rfl, rfl⟩
      go_wp2_with fail
      refine HA1.out.mono ?_
      rintro e w2 ⟨con, rest, rfl, hb2, ⟨rfl, hno⟩ | ⟨v, a, cap, hc, hv, hr, hat, hsz, hco⟩⟩
      · have Hno := Lib.hid (HG.out.none H93.out hno)
        have Hb2 := Lib.hid (Hbr.out.trans (hb2.mono Hbr.out.size))
        clear hno hb2
        go_wp2
        go_ret2
        refine ⟨_, [], rfl, Hb2.out, .inl ⟨rfl, fun u r e hu hsu _ => ?_⟩⟩
        obtain ⟨us, e1, _, e3⟩ := list_text e hu
        rw [e1] at hu hsu
        rw [soundV] at hsu
        exact Hno.out us r e3 (list_right hu).2.2.2 hsu.2.2.2
      · obtain ⟨T', p', hci⟩ := con_iface (a := a) (cap := cap) hr
        obtain ⟨a2, cap2, hwh, hv2⟩ := whole_in hr hv
        have HW := Lib.hid (fun w => whole_any v.kind v.n v.f v.s a v.l.length cap w)
        rw [hwh] at HW
        rw [hc]
        rw [hci] at HW ⊢
        have HS := Lib.hid (HG.out.step H93.out hr hat hsz hco)
        have Hrl := Lib.hid (show rest.length < x.length from by
          obtain ⟨i1, e1, h1, h2⟩ := hat
          have := trim32_len x
          rw [e1, List.length_drop]
          omega)
        have Hb2 := Lib.hid hb2
        have Hv2 := Lib.hid hv2
        clear hc hci hwh hb2 hv hv2 hr hat hsz hco
        go_wp2_with fail
        refine (HW.out _).mono ?_
        rintro e w3 ⟨rfl, hb3⟩
        have hO2 := (HO.out.keep (fun b _ hb => Hb2.out.block b hb) Hb2.out.size).keep (fun b _ hb => hb3.block b hb) hb3.size
        have hal : Below w3.heap.size w3 (w3.alloc (.cells #[.int .i64 v.kind, .int .i64 v.n, .float .f64 v.f, .string (str v.s), .slice a2 v.l.length cap2] 25)) := (Below.refl _ _).alloc (Nat.le_refl _) _
        have hO3 := hO2.keep (fun b _ hb => hal.block b hb) hal.size
        have hblk := fun e => (HO.out.block (g := e))
        obtain ⟨cs, hcl, hrow, hel⟩ := hO3
        have hbw : Below w.heap.size w (w3.alloc (.cells #[.int .i64 v.kind, .int .i64 v.n, .float .f64 v.f, .string (str v.s), .slice a2 v.l.length cap2] 25)) := Hbr.out.trans ((Hb2.out.trans ((hb3.trans (hal.mono hb3.size)).mono Hb2.out.size)).mono Hbr.out.size)
        have hu : VInP (fun b => w.heap.size ≤ b ∧ some b ≠ u6.ownBlock ∧ b < (w3.alloc (.cells #[.int .i64 v.kind, .int .i64 v.n, .float .f64 v.f, .string (str v.s), .slice a2 v.l.length cap2] 25)).heap.size) (w3.alloc (.cells #[.int .i64 v.kind, .int .i64 v.n, .float .f64 v.f, .string (str v.s), .slice a2 v.l.length cap2] 25)) v (cells5 v.kind v.n v.f v.s a2 v.l.length cap2) :=
          VInP.turn (fun b hq => ⟨by have := Hbr.out.size; omega, (fun e => by have := (hblk _ e.symm).2; omega), by have := hal.size; have := hb3.size; omega⟩) (fun p hp => by unfold World.cell?; rw [hal.block p.block (by have := hb3.size; omega), hb3.block p.block hp.2]) v _ Hv2.out
        have Hcl := Lib.hid hcl
        have Hrow := Lib.hid hrow
        have Hel := Lib.hid hel
        have Hu := Lib.hid hu
        have Hbw := Lib.hid hbw
        have Hvl := Lib.hid (show vs.length ≤ 300001 from by
          have h1 := HG.out.size
          have h2 := joinS_tsum vs
          have h3 := join_len (textVs vs)
          rw [textVs_map, List.length_map, ← textVs_map] at h3
          have := HN.out
          omega)
        clear hb3 hO2 hal hblk hcl hrow hel hbw hu
        obtain ⟨i0, hi, hz0, hz1, hz2⟩ := info_parts info_value
        go_wp2_with (at_builtin; refine wpList_append_lies _ rfl _ _ 70 rfl w.heap.size 25 i0 _ 5 64 Tryz.underlying70 hi hz0 hz1 hz2 rfl (by decide) u6 vs.length _ rfl Hrow.out ⟨w3.heap.size, 0, none⟩ 1 1 [.int .i64 v.kind, .int .i64 v.n, .float .f64 v.f, .string (str v.s), .slice a2 v.l.length cap2] rfl rfl (World.news_of_block (heap_alloc_new w3 _)) (by simp [Value.oneCell']) (by decide) (by have := Hvl.out; rw [maxLen_nat]; omega) (by have := Hvl.out; omega) Hbw.out.size _ rfl ?_; intro g cap4 w4 g1 g2 g3 g4; have hO4 := OwnVs.snoc Hcl.out Hel.out Hu.out g1 g2 (g3.imp (fun e => e.symm) (fun e => by rw [e]; rfl)))
        case roundEnd =>
          refine ⟨⟨vs ++ [v], rest, rfl, HS.out, hO4, Hbw.out.grown g2 Hbw.out.size (fun k hk => (Hrow.out.lt k hk).1)⟩, ?_⟩
          show (str rest).size < S.size
          rw [str_size, Hsz.out]
          exact Hrl.out
end Go.Proofs.YtpnfnmeilhiebaaGreatDoor

