/- The statement WheelSteps. -/
import Derived.Test.YthidinaflaogfaaWhDuo
import Derived.Test.YthidinaflaogfaaWheelOnce
namespace Go.Proofs.Ythidinaflaogfaa
open Go.RowKit

theorem srt_parts2 {L : List It} (h : srtI L) (a : Nat) : L = L.filter (fun t => decide (t.2 ≤ a)) ++ L.filter (fun t => decide (a < t.2)) := by
  induction L with
  | nil => rfl
  | cons x R ih =>
    obtain ⟨h1, h2⟩ := List.pairwise_cons.1 h
    by_cases hx : x.2 ≤ a
    · have e1 : (x :: R).filter (fun t => decide (t.2 ≤ a)) = x :: R.filter (fun t => decide (t.2 ≤ a)) := by rw [List.filter_cons, if_pos (by simpa using hx)]
      have e2 : (x :: R).filter (fun t => decide (a < t.2)) = R.filter (fun t => decide (a < t.2)) := by rw [List.filter_cons, if_neg (by simp; omega)]
      rw [e1, e2, List.cons_append, ← ih h2]
    · have hall : ∀ y ∈ x :: R, a < y.2 := fun y hy => by
        rcases List.mem_cons.1 hy with rfl | hy
        · omega
        · have := h1 y hy
          rw [ltI_iff] at this
          omega
      rw [List.filter_eq_nil_iff.2 (fun y hy => by have := hall y hy; simp; omega), List.filter_eq_self.2 (fun y hy => decide_eq_true (hall y hy)), List.nil_append]

/-- What the second loop holds of the lists: what has fired, what is left. -/
structure Part (T G Ta : List It) (last : Nat) : Prop where
  all : T = G ++ Ta
  due : ∀ x ∈ G, x.2 ≤ last

theorem Part.adv {T G Ta : List It} {last t : Nat} (h : Part T G Ta last) (hs : srtI T) (hle : last ≤ t) : Part T (G ++ Ta.filter (fun x => decide (x.2 ≤ t))) (Ta.filter (fun x => decide (t < x.2))) t := by
  have hsa : srtI Ta := by rw [h.all] at hs; exact (List.pairwise_append.1 hs).2.1
  refine ⟨by rw [List.append_assoc, ← srt_parts2 hsa t]; exact h.all, fun x hx => ?_⟩
  rcases List.mem_append.1 hx with h1 | h1
  · have := h.due x h1; omega
  · exact of_decide_eq_true (List.mem_filter.1 h1).2

theorem Part.done {T G Ta : List It} {last : Nat} (h : Part T G Ta last) (hs : srtI T) (hgt : ∀ x ∈ Ta, last < x.2) : T.filter (fun x => decide (x.2 ≤ last)) = G ∧ T.filter (fun x => decide (last < x.2)) = Ta := by
  have _ := hs
  rw [h.all, List.filter_append, List.filter_append, List.filter_eq_self.2 (fun x hx => decide_eq_true (h.due x hx)), List.filter_eq_nil_iff.2 (fun x hx => by have := hgt x hx; simp; omega), List.filter_eq_nil_iff.2 (fun x hx => by have := h.due x hx; simp; omega), List.filter_eq_self.2 (fun x hx => decide_eq_true (hgt x hx))]
  simp

/-- What the second loop holds. -/
def StJ (w0 : World) (da db B bs : Nat) (T : List It) (last : Nat) (v : Value) (wr : World) : Prop :=
  ∃ Fa Fb G Ta, Duo w0 da db B last Ta 5 T 5 T Fa Fb wr ∧ Part T G Ta last ∧ OwnL wr bs v G ∧ (∀ b, v.ownBlock = some b → ¬ Fa b ∧ ¬ Fb b) ∧ B < bs ∧ w0.heap.size ≤ bs ∧ bs ≤ wr.heap.size ∧ ∃ p c, wr.heap[B]? = some (.cells #[.int .u64 ((5 : Nat) : Int), .slice p T.length c] 29 (0, 0)) ∧ ∀ b o, p = some ⟨b, o, none⟩ → b < bs

/-- Advance of the first wheel: the new row is not yet appended. -/
theorem StJ.adv {w0 : World} {da db B bs : Nat} {T : List It} {last : Nat} {v : Value} {wr : World} (h : StJ w0 da db B bs T last v wr) (hs : srtI T) (hl : T.length ≤ 60) (t : Nat) (hle : last ≤ t) (ht : t < 9223372036854775808) :
    Calls Try.prog 14 #[.pointer (some ⟨da, 0, none⟩), .int .u64 (t : Int)] wr fun r w' => ∃ p n c D G, r = .returned (.tuple #[.slice p n c, .int .i64 0]) ∧ Items w' p n c D ∧ OwnL w' bs v G ∧ bs ≤ w'.heap.size ∧ G.length + n ≤ 100000 ∧
      ∀ v' w'', OwnL w'' bs v' (G ++ D) → w'.grownBy w'' v.ownBlock → (v'.ownBlock = v.ownBlock ∨ v'.ownBlock = some w'.heap.size) → StJ w0 da db B bs T t v' w'' ∧ ∃ Fa Fb Ta, Duo w0 da db B t Ta 5 T 5 T Fa Fb w'' ∧ Part T (G ++ D) Ta t ∧ (∀ x ∈ Ta, t < x.2) ∧ (∀ b, v'.ownBlock = some b → ¬ Fa b ∧ ¬ Fb b) := by
  obtain ⟨Fa, Fb, G, Ta, h1, h2, h3, h4, h5, h6, h7, p, c, h8, h9⟩ := h
  have hTa : Ta.length ≤ 60 := by have := congrArg List.length h2.all; rw [List.length_append] at this; omega
  obtain ⟨u1, u2, u3⟩ := adv_some (now := last) (now' := t) (T := Ta) hle ht
  refine (h1.adv (by omega) t (by omega) (adv_yes hle ht) u1 u2 u3).mono ?_
  rintro r w' ⟨p', c', Fa', rfl, hI, hD, k1, k2, k3, k4⟩
  have hlt := World.ownsRow.lt h3
  have hvF : ∀ b, v.ownBlock = some b → ¬ Fa' b ∧ ¬ Fb b := fun b e => ⟨k1 b (hlt b e).2 (h4 b e).1, (h4 b e).2⟩
  have hBl : B < wr.heap.size := (Array.getElem?_eq_some_iff.1 h8).1
  have h8' : w'.heap[B]? = some (.cells #[.int .u64 ((5 : Nat) : Int), .slice p T.length c] 29 (0, 0)) := (k3 B hBl h1.ba.1).trans h8
  refine ⟨p', _, c', _, G, rfl, hI, OwnL.kept h3 (fun b e => k3 b (hlt b e).2 (h4 b e).1), Nat.le_trans h7 k4, ?_, fun v' w'' hr hg ho => ?_⟩
  · have := congrArg List.length h2.all
    have h10 := List.length_filter_le (fun x : It => decide (x.2 ≤ t)) Ta
    rw [List.length_append] at this
    omega
  · have hlt' := World.ownsRow.lt hr
    have hv' : ∀ b, v'.ownBlock = some b → ¬ Fa' b ∧ ¬ Fb b := fun b e => by
      rcases ho with ho | ho
      · exact hvF b (ho ▸ e)
      · rw [ho] at e
        cases e
        exact ⟨fun e' => by have := hD.al _ e'; omega, fun e' => by have := hD.bl _ e'; omega⟩
    have hDuo : Duo w0 da db B t _ 5 T 5 T Fa' Fb w'' := hD.other hg (fun b e => ⟨(hvF b e).1, (hvF b e).2, by have := (hlt b e).1; omega, by have := (hlt b e).1; omega⟩) (fun p2 c2 e2 b o e3 e4 => by
      rw [h8'] at e2
      have e5 := (Obj.cells.inj (Option.some.inj e2)).1
      have e6 : p = p2 := by
        have e7 := congrArg (fun a : Array Value => a[1]?) e5
        simp at e7
        exact e7.1
      have h10 := h9 b o (e6.trans e3)
      have h11 := (hlt b e4).1
      omega)
    have hBl' : B < w'.heap.size := (Array.getElem?_eq_some_iff.1 h8').1
    have hP := h2.adv hs hle
    exact ⟨⟨Fa', Fb, _, _, hDuo, hP, hr, hv', h5, h6, by have := hg.size; omega, p, c, (hg.block B hBl' (fun e => by have := (hlt B e.symm).1; omega)).trans h8', h9⟩, Fa', Fb, _, hDuo, hP, fun x hx => of_decide_eq_true (List.mem_filter.1 hx).2, hv'⟩

theorem StJ.turned {w0 : World} {da db B bs : Nat} {T : List It} {last : Nat} {v : Value} {wr w' : World} (h : StJ w0 da db B bs T last v wr) (hb : Below wr.heap.size wr w') : StJ w0 da db B bs T last v w' := by
  obtain ⟨Fa, Fb, G, Ta, h1, h2, h3, h4, h5, h6, h7, p, c, h8, h9⟩ := h
  exact ⟨Fa, Fb, G, Ta, h1.turned hb, h2, h3.below hb, h4, h5, h6, Nat.le_trans h7 hb.size, p, c, (hb.block B (Array.getElem?_eq_some_iff.1 h8).1).trans h8, h9⟩
theorem StJ.base {w0 : World} {da db B bs : Nat} {T : List It} {last : Nat} {v : Value} {wr : World} (h : StJ w0 da db B bs T last v wr) : Below w0.heap.size w0 wr := by
  obtain ⟨_, _, _, _, h, _⟩ := h
  exact h.base
set_option maxRecDepth 100000 in
set_option maxHeartbeats 6400000 in
theorem wheelSteps_any (p : Option Addr) (n c : Nat) (l : List It) (p2 : Option Addr) (n2 c2 : Nat) (l2 : List Nat) (w : World) (h : Items w p n c l) (hw : ∀ y ∈ l, y.1 < 18446744073709551616 ∧ y.2 < 18446744073709551616) (h2 : NumsU w p2 n2 c2 l2) :
    Calls Try.prog 5 #[.slice p n c, .slice p2 n2 c2] w fun r w' => r = .returned (.bool true) ∧ Below w.heap.size w w' := by
  have hle := h.le
  have hmx := h.max
  have hle2 := h2.le
  have hmx2 := h2.capmax
  have HA := Lib.hid (fun w => alive16_any w)
  have HN := Lib.hid (show ∀ W, Calls Try.prog 8 #[.int .u64 5] W fun r w' => r = .returned (.pointer (some ⟨W.heap.size + 1, 0, none⟩)) ∧ WhS W (fun _ => False) w' (W.heap.size + 1) 5 [] from fun W => wnewS_any 5 W (by decide))
  by_cases hbig : 60 < n ∨ 60 < n2
  · have hor : (60 < n) ∨ (¬ 60 < n ∧ 60 < n2) := by omega
    clear h h2 hw hbig
    rcases hor with hb | ⟨hb, hb2⟩
    · have hbi : (60 : Int) < (n : Int) := by omega
      go_enter Try.func5, Try.ntmps5
      go_wp2_with fail
      refine (HN.out _).mono ?_
      rintro r w1 ⟨rfl, hW⟩
      have Hb1 := Lib.hid hW.base
      clear hW
      go_wp2_with fail
      refine (HN.out _).mono ?_
      rintro r w2 ⟨rfl, hW⟩
      have Hb2 := Lib.hid (Hb1.out.trans (hW.base.mono Hb1.out.size))
      clear hW
      go_wp2_with fail
      refine (HA.out _).mono ?_
      rintro r w3 ⟨rfl, hb3⟩
      have Hb3 := Lib.hid (Hb2.out.trans (hb3.mono Hb2.out.size))
      clear hb3
      go_wp2
      go_ret
      exact ⟨rfl, Hb3.out⟩
    · have hbi : ¬ (60 : Int) < (n : Int) := by omega
      have hbi2 : (60 : Int) < (n2 : Int) := by omega
      go_enter Try.func5, Try.ntmps5
      go_wp2_with fail
      refine (HN.out _).mono ?_
      rintro r w1 ⟨rfl, hW⟩
      have Hb1 := Lib.hid hW.base
      clear hW
      go_wp2_with fail
      refine (HN.out _).mono ?_
      rintro r w2 ⟨rfl, hW⟩
      have Hb2 := Lib.hid (Hb1.out.trans (hW.base.mono Hb1.out.size))
      clear hW
      go_wp2_with fail
      refine (HA.out _).mono ?_
      rintro r w3 ⟨rfl, hb3⟩
      have Hb3 := Lib.hid (Hb2.out.trans (hb3.mono Hb2.out.size))
      clear hb3
      go_wp2
      go_ret
      exact ⟨rfl, Hb3.out⟩
  · have hbi : ¬ (60 : Int) < (n : Int) := by omega
    have hbi2 : ¬ (60 : Int) < (n2 : Int) := by omega
    have HR := Lib.hid (show ∀ W, Calls Try.prog 11 #[.int .u64 5] W fun r w' => r = .returned (.agg #[.int .u64 5, .slice none 0 0]) ∧ Below W.heap.size W w' from fun W => rnew16_any 5 W)
    have HL := Lib.hid (And.intro h hw)
    have HL2 := Lib.hid h2
    have Hn := Lib.hid (show n ≤ 60 ∧ n2 ≤ 60 by omega)
    clear h h2 hw hbig
    go_enter Try.func5, Try.ntmps5
    go_wp2_with fail
    refine (HN.out _).mono ?_
    rintro r w1 ⟨rfl, hWa⟩
    have HWa := Lib.hid hWa
    clear hWa
    go_wp2_with fail
    refine (HN.out _).mono ?_
    rintro r w2 ⟨rfl, hWb⟩
    have HWb := Lib.hid hWb
    clear hWb
    go_wp2_with fail
    refine (HR.out _).mono ?_
    rintro r w3 ⟨rfl, hb3⟩
    have HD0 := Lib.hid (show ∃ Fa Fb, Duo w (w.heap.size + 1) (w1.heap.size + 1) w3.heap.size 5 [] 5 [] 5 [] Fa Fb (w3.alloc (.cells #[.int .u64 5, .slice none 0 0] 29)) from Duo.start HWa.out HWb.out hb3)
    obtain ⟨B, hB⟩ : ∃ B, B = w3.heap.size := ⟨_, rfl⟩
    obtain ⟨db, hdb⟩ : ∃ db, db = w1.heap.size + 1 := ⟨_, rfl⟩
    obtain ⟨w4, hw4⟩ : ∃ w4, w4 = w3.alloc (.cells #[.int .u64 5, .slice none 0 0] 29) := ⟨_, rfl⟩
    rw [← hB, ← hw4, ← hdb] at HD0
    clear hb3
    go_upto_region 5 with fail
    rw [← hB, ← hw4, ← hdb]
    clear hB hw4 hdb
    go_wp2_with fail
    go_loopw [53] (fun i wr => ∃ j : Nat, j ≤ n ∧ i = .int .i64 (j : Int) ∧ RowKit.Hid (∃ T Fa Fb, Duo w (w.heap.size + 1) db B 5 T 5 T 5 T Fa Fb wr ∧ TimW T ∧ T.length ≤ j)) (fun i _ => n - (intOf i).toNat)
    case atStart =>
      obtain ⟨Fa, Fb, hD⟩ := HD0.out
      exact ⟨0, Nat.zero_le _, rfl, Lib.hid ⟨[], Fa, Fb, hD, tim_nil, Nat.le_refl _⟩⟩
    case round =>
      clear HD0
      obtain ⟨j, hj, rfl, HJ⟩ := hrel
      by_cases hlt : j < n
      · have hji : (j : Int) < (n : Int) := by omega
        obtain ⟨T, Fa, Fb, hP, hT, hTl⟩ := HJ.out
        obtain ⟨b, o, rfl, hc⟩ := HL.out.1.cell (by omega)
        obtain ⟨x, hx⟩ : ∃ x, l[j]? = some x := ⟨_, List.getElem?_eq_getElem (by rw [HL.out.1.len]; exact hlt)⟩
        obtain ⟨hx1, hx2⟩ := HL.out.2 x (List.mem_of_getElem? hx)
        obtain ⟨c0, c1⟩ := hc j x hx
        obtain ⟨x1, x2⟩ := x
        have hBelow : Below w.heap.size w wr := hP.base
        have c0 : wr.cell? ⟨b, o + j * 2, none⟩ = some (.int .u64 (x1 : Int)) := by rw [hBelow.cell (World.block_lt_of_cell? _ _ c0)]; exact c0
        have c1 : wr.cell? ⟨b, o + j * 2 + 1, none⟩ = some (.int .u64 (x2 : Int)) := by rw [hBelow.cell (World.block_lt_of_cell? _ _ c1)]; exact c1
        have hn60 := Hn.out.1
        obtain ⟨s1, s2, s3⟩ := schedT_tim hT (x1, x2) hx1
        have hb0 : Below wr.heap.size wr (wr.alloc (.cells #[.int .u64 (x1 : Int), .int .u64 (x2 : Int)] 36)) := (Below.refl _ _).alloc (Nat.le_refl _) _
        have d := heap_alloc_new wr (.cells #[.int .u64 (x1 : Int), .int .u64 (x2 : Int)] 36)
        have hP4 := hP.turned hb0
        have hnotA : ¬ Fa wr.heap.size := fun e => by have := hP.al _ e; omega
        have hnotB : ¬ Fb wr.heap.size := fun e => by have := hP.bl _ e; omega
        have Hnot := Lib.hid (And.intro hnotA hnotB)
        obtain ⟨w4, hw4⟩ : ∃ w4, w4 = wr.alloc (.cells #[.int .u64 (x1 : Int), .int .u64 (x2 : Int)] 36) := ⟨_, rfl⟩
        rw [← hw4] at d hP4
        obtain ⟨d0, d1, _, _⟩ := cells_of2 d
        have HS1 := Lib.hid (hP4.sched (by omega) x1 x2 hx1 hx2)
        have HD := Lib.hid d
        have HT := Lib.hid (And.intro hT (And.intro hTl (And.intro s1 (And.intro s2 (And.intro hx1 hx2)))))
        have Hlt4 := Lib.hid ((Array.getElem?_eq_some_iff.1 d).1)
        clear hc hx hP hT hTl HJ hBelow s1 s2 s3 hb0 d hP4 hx1 hx2 hnotA hnotB
        go_upto_region 8 with fail
        rw [← hw4]
        clear hw4 c0 c1
        go_wp2_with fail
        refine HS1.out.mono ?_
        rintro r w5 ⟨rfl, ⟨Fa', hP5⟩, hk5⟩
        have d5 := (hk5 wr.heap.size Hlt4.out Hnot.out.1).trans HD.out
        obtain ⟨e0, e1, _, _⟩ := cells_of2 d5
        have Hlt5 := Lib.hid ((Array.getElem?_eq_some_iff.1 d5).1)
        have HD5 := Lib.hid d5
        have HS2 := Lib.hid (hP5.flip.sched (by have := HT.out.2.1; omega) x1 x2 HT.out.2.2.2.2.1 HT.out.2.2.2.2.2)
        clear hP5 hk5 d5 d0 d1
        go_wp2_with fail
        refine HS2.out.mono ?_
        rintro r w6 ⟨rfl, ⟨Fb', hP6⟩, hk6⟩
        have d6 := (hk6 wr.heap.size Hlt5.out Hnot.out.2).trans HD5.out
        obtain ⟨f0, f1, _, _⟩ := cells_of2 d6
        obtain ⟨pp, cc, k0, hcall⟩ := hP6.flip.rsched HT.out.1.srt (by have := HT.out.2.1; omega) x1 x2 HT.out.2.2.2.2.2
        obtain ⟨b0, b1, _, _⟩ := cells_of2 k0
        have HC := Lib.hid hcall
        clear hP6 hk6 d6 hcall k0 e0 e1
        go_wp2_with fail
        refine HC.out.mono ?_
        rintro r w7 ⟨p7, c7, rfl, hP7, hR7⟩
        obtain ⟨p8, c8, k8, _⟩ := hP7.ref
        obtain ⟨g0, g1, g2, g3⟩ := cells_of2 k8
        have HP8 := Lib.hid (show ∃ T' Fa Fb, Duo w (w.heap.size + 1) db B 5 T' 5 T' 5 T' Fa Fb ((w7.setCell ⟨B, 0, none⟩ (.int .u64 ((5 : Nat) : Int))).setCell ⟨B, 1, none⟩ (.slice p7 (schedT T (x1, x2)).length c7)) ∧ TimW T' ∧ T'.length ≤ j + 1 from ⟨_, _, _, hP7.store (n2' := 5) hR7, HT.out.2.2.1, by have := HT.out.2.1; have := HT.out.2.2.2.1; omega⟩)
        clear hP7 hR7 k8 b0 b1 f0 f1
        go_wp2
        go_roundw
        case rel => exact ⟨j + 1, by omega, by go_num, HP8⟩
        case measure => simp [intOf]; omega
      · have hji : ¬ (j : Int) < (n : Int) := by omega
        obtain ⟨T, Fa, Fb, hP, hT, hTl⟩ := HJ.out
        obtain ⟨pL, cL, k0, hrow⟩ := hP.box
        have HS := Lib.hid (show StJ w (w.heap.size + 1) db B wr.heap.size T 5 (.slice none 0 0) wr from ⟨Fa, Fb, [], T, hP, ⟨rfl, (fun x hx => by cases hx)⟩, World.ownsRow_nil _ _ _ _, (fun b e => by cases e), (Array.getElem?_eq_some_iff.1 k0).1, hP.base.size, Nat.le_refl _, pL, cL, k0, fun b o e => (hrow.mem b o e).2⟩)
        obtain ⟨bs, hbs⟩ : ∃ bs, bs = wr.heap.size := ⟨_, rfl⟩
        rw [← hbs] at HS
        have HT := Lib.hid (And.intro hT (show T.length ≤ 60 from by have := Hn.out.1; omega))
        clear hP hT hTl HJ k0 hrow hbs
        go_wp2_with fail
        go_loopw [10, 11, 81] (fun v z i wr => ∃ j last : Nat, j ≤ n2 ∧ i = .int .i64 (j : Int) ∧ z = .int .u64 (last : Int) ∧ 5 ≤ last ∧ last < 9223372036854775808 ∧ RowKit.Hid (StJ w (w.heap.size + 1) db B bs T last v wr)) (fun _ _ i _ => n2 - (intOf i).toNat)
        case atStart => exact ⟨0, 5, Nat.zero_le _, rfl, rfl, Nat.le_refl _, by decide, HS⟩
        case round =>
          clear HS
          obtain ⟨j, last, hj, rfl, rfl, hl5, hl63, HJ⟩ := hrel
          by_cases hlt : j < n2
          · have hji : (j : Int) < (n2 : Int) := by omega
            obtain ⟨b, o, rfl, hc⟩ := HL2.out.cell (by omega)
            obtain ⟨tk, htk⟩ : ∃ tk, l2[j]? = some tk := ⟨_, List.getElem?_eq_getElem (by rw [HL2.out.len]; exact hlt)⟩
            have htb := HL2.out.wf tk (List.mem_of_getElem? htk)
            have c0 := hc j tk htk
            have c0 : wr.cell? ⟨b, o + j, none⟩ = some (.int .u64 (tk : Int)) := by rw [HJ.out.base.cell (World.block_lt_of_cell? _ _ c0)]; exact c0
            clear hc htk
            by_cases hok : last ≤ tk ∧ tk < 9223372036854775808
            · have h1 : (last : Int) ≤ (tk : Int) := by omega
              have h2 : (tk : Int) ≤ 9223372036854775807 := by omega
              have HAd := Lib.hid (HJ.out.adv HT.out.1.srt HT.out.2 tk hok.1 hok.2)
              have hok2 := hok.2
              have hok1 := hok.1
              clear hok HJ
              go_wp2_with fail
              refine HAd.out.mono ?_
              rintro r w5 ⟨p5, n5, c5, D, G, rfl, hI5, hown5, hsz5, hl5', hnext⟩
              have Hrow := Lib.hid (And.intro hown5 (And.intro hI5 hsz5))
              have Hl := Lib.hid hl5'
              have Hnext := Lib.hid hnext
              clear hI5 hown5 hsz5 hl5' hnext c0
              go_wp2_with (at_builtin; refine wpl_app3 rfl _ _ rfl (by first | rfl | go_simp) Hrow.out.1 (p := p5) (m := n5) (c := c5) (by first | rfl | go_simp) Hrow.out.2.1 Hrow.out.2.2 Hl.out ?_; intro v7 w7 hown7 hg7 ho7)
              have HJ7 := Lib.hid (Hnext.out v7 w7 hown7 hg7 ho7).1
              clear hown7 hg7 ho7 Hnext Hrow
              go_wp2
              go_roundw
              case rel => exact ⟨j + 1, tk, by omega, by go_num, rfl, by omega, hok2, HJ7⟩
              case measure => simp [intOf]; omega
            · have hor : (¬ (last : Int) ≤ (tk : Int)) ∨ ((last : Int) ≤ (tk : Int) ∧ ¬ (tk : Int) ≤ 9223372036854775807) := by omega
              clear hok
              rcases hor with h1 | ⟨h1, h2⟩
              all_goals
                go_wp2
                go_roundw
                case rel => exact ⟨j + 1, last, by omega, by go_num, rfl, hl5, hl63, HJ⟩
                case measure => simp [intOf]; omega
          · have hji : ¬ (j : Int) < (n2 : Int) := by omega
            have HAd := Lib.hid (HJ.out.adv HT.out.1.srt HT.out.2 last (Nat.le_refl _) hl63)
            clear HJ
            go_wp2_with fail
            refine HAd.out.mono ?_
            rintro r w5 ⟨p5, n5, c5, D, G, rfl, hI5, hown5, hsz5, hl5', hnext⟩
            have Hrow := Lib.hid (And.intro hown5 (And.intro hI5 hsz5))
            have Hl := Lib.hid hl5'
            have Hnext := Lib.hid hnext
            clear hI5 hown5 hsz5 hl5' hnext
            go_wp2_with (at_builtin; refine wpl_app3 rfl _ _ rfl (by first | rfl | go_simp) Hrow.out.1 (p := p5) (m := n5) (c := c5) (by first | rfl | go_simp) Hrow.out.2.1 Hrow.out.2.2 Hl.out ?_; intro v7 w7 hown7 hg7 ho7)
            obtain ⟨hS7, Fa7, Fb7, Ta7, hD7, hP7, hgt7, hv7⟩ := Hnext.out v7 w7 hown7 hg7 ho7
            obtain ⟨e1, e2⟩ := hP7.done HT.out.1.srt hgt7
            obtain ⟨u1, u2, u3⟩ := adv_some (now := 5) (now' := last) (T := T) hl5 hl63
            rw [e1] at u1
            rw [e2] at u2
            have HB := Lib.hid (hD7.flip.adv (by have := HT.out.2; omega) last (by omega) (adv_yes hl5 hl63) u1 u2 u3)
            obtain ⟨RR, hRR⟩ : ∃ RR, RR = G ++ D := ⟨_, rfl⟩
            rw [← hRR] at HB hown7 u1
            obtain ⟨N7, hN7⟩ : ∃ N7, RR.length = N7 := ⟨_, rfl⟩
            rw [hN7] at HB
            obtain ⟨q7, d7, hv7e, hI7⟩ := OwnL.items hown7 hN7
            have Hown7 := Lib.hid (And.intro hown7 (And.intro (fun b e => (hv7 b e).2) (And.intro hN7 hv7e)))
            have HD7 := Lib.hid hD7
            have Hu := Lib.hid (And.intro u1 (And.intro u2 u3))
            have HRR := Lib.hid (show RR.length ≤ 1000 from by have h9 := congrArg List.length e1; rw [← hRR] at h9; have h10 := List.length_filter_le (fun x : It => decide (x.2 ≤ last)) T; have := HT.out.2; omega)
            have HTa := Lib.hid (congrArg List.length e2)
            clear hS7 hD7 hP7 hgt7 hv7 e1 e2 u1 u2 u3 hRR hown7 hN7 hI7 hg7 ho7 Hnext Hrow
            subst hv7e
            go_wp2_with fail
            refine HB.out.mono ?_
            rintro r w9 ⟨p9, c9, Fb9, rfl, hI9, hD9, _, _, hk9, hs9⟩
            have hown9 : OwnL w9 bs (.slice q7 N7 d7) RR := OwnL.kept Hown7.out.1 (fun b e => hk9 b (World.ownsRow.lt Hown7.out.1 b e).2 (Hown7.out.2.1 b e))
            obtain ⟨q8, d8, e8, hI8⟩ := OwnL.items hown9 Hown7.out.2.2.1
            rw [Value.slice.injEq] at e8
            obtain ⟨rfl, _, rfl⟩ := e8
            obtain ⟨pr, cr, k9, hV9⟩ := hD9.ref
            obtain ⟨b0, b1, _, _⟩ := cells_of2 k9
            have HC := Lib.hid (radv16_any _ 5 T _ last w9 hV9 HT.out.1.srt (by have := HT.out.2; omega) (by omega) last Hu.out.2.2.symm Ta7 Hu.out.2.1.symm RR Hu.out.1.symm 0 (adv_yes hl5 hl63).symm)
            have HI9 := Lib.hid (And.intro hI8 hI9)
            have HD9 := Lib.hid hD9
            clear hI8 hI9 hD9 hk9 hs9 hown9 k9 hV9
            go_wp2_with fail
            refine HC.out.mono ?_
            rintro r w10 ⟨vr, pp, cc, rfl, hvr, hrow, hb10⟩
            obtain ⟨pv, cv, rfl, _⟩ := hvr
            rw [Hown7.out.2.2.1] at hrow
            have hba : Below w10.heap.size w10 (w10.alloc (.cells #[.int .u64 (last : Int), .slice pv Ta7.length cv] 29)) := (Below.refl _ _).alloc (Nat.le_refl _) _
            have HI10 := Lib.hid (And.intro ((HI9.out.1.below hb10).below hba) (And.intro ((HI9.out.2.below hb10).below hba) (hrow.items.below hba)))
            have HD10 := Lib.hid ((HD9.out.turned hb10).turned hba)
            rw [Hown7.out.2.2.1]
            clear hb10 hrow hba b0 b1
            go_wp2_with fail
            refine (HA.out _).mono ?_
            rintro r w11 ⟨rfl, hb11⟩
            have HI11 := Lib.hid (And.intro (HI10.out.1.below hb11) (And.intro (HI10.out.2.1.below hb11) (HI10.out.2.2.below hb11)))
            have HD11 := Lib.hid (HD10.out.turned hb11)
            have HE11 := Lib.hid ((lequal_any q7 p9 N7 N7 d7 c9 RR RR w11 HI11.out.1 HI11.out.2.1).mono (R' := fun r w' => r = .returned (.bool true) ∧ Below w11.heap.size w11 w') (by rintro r w' ⟨e, hb⟩; exact ⟨by rw [e, decide_eq_true rfl], hb⟩))
            clear hb11
            go_wp2_with fail
            refine HE11.out.mono ?_
            rintro r w12 ⟨rfl, hb12⟩
            have HI12 := Lib.hid (And.intro (HI11.out.2.1.below hb12) (HI11.out.2.2.below hb12))
            have HD12 := Lib.hid (HD11.out.turned hb12)
            have HBk := Lib.hid (back_any p9 N7 c9 RR w12 HI12.out.1 (by rw [← Hown7.out.2.2.1]; exact HRR.out))
            clear hb12
            go_wp2_with fail
            refine HBk.out.mono ?_
            rintro r w13 ⟨v13, rfl, hown13, hb13⟩
            obtain ⟨q13, d13, rfl, hI13⟩ := OwnI.items hown13 Hown7.out.2.2.1
            have HD13 := Lib.hid (HD12.out.turned hb13)
            have HE13 := Lib.hid ((equal_any q13 pp N7 N7 d13 cc RR RR w13 hI13 (HI12.out.2.below hb13)).mono (R' := fun r w' => r = .returned (.bool true) ∧ Below w13.heap.size w13 w') (by rintro r w' ⟨e, hb⟩; exact ⟨by rw [e, decide_eq_true rfl], hb⟩))
            clear hown13 hb13 hI13
            go_wp2_with fail
            refine HE13.out.mono ?_
            rintro r w14 ⟨rfl, hb14⟩
            have hD14 := HD13.out.turned hb14
            have HN1 := Lib.hid (show Calls Try.prog 23 #[.pointer (some ⟨w.heap.size + 1, 0, none⟩)] w14 fun r w' => r = .returned (.int .u64 (last : Int)) ∧ w14 = w' from by
              obtain ⟨L, h, _⟩ := hD14.b
              exact (wnow_any h).mono (fun r w' h => ⟨h.1, h.2.symm⟩))
            have HN2 := Lib.hid (show Calls Try.prog 23 #[.pointer (some ⟨db, 0, none⟩)] w14 fun r w' => r = .returned (.int .u64 (last : Int)) ∧ w14 = w' from by
              obtain ⟨L, h, _⟩ := hD14.a
              exact (wnow_any h).mono (fun r w' h => ⟨h.1, h.2.symm⟩))
            obtain ⟨M, hM⟩ : ∃ M, Ta7.length = M := ⟨_, rfl⟩
            have HC1 := Lib.hid (show Calls Try.prog 18 #[.pointer (some ⟨w.heap.size + 1, 0, none⟩)] w14 fun r w' => r = .returned (.int .i64 (M : Int)) ∧ w14 = w' from by
              obtain ⟨L, h, _⟩ := hD14.b
              exact (wcount_any h hM).mono (fun r w' h => ⟨h.1, h.2.symm⟩))
            have HC2 := Lib.hid (show Calls Try.prog 18 #[.pointer (some ⟨db, 0, none⟩)] w14 fun r w' => r = .returned (.int .i64 (M : Int)) ∧ w14 = w' from by
              obtain ⟨L, h, _⟩ := hD14.a
              exact (wcount_any h hM).mono (fun r w' h => ⟨h.1, h.2.symm⟩))
            have Hbase := Lib.hid hD14.base
            clear hD14 hb14 hM
            go_wp2_with fail
            refine HN1.out.mono ?_
            rintro r w15 ⟨rfl, rfl⟩
            go_wp2_with fail
            refine HN2.out.mono ?_
            rintro r w15 ⟨rfl, rfl⟩
            go_wp2_with fail
            refine HC1.out.mono ?_
            rintro r w15 ⟨rfl, rfl⟩
            go_wp2_with fail
            refine HC2.out.mono ?_
            rintro r w15 ⟨rfl, rfl⟩
            go_wp2
            go_ret
            exact ⟨rfl, Hbase.out⟩
end Go.Proofs.Ythidinaflaogfaa
