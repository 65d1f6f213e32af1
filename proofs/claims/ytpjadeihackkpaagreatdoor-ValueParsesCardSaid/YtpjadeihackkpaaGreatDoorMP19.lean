import Derived.Test.YtpjadeihackkpaaGreatDoorMP18
import Derived.Test.YtpjadeihackkpaaGreatDoorMP17
/- The walk of the reference's parse. -/
namespace Go.Proofs.YtpjadeihackkpaaGreatDoor
open Go.RowKit Fl

def RParseAt (t : Nat) : Prop := ∀ (l : List Nat) (w : World), (∀ x ∈ l, x < 256) → l.length ≤ 900000 → Calls Tryz.prog 40 #[.string (str l), .int .i64 (t : Int)] w (ParseT w l t)

theorem set5_any {w w1 : World} {g : Nat} (h : Below w.heap.size w w1) (hg : w.heap.size ≤ g) (a b c d e : Value) : Below w.heap.size w (((((w1.setCell ⟨g, 0, none⟩ a).setCell ⟨g, 1, none⟩ b).setCell ⟨g, 2, none⟩ c).setCell ⟨g, 3, none⟩ d).setCell ⟨g, 4, none⟩ e) :=
  ((((h.setCell hg _).setCell hg _).setCell hg _).setCell hg _).setCell hg _

theorem zero_in {q : Nat → Prop} {w : World} : VInP q w (.mk 0 0 0 [] []) #[.int .i64 0, .int .i64 0, .float .f64 0, .string ⟨#[]⟩, .slice none 0 0] := by
  rw [VInP]
  exact ⟨by omega, by omega, by omega, by simp, by simp, none, 0, rfl, Nat.le_refl _, by omega, .inl rfl⟩

/-- No value. -/
theorem parse_no {w w' : World} {l : List Nat} {t : Nat} (hb : Below w.heap.size w w') (hno : ∀ (u : V) (r : List Nat), l = textV u ++ r → rightN t u = true → soundV u → Ends r → False) :
    ParseT w l t (.returned (.tuple #[.agg #[.int .i64 0, .int .i64 0, .float .f64 0, .string ⟨#[]⟩, .slice none 0 0], .string ⟨#[]⟩, .bool false])) w' :=
  ⟨.mk 0 0 0 [] [], _, [], false, rfl, zero_in, hb, by simp, by simp, (fun h => by cases h), fun u r e h1 h2 h3 => (hno u r e h1 h2 h3).elim⟩

set_option maxRecDepth 100000 in
set_option maxHeartbeats 3200000 in
theorem rparse_flat (q : List Nat) (w : World) (hq : ∀ x ∈ q, x < 256) (hn : q.length ≤ 900000) :
    Calls Tryz.prog 40 #[.string (str (91 :: q)), .int .i64 0] w (ParseT w (91 :: q) 0) := by
  have hl : ∀ x ∈ 91 :: q, x < 256 := by
    intro x hx
    rcases List.mem_cons.1 hx with e | e
    · omega
    · exact hq x e
  have hsz := str_size (91 :: q)
  have K0 : 0 < (str (91 :: q)).size := by rw [hsz, List.length_cons]; omega
  have hg0 := get_str hl 0 K0
  rw [List.getD_cons_zero] at hg0
  have hs : ((str (91 :: q)).toList == ([] : List UInt8)) = false := by rw [str_list]; rfl
  have H0 := Lib.hid (heap_alloc_new w (.cells #[.int .i64 0, .int .i64 0, .float .f64 0, .string ⟨#[]⟩, .slice none 0 0] 25))
  have Hb0 := Lib.hid ((Below.refl w.heap.size w).alloc (Nat.le_refl _) (.cells #[.int .i64 0, .int .i64 0, .float .f64 0, .string ⟨#[]⟩, .slice none 0 0] 25))
  have hfl : ∀ (w : World) (a : Addr) (m : Mode) (b : Nat), (store a (.float .f64 b) m).run Tryz.prog w = stored Tryz.prog w a (.float .f64 b) m := fun w a m b => run_store Tryz.prog w a _ m rfl
  clear hq
  generalize str (91 :: q) = S at *
  go_enter Tryz.func40, Tryz.ntmps40
  go_wp2
  obtain ⟨⟨z0, z1, z2, z3, z4⟩, _⟩ := res_cells H0.out
  refine bodyPost_ret (v := .tuple #[.agg #[.int .i64 0, .int .i64 0, .float .f64 0, .string ⟨#[]⟩, .slice none 0 0], .string ⟨#[]⟩, .bool false]) (by simp [results, Tryz.results40, go_sem, *]) rfl ?_
  refine parse_no Hb0.out (fun u r e hu _ _ => ?_)
  obtain ⟨us, e1, _⟩ := list_text e hu
  rw [e1] at hu
  unfold rightN at hu
  simp [V.kind] at hu

/-- The two blocks of a call of parse that reads a list: its result, the list that it fills. -/
structure PaH (w wr : World) (acc : Value) : Prop where
  res : wr.heap[w.heap.size]? = some (.cells #[.int .i64 0, .int .i64 0, .float .f64 0, .string ⟨#[]⟩, .slice none 0 0] 25 (0, 0))
  out : wr.heap[w.heap.size + 1]? = some (.cells #[.int .i64 4, .int .i64 0, .float .f64 0, .string ⟨#[]⟩, acc] 25 (0, 0))
  below : Below w.heap.size w wr

theorem PaH.size {w wr : World} {acc : Value} (h : PaH w wr acc) : w.heap.size + 2 ≤ wr.heap.size := by
  have := (Array.getElem?_eq_some_iff.1 h.out).1
  omega

theorem PaH.go {w wr w' : World} {acc : Value} (h : PaH w wr acc) (hb : Below wr.heap.size wr w') : PaH w w' acc := by
  have hs := h.size
  exact ⟨(hb.block _ (by omega)).trans h.res, (hb.block _ (by omega)).trans h.out, h.below.trans (hb.mono (by omega))⟩

theorem PaH.grown {w wr w' : World} {acc : Value} (h : PaH w wr acc) (hg : wr.grownBy w' acc.ownBlock) (hb : ∀ g, acc.ownBlock = some g → w.heap.size + 2 ≤ g) : PaH w w' acc := by
  have hs := h.size
  have hne : ∀ g, g < w.heap.size + 2 → some g ≠ acc.ownBlock := fun g hg e => by have := hb g e.symm; omega
  exact ⟨(hg.block _ (by omega) (hne _ (by omega))).trans h.res, (hg.block _ (by omega) (hne _ (by omega))).trans h.out, h.below.grown hg (by omega) (fun g e => by have := hb g e; omega)⟩

theorem PaH.cells {w wr : World} {acc : Value} (h : PaH w wr acc) :
    ((wr.cell? ⟨w.heap.size, 0, none⟩ = some (.int .i64 0) ∧ wr.cell? ⟨w.heap.size, 1, none⟩ = some (.int .i64 0) ∧ wr.cell? ⟨w.heap.size, 2, none⟩ = some (.float .f64 0) ∧ wr.cell? ⟨w.heap.size, 3, none⟩ = some (.string ⟨#[]⟩) ∧ wr.cell? ⟨w.heap.size, 4, none⟩ = some (.slice none 0 0)) ∧
    (wr.frozen? ⟨w.heap.size, 0, none⟩ = false ∧ wr.frozen? ⟨w.heap.size, 1, none⟩ = false ∧ wr.frozen? ⟨w.heap.size, 2, none⟩ = false ∧ wr.frozen? ⟨w.heap.size, 3, none⟩ = false ∧ wr.frozen? ⟨w.heap.size, 4, none⟩ = false)) ∧
    (wr.cell? ⟨w.heap.size + 1, 0, none⟩ = some (.int .i64 4) ∧ wr.cell? ⟨w.heap.size + 1, 1, none⟩ = some (.int .i64 0) ∧ wr.cell? ⟨w.heap.size + 1, 2, none⟩ = some (.float .f64 0) ∧ wr.cell? ⟨w.heap.size + 1, 3, none⟩ = some (.string ⟨#[]⟩) ∧ wr.cell? ⟨w.heap.size + 1, 4, none⟩ = some acc) ∧
    wr.frozen? ⟨w.heap.size + 1, 4, none⟩ = false := by
  refine ⟨res_cells h.res, box_cells h.out, ?_⟩
  simp [World.frozen?, h.out]

theorem PaH.store {w wr : World} {acc : Value} (h : PaH w wr acc) (acc' : Value) : PaH w (wr.setCell ⟨w.heap.size + 1, 4, none⟩ acc') acc' := by
  refine ⟨(Below.heap_setCell _ _ _ _ (by simp)).trans h.res, ?_, h.below.setCell (by simp) _⟩
  simp [World.setCell, Array.getElem?_modify, h.out]

/-- The empty list. -/
theorem flat_end {w w' : World} {q r0 : List Nat} {t : Nat} (hqe : q = 93 :: r0) (hq : ∀ c ∈ q, c < 256) (hb : Below w.heap.size w w') :
    ParseT w (91 :: q) (t + 1) (.returned (.tuple #[.agg #[.int .i64 4, .int .i64 0, .float .f64 0, .string ⟨#[]⟩, .slice none 0 0], .string (str r0), .bool true])) w' := by
  subst hqe
  obtain ⟨h1, h2⟩ := list_answer (q := 93 :: r0) (rest := r0) (t := t) (vs := []) (by rw [List.length_cons]; simp [textVs, joinS]; omega) (fun us r e hu _ => by
    obtain ⟨e1, e2⟩ := empty_list us r t e hu
    exact ⟨e2, by rw [e1, sameL]⟩)
  refine ⟨.mk 4 0 0 [] [], _, r0, true, rfl, ?_, hb, fun c hc => hq c (by simp [hc]), by rw [List.length_cons, List.length_cons]; omega, h1, h2⟩
  rw [VInP]
  exact ⟨by omega, by omega, by omega, by simp, by simp, none, 0, rfl, Nat.le_refl _, by omega, .inl rfl⟩

theorem pa_done {base : Nat} {l : List V} {acc : Value} {wr w' : World} (hO : OwnVs wr (base + 2) acc l) (hw : ∀ b, base + 2 ≤ b → b < wr.heap.size → w'.heap[b]? = wr.heap[b]?) (hz : wr.heap.size ≤ w'.heap.size) :
    VInP (fun b => base ≤ b ∧ b < w'.heap.size) w' (V.mk 4 0 0 [] l) #[.int .i64 4, .int .i64 0, .float .f64 0, .string ⟨#[]⟩, acc] := by
  obtain ⟨a, cap, rfl, hcap, hmax, hl⟩ := (hO.keep hw hz).lies
  rw [VInP]
  refine ⟨by omega, by omega, by omega, by simp, by simp, a, cap, rfl, hcap, hmax, ?_⟩
  rcases hl with hl | ⟨g, ha, hg, hv⟩
  · exact .inl hl
  · exact .inr ⟨g, 0, ha, ⟨by omega, hg.2⟩, VsInP.turn (fun b hb => ⟨by omega, hb.2⟩) (fun _ _ => rfl) l g 0 hg hv⟩

/-- The closing bracket. -/
theorem list_fin {w w4 : World} {q x r' : List Nat} {t : Nat} {vs : List V} {v : V} {acc acc' : Value} (hR : RL q t vs x) (hH : PaH w w4 acc) (hO : OwnVs w4 (w.heap.size + 2) acc' (vs ++ [v])) (hb : ∀ d ∈ 93 :: r', d < 256)
    (hsz : (textV v).length + (93 :: r').length = x.length) (hco : ∀ (u : V) (r : List Nat), x = textV u ++ r → rightN t u = true → soundV u → Ends r → true = true ∧ 93 :: r' = r ∧ sameV v u = true) :
    ParseT w (91 :: q) (t + 1) (.returned (.tuple #[.agg #[.int .i64 4, .int .i64 0, .float .f64 0, .string ⟨#[]⟩, acc'], .string (str r'), .bool true]))
      ((((((w4.setCell ⟨w.heap.size + 1, 4, none⟩ acc').setCell ⟨w.heap.size, 0, none⟩ (.int .i64 4)).setCell ⟨w.heap.size, 1, none⟩ (.int .i64 0)).setCell ⟨w.heap.size, 2, none⟩ (.float .f64 0)).setCell ⟨w.heap.size, 3, none⟩ (.string ⟨#[]⟩)).setCell ⟨w.heap.size, 4, none⟩ acc') := by
  obtain ⟨h1, h2⟩ := hR.end_ hsz hco
  obtain ⟨h3, h4⟩ := list_answer h1 h2
  refine ⟨.mk 4 0 0 [] (vs ++ [v]), _, r', true, rfl, pa_done hO (fun b hb1 _ => ?_) ?_, set5 (hH.below.setCell (by simp) _) _ _ _ _ _, fun c hc => hb c (by simp [hc]), by rw [List.length_cons]; omega, h3, h4⟩
  · rw [set5_block (by omega)]
    exact Below.heap_setCell _ _ _ _ (by simp; omega)
  · simp [World.setCell]

def lenOf : Value → Nat
  | .string s => s.size
  | _ => 0

def PaRel (w : World) (q : List Nat) (t : Nat) (d : Value) (wr : World) : Prop :=
  ∃ (vs : List V) (x : List Nat) (acc : Value), d = .string (str x) ∧ RL q t vs x ∧ PaH w wr acc ∧ OwnVs wr (w.heap.size + 2) acc vs

set_option maxRecDepth 100000 in
set_option maxHeartbeats 6400000 in
theorem rparse_list (t : Nat) (ht : t ≤ 1000) (hA : RParseAt t) (q : List Nat) (w : World) (hq : ∀ x ∈ q, x < 256) (hn : q.length ≤ 900000) :
    Calls Tryz.prog 40 #[.string (str (91 :: q)), .int .i64 ((t + 1 : Nat) : Int)] w (ParseT w (91 :: q) (t + 1)) := by
  obtain ⟨T, hTe⟩ : ∃ T : Int, T = ((t + 1 : Nat) : Int) := ⟨_, rfl⟩
  have hT0 : (T == 0) = false := beq_eq_false_iff_ne.2 (by omega)
  have hT1 : T - 1 = (t : Int) := by omega
  have hT2 : 0 < T ∧ T ≤ 1001 := by omega
  rw [← hTe]
  clear hTe
  have hl : ∀ x ∈ 91 :: q, x < 256 := by
    intro x hx
    rcases List.mem_cons.1 hx with e | e
    · omega
    · exact hq x e
  have hsz := str_size (91 :: q)
  have K0 : 0 < (str (91 :: q)).size := by rw [hsz, List.length_cons]; omega
  have K1 : 1 ≤ (str (91 :: q)).size := K0
  have hg0 := get_str hl 0 K0
  rw [List.getD_cons_zero] at hg0
  have hs : ((str (91 :: q)).toList == ([] : List UInt8)) = false := by rw [str_list]; rfl
  have hx1 : (str (91 :: q)).extract 1 (91 :: q).length = str q := by rw [str_extract, List.take_of_length_le (Nat.le_refl _)]; rfl
  have hfl : ∀ (w : World) (a : Addr) (m : Mode) (b : Nat), (store a (.float .f64 b) m).run Tryz.prog w = stored Tryz.prog w a (.float .f64 b) m := fun w a m b => run_store Tryz.prog w a _ m rfl
  have HA := Lib.hid hA
  have HQ := Lib.hid hq
  have hszq := str_size q
  have hql : (91 :: q).length = q.length + 1 := rfl
  rw [hql] at hsz hx1
  have Hb0 := Lib.hid (((Below.refl w.heap.size w).alloc (Nat.le_refl _) (.cells #[.int .i64 0, .int .i64 0, .float .f64 0, .string ⟨#[]⟩, .slice none 0 0] 25)).alloc (by simp) (.cells #[.int .i64 4, .int .i64 0, .float .f64 0, .string ⟨#[]⟩, .slice none 0 0] 25))
  have hp0 : PaH w ((w.alloc (.cells #[.int .i64 0, .int .i64 0, .float .f64 0, .string ⟨#[]⟩, .slice none 0 0] 25)).alloc (.cells #[.int .i64 4, .int .i64 0, .float .f64 0, .string ⟨#[]⟩, .slice none 0 0] 25)) (.slice none 0 0) := by
    refine ⟨(Below.heap_alloc _ _ _ (by simp)).trans (heap_alloc_new _ _), ?_, Hb0.out⟩
    have := heap_alloc_new (w.alloc (.cells #[.int .i64 0, .int .i64 0, .float .f64 0, .string ⟨#[]⟩, .slice none 0 0] 25)) (.cells #[.int .i64 4, .int .i64 0, .float .f64 0, .string ⟨#[]⟩, .slice none 0 0] 25)
    rwa [World.size_alloc] at this
  have Hp0 := Lib.hid hp0
  clear hp0
  generalize str (91 :: q) = S at *
  by_cases h93 : ∃ r0, q = 93 :: r0
  · obtain ⟨r0, hqe⟩ := h93
    have K2 : 0 < (str q).size := by rw [hszq, hqe, List.length_cons]; omega
    have K3 : 1 ≤ (str q).size := K2
    have hg1 := get_str hq 0 K2
    rw [show q.getD 0 0 = 93 by rw [hqe]; rfl] at hg1
    have hs2 : ((str q).toList == ([] : List UInt8)) = false := by rw [str_list, hqe]; rfl
    have hx2 : (str q).extract 1 q.length = str r0 := by rw [hqe, str_extract, List.take_of_length_le (Nat.le_refl _)]; rfl
    have Hqe := Lib.hid hqe
    clear hA hq hl hqe
    generalize str q = S1 at *
    go_enter Tryz.func40, Tryz.ntmps40
    go_wp2
    obtain ⟨⟨⟨z0, z1, z2, z3, z4⟩, ⟨y0, y1, y2, y3, y4⟩⟩, ⟨x0, x1, x2, x3, x4⟩, _⟩ := Hp0.out.cells
    generalize (w.alloc (.cells #[.int .i64 0, .int .i64 0, .float .f64 0, .string ⟨#[]⟩, .slice none 0 0] 25)).alloc (.cells #[.int .i64 4, .int .i64 0, .float .f64 0, .string ⟨#[]⟩, .slice none 0 0] 25) = w1 at *
    go_region
    all_goals go_wp2
    all_goals refine bodyPost_ret (v := .tuple #[.agg #[.int .i64 4, .int .i64 0, .float .f64 0, .string ⟨#[]⟩, .slice none 0 0], .string (str r0), .bool true]) (by simp [results, Tryz.results40, go_sem, *]) rfl ?_
    all_goals refine flat_end Hqe.out HQ.out (set5 Hb0.out _ _ _ _ _).drew
  have HR0 := Lib.hid (RL.start hq t (fun d e => h93 ⟨d, e⟩))
  have hcase : (((str q).toList == ([] : List UInt8)) = true) ∨ (((str q).toList == ([] : List UInt8)) = false ∧ ∃ c : Nat, ∃ h : 0 < (str q).size, ((((str q)[0]'h).toNat : Nat) : Int) = (c : Int) ∧ ((c : Int) == 93) = false) := by
    cases q with
    | nil => exact .inl (by rw [str_list]; rfl)
    | cons c r =>
      refine .inr ⟨by rw [str_list]; rfl, c, by rw [hszq, List.length_cons]; omega, get_str hq 0 (by rw [hszq, List.length_cons]; omega), ?_⟩
      rw [beq_eq_false_iff_ne]
      intro e
      exact h93 ⟨r, by rw [show c = 93 by omega]⟩
  clear hA hq hl h93
  rcases hcase with hs2 | ⟨hs2, c1, K2, hg1, hne1⟩
  all_goals
    generalize hS1 : str q = S1 at *
    have HS1 := Lib.hid hS1
    clear hS1
    go_enter Tryz.func40, Tryz.ntmps40
    go_wp2
    generalize (w.alloc (.cells #[.int .i64 0, .int .i64 0, .float .f64 0, .string ⟨#[]⟩, .slice none 0 0] 25)).alloc (.cells #[.int .i64 4, .int .i64 0, .float .f64 0, .string ⟨#[]⟩, .slice none 0 0] 25) = w1 at *
    go_loopw [0] (fun d wr => PaRel w q t d wr) (fun d _ => lenOf d)
    case atStart => exact ⟨[], q, .slice none 0 0, by rw [HS1.out], HR0.out, Hp0.out, OwnVs.nil _ _⟩
    case round =>
      obtain ⟨vs, x, acc, rfl, hR, hH, hO⟩ := hrel
      have HR := Lib.hid hR
      have HH := Lib.hid hH
      have HO := Lib.hid hO
      have hxs := hR.size
      have HA1 := Lib.hid (HA.out x wr hR.byte (by omega))
      have Hsz := Lib.hid (str_size x)
      have Hvl := Lib.hid (show vs.length ≤ 900000 from by have := len_tsum vs; omega)
      clear hR hH hO hxs
      generalize str x = Sx at *
      go_wp2_with fail
      refine HA1.out.mono ?_
      rintro e w2 ⟨v, y, rest, ok, rfl, hv, hb2, hrb, hrl, hok, hco⟩
      obtain ⟨a2, cap2, rfl⟩ := hv.parts5
      have Hv := Lib.hid hv
      have Hb2 := Lib.hid hb2
      have Hrb := Lib.hid hrb
      have Hok := Lib.hid hok
      have Hco := Lib.hid hco
      have hh2 := HH.out.go hb2
      have hal : Below w2.heap.size w2 (w2.alloc (.cells #[.int .i64 v.kind, .int .i64 v.n, .float .f64 v.f, .string (str v.s), .slice a2 v.l.length cap2] 25)) := (Below.refl _ _).alloc (Nat.le_refl _) _
      have hh3 := hh2.go hal
      have Hh3 := Lib.hid hh3
      have Hal := Lib.hid hal
      obtain ⟨v0, v1, v2, v3, v4⟩ := new5 w2 (.int .i64 v.kind) (.int .i64 v.n) (.float .f64 v.f) (.string (str v.s)) (.slice a2 v.l.length cap2) 25
      obtain ⟨⟨⟨z0, z1, z2, z3, z4⟩, ⟨y0, y1, y2, y3, y4⟩⟩, ⟨x0, x1, x2, x3, x4⟩, xf⟩ := hh3.cells
      clear hv hb2 hrb hrl hok hco hh2 hal hh3
      cases ok with
      | false =>
        clear v0 v1 v2 v3 v4
        go_wp2
        refine bodyPost_ret (v := .tuple #[.agg #[.int .i64 0, .int .i64 0, .float .f64 0, .string ⟨#[]⟩, .slice none 0 0], .string ⟨#[]⟩, .bool false]) (by simp [results, Tryz.results40, go_sem, *]) rfl ?_
        exact parse_no (set5 Hh3.out.below _ _ _ _ _) (list_no (HR.out.none (.inl rfl) Hco.out))
      | true =>
        cases rest with
        | nil =>
          have hrs : ((str []).toList == ([] : List UInt8)) = true := by rw [str_list]; rfl
          generalize str [] = R at *
          clear v0 v1 v2 v3 v4
          go_wp2
          refine bodyPost_ret (v := .tuple #[.agg #[.int .i64 0, .int .i64 0, .float .f64 0, .string ⟨#[]⟩, .slice none 0 0], .string ⟨#[]⟩, .bool false]) (by simp [results, Tryz.results40, go_sem, *]) rfl ?_
          exact parse_no (set5 Hh3.out.below _ _ _ _ _) (list_no (HR.out.none (v := v) (ok := true) (.inr rfl) (fun u r e h1 h2 h3 => ⟨rfl, (Hco.out u r e h1 h2 h3).2⟩)))
        | cons c r' =>
          have Hok2 := Lib.hid (Hok.out rfl)
          have hrs : ((str (c :: r')).toList == ([] : List UInt8)) = false := by rw [str_list]; rfl
          have hrz := str_size (c :: r')
          have R0 : 0 < (str (c :: r')).size := by rw [hrz, List.length_cons]; omega
          have R1 : 1 ≤ (str (c :: r')).size := R0
          have hr0 := get_str Hrb.out 0 R0
          rw [List.getD_cons_zero] at hr0
          have hrx : (str (c :: r')).extract 1 (c :: r').length = str r' := by rw [str_extract, List.take_of_length_le (Nat.le_refl _)]; rfl
          have hrl : (c :: r').length = r'.length + 1 := rfl
          rw [hrl] at hrz hrx
          generalize str (c :: r') = R at *
          obtain ⟨i0, hi, hz0, hz1, hz2⟩ := info_parts info_value
          have hal2 : Below (w2.alloc (.cells #[.int .i64 v.kind, .int .i64 v.n, .float .f64 v.f, .string (str v.s), .slice a2 v.l.length cap2] 25)).heap.size (w2.alloc (.cells #[.int .i64 v.kind, .int .i64 v.n, .float .f64 v.f, .string (str v.s), .slice a2 v.l.length cap2] 25)) ((w2.alloc (.cells #[.int .i64 v.kind, .int .i64 v.n, .float .f64 v.f, .string (str v.s), .slice a2 v.l.length cap2] 25)).alloc (.cells #[.int .i64 v.kind, .int .i64 v.n, .float .f64 v.f, .string (str v.s), .slice a2 v.l.length cap2] 25)) := (Below.refl _ _).alloc (Nat.le_refl _) _
          have hnew := heap_alloc_new (w2.alloc (.cells #[.int .i64 v.kind, .int .i64 v.n, .float .f64 v.f, .string (str v.s), .slice a2 v.l.length cap2] 25)) (.cells #[.int .i64 v.kind, .int .i64 v.n, .float .f64 v.f, .string (str v.s), .slice a2 v.l.length cap2] 25)
          rw [World.size_alloc] at hnew
          have Hnew := Lib.hid hnew
          have hO3 := ((HO.out.keep (fun b _ hb => Hb2.out.block b hb) Hb2.out.size).keep (fun b _ hb => Hal.out.block b hb) Hal.out.size).keep (fun b _ hb => hal2.block b hb) hal2.size
          have hblk := fun e => (HO.out.block (g := e))
          have Hh4 := Lib.hid (Hh3.out.go hal2)
          have hu : VInP (fun b => w.heap.size + 2 ≤ b ∧ some b ≠ acc.ownBlock ∧ b < ((w2.alloc (.cells #[.int .i64 v.kind, .int .i64 v.n, .float .f64 v.f, .string (str v.s), .slice a2 v.l.length cap2] 25)).alloc (.cells #[.int .i64 v.kind, .int .i64 v.n, .float .f64 v.f, .string (str v.s), .slice a2 v.l.length cap2] 25)).heap.size) ((w2.alloc (.cells #[.int .i64 v.kind, .int .i64 v.n, .float .f64 v.f, .string (str v.s), .slice a2 v.l.length cap2] 25)).alloc (.cells #[.int .i64 v.kind, .int .i64 v.n, .float .f64 v.f, .string (str v.s), .slice a2 v.l.length cap2] 25)) v (cells5 v.kind v.n v.f v.s a2 v.l.length cap2) :=
            VInP.turn (fun b hq => ⟨by have := HH.out.size; omega, (fun e => by have := (hblk _ e.symm).2; omega), by have := hal2.size; have := Hal.out.size; omega⟩) (fun p hp => by unfold World.cell?; rw [hal2.block p.block (by have := Hal.out.size; omega), Hal.out.block p.block hp.2]) v _ Hv.out
          obtain ⟨cs, hcl, hrow, hel⟩ := hO3
          have Hcl := Lib.hid hcl
          have Hrow := Lib.hid hrow
          have Hel := Lib.hid hel
          have Hu := Lib.hid hu
          clear hal2 hnew hblk hcl hrow hel hu
          by_cases hc : c = 93
          · have HCc := Lib.hid hc
            rw [hc] at hr0
            clear hc
            go_wp2_with (at_builtin; refine wpList_append_lies _ rfl _ _ 23 rfl (w.heap.size + 2) 25 i0 _ 5 64 Tryz.underlying23 hi hz0 hz1 hz2 rfl (by decide) acc vs.length _ rfl Hrow.out ⟨w2.heap.size + 1, 0, none⟩ 1 1 [.int .i64 v.kind, .int .i64 v.n, .float .f64 v.f, .string (str v.s), .slice a2 v.l.length cap2] rfl rfl (World.news_of_block Hnew.out) (by simp [Value.oneCell']) (by decide) (by have := Hvl.out; rw [maxLen_nat]; omega) (by have := Hvl.out; omega) Hh4.out.size _ rfl ?_; intro g cap4 w4 g1 g2 g3 g4; have hO4 := OwnVs.snoc Hcl.out Hel.out Hu.out g1 g2 (g3.imp (fun e => e.symm) (fun e => by rw [e]; rfl)); have Hh5 := Lib.hid (Hh4.out.grown g2 (fun k hk => (Hrow.out.lt k hk).1)); obtain ⟨_, ⟨_, _, _, _, kc⟩, kz⟩ := Hh5.out.cells; have HO4 := Lib.hid hO4; clear g1 g2 g3 g4 hO4)
            refine bodyPost_ret (v := .tuple #[.agg #[.int .i64 4, .int .i64 0, .float .f64 0, .string ⟨#[]⟩, .slice (some ⟨g, 0, none⟩) (vs.length + 1) cap4], .string (str r'), .bool true]) (by simp [results, Tryz.results40, go_sem, *]) rfl ?_
            refine list_fin HR.out Hh5.out HO4.out (by rw [← HCc.out]; exact Hrb.out) (by rw [← HCc.out]; exact Hok2.out) (fun u r e h1 h2 h3 => ?_)
            rw [← HCc.out]
            exact ⟨rfl, (Hco.out u r e h1 h2 h3).2⟩
          · have HCc := Lib.hid hc
            have hcb : ((c : Int) == 93) = false := beq_eq_false_iff_ne.2 (by omega)
            have Hrx := Lib.hid hrl
            clear hc
            go_wp2_with (at_builtin; refine wpList_append_lies _ rfl _ _ 23 rfl (w.heap.size + 2) 25 i0 _ 5 64 Tryz.underlying23 hi hz0 hz1 hz2 rfl (by decide) acc vs.length _ rfl Hrow.out ⟨w2.heap.size + 1, 0, none⟩ 1 1 [.int .i64 v.kind, .int .i64 v.n, .float .f64 v.f, .string (str v.s), .slice a2 v.l.length cap2] rfl rfl (World.news_of_block Hnew.out) (by simp [Value.oneCell']) (by decide) (by have := Hvl.out; rw [maxLen_nat]; omega) (by have := Hvl.out; omega) Hh4.out.size _ rfl ?_; intro g cap4 w4 g1 g2 g3 g4; have hO4 := OwnVs.snoc Hcl.out Hel.out Hu.out g1 g2 (g3.imp (fun e => e.symm) (fun e => by rw [e]; rfl)); have Hh5 := Lib.hid (Hh4.out.grown g2 (fun k hk => (Hrow.out.lt k hk).1)); obtain ⟨_, ⟨_, _, _, _, kc⟩, kz⟩ := Hh5.out.cells; have HO4 := Lib.hid hO4; clear g1 g2 g3 g4 hO4)
            go_roundw
            case rel =>
              exact ⟨vs ++ [v], r', _, rfl, HR.out.step HCc.out Hrb.out Hok2.out (fun u r e h1 h2 h3 => ⟨rfl, (Hco.out u r e h1 h2 h3).2⟩), Hh5.out.store _, HO4.out.keep (fun b hb _ => Below.heap_setCell w4 ⟨w.heap.size + 1, 4, none⟩ _ b (by simp; omega)) (by simp [World.setCell])⟩
            case measure =>
              show (str r').size < Sx.size
              rw [str_size, Hsz.out]
              have := Hok2.out
              rw [List.length_cons] at this
              omega

theorem rvparse_any : ∀ t : Nat, t ≤ 1000 → ∀ (l : List Nat) (w : World), (∀ x ∈ l, x < 256) → l.length ≤ 900000 → Calls Tryz.prog 40 #[.string (str l), .int .i64 (t : Int)] w (ParseT w l t)
  | t, ht, [], w, hl, hn => rparse_word [] t w hl (by omega) (fun q e => by cases e)
  | 0, ht, c :: q, w, hl, hn => by
    by_cases hc : c = 91
    · subst hc
      exact rparse_flat q w (fun x hx => hl x (by simp [hx])) (by rw [List.length_cons] at hn; omega)
    · exact rparse_word (c :: q) 0 w hl (by omega) (fun q' e => hc (List.cons.inj e).1)
  | t + 1, ht, c :: q, w, hl, hn => by
    by_cases hc : c = 91
    · subst hc
      exact rparse_list t (by omega) (fun l w hl hn => rvparse_any t (by omega) l w hl hn) q w (fun x hx => hl x (by simp [hx])) (by rw [List.length_cons] at hn; omega)
    · exact rparse_word (c :: q) (t + 1) w hl (by omega) (fun q' e => hc (List.cons.inj e).1)
end Go.Proofs.YtpjadeihackkpaaGreatDoor

/- The walk of the reference's Parse. -/
namespace Go.Proofs.YtpjadeihackkpaaGreatDoor
open Go.RowKit Fl

theorem decD_some (n : Nat) : decD n ≠ [] := by
  by_cases h : n < 10
  · rw [decD_low h]; simp
  · rw [decD_high h]; simp

theorem text_some : ∀ v : V, textV v ≠ [] := by
  rintro ⟨k, n, f, s, l⟩
  rw [textV]
  split
  · unfold decL
    split
    · simp
    · exact decD_some _
  split
  · simp
  split
  · simp
  split
  · simp
  · simp

theorem sameL_mem : ∀ {a b : List V}, sameL a b = true → ∀ u ∈ a, ∃ v ∈ b, sameV u v = true
  | [], _, _, u, hu => by cases hu
  | _ :: _, [], h, _, _ => by simp [sameL] at h
  | x :: a, y :: b, h, u, hu => by
    rw [sameL, Bool.and_eq_true] at h
    rcases List.mem_cons.1 hu with e | e
    · exact ⟨y, by simp, by rw [e]; exact h.1⟩
    · obtain ⟨v, hv, hs⟩ := sameL_mem h.2 u e
      exact ⟨v, by simp [hv], hs⟩

theorem sameL_nil {a b : List V} (h : sameL a b = true) (hb : b = []) : a = [] := by
  cases a with
  | nil => rfl
  | cons x a => rw [hb] at h; simp [sameL] at h

theorem same_right : ∀ (t : Nat) (u v : V), sameV u v = true → rightN t v = true → rightN t u = true := by
  intro t
  induction t with
  | zero =>
    rintro ⟨k, n, f, s, l⟩ ⟨k', n', f', s', l'⟩ h hr
    rw [sameV, Bool.and_eq_true, decide_eq_true_eq] at h
    obtain ⟨⟨rfl, rfl, rfl, hf⟩, hl⟩ := h
    unfold rightN at hr ⊢
    rw [Bool.and_eq_true, Bool.and_eq_true, decide_eq_true_eq, decide_eq_true_eq, decide_eq_true_eq] at hr ⊢
    obtain ⟨⟨⟨h1, h2, h3, h4⟩, h5⟩, h6⟩ := hr
    exact ⟨⟨⟨h1, h2.imp id (fun h => hf.trans h), h3, h4.imp id (fun h => sameL_nil hl h)⟩, h5⟩, h6⟩
  | succ t ih =>
    rintro ⟨k, n, f, s, l⟩ ⟨k', n', f', s', l'⟩ h hr
    rw [sameV, Bool.and_eq_true, decide_eq_true_eq] at h
    obtain ⟨⟨rfl, rfl, rfl, hf⟩, hl⟩ := h
    unfold rightN at hr ⊢
    rw [Bool.and_eq_true, Bool.and_eq_true, decide_eq_true_eq, decide_eq_true_eq, List.all_eq_true] at hr ⊢
    obtain ⟨⟨⟨h1, h2, h3, h4⟩, h5⟩, h6⟩ := hr
    refine ⟨⟨⟨h1, h2.imp id (fun h => hf.trans h), h3, h4.imp id (fun h => sameL_nil hl h)⟩, fun u hu => ?_⟩, h6⟩
    obtain ⟨v, hv, hs⟩ := sameL_mem hl u hu
    exact ih u v hs (h5 v hv)

set_option maxRecDepth 100000 in
set_option maxHeartbeats 3200000 in
theorem rpar_any (l : List Nat) (w : World) (hl : ∀ x ∈ l, x < 256) (hn : l.length ≤ 100000) :
    Calls Tryz.prog 20 #[.string (str l)] w (VParseEnd w l) := by
  have hb0 := (Below.refl w.heap.size w).alloc (Nat.le_refl _) (.cells #[.int .i64 0, .int .i64 0, .float .f64 0, .string ⟨#[]⟩, .slice none 0 0] 25)
  have HA := Lib.hid (rvparse_any 8 (by omega) l (w.alloc (.cells #[.int .i64 0, .int .i64 0, .float .f64 0, .string ⟨#[]⟩, .slice none 0 0] 25)) hl (by omega))
  have Hb0 := Lib.hid hb0
  have HN := Lib.hid hn
  have HL := Lib.hid hl
  have hfl : ∀ (w : World) (a : Addr) (m : Mode) (b : Nat), (store a (.float .f64 b) m).run Tryz.prog w = stored Tryz.prog w a (.float .f64 b) m := fun w a m b => run_store Tryz.prog w a _ m rfl
  have H0 := Lib.hid (heap_alloc_new w (.cells #[.int .i64 0, .int .i64 0, .float .f64 0, .string ⟨#[]⟩, .slice none 0 0] 25))
  have hwz : (w.alloc (.cells #[.int .i64 0, .int .i64 0, .float .f64 0, .string ⟨#[]⟩, .slice none 0 0] 25)).heap.size = w.heap.size + 1 := by simp
  have HLS := Lib.hid (str_eq l)
  clear hl hn hb0
  go_enter Tryz.func20, Tryz.ntmps20
  go_wp2_with fail
  generalize w.alloc (.cells #[.int .i64 0, .int .i64 0, .float .f64 0, .string ⟨#[]⟩, .slice none 0 0] 25) = w1 at *
  refine HA.out.mono ?_
  rintro e w2 ⟨v, y, rest, ok, rfl, hv, hb2, hrb, hrl, hok, hco⟩
  obtain ⟨a2, cap2, rfl⟩ := hv.parts5
  have Hv := Lib.hid hv
  have Hco := Lib.hid hco
  have Hok := Lib.hid hok
  have Hrb := Lib.hid hrb
  have hal : Below w2.heap.size w2 (w2.alloc (.cells #[.int .i64 v.kind, .int .i64 v.n, .float .f64 v.f, .string (str v.s), .slice a2 v.l.length cap2] 25)) := (Below.refl _ _).alloc (Nat.le_refl _) _
  have hres := ((hal.block w.heap.size (by have := hb2.size; omega)).trans (hb2.block w.heap.size (by omega))).trans H0.out
  have Hres := Lib.hid hres
  have Hal := Lib.hid hal
  have Hb2 := Lib.hid hb2
  have Hbw := Lib.hid ((Hb0.out.trans (hb2.mono (by omega))).trans (hal.mono (Hb0.out.trans (hb2.mono (by omega))).size))
  obtain ⟨⟨z0, z1, z2, z3, z4⟩, ⟨y0, y1, y2, y3, y4⟩⟩ := res_cells hres
  obtain ⟨v0, v1, v2, v3, v4⟩ := new5 w2 (.int .i64 v.kind) (.int .i64 v.n) (.float .f64 v.f) (.string (str v.s)) (.slice a2 v.l.length cap2) 25
  clear hv hco hok hrb hrl hal hres hb2
  cases ok with
  | false =>
    clear v0 v1 v2 v3 v4
    go_wp2
    refine bodyPost_ret (v := .tuple #[.agg #[.int .i64 0, .int .i64 0, .float .f64 0, .string (str []), .slice none 0 0], .bool false]) (by simp [results, Tryz.results20, go_sem, *]; rfl) rfl ?_
    refine ⟨.mk 0 0 0 [] [], _, false, rfl, vin_zero _, set5 Hbw.out _ _ _ _ _, (fun h => by cases h), fun _ => ⟨rfl, fun u hu hsu e => ?_⟩⟩
    have := (Hco.out u [] (by rw [List.append_nil, e]) hu hsu ends_nil).1
    simp at this
  | true =>
    cases rest with
    | cons c r =>
      have hrs : ((str (c :: r)).toList == ([] : List UInt8)) = false := by rw [str_list]; rfl
      generalize str (c :: r) = R at *
      clear v0 v1 v2 v3 v4
      go_wp2
      refine bodyPost_ret (v := .tuple #[.agg #[.int .i64 0, .int .i64 0, .float .f64 0, .string (str []), .slice none 0 0], .bool false]) (by simp [results, Tryz.results20, go_sem, *]; rfl) rfl ?_
      refine ⟨.mk 0 0 0 [] [], _, false, rfl, vin_zero _, set5 Hbw.out _ _ _ _ _, (fun h => by cases h), fun _ => ⟨rfl, fun u hu hsu e => ?_⟩⟩
      have := (Hco.out u [] (by rw [List.append_nil, e]) hu hsu ends_nil).2.1
      cases this
    | nil =>
      have hlen : (textV v).length = l.length := by have := Hok.out rfl; simpa using this
      have Hlen := Lib.hid hlen
      have HT := Lib.hid (rvtext_any v _ _ (by have := HN.out; unfold textB; split <;> first | omega | simp) (VIn.below (VInP.weak v _ Hv.out) Hal.out))
      have hrs : ((str []).toList == ([] : List UInt8)) = true := by rw [str_list]; rfl
      have HLv := Lib.hid (text_byte v (VIn.sound v _ (VInP.weak v _ Hv.out)))
      clear hlen
      generalize str [] = R at *
      go_wp2_with fail
      refine HT.out.mono ?_
      rintro e w4 ⟨rfl, hb4⟩
      have Hb4 := Lib.hid (Hbw.out.trans (hb4.mono Hbw.out.size))
      have hres4 := (hb4.block w.heap.size (by have := (Array.getElem?_eq_some_iff.1 Hres.out).1; omega)).trans Hres.out
      obtain ⟨x0, x1, x2, x3, x4⟩ := keep5 hb4 ⟨v0, v1, v2, v3, v4⟩
      clear z0 z1 z2 z3 z4 y0 y1 y2 y3 y4
      obtain ⟨⟨z0, z1, z2, z3, z4⟩, ⟨y0, y1, y2, y3, y4⟩⟩ := res_cells hres4
      have Hb5 := Lib.hid hb4
      clear hb4 v0 v1 v2 v3 v4 hres4
      by_cases htx : textB v = l
      · have hr : rightN 8 v = true := by
          cases hr : rightN 8 v with
          | true => rfl
          | false =>
            have e : textB v = [] := by unfold textB; rw [hr]; rfl
            have h1 := Hlen.out
            rw [← htx, e] at h1
            exact absurd (List.length_eq_zero_iff.1 h1) (text_some v)
        have ht : textV v = l := by rw [← htx]; unfold textB; rw [hr]; rfl
        have hq : ((str (textB v)).toList == (str l).toList) = true := by rw [htx]; exact HLS.out
        have Hr := Lib.hid hr
        have Ht := Lib.hid ht
        clear htx hr ht
        generalize str (textB v) = S at *
        go_wp2
        refine bodyPost_ret (v := .tuple #[.agg #[.int .i64 v.kind, .int .i64 v.n, .float .f64 v.f, .string (str v.s), .slice a2 v.l.length cap2], .bool true]) (by simp [results, Tryz.results20, go_sem, *]) rfl ?_
        refine ⟨v, _, true, rfl, VInP.weak v _ (VInP.turn (fun _ h => h) (fun p hp => ?_) v _ Hv.out), set5 Hb4.out _ _ _ _ _, fun _ => ⟨Hr.out, Ht.out⟩, (fun h => by cases h)⟩
        unfold World.cell?
        rw [set5_block (by omega), Hb5.out.block p.block (by have := Hal.out.size; omega), Hal.out.block p.block hp.2]
      · have hlt : ∀ c ∈ textB v, c < 256 := by
          intro c hc
          unfold textB at hc
          split at hc
          · exact HLv.out c hc
          · cases hc
        have hq : ((str (textB v)).toList == (str l).toList) = false := str_ne hlt HL.out htx
        have Htx := Lib.hid htx
        clear htx hlt
        generalize str (textB v) = S at *
        go_wp2
        refine bodyPost_ret (v := .tuple #[.agg #[.int .i64 0, .int .i64 0, .float .f64 0, .string (str []), .slice none 0 0], .bool false]) (by simp [results, Tryz.results20, go_sem, *]; rfl) rfl ?_
        refine ⟨.mk 0 0 0 [] [], _, false, rfl, vin_zero _, set5 Hb4.out _ _ _ _ _, (fun h => by cases h), fun _ => ⟨rfl, fun u hu hsu e => ?_⟩⟩
        have h1 := (Hco.out u [] (by rw [List.append_nil, e]) hu hsu ends_nil).2.2
        refine Htx.out ?_
        unfold textB
        rw [same_right 8 v u h1 hu, same_text v u h1, e]
        rfl
end Go.Proofs.YtpjadeihackkpaaGreatDoor

/- The example of the chapter holds. -/
namespace Go.Proofs.YtpjadeihackkpaaGreatDoor
open Go.RowKit Go.Shelf Fl

def exV : V := .mk 4 0 0 [] [.mk 1 (-5) 0 [] [], .mk 3 0 0 [97] []]

set_option maxRecDepth 100000 in
theorem ex_right : rightN 8 exV = true := by
  have hb : bitsB 0 = 0 := by decide
  simp [exV, rightN, FieldsOk, V.kind, V.n, V.f, V.s, V.l, hb]

theorem ex_text : textB exV = [91, 45, 53, 32, 34, 54, 49, 34, 93] := by
  unfold textB
  rw [if_pos ex_right]
  have h5 : decL (-5) = [45, 53] := by
    unfold decL
    rw [if_pos (by omega), show (-5 : Int).natAbs = 5 from rfl, decD_low (by omega)]
  have h6 : hex2 [97] = [54, 49] := by decide
  simp [exV, textV, textVs, joinS, h5, h6]

theorem ex_in (w : World) : VIn (w.alloc (.cells #[.int .i64 1, .int .i64 (-5), .float .f64 0, .string (str []), .slice none 0 0, .int .i64 3, .int .i64 0, .float .f64 0, .string (str [97]), .slice none 0 0] 25)) exV (cells5 4 0 0 [] (some ⟨w.heap.size, 0, none⟩) 2 2) := by
  have hc := fun j => cell_of_row (w.alloc (.cells #[.int .i64 1, .int .i64 (-5), .float .f64 0, .string (str []), .slice none 0 0, .int .i64 3, .int .i64 0, .float .f64 0, .string (str [97]), .slice none 0 0] 25)) w.heap.size j _ _ _ (heap_alloc_new w _)
  unfold exV
  rw [VIn]
  refine ⟨by omega, by omega, by omega, by simp, by simp, _, 2, rfl, by simp, by omega, .inr ⟨_, _, rfl, ?_⟩⟩
  rw [VsIn, VsIn, VsIn]
  refine ⟨⟨cells5 1 (-5) 0 [] none 0 0, rfl, fun j hj => ?_, ?_⟩, ⟨cells5 3 0 0 [97] none 0 0, rfl, fun j hj => ?_, ?_⟩, trivial⟩
  · rw [hc]
    match j, hj with
    | 0, _ => rfl
    | 1, _ => rfl
    | 2, _ => rfl
    | 3, _ => rfl
    | 4, _ => rfl
  · rw [VIn]
    exact ⟨by omega, by omega, by omega, by simp, by simp, none, 0, rfl, by simp, by omega, .inl rfl⟩
  · rw [hc]
    match j, hj with
    | 0, _ => rfl
    | 1, _ => rfl
    | 2, _ => rfl
    | 3, _ => rfl
    | 4, _ => rfl
  · rw [VIn]
    exact ⟨by omega, by omega, by omega, by simp, by simp, none, 0, rfl, by simp, by omega, .inl rfl⟩

set_option maxRecDepth 100000 in
theorem valive_any (w : World) (hp : Pow10 w) (ht : Tab16 w) :
    Calls Tryz.prog 6 #[] w fun e w' => e = .returned (.bool true) ∧ Below w.heap.size w w' := by
  have hal := (Below.refl w.heap.size w).alloc (Nat.le_refl _) (.cells #[.int .i64 1, .int .i64 (-5), .float .f64 0, .string (str []), .slice none 0 0, .int .i64 3, .int .i64 0, .float .f64 0, .string (str [97]), .slice none 0 0] 25)
  have HA := Lib.hid hal
  have HX := Lib.hid (vText_any 10 (by omega) exV _ _ (by decide) (ex_in w) (by rw [ex_text]; decide) (hp.below hal) (tab_below ht hal))
  rw [ex_text] at HX
  have hq : ((str [91, 45, 53, 32, 34, 54, 49, 34, 93]).toList == ([91, 45, 53, 32, 34, 54, 49, 34, 93] : List UInt8)) = true := by rw [str_list]; rfl
  have Hq := Lib.hid hq
  clear hp ht hal
  go_enter Tryz.func6, Tryz.ntmps6
  go_wp2_with fail
  refine HX.out.mono ?_
  rintro e w1 ⟨rfl, hb⟩
  have Hb := Lib.hid (HA.out.trans (hb.mono HA.out.size))
  generalize str [91, 45, 53, 32, 34, 54, 49, 34, 93] = S at *
  clear hb
  go_wp2
  go_ret
  exact ⟨rfl, Hb.out⟩
end Go.Proofs.YtpjadeihackkpaaGreatDoor

