import Derived.Test.YtfapajmbmgpipaaGreatDoorMD11
import Derived.Test.YtfapajmbmgpipaaGreatDoorMD17
/- The walk of the reference's parse where no list begins. -/
namespace Go.Proofs.YtfapajmbmgpipaaGreatDoor
open Go.RowKit Fl

/-- No space and no closing bracket. -/
def NoEnd (x : List Nat) : Prop := ∀ c ∈ x, c ≠ 32 ∧ c ≠ 93

theorem noEnd_split : ∀ {x y r r' : List Nat}, NoEnd x → NoEnd y → Ends r → Ends r' → x ++ r = y ++ r' → x = y ∧ r = r'
  | [], [], r, r', _, _, _, _, h => ⟨rfl, h⟩
  | [], c :: y, r, r', _, hy, he, _, h => by
    have h1 := he c (y ++ r') h
    have h2 := hy c (by simp)
    omega
  | c :: x, [], r, r', hx, _, _, he, h => by
    have h1 := he c (x ++ r) h.symm
    have h2 := hx c (by simp)
    omega
  | c :: x, d :: y, r, r', hx, hy, he, he', h => by
    obtain ⟨h1, h2⟩ := List.cons.inj h
    obtain ⟨h3, h4⟩ := noEnd_split (x := x) (y := y) (fun z hz => hx z (by simp [hz])) (fun z hz => hy z (by simp [hz])) he he' h2
    exact ⟨by rw [h1, h3], h4⟩

/-- What parse answers. -/
def ParseT (w : World) (l : List Nat) (t : Nat) (e : Ending) (w' : World) : Prop :=
  ∃ (v : V) (x : Array Value) (rest : List Nat) (ok : Bool), e = .returned (.tuple #[.agg x, .string (str rest), .bool ok]) ∧ VInP (fun b => w.heap.size ≤ b ∧ b < w'.heap.size) w' v x ∧ Below w.heap.size w w' ∧ (∀ c ∈ rest, c < 256) ∧ rest.length ≤ l.length ∧
    (ok = true → (textV v).length + rest.length = l.length) ∧
    ∀ (u : V) (r : List Nat), l = textV u ++ r → rightN t u = true → soundV u → Ends r → ok = true ∧ rest = r ∧ sameV v u = true

/-- A word, as atom took it: what parse owes. -/
theorem word_answer {l : List Nat} {j t : Nat} {v : V} {ok : Bool} (hj : j ≤ l.length) (hw : NoEnd (l.take j)) (he : Ends (l.drop j)) (h91 : ∀ q, l ≠ 91 :: q) (hok : ok = true → textV v = l.take j ∧ ∀ t, rightN t v = true) (hs : soundV v)
    (hno : ok = false → ∀ (t : Nat) (u : V), rightN t u = true → soundV u → u.kind ≠ 4 → textV u ≠ l.take j) :
    (ok = true → (textV v).length + (l.drop j).length = l.length) ∧ ∀ (u : V) (r : List Nat), l = textV u ++ r → rightN t u = true → soundV u → Ends r → ok = true ∧ l.drop j = r ∧ sameV v u = true := by
  refine ⟨fun h => ?_, fun u r e hu hsu her => ?_⟩
  · rw [(hok h).1, List.length_take, List.length_drop]
    omega
  · obtain ⟨k, n, f, s, q⟩ := u
    have h0 := right_parts hu
    have hk : k ≠ 4 := by
      intro hk
      subst hk
      rw [textV_list] at e
      exact h91 _ e
    have hT := textV_word (n := n) (f := f) (s := s) (l := q) hk
    have e2 : l.take j ++ l.drop j = textV (.mk k n f s q) ++ r := by rw [List.take_append_drop]; exact e
    obtain ⟨h1, h2⟩ := noEnd_split hw (fun c hc => ⟨(hT c hc).1, (hT c hc).2.1⟩) he her e2
    cases hb : ok with
    | false => exact absurd h1.symm (hno hb t _ hu hsu hk)
    | true =>
      obtain ⟨h3, h4⟩ := hok hb
      have hv : v.kind ≠ 4 := by
        have h5 := h4 0
        unfold rightN at h5
        rw [Bool.and_eq_true, Bool.and_eq_true, decide_eq_true_eq, decide_eq_true_eq] at h5
        exact h5.1.2
      obtain ⟨k', n', f', s', q'⟩ := v
      have h0' := right_parts (h4 t)
      rw [soundV] at hs hsu
      exact ⟨rfl, h2, word_same h0'.1 h0.1 h0'.2.1 h0'.2.2.1 h0.2.1 h0.2.2.1 hv hk hs.2.1 hsu.2.1 (h3.trans h1)⟩

theorem box_cells {w : World} {g : Nat} {a b c d e : Value} {t : TypeId} (h : w.heap[g]? = some (.cells #[a, b, c, d, e] t (0, 0))) :
    w.cell? ⟨g, 0, none⟩ = some a ∧ w.cell? ⟨g, 1, none⟩ = some b ∧ w.cell? ⟨g, 2, none⟩ = some c ∧ w.cell? ⟨g, 3, none⟩ = some d ∧ w.cell? ⟨g, 4, none⟩ = some e := by
  refine ⟨?_, ?_, ?_, ?_, ?_⟩
  · rw [cell_of_row _ _ _ _ _ _ h]; rfl
  · rw [cell_of_row _ _ _ _ _ _ h]; rfl
  · rw [cell_of_row _ _ _ _ _ _ h]; rfl
  · rw [cell_of_row _ _ _ _ _ _ h]; rfl
  · rw [cell_of_row _ _ _ _ _ _ h]; rfl

theorem noEnd_take {l : List Nat} {j : Nat} (h : ∀ i, i < j → l.getD i 0 ≠ 32 ∧ l.getD i 0 ≠ 93) : NoEnd (l.take j) := by
  intro c hc
  obtain ⟨i, hi, rfl⟩ := List.getElem_of_mem hc
  rw [List.length_take] at hi
  have h1 := h i (by omega)
  rw [List.getD_eq_getElem?_getD, List.getElem?_eq_getElem (by omega)] at h1
  rw [List.getElem_take]
  exact h1

theorem ends_drop {l : List Nat} {j : Nat} (h : j < l.length → l.getD j 0 = 32 ∨ l.getD j 0 = 93) : Ends (l.drop j) := by
  intro c q e
  have hj : j < l.length := by
    have := congrArg List.length e
    rw [List.length_drop, List.length_cons] at this
    omega
  have h1 := h hj
  rw [List.drop_eq_getElem_cons hj] at e
  rw [List.getD_eq_getElem?_getD, List.getElem?_eq_getElem hj] at h1
  rw [← (List.cons.inj e).1]
  exact h1

/-- The end of parse at a word. -/
theorem word_end {w w2 : World} {l : List Nat} {j t : Nat} {v : V} {x : Array Value} {ok : Bool} {w' : World} (hj : j ≤ l.length) (hw : NoEnd (l.take j)) (he : Ends (l.drop j)) (h91 : ∀ q, l ≠ 91 :: q) (hl : ∀ c ∈ l, c < 256) (hv : VInP (fun _ => False) w2 v x)
    (hok : ok = true → textV v = l.take j ∧ ∀ t, rightN t v = true) (hno : ok = false → ∀ (t : Nat) (u : V), rightN t u = true → soundV u → u.kind ≠ 4 → textV u ≠ l.take j) (hb : Below w.heap.size w w') :
    ParseT w l t (.returned (.tuple #[.agg x, .string (str (l.drop j)), .bool ok])) w' := by
  obtain ⟨h1, h2⟩ := word_answer (t := t) hj hw he h91 hok (VIn.sound v x (VInP.weak v x hv)) hno
  exact ⟨v, x, l.drop j, ok, rfl, VInP.turn (fun _ h => h.elim) (fun _ h => h.elim) v x hv, hb, fun c hc => hl c (List.mem_of_mem_drop hc), by rw [List.length_drop]; omega, h1, h2⟩

set_option maxRecDepth 100000 in
set_option maxHeartbeats 12800000 in
theorem rparse_word (l : List Nat) (t : Nat) (w : World) (hl : ∀ x ∈ l, x < 256) (hn : l.length ≤ 1000000) (h91 : ∀ q, l ≠ 91 :: q) :
    Calls Tryz.prog 41 #[.string (str l), .int .i64 (t : Int)] w (ParseT w l t) := by
  have hsz := str_size l
  have HL := Lib.hid hl
  have hg := get_str hl
  have H0 := Lib.hid (heap_alloc_new w (.cells #[.int .i64 0, .int .i64 0, .float .f64 0, .string ⟨#[]⟩, .slice none 0 0] 25))
  have Hb0 := Lib.hid ((Below.refl w.heap.size w).alloc (Nat.le_refl _) (.cells #[.int .i64 0, .int .i64 0, .float .f64 0, .string ⟨#[]⟩, .slice none 0 0] 25))
  clear hl
  by_cases p0 : 0 < l.length
  · have K0 : 0 < (str l).size := by omega
    have hg0 := hg 0 K0
    have hne : ((l.getD 0 0 : Nat) : Int) ≠ 91 := by
      cases l with
      | nil => simp at p0
      | cons c r =>
        intro e
        exact h91 r (by rw [show c = 91 from by simp at e; omega])
    have hbq : ((((l.getD 0 0 : Nat) : Int)) != 91) = true := bne_iff_ne.2 hne
    have hq : ((str l).toList == ([] : List UInt8)) = false := by
      rw [str_list]
      cases l with
      | nil => simp at p0
      | cons c r => rfl
    generalize l.getD 0 0 = c0 at *
    have H91 := Lib.hid h91
    have Hg := Lib.hid hg
    clear h91 hg p0
    have hfl : ∀ (w : World) (a : Addr) (m : Mode) (b : Nat), (store a (.float .f64 b) m).run Tryz.prog w = stored Tryz.prog w a (.float .f64 b) m := fun w a m b => run_store Tryz.prog w a _ m rfl
    have hwz : (w.alloc (.cells #[.int .i64 0, .int .i64 0, .float .f64 0, .string ⟨#[]⟩, .slice none 0 0] 25)).heap.size = w.heap.size + 1 := by simp
    go_enter Tryz.func41, Tryz.ntmps41
    go_wp2
    generalize w.alloc (.cells #[.int .i64 0, .int .i64 0, .float .f64 0, .string ⟨#[]⟩, .slice none 0 0] 25) = w1 at *
    go_loop [7] (fun n => ∃ j : Nat, j ≤ l.length ∧ n = .int .i64 (j : Int) ∧ ∀ i, i < j → l.getD i 0 ≠ 32 ∧ l.getD i 0 ≠ 93) (fun n => l.length - (intOf n).toNat)
    case atStart => exact ⟨0, Nat.zero_le _, rfl, fun i hi => absurd hi (by omega)⟩
    case round =>
      obtain ⟨j, hj, rfl, hw⟩ := hrel
      have Hw := Lib.hid hw
      clear hw
      by_cases hlt : j < l.length
      · have K1 : j < (str l).size := by omega
        have hgj := Hg.out j K1
        have hji : (j : Int) < (l.length : Int) := by omega
        have Hlt := Lib.hid hlt
        clear hlt
        have Hj := Lib.hid hj
        by_cases q1 : l.getD j 0 = 32
        · have He := Lib.hid (show j < l.length → l.getD j 0 = 32 ∨ l.getD j 0 = 93 from fun _ => .inl q1)
          rw [q1] at hgj
          have hx1 := str_extract l 0 j
          rw [List.drop_zero] at hx1
          have hx2 := str_extract l j l.length
          rw [List.take_of_length_le (Nat.le_refl _)] at hx2
          have HA := Lib.hid (ratom_any (l.take j) w1 (fun c hc => HL.out c (List.mem_of_mem_take hc)) (by rw [List.length_take]; omega))
          clear hbq hne hg0
          generalize hs1 : str (l.take j) = s1 at *
          generalize hs2 : str (l.drop j) = s2 at *
          have Hs2 := Lib.hid hs2
          clear hs1 hs2
          go_wp2_with fail
          refine HA.out.mono ?_
          rintro e w2 ⟨v, x, ok, rfl, hv, hb2, hok, hno⟩
          obtain ⟨a2, cap2, rfl⟩ := hv.parts5
          have Hv := Lib.hid hv
          have Hok := Lib.hid hok
          have Hno := Lib.hid hno
          have Hb2 := Lib.hid (Hb0.out.trans (hb2.mono (by omega)))
          have H2 := (hb2.block w.heap.size (by omega)).trans H0.out
          have hz2 : w.heap.size < w2.heap.size := (Array.getElem?_eq_some_iff.1 H2).1
          have H3 := (Below.heap_alloc w2 (.cells #[.int .i64 v.kind, .int .i64 v.n, .float .f64 v.f, .string (str v.s), .slice a2 v.l.length cap2] 25) _ hz2).trans H2
          have hnew := heap_alloc_new w2 (.cells #[.int .i64 v.kind, .int .i64 v.n, .float .f64 v.f, .string (str v.s), .slice a2 v.l.length cap2] 25)
          have Hb3 := Lib.hid (Hb2.out.alloc Hb2.out.size (.cells #[.int .i64 v.kind, .int .i64 v.n, .float .f64 v.f, .string (str v.s), .slice a2 v.l.length cap2] 25))
          clear hv hok hno hb2 H2
          go_wp2
          obtain ⟨⟨z0, z1, z2, z3, z4⟩, ⟨y0, y1, y2, y3, y4⟩⟩ := res_cells H3
          obtain ⟨x0, x1, x2, x3, x4⟩ := box_cells hnew
          have hne2 : w2.heap.size ≠ w.heap.size := by omega
          have hne3 : w.heap.size ≠ w2.heap.size := by omega
          clear H3 hnew hz2
          generalize w2.alloc (.cells #[.int .i64 v.kind, .int .i64 v.n, .float .f64 v.f, .string (str v.s), .slice a2 v.l.length cap2] 25) = w3 at *
          generalize w2.heap.size = B2 at *
          go_region
          all_goals go_wp2
          all_goals refine bodyPost_ret (v := .tuple #[.agg #[.int .i64 v.kind, .int .i64 v.n, .float .f64 v.f, .string (str v.s), .slice a2 v.l.length cap2], .string s2, .bool ok]) (by simp [results, Tryz.results41, go_sem, *]) rfl ?_
          all_goals rw [← Hs2.out]
          all_goals exact word_end Hj.out (noEnd_take Hw.out) (ends_drop He.out) H91.out HL.out Hv.out Hok.out Hno.out (set5 Hb3.out _ _ _ _ _).drew
        · by_cases q2 : l.getD j 0 = 93
          · have He := Lib.hid (show j < l.length → l.getD j 0 = 32 ∨ l.getD j 0 = 93 from fun _ => .inr q2)
            rw [q2] at hgj
            clear q1
            have hx1 := str_extract l 0 j
            rw [List.drop_zero] at hx1
            have hx2 := str_extract l j l.length
            rw [List.take_of_length_le (Nat.le_refl _)] at hx2
            have HA := Lib.hid (ratom_any (l.take j) w1 (fun c hc => HL.out c (List.mem_of_mem_take hc)) (by rw [List.length_take]; omega))
            clear hbq hne hg0
            generalize hs1 : str (l.take j) = s1 at *
            generalize hs2 : str (l.drop j) = s2 at *
            have Hs2 := Lib.hid hs2
            clear hs1 hs2
            go_wp2_with fail
            refine HA.out.mono ?_
            rintro e w2 ⟨v, x, ok, rfl, hv, hb2, hok, hno⟩
            obtain ⟨a2, cap2, rfl⟩ := hv.parts5
            have Hv := Lib.hid hv
            have Hok := Lib.hid hok
            have Hno := Lib.hid hno
            have Hb2 := Lib.hid (Hb0.out.trans (hb2.mono (by omega)))
            have H2 := (hb2.block w.heap.size (by omega)).trans H0.out
            have hz2 : w.heap.size < w2.heap.size := (Array.getElem?_eq_some_iff.1 H2).1
            have H3 := (Below.heap_alloc w2 (.cells #[.int .i64 v.kind, .int .i64 v.n, .float .f64 v.f, .string (str v.s), .slice a2 v.l.length cap2] 25) _ hz2).trans H2
            have hnew := heap_alloc_new w2 (.cells #[.int .i64 v.kind, .int .i64 v.n, .float .f64 v.f, .string (str v.s), .slice a2 v.l.length cap2] 25)
            have Hb3 := Lib.hid (Hb2.out.alloc Hb2.out.size (.cells #[.int .i64 v.kind, .int .i64 v.n, .float .f64 v.f, .string (str v.s), .slice a2 v.l.length cap2] 25))
            clear hv hok hno hb2 H2
            go_wp2
            obtain ⟨⟨z0, z1, z2, z3, z4⟩, ⟨y0, y1, y2, y3, y4⟩⟩ := res_cells H3
            obtain ⟨x0, x1, x2, x3, x4⟩ := box_cells hnew
            have hne2 : w2.heap.size ≠ w.heap.size := by omega
            have hne3 : w.heap.size ≠ w2.heap.size := by omega
            clear H3 hnew hz2
            generalize w2.alloc (.cells #[.int .i64 v.kind, .int .i64 v.n, .float .f64 v.f, .string (str v.s), .slice a2 v.l.length cap2] 25) = w3 at *
            generalize w2.heap.size = B2 at *
            go_region
            all_goals go_wp2
            all_goals refine bodyPost_ret (v := .tuple #[.agg #[.int .i64 v.kind, .int .i64 v.n, .float .f64 v.f, .string (str v.s), .slice a2 v.l.length cap2], .string s2, .bool ok]) (by simp [results, Tryz.results41, go_sem, *]) rfl ?_
            all_goals rw [← Hs2.out]
            all_goals exact word_end Hj.out (noEnd_take Hw.out) (ends_drop He.out) H91.out HL.out Hv.out Hok.out Hno.out (set5 Hb3.out _ _ _ _ _).drew
          · have b1 : ((((l.getD j 0 : Nat) : Int)) != 32) = true := bne_iff_ne.2 (by omega)
            have b2 : ((((l.getD j 0 : Nat) : Int)) != 93) = true := bne_iff_ne.2 (by omega)
            have Hq := Lib.hid (show l.getD j 0 ≠ 32 ∧ l.getD j 0 ≠ 93 from ⟨q1, q2⟩)
            clear q1 q2 hbq hne hg0
            generalize hcj : l.getD j 0 = cj at *
            have Hcj := Lib.hid hcj
            clear hcj
            go_wp2
            go_round
            case rel =>
              refine ⟨j + 1, Hlt.out, by go_num, fun i hi => ?_⟩
              rcases Nat.lt_or_eq_of_le (Nat.le_of_lt_succ hi) with h | h
              · exact Hw.out i h
              · rw [h, Hcj.out]; exact Hq.out
            case measure => simp [intOf]; have := Hlt.out; omega
      · have He := Lib.hid (show j < l.length → l.getD j 0 = 32 ∨ l.getD j 0 = 93 from fun h => absurd h hlt)
        have Hj := Lib.hid hj
        have hji : ¬ ((j : Int) < (l.length : Int)) := by omega
        have hx1 := str_extract l 0 j
        rw [List.drop_zero] at hx1
        have hx2 := str_extract l j l.length
        rw [List.take_of_length_le (Nat.le_refl _)] at hx2
        have HA := Lib.hid (ratom_any (l.take j) w1 (fun c hc => HL.out c (List.mem_of_mem_take hc)) (by rw [List.length_take]; omega))
        clear hbq hne hg0
        generalize hs1 : str (l.take j) = s1 at *
        generalize hs2 : str (l.drop j) = s2 at *
        have Hs2 := Lib.hid hs2
        clear hs1 hs2
        go_wp2_with fail
        refine HA.out.mono ?_
        rintro e w2 ⟨v, x, ok, rfl, hv, hb2, hok, hno⟩
        obtain ⟨a2, cap2, rfl⟩ := hv.parts5
        have Hv := Lib.hid hv
        have Hok := Lib.hid hok
        have Hno := Lib.hid hno
        have Hb2 := Lib.hid (Hb0.out.trans (hb2.mono (by omega)))
        have H2 := (hb2.block w.heap.size (by omega)).trans H0.out
        have hz2 : w.heap.size < w2.heap.size := (Array.getElem?_eq_some_iff.1 H2).1
        have H3 := (Below.heap_alloc w2 (.cells #[.int .i64 v.kind, .int .i64 v.n, .float .f64 v.f, .string (str v.s), .slice a2 v.l.length cap2] 25) _ hz2).trans H2
        have hnew := heap_alloc_new w2 (.cells #[.int .i64 v.kind, .int .i64 v.n, .float .f64 v.f, .string (str v.s), .slice a2 v.l.length cap2] 25)
        have Hb3 := Lib.hid (Hb2.out.alloc Hb2.out.size (.cells #[.int .i64 v.kind, .int .i64 v.n, .float .f64 v.f, .string (str v.s), .slice a2 v.l.length cap2] 25))
        clear hv hok hno hb2 H2
        go_wp2
        obtain ⟨⟨z0, z1, z2, z3, z4⟩, ⟨y0, y1, y2, y3, y4⟩⟩ := res_cells H3
        obtain ⟨x0, x1, x2, x3, x4⟩ := box_cells hnew
        have hne2 : w2.heap.size ≠ w.heap.size := by omega
        have hne3 : w.heap.size ≠ w2.heap.size := by omega
        clear H3 hnew hz2
        generalize w2.alloc (.cells #[.int .i64 v.kind, .int .i64 v.n, .float .f64 v.f, .string (str v.s), .slice a2 v.l.length cap2] 25) = w3 at *
        generalize w2.heap.size = B2 at *
        go_region
        all_goals go_wp2
        all_goals refine bodyPost_ret (v := .tuple #[.agg #[.int .i64 v.kind, .int .i64 v.n, .float .f64 v.f, .string (str v.s), .slice a2 v.l.length cap2], .string s2, .bool ok]) (by simp [results, Tryz.results41, go_sem, *]) rfl ?_
        all_goals rw [← Hs2.out]
        all_goals exact word_end Hj.out (noEnd_take Hw.out) (ends_drop He.out) H91.out HL.out Hv.out Hok.out Hno.out (set5 Hb3.out _ _ _ _ _).drew
  · have hq : ((str l).toList == ([] : List UInt8)) = true := by
      rw [List.length_eq_zero_iff.1 (show l.length = 0 by omega), str_list]
      rfl
    have H91 := Lib.hid h91
    have hl0 : l.length = 0 := by omega
    clear h91 hg p0
    have hfl : ∀ (w : World) (a : Addr) (m : Mode) (b : Nat), (store a (.float .f64 b) m).run Tryz.prog w = stored Tryz.prog w a (.float .f64 b) m := fun w a m b => run_store Tryz.prog w a _ m rfl
    have hwz : (w.alloc (.cells #[.int .i64 0, .int .i64 0, .float .f64 0, .string ⟨#[]⟩, .slice none 0 0] 25)).heap.size = w.heap.size + 1 := by simp
    have Hl0 := Lib.hid hl0
    clear hl0
    go_enter Tryz.func41, Tryz.ntmps41
    go_wp2
    generalize w.alloc (.cells #[.int .i64 0, .int .i64 0, .float .f64 0, .string ⟨#[]⟩, .slice none 0 0] 25) = w1 at *
    go_loop [7] (fun n => ∃ j : Nat, j ≤ l.length ∧ n = .int .i64 (j : Int) ∧ ∀ i, i < j → l.getD i 0 ≠ 32 ∧ l.getD i 0 ≠ 93) (fun n => l.length - (intOf n).toNat)
    case atStart => exact ⟨0, Nat.zero_le _, rfl, fun i hi => absurd hi (by omega)⟩
    case round =>
      obtain ⟨j, hj, rfl, hw⟩ := hrel
      have Hw := Lib.hid hw
      clear hw
      have hlt : ¬ j < l.length := by have := Hl0.out; omega
      have He := Lib.hid (show j < l.length → l.getD j 0 = 32 ∨ l.getD j 0 = 93 from fun h => absurd h (by omega))
      have Hj := Lib.hid hj
      have hji : ¬ ((j : Int) < (l.length : Int)) := by omega
      have hx1 := str_extract l 0 j
      rw [List.drop_zero] at hx1
      have hx2 := str_extract l j l.length
      rw [List.take_of_length_le (Nat.le_refl _)] at hx2
      have HA := Lib.hid (ratom_any (l.take j) w1 (fun c hc => HL.out c (List.mem_of_mem_take hc)) (by rw [List.length_take]; omega))
      skip
      generalize hs1 : str (l.take j) = s1 at *
      generalize hs2 : str (l.drop j) = s2 at *
      have Hs2 := Lib.hid hs2
      clear hs1 hs2
      go_wp2_with fail
      refine HA.out.mono ?_
      rintro e w2 ⟨v, x, ok, rfl, hv, hb2, hok, hno⟩
      obtain ⟨a2, cap2, rfl⟩ := hv.parts5
      have Hv := Lib.hid hv
      have Hok := Lib.hid hok
      have Hno := Lib.hid hno
      have Hb2 := Lib.hid (Hb0.out.trans (hb2.mono (by omega)))
      have H2 := (hb2.block w.heap.size (by omega)).trans H0.out
      have hz2 : w.heap.size < w2.heap.size := (Array.getElem?_eq_some_iff.1 H2).1
      have H3 := (Below.heap_alloc w2 (.cells #[.int .i64 v.kind, .int .i64 v.n, .float .f64 v.f, .string (str v.s), .slice a2 v.l.length cap2] 25) _ hz2).trans H2
      have hnew := heap_alloc_new w2 (.cells #[.int .i64 v.kind, .int .i64 v.n, .float .f64 v.f, .string (str v.s), .slice a2 v.l.length cap2] 25)
      have Hb3 := Lib.hid (Hb2.out.alloc Hb2.out.size (.cells #[.int .i64 v.kind, .int .i64 v.n, .float .f64 v.f, .string (str v.s), .slice a2 v.l.length cap2] 25))
      clear hv hok hno hb2 H2
      go_wp2
      obtain ⟨⟨z0, z1, z2, z3, z4⟩, ⟨y0, y1, y2, y3, y4⟩⟩ := res_cells H3
      obtain ⟨x0, x1, x2, x3, x4⟩ := box_cells hnew
      have hne2 : w2.heap.size ≠ w.heap.size := by omega
      have hne3 : w.heap.size ≠ w2.heap.size := by omega
      clear H3 hnew hz2
      generalize w2.alloc (.cells #[.int .i64 v.kind, .int .i64 v.n, .float .f64 v.f, .string (str v.s), .slice a2 v.l.length cap2] 25) = w3 at *
      generalize w2.heap.size = B2 at *
      go_region
      all_goals go_wp2
      all_goals refine bodyPost_ret (v := .tuple #[.agg #[.int .i64 v.kind, .int .i64 v.n, .float .f64 v.f, .string (str v.s), .slice a2 v.l.length cap2], .string s2, .bool ok]) (by simp [results, Tryz.results41, go_sem, *]) rfl ?_
      all_goals rw [← Hs2.out]
      all_goals exact word_end Hj.out (noEnd_take Hw.out) (ends_drop He.out) H91.out HL.out Hv.out Hok.out Hno.out (set5 Hb3.out _ _ _ _ _).drew
end Go.Proofs.YtfapajmbmgpipaaGreatDoor

/- The only value whose text a string may begin with: guess, where guessList does what it is to do. -/
namespace Go.Proofs.YtfapajmbmgpipaaGreatDoor
open Go.RowKit Go.Shelf Fl

/-- strings.IndexAny finds the first space or closing bracket. -/
def IdxAt (x : List Nat) : Prop := ∀ w, Calls Tryz.prog 59 #[.string (str x), .string ⟨#[32, 93]⟩] w fun e w' => Below w.heap.size w w' ∧ ∃ j, j ≤ x.length ∧ NoEnd (x.take j) ∧ Ends (x.drop j) ∧
  (j < x.length ∧ e = .returned (.int .i64 (j : Int)) ∨ j = x.length ∧ e = .returned (.int .i64 (-1)))

/-- What guess answers. -/
def GuessT (w : World) (l : List Nat) (t : Nat) (e : Ending) (w' : World) : Prop :=
  ∃ (con : Value) (rest : List Nat), e = .returned (.tuple #[con, .string (str rest)]) ∧ Below w.heap.size w w' ∧
    ((con = .nilIface ∧ ∀ (u : V) (r : List Nat), l = textV u ++ r → rightN t u = true → soundV u → Ends r → False) ∨
     ∃ (v : V) (a : Option Addr) (cap : Nat), con = conOf v.kind v.n v.f v.s a v.l.length cap ∧ VInP (fun b => w.heap.size ≤ b ∧ b < w'.heap.size) w' v (cells5 v.kind v.n v.f v.s a v.l.length cap) ∧ rightN t v = true ∧
       (∃ i, rest = l.drop i ∧ 0 < i ∧ i ≤ l.length) ∧ (textV v).length + 1 + 3 * rest.length ≤ 3 * l.length ∧
       ∀ (u : V) (r : List Nat), l = textV u ++ r → rightN t u = true → soundV u → Ends r → sameV v u = true ∧ rest = r)

/-- What guess answers at a word, out of what guessOne answers. -/
theorem word_guess {w w1 w2 : World} {l : List Nat} {j t : Nat} {con : Value} (hj : j ≤ l.length) (hw : NoEnd (l.take j)) (he : Ends (l.drop j)) (h91 : ∀ q, l ≠ 91 :: q) (hb1 : Below w.heap.size w w1) (hb2 : Below w1.heap.size w1 w2)
    (hc : (con = .nilIface ∧ ∀ (t : Nat) (u : V), rightN t u = true → soundV u → u.kind ≠ 4 → textV u ≠ l.take j) ∨
     ∃ (k n : Int) (f : Nat) (s : List Nat), con = conOf k n f s none 0 0 ∧ k ≠ 4 ∧ (∀ t, rightN t (.mk k n f s []) = true) ∧ soundV (.mk k n f s []) ∧ s.length ≤ 9223372036854775807 ∧ (textV (.mk k n f s [])).length ≤ (l.take j).length + 1 ∧ 0 < (l.take j).length ∧
       ∀ (t : Nat) (u : V), rightN t u = true → soundV u → u.kind ≠ 4 → textV u = l.take j → textV (.mk k n f s []) = l.take j) :
    GuessT w l t (.returned (.tuple #[con, .string (str (l.drop j))])) w2 := by
  have hplain : ∀ (u : V) (r : List Nat), l = textV u ++ r → rightN t u = true → soundV u → Ends r → u.kind ≠ 4 ∧ l.take j = textV u ∧ l.drop j = r := by
    intro u r e hu hsu her
    obtain ⟨k, n, f, s, q⟩ := u
    have hk : k ≠ 4 := by
      intro hk
      subst hk
      rw [textV_list] at e
      exact h91 _ e
    have hT := textV_word (n := n) (f := f) (s := s) (l := q) hk
    have e2 : l.take j ++ l.drop j = textV (.mk k n f s q) ++ r := by rw [List.take_append_drop]; exact e
    obtain ⟨h1, h2⟩ := noEnd_split hw (fun c hc => ⟨(hT c hc).1, (hT c hc).2.1⟩) he her e2
    exact ⟨hk, h1, h2⟩
  have hlt : (l.take j).length = j := by rw [List.length_take]; omega
  refine ⟨con, l.drop j, rfl, hb1.trans (hb2.mono hb1.size), ?_⟩
  rcases hc with ⟨hc, hno⟩ | ⟨k, n, f, s, hc, hk, hr, hs, hss, htx, h0, hco⟩
  · refine .inl ⟨hc, fun u r e hu hsu her => ?_⟩
    obtain ⟨h1, h2, _⟩ := hplain u r e hu hsu her
    exact hno t u hu hsu h1 h2.symm
  · rw [hlt] at htx h0
    have hs' := hs
    rw [soundV] at hs'
    have h0' := right_parts (hr t)
    refine .inr ⟨.mk k n f s [], none, 0, hc, ?_, hr t, ⟨j, rfl, h0, hj⟩, ?_, fun u r e hu hsu her => ?_⟩
    · exact VInP.turn (w := w2) (fun _ h => h.elim) (fun _ h => h.elim) _ _ (vin_plain (w := w2) ⟨h0'.2.1, h0'.2.2.1⟩ hs'.1 hs'.2.1 hs'.2.2.1 hss)
    · rw [List.length_drop]; omega
    · obtain ⟨h1, h2, h3⟩ := hplain u r e hu hsu her
      have h4 := hco t u hu hsu h1 h2.symm
      obtain ⟨k', n', f', s', q'⟩ := u
      have h5 := right_parts hu
      rw [soundV] at hsu
      exact ⟨word_same h0'.1 h5.1 h0'.2.1 h0'.2.2.1 h5.2.1 h5.2.2.1 hk h1 hs'.2.1 hsu.2.1 (h4.trans h2), h3⟩

set_option maxRecDepth 100000 in
set_option maxHeartbeats 1600000 in
theorem guess_word (t : Nat) (l : List Nat) (w : World) (hl : ∀ x ∈ l, x < 256) (hn : l.length ≤ 100000) (he : Errs w) (hT : Tab16 w) (hix : IdxAt l) (h91 : ∀ d, l ≠ 91 :: d) :
    Calls Tryz.prog 37 #[.string (str l), .int .i64 (t : Int)] w (GuessT w l t) := by
  have HC := Lib.hid (fun w => show Calls Tryz.prog 57 #[.string (str l), .string ⟨#[91]⟩] w _ from cut_no 91 l w (by omega) hl h91)
  have HI := Lib.hid hix
  have hsz := str_size l
  have HG := Lib.hid (fun (j : Nat) w he hT => gone_any (l.take j) w (fun x hx => hl x (List.mem_of_mem_take hx)) (by rw [List.length_take]; omega) he hT)
  have HE := Lib.hid he
  have HT := Lib.hid hT
  have H91 := Lib.hid h91
  clear hl hn he hT hix h91
  go_enter Tryz.func37, Tryz.ntmps37
  go_wp2_with fail
  refine (HC.out _).mono ?_
  rintro e w' ⟨rfl, rfl⟩
  go_wp2_with fail
  refine (HI.out _).mono ?_
  rintro e w1 ⟨hb1, j, hj, hne, hen, ⟨hjl, rfl⟩ | ⟨rfl, rfl⟩⟩
  · have Hb1 := Lib.hid hb1
    have Hne := Lib.hid hne
    have Hen := Lib.hid hen
    have hx1 : (str l).extract 0 j = str (l.take j) := by rw [str_extract]; simp
    have hx2 : (str l).extract j l.length = str (l.drop j) := by rw [str_extract, List.take_of_length_le (Nat.le_refl _)]
    have HG1 := Lib.hid (HG.out j w1.drew (HE.out.below (hb1.drew)) (tab_below HT.out (hb1.drew)))
    generalize hS2 : str (l.drop j) = S2 at *
    have HS2 := Lib.hid hS2
    have hj64 : (j : Int) ≤ (l.length : Int) := by omega
    clear hb1 hne hen hS2
    go_wp2_with fail
    go_region_held (fun _ => True) (exact trivial) (first | (go_at_call 60; (with_reducible refine HG1.out.mono ?_); rintro e w2 ⟨con, rfl, hb2, hcon⟩; have Hb2 := Lib.hid hb2; have Hcon := Lib.hid hcon; clear hb2 hcon))
    go_wp2
    go_ret2
    rw [← HS2.out]
    exact word_guess hj Hne.out Hen.out H91.out Hb1.out.drew Hb2.out Hcon.out
  · have Hb1 := Lib.hid hb1
    have Hne := Lib.hid hne
    have Hen := Lib.hid hen
    have hx1 : (str l).extract 0 l.length = str (l.take l.length) := by rw [str_extract]; simp
    have HZ := Lib.hid (show str (l.drop l.length) = ByteArray.empty from by rw [List.drop_length]; rfl)
    have HG1 := Lib.hid (HG.out l.length w1.drew (HE.out.below (hb1.drew)) (tab_below HT.out (hb1.drew)))
    generalize hS1 : str (l.take l.length) = S1 at *
    clear hb1 hne hen hj hS1
    go_wp2_with fail
    go_region_held (fun _ => True) (exact trivial) (first | (go_at_call 60; (with_reducible refine HG1.out.mono ?_); rintro e w2 ⟨con, rfl, hb2, hcon⟩; have Hb2 := Lib.hid hb2; have Hcon := Lib.hid hcon; clear hb2 hcon))
    go_wp2
    go_ret2
    have h := word_guess (t := t) (Nat.le_refl _) Hne.out Hen.out H91.out Hb1.out.drew Hb2.out Hcon.out
    rw [HZ.out] at h
    exact h

/-- What guessList is to do, and guess then does. -/
theorem vguess_any (t : Nat) (l : List Nat) (w : World) (hl : ∀ x ∈ l, x < 256) (hn : l.length ≤ 100000) (he : Errs w) (hT : Tab16 w) (hix : IdxAt l)
    (hL : ∀ d, l = 91 :: d → Calls Tryz.prog 58 #[.string (str d), .int .i64 (t : Int)] w (GuessT w l t)) :
    Calls Tryz.prog 37 #[.string (str l), .int .i64 (t : Int)] w (GuessT w l t) := by
  by_cases h : ∃ d, l = 91 :: d
  · obtain ⟨d, rfl⟩ := h
    have HC := Lib.hid (fun w => show Calls Tryz.prog 57 #[.string (str (91 :: d)), .string ⟨#[91]⟩] w _ from cut_yes 91 d w)
    have HL := Lib.hid (hL d rfl)
    clear hl hn he hT hix hL
    generalize str (91 :: d) = S at *
    go_enter Tryz.func37, Tryz.ntmps37
    go_wp2_with fail
    refine (HC.out _).mono ?_
    rintro e w' ⟨rfl, rfl⟩
    go_wp2_with fail
    refine HL.out.mono ?_
    rintro e w1 ⟨con, rest, rfl, hb, hcon⟩
    have Hcon := Lib.hid hcon
    clear hcon
    go_wp2
    go_ret2
    exact ⟨con, rest, rfl, hb, Hcon.out⟩
  · exact guess_word t l w hl hn he hT hix (fun d e => h ⟨d, e⟩)
end Go.Proofs.YtfapajmbmgpipaaGreatDoor

/- Lists of values and their texts, as guessList reads them: plain mathematics. -/
namespace Go.Proofs.YtfapajmbmgpipaaGreatDoor
open Go.RowKit Fl

/-- What is left of a list's text: the values us, and what follows. -/
def tailT (first : Bool) (us : List V) (r : List Nat) : List Nat :=
  match us with
  | [] => 93 :: r
  | u :: q => (if first then [] else [32]) ++ (joinS (textVs (u :: q)) ++ 93 :: r)

def tsum : List V → Nat
  | [] => 0
  | v :: r => (textV v).length + 1 + tsum r

theorem tsum_append : ∀ (a b : List V), tsum (a ++ b) = tsum a + tsum b
  | [], b => by simp [tsum]
  | v :: r, b => by rw [List.cons_append, tsum, tsum, tsum_append r b]; omega

theorem joinS_tsum : ∀ (a : List V), (joinS (textVs a)).length ≤ tsum a
  | [] => by simp [textVs, joinS]
  | [v] => by simp [textVs, joinS, tsum]
  | v :: u :: r => by
    have ih := joinS_tsum (u :: r)
    rw [textVs, tsum]
    rw [textVs] at ih ⊢
    rw [joinS, List.length_append, List.length_cons]
    omega

/-- How far guessList has come. -/
structure GL (q : List Nat) (t : Nat) (vs : List V) (x : List Nat) : Prop where
  at_ : ∃ i, x = q.drop i ∧ i ≤ q.length
  right : ∀ v ∈ vs, rightN t v = true
  size : tsum vs + 3 * x.length ≤ 3 * q.length
  full : ∀ (us : List V) (r : List Nat), q = joinS (textVs us) ++ 93 :: r → (∀ u ∈ us, rightN t u = true) → soundL us → ∃ us1 us2, us = us1 ++ us2 ∧ sameL vs us1 = true ∧ x = tailT (vs.isEmpty) us2 r

theorem GL.start (q : List Nat) (t : Nat) : GL q t [] q where
  at_ := ⟨0, rfl, Nat.zero_le _⟩
  right := fun v h => by cases h
  size := by simp [tsum]
  full := fun us r e _ _ => by
    refine ⟨[], us, rfl, by rw [sameL], ?_⟩
    cases us with
    | nil => rw [e]; rfl
    | cons u q' => rw [e]; rfl

theorem soundL_mem : ∀ {l : List V}, soundL l → ∀ u ∈ l, soundV u
  | v :: r, h, u, hu => by
    rw [soundL] at h
    rcases List.mem_cons.1 hu with e | e
    · rw [e]; exact h.1
    · exact soundL_mem h.2 u e

theorem joinS_cons (u : V) (us : List V) (r : List Nat) : joinS (textVs (u :: us)) ++ 93 :: r = textV u ++ tailT false us r := by
  cases us with
  | nil => rw [textVs, textVs, joinS]; rfl
  | cons v q =>
    have e : tailT false (v :: q) r = 32 :: (joinS (textVs (v :: q)) ++ 93 :: r) := rfl
    rw [e, textVs, textVs, joinS]
    simp

theorem tail_ends (us : List V) (r : List Nat) : Ends (tailT false us r) := by
  intro c q e
  cases us with
  | nil => exact .inr (List.cons.inj e).1.symm
  | cons u p => exact .inl (List.cons.inj e).1.symm

/-- Without the space in front of it. -/
def trim32 : List Nat → List Nat
  | 32 :: y => y
  | x => x

theorem tail_trim {first : Bool} {u : V} {us : List V} {r : List Nat} {t : Nat} (h : rightN t u = true) : trim32 (tailT first (u :: us) r) = textV u ++ tailT false us r := by
  have e : tailT first (u :: us) r = (if first then [] else [32]) ++ (joinS (textVs (u :: us)) ++ 93 :: r) := rfl
  rw [e, joinS_cons]
  cases first with
  | false => rfl
  | true =>
    show trim32 (textV u ++ tailT false us r) = _
    unfold trim32
    split
    · rename_i y e
      exact absurd e (text_no_end h (.inl rfl))
    · rfl

theorem sameL_snoc : ∀ {a b : List V} {u v : V}, sameL a b = true → sameV u v = true → sameL (a ++ [u]) (b ++ [v]) = true
  | [], [], u, v, _, h => by simp [sameL, h]
  | [], _ :: _, _, _, h, _ => by simp [sameL] at h
  | _ :: _, [], _, _, h, _ => by simp [sameL] at h
  | x :: a, y :: b, u, v, h, h' => by
    rw [sameL, Bool.and_eq_true] at h
    rw [List.cons_append, List.cons_append, sameL, h.1, sameL_snoc h.2 h', Bool.and_self]

theorem trim32_len (x : List Nat) : (trim32 x).length ≤ x.length := by
  unfold trim32
  split
  · rw [List.length_cons]; omega
  · exact Nat.le_refl _

theorem trim32_drop (x : List Nat) : ∃ i, i ≤ x.length ∧ trim32 x = x.drop i := by
  unfold trim32
  split
  · exact ⟨1, by rw [List.length_cons]; omega, rfl⟩
  · exact ⟨0, Nat.zero_le _, rfl⟩

/-- One value more. -/
theorem GL.step {q : List Nat} {t : Nat} {vs : List V} {x : List Nat} {v : V} {rest : List Nat} (h : GL q t vs x) (h93 : ∀ d, x ≠ 93 :: d) (hr : rightN t v = true)
    (hat : ∃ i, rest = (trim32 x).drop i ∧ 0 < i ∧ i ≤ (trim32 x).length) (hsz : (textV v).length + 1 + 3 * rest.length ≤ 3 * (trim32 x).length)
    (hco : ∀ (u : V) (r : List Nat), trim32 x = textV u ++ r → rightN t u = true → soundV u → Ends r → sameV v u = true ∧ rest = r) : GL q t (vs ++ [v]) rest where
  at_ := by
    obtain ⟨i, e1, h1⟩ := h.at_
    obtain ⟨j, h2, e2⟩ := trim32_drop x
    obtain ⟨k, e3, _, h3⟩ := hat
    refine ⟨i + (j + k), by rw [e3, e2, e1, List.drop_drop, List.drop_drop], ?_⟩
    rw [e2, List.length_drop] at h3
    rw [e1, List.length_drop] at h2 h3
    omega
  right := fun u hu => by
    rcases List.mem_append.1 hu with h1 | h1
    · exact h.right u h1
    · rw [List.mem_singleton.1 h1]; exact hr
  size := by
    have h1 := h.size
    have h2 := trim32_len x
    rw [tsum_append]
    simp only [tsum]
    omega
  full := fun us r e hu hs => by
    obtain ⟨us1, us2, e1, h1, e2⟩ := h.full us r e hu hs
    cases us2 with
    | nil => exact absurd e2 (h93 _)
    | cons u us3 =>
      have hur : rightN t u = true := hu u (by rw [e1]; simp)
      have hus : soundV u := soundL_mem hs u (by rw [e1]; simp)
      have h3 : trim32 x = textV u ++ tailT false us3 r := by rw [e2]; exact tail_trim hur
      obtain ⟨h4, h5⟩ := hco u _ h3 hur hus (tail_ends us3 r)
      refine ⟨us1 ++ [u], us3, by rw [e1, List.append_assoc]; rfl, sameL_snoc h1 h4, ?_⟩
      rw [h5]
      cases vs <;> rfl

/-- No value: no list. -/
theorem GL.none {q : List Nat} {t : Nat} {vs : List V} {x : List Nat} (h : GL q t vs x) (h93 : ∀ d, x ≠ 93 :: d) (hno : ∀ (u : V) (r : List Nat), trim32 x = textV u ++ r → rightN t u = true → soundV u → Ends r → False) :
    ∀ (us : List V) (r : List Nat), q = joinS (textVs us) ++ 93 :: r → (∀ u ∈ us, rightN t u = true) → soundL us → False := by
  intro us r e hu hs
  obtain ⟨us1, us2, e1, h1, e2⟩ := h.full us r e hu hs
  cases us2 with
  | nil => exact absurd e2 (h93 _)
  | cons u us3 =>
    have hur : rightN t u = true := hu u (by rw [e1]; simp)
    exact hno u _ (by rw [e2]; exact tail_trim hur) hur (soundL_mem hs u (by rw [e1]; simp)) (tail_ends us3 r)

/-- The closing bracket. -/
theorem GL.end_ {q : List Nat} {t : Nat} {vs : List V} {rest : List Nat} (h : GL q t vs (93 :: rest)) :
    ∀ (us : List V) (r : List Nat), q = joinS (textVs us) ++ 93 :: r → (∀ u ∈ us, rightN t u = true) → soundL us → sameL vs us = true ∧ rest = r := by
  intro us r e hu hs
  obtain ⟨us1, us2, e1, h1, e2⟩ := h.full us r e hu hs
  cases us2 with
  | nil =>
    rw [List.append_nil] at e1
    rw [e1]
    exact ⟨h1, (List.cons.inj e2).2⟩
  | cons u us3 =>
    have hur : rightN t u = true := hu u (by rw [e1]; simp)
    have h3 := tail_trim (first := vs.isEmpty) (us := us3) (r := r) hur
    rw [← e2] at h3
    exact absurd h3.symm (text_no_end hur (.inr rfl))

/-- A list among the values: its text behind the first bracket. -/
theorem list_text {u : V} {q r : List Nat} {t : Nat} (e : 91 :: q = textV u ++ r) (hu : rightN t u = true) : ∃ us, u = .mk 4 u.n u.f u.s us ∧ u.l = us ∧ q = joinS (textVs us) ++ 93 :: r := by
  obtain ⟨k, n, f, s, l⟩ := u
  have hp := right_parts hu
  have hk : k = 4 := by
    by_cases hk : k = 4
    · exact hk
    · have hw := textV_word (n := n) (f := f) (s := s) (l := l) hk
      obtain ⟨c, p, e1, _⟩ := textV_head (n := n) (f := f) (s := s) (l := l) hp.2.1 hp.2.2.1
      rw [e1] at e
      have hc := (List.cons.inj e).1
      exact absurd hc.symm (hw c (by rw [e1]; simp)).2.2
  subst hk
  rw [textV_list] at e
  refine ⟨l, rfl, rfl, ?_⟩
  have := (List.cons.inj e).2
  simpa using this
end Go.Proofs.YtfapajmbmgpipaaGreatDoor

