import Derived.Test.YtpjadeihackkpaaGreatDoorMP8
import Derived.Deep.RegionLaw
import Derived.Deep.AppendLies
import Derived.Test.YtpjadeihackkpaaGreatDoorMP5
import Derived.Deep.OwnRows
/- The walk of the reference's Clone. -/
namespace Go.Proofs.YtpjadeihackkpaaGreatDoor
open Go.RowKit Fl

theorem info_value : (Tryz.prog.info? 25).map (fun i => (i.zero, i.size, i.bytes)) = some (some (.agg #[.int .i64 0, .int .i64 0, .float .f64 0, .string ⟨#[]⟩, .slice none 0 0]), 5, 64) := by kernel_rfl

theorem bulkL_mem : ∀ {l : List V} {u : V}, u ∈ l → bulkV u ≤ bulkL l
  | v :: r, u, h => by
    rw [bulkL]
    rcases List.mem_cons.1 h with e | e
    · rw [e]; omega
    · have := bulkL_mem e; omega

theorem bulk_pos (v : V) : 1 ≤ bulkV v := by
  obtain ⟨k, n, f, s, l⟩ := v
  rw [bulkV]; omega

theorem bulkL_len : ∀ l : List V, l.length ≤ bulkL l
  | [] => by simp [bulkL]
  | v :: r => by
    rw [bulkL, List.length_cons]
    have := bulkL_len r
    have := bulk_pos v
    omega

theorem OwnVs.keep {w w' : World} {base : Nat} {v : Value} {l : List V} (h : OwnVs w base v l) (hb : ∀ b, base ≤ b → b < w.heap.size → w'.heap[b]? = w.heap[b]?) (hs : w.heap.size ≤ w'.heap.size) : OwnVs w' base v l := by
  obtain ⟨cs, hlen, ⟨hx, hrow⟩, hel⟩ := h
  refine ⟨cs, hlen, ⟨hx, ?_⟩, fun i x u hi hu => VInP.turn (fun b hq => ⟨hq.1, hq.2.1, by omega⟩) (fun p hp => ?_) u x (hel i x u hi hu)⟩
  · rcases hrow with hn | ⟨g, cap, cur, e, hbg, hg, rest⟩
    · exact .inl hn
    · exact .inr ⟨g, cap, cur, e, hbg, (hb g hbg (Array.getElem?_eq_some_iff.1 hg).1).trans hg, rest⟩
  · unfold World.cell?
    rw [hb p.block hp.1 hp.2.2]

theorem OwnVs.block {w : World} {base : Nat} {v : Value} {l : List V} (h : OwnVs w base v l) {g : Nat} (hg : v.ownBlock = some g) : base ≤ g ∧ g < w.heap.size := by
  obtain ⟨cs, hlen, ⟨hx, hrow⟩, hel⟩ := h
  rcases hrow with ⟨e, _⟩ | ⟨g', cap, cur, e, hbg, hg', rest⟩
  · rw [e] at hg
    cases hg
  · rw [e] at hg
    have e2 : g' = g := Option.some.inj hg
    rw [← e2]
    exact ⟨hbg, (Array.getElem?_eq_some_iff.1 hg').1⟩

/-- The three blocks of a call of Clone: its argument, its result, the value that it fills. -/
structure CloH (w wr : World) (k n : Int) (f : Nat) (s : List Nat) (a : Option Addr) (m cap : Nat) (acc : Value) : Prop where
  box : wr.heap[w.heap.size]? = some (.cells #[.int .i64 k, .int .i64 n, .float .f64 f, .string (str s), .slice a m cap] 25 (0, 0))
  res : wr.heap[w.heap.size + 1]? = some (.cells #[.int .i64 0, .int .i64 0, .float .f64 0, .string ⟨#[]⟩, .slice none 0 0] 25 (0, 0))
  out : wr.heap[w.heap.size + 2]? = some (.cells #[.int .i64 k, .int .i64 n, .float .f64 f, .string (str s), acc] 25 (0, 0))
  below : Below w.heap.size w wr

theorem CloH.size {w wr : World} {k n : Int} {f : Nat} {s : List Nat} {a : Option Addr} {m cap : Nat} {acc : Value} (h : CloH w wr k n f s a m cap acc) : w.heap.size + 3 ≤ wr.heap.size := by
  have := (Array.getElem?_eq_some_iff.1 h.out).1
  omega

theorem CloH.go {w wr w' : World} {k n : Int} {f : Nat} {s : List Nat} {a : Option Addr} {m cap : Nat} {acc : Value} (h : CloH w wr k n f s a m cap acc) (hb : Below wr.heap.size wr w') : CloH w w' k n f s a m cap acc := by
  have hs := h.size
  exact ⟨(hb.block _ (by omega)).trans h.box, (hb.block _ (by omega)).trans h.res, (hb.block _ (by omega)).trans h.out, h.below.trans (hb.mono (by omega))⟩

theorem CloH.grown {w wr w' : World} {k n : Int} {f : Nat} {s : List Nat} {a : Option Addr} {m cap : Nat} {acc : Value} (h : CloH w wr k n f s a m cap acc) (hg : wr.grownBy w' acc.ownBlock) (hb : ∀ g, acc.ownBlock = some g → w.heap.size + 3 ≤ g) : CloH w w' k n f s a m cap acc := by
  have hs := h.size
  have hne : ∀ g, g < w.heap.size + 3 → some g ≠ acc.ownBlock := fun g hg e => by have := hb g e.symm; omega
  exact ⟨(hg.block _ (by omega) (hne _ (by omega))).trans h.box, (hg.block _ (by omega) (hne _ (by omega))).trans h.res, (hg.block _ (by omega) (hne _ (by omega))).trans h.out, h.below.grown hg (by omega) (fun g e => by have := hb g e; omega)⟩

theorem CloH.store {w wr : World} {k n : Int} {f : Nat} {s : List Nat} {a : Option Addr} {m cap : Nat} {acc : Value} (h : CloH w wr k n f s a m cap acc) (acc' : Value) : CloH w (wr.setCell ⟨w.heap.size + 2, 4, none⟩ acc') k n f s a m cap acc' := by
  refine ⟨(Below.heap_setCell _ _ _ _ (by simp)).trans h.box, (Below.heap_setCell _ _ _ _ (by simp)).trans h.res, ?_, h.below.setCell (by simp) _⟩
  simp [World.setCell, Array.getElem?_modify, h.out]

theorem CloH.cells {w wr : World} {k n : Int} {f : Nat} {s : List Nat} {a : Option Addr} {m cap : Nat} {acc : Value} (h : CloH w wr k n f s a m cap acc) :
    wr.cell? ⟨w.heap.size, 4, none⟩ = some (.slice a m cap) ∧ wr.cell? ⟨w.heap.size + 2, 4, none⟩ = some acc ∧ wr.frozen? ⟨w.heap.size + 2, 4, none⟩ = false := by
  refine ⟨?_, ?_, ?_⟩
  · rw [cell_of_row _ _ _ _ _ _ h.box]; rfl
  · rw [cell_of_row _ _ _ _ _ _ h.out]; rfl
  · simp [World.frozen?, h.out]

theorem CloH.all {w wr : World} {k n : Int} {f : Nat} {s : List Nat} {a : Option Addr} {m cap : Nat} {acc : Value} (h : CloH w wr k n f s a m cap acc) :
    (wr.cell? ⟨w.heap.size + 2, 0, none⟩ = some (.int .i64 k) ∧ wr.cell? ⟨w.heap.size + 2, 1, none⟩ = some (.int .i64 n) ∧ wr.cell? ⟨w.heap.size + 2, 2, none⟩ = some (.float .f64 f) ∧ wr.cell? ⟨w.heap.size + 2, 3, none⟩ = some (.string (str s))) ∧
    (wr.cell? ⟨w.heap.size + 1, 0, none⟩ = some (.int .i64 0) ∧ wr.cell? ⟨w.heap.size + 1, 1, none⟩ = some (.int .i64 0) ∧ wr.cell? ⟨w.heap.size + 1, 2, none⟩ = some (.float .f64 0) ∧ wr.cell? ⟨w.heap.size + 1, 3, none⟩ = some (.string ⟨#[]⟩) ∧ wr.cell? ⟨w.heap.size + 1, 4, none⟩ = some (.slice none 0 0)) ∧
    (∀ j, wr.frozen? ⟨w.heap.size + 1, j, none⟩ = false) := by
  refine ⟨⟨?_, ?_, ?_, ?_⟩, ⟨?_, ?_, ?_, ?_, ?_⟩, fun j => ?_⟩
  · rw [cell_of_row _ _ _ _ _ _ h.out]; rfl
  · rw [cell_of_row _ _ _ _ _ _ h.out]; rfl
  · rw [cell_of_row _ _ _ _ _ _ h.out]; rfl
  · rw [cell_of_row _ _ _ _ _ _ h.out]; rfl
  · rw [cell_of_row _ _ _ _ _ _ h.res]; rfl
  · rw [cell_of_row _ _ _ _ _ _ h.res]; rfl
  · rw [cell_of_row _ _ _ _ _ _ h.res]; rfl
  · rw [cell_of_row _ _ _ _ _ _ h.res]; rfl
  · rw [cell_of_row _ _ _ _ _ _ h.res]; rfl
  · simp [World.frozen?, h.res]

/-- The value that the call fills, at its end. -/
theorem vin_done {base : Nat} {k n : Int} {f : Nat} {s : List Nat} {l : List V} {acc : Value} {wr w' : World} (hk : -9223372036854775808 ≤ k ∧ k ≤ 9223372036854775807) (hn : -9223372036854775808 ≤ n ∧ n ≤ 9223372036854775807)
    (hf : f < 18446744073709551616) (hs : ∀ c ∈ s, c < 256) (hss : s.length ≤ 9223372036854775807) (hO : OwnVs wr (base + 3) acc l) (hw : ∀ b, base + 3 ≤ b → b < wr.heap.size → w'.heap[b]? = wr.heap[b]?) (hz : wr.heap.size ≤ w'.heap.size) :
    VInP (fun b => base ≤ b ∧ b < w'.heap.size) w' (V.mk k n f s l) #[.int .i64 k, .int .i64 n, .float .f64 f, .string (str s), acc] := by
  obtain ⟨a, cap, rfl, hcap, hmax, hl⟩ := (hO.keep hw hz).lies
  rw [VInP]
  refine ⟨hk, hn, hf, hs, hss, a, cap, rfl, hcap, hmax, ?_⟩
  rcases hl with hl | ⟨g, ha, hg, hv⟩
  · exact .inl hl
  · exact .inr ⟨g, 0, ha, ⟨by omega, hg.2⟩, VsInP.turn (fun b hb => ⟨by omega, hb.2⟩) (fun _ _ => rfl) l g 0 hg hv⟩

theorem VInP.parts5 {q : Nat → Prop} {w : World} {v : V} {x : Array Value} (h : VInP q w v x) : ∃ a cap, x = #[.int .i64 v.kind, .int .i64 v.n, .float .f64 v.f, .string (str v.s), .slice a v.l.length cap] := by
  obtain ⟨_, _, _, _, _, a, cap, e, _⟩ := (VInP.weak v x h).parts
  exact ⟨a, cap, e⟩

end Go.Proofs.YtpjadeihackkpaaGreatDoor

/- The walk of the reference's parse where no list begins. -/
namespace Go.Proofs.YtpjadeihackkpaaGreatDoor
open Go.RowKit Fl

/-- No space and no closing bracket. -/
def NoEnd (x : List Nat) : Prop := ∀ c ∈ x, c ≠ 32 ∧ c ≠ 93

theorem noEnd_split : ∀ {x y r r' : List Nat}, NoEnd x → NoEnd y → Ends r → Ends r' → x ++ r = y ++ r' → x = y ∧ r = r'
  | [], [], r, r', _, _, _, _, h => ⟨rfl, h⟩
  | [], c :: y, r, r', _, hy, he, _, h => by
    have h1 := he c (y ++ r') h
    have h2 := hy c (by simp)
    omega
  | c :: x, [], r, r', hx, _, _, he, h => by
    have h1 := he c (x ++ r) h.symm
    have h2 := hx c (by simp)
    omega
  | c :: x, d :: y, r, r', hx, hy, he, he', h => by
    obtain ⟨h1, h2⟩ := List.cons.inj h
    obtain ⟨h3, h4⟩ := noEnd_split (x := x) (y := y) (fun z hz => hx z (by simp [hz])) (fun z hz => hy z (by simp [hz])) he he' h2
    exact ⟨by rw [h1, h3], h4⟩

/-- What parse answers. -/
def ParseT (w : World) (l : List Nat) (t : Nat) (e : Ending) (w' : World) : Prop :=
  ∃ (v : V) (x : Array Value) (rest : List Nat) (ok : Bool), e = .returned (.tuple #[.agg x, .string (str rest), .bool ok]) ∧ VInP (fun b => w.heap.size ≤ b ∧ b < w'.heap.size) w' v x ∧ Below w.heap.size w w' ∧ (∀ c ∈ rest, c < 256) ∧ rest.length ≤ l.length ∧
    (ok = true → (textV v).length + rest.length = l.length) ∧
    ∀ (u : V) (r : List Nat), l = textV u ++ r → rightN t u = true → soundV u → Ends r → ok = true ∧ rest = r ∧ sameV v u = true

/-- A word, as atom took it: what parse owes. -/
theorem word_answer {l : List Nat} {j t : Nat} {v : V} {ok : Bool} (hj : j ≤ l.length) (hw : NoEnd (l.take j)) (he : Ends (l.drop j)) (h91 : ∀ q, l ≠ 91 :: q) (hok : ok = true → textV v = l.take j ∧ ∀ t, rightN t v = true) (hs : soundV v)
    (hno : ok = false → ∀ (t : Nat) (u : V), rightN t u = true → soundV u → u.kind ≠ 4 → textV u ≠ l.take j) :
    (ok = true → (textV v).length + (l.drop j).length = l.length) ∧ ∀ (u : V) (r : List Nat), l = textV u ++ r → rightN t u = true → soundV u → Ends r → ok = true ∧ l.drop j = r ∧ sameV v u = true := by
  refine ⟨fun h => ?_, fun u r e hu hsu her => ?_⟩
  · rw [(hok h).1, List.length_take, List.length_drop]
    omega
  · obtain ⟨k, n, f, s, q⟩ := u
    have h0 := right_parts hu
    have hk : k ≠ 4 := by
      intro hk
      subst hk
      rw [textV_list] at e
      exact h91 _ e
    have hT := textV_word (n := n) (f := f) (s := s) (l := q) hk
    have e2 : l.take j ++ l.drop j = textV (.mk k n f s q) ++ r := by rw [List.take_append_drop]; exact e
    obtain ⟨h1, h2⟩ := noEnd_split hw (fun c hc => ⟨(hT c hc).1, (hT c hc).2.1⟩) he her e2
    cases hb : ok with
    | false => exact absurd h1.symm (hno hb t _ hu hsu hk)
    | true =>
      obtain ⟨h3, h4⟩ := hok hb
      have hv : v.kind ≠ 4 := by
        have h5 := h4 0
        unfold rightN at h5
        rw [Bool.and_eq_true, Bool.and_eq_true, decide_eq_true_eq, decide_eq_true_eq] at h5
        exact h5.1.2
      obtain ⟨k', n', f', s', q'⟩ := v
      have h0' := right_parts (h4 t)
      rw [soundV] at hs hsu
      exact ⟨rfl, h2, word_same h0'.1 h0.1 h0'.2.1 h0'.2.2.1 h0.2.1 h0.2.2.1 hv hk hs.2.1 hsu.2.1 (h3.trans h1)⟩

theorem box_cells {w : World} {g : Nat} {a b c d e : Value} {t : TypeId} (h : w.heap[g]? = some (.cells #[a, b, c, d, e] t (0, 0))) :
    w.cell? ⟨g, 0, none⟩ = some a ∧ w.cell? ⟨g, 1, none⟩ = some b ∧ w.cell? ⟨g, 2, none⟩ = some c ∧ w.cell? ⟨g, 3, none⟩ = some d ∧ w.cell? ⟨g, 4, none⟩ = some e := by
  refine ⟨?_, ?_, ?_, ?_, ?_⟩
  · rw [cell_of_row _ _ _ _ _ _ h]; rfl
  · rw [cell_of_row _ _ _ _ _ _ h]; rfl
  · rw [cell_of_row _ _ _ _ _ _ h]; rfl
  · rw [cell_of_row _ _ _ _ _ _ h]; rfl
  · rw [cell_of_row _ _ _ _ _ _ h]; rfl

theorem noEnd_take {l : List Nat} {j : Nat} (h : ∀ i, i < j → l.getD i 0 ≠ 32 ∧ l.getD i 0 ≠ 93) : NoEnd (l.take j) := by
  intro c hc
  obtain ⟨i, hi, rfl⟩ := List.getElem_of_mem hc
  rw [List.length_take] at hi
  have h1 := h i (by omega)
  rw [List.getD_eq_getElem?_getD, List.getElem?_eq_getElem (by omega)] at h1
  rw [List.getElem_take]
  exact h1

theorem ends_drop {l : List Nat} {j : Nat} (h : j < l.length → l.getD j 0 = 32 ∨ l.getD j 0 = 93) : Ends (l.drop j) := by
  intro c q e
  have hj : j < l.length := by
    have := congrArg List.length e
    rw [List.length_drop, List.length_cons] at this
    omega
  have h1 := h hj
  rw [List.drop_eq_getElem_cons hj] at e
  rw [List.getD_eq_getElem?_getD, List.getElem?_eq_getElem hj] at h1
  rw [← (List.cons.inj e).1]
  exact h1

/-- The end of parse at a word. -/
theorem word_end {w w2 : World} {l : List Nat} {j t : Nat} {v : V} {x : Array Value} {ok : Bool} {w' : World} (hj : j ≤ l.length) (hw : NoEnd (l.take j)) (he : Ends (l.drop j)) (h91 : ∀ q, l ≠ 91 :: q) (hl : ∀ c ∈ l, c < 256) (hv : VInP (fun _ => False) w2 v x)
    (hok : ok = true → textV v = l.take j ∧ ∀ t, rightN t v = true) (hno : ok = false → ∀ (t : Nat) (u : V), rightN t u = true → soundV u → u.kind ≠ 4 → textV u ≠ l.take j) (hb : Below w.heap.size w w') :
    ParseT w l t (.returned (.tuple #[.agg x, .string (str (l.drop j)), .bool ok])) w' := by
  obtain ⟨h1, h2⟩ := word_answer (t := t) hj hw he h91 hok (VIn.sound v x (VInP.weak v x hv)) hno
  exact ⟨v, x, l.drop j, ok, rfl, VInP.turn (fun _ h => h.elim) (fun _ h => h.elim) v x hv, hb, fun c hc => hl c (List.mem_of_mem_drop hc), by rw [List.length_drop]; omega, h1, h2⟩

set_option maxRecDepth 100000 in
set_option maxHeartbeats 12800000 in
theorem rparse_word (l : List Nat) (t : Nat) (w : World) (hl : ∀ x ∈ l, x < 256) (hn : l.length ≤ 1000000) (h91 : ∀ q, l ≠ 91 :: q) :
    Calls Tryz.prog 40 #[.string (str l), .int .i64 (t : Int)] w (ParseT w l t) := by
  have hsz := str_size l
  have HL := Lib.hid hl
  have hg := get_str hl
  have H0 := Lib.hid (heap_alloc_new w (.cells #[.int .i64 0, .int .i64 0, .float .f64 0, .string ⟨#[]⟩, .slice none 0 0] 25))
  have Hb0 := Lib.hid ((Below.refl w.heap.size w).alloc (Nat.le_refl _) (.cells #[.int .i64 0, .int .i64 0, .float .f64 0, .string ⟨#[]⟩, .slice none 0 0] 25))
  clear hl
  by_cases p0 : 0 < l.length
  · have K0 : 0 < (str l).size := by omega
    have hg0 := hg 0 K0
    have hne : ((l.getD 0 0 : Nat) : Int) ≠ 91 := by
      cases l with
      | nil => simp at p0
      | cons c r =>
        intro e
        exact h91 r (by rw [show c = 91 from by simp at e; omega])
    have hbq : ((((l.getD 0 0 : Nat) : Int)) != 91) = true := bne_iff_ne.2 hne
    have hq : ((str l).toList == ([] : List UInt8)) = false := by
      rw [str_list]
      cases l with
      | nil => simp at p0
      | cons c r => rfl
    generalize l.getD 0 0 = c0 at *
    have H91 := Lib.hid h91
    have Hg := Lib.hid hg
    clear h91 hg p0
    have hfl : ∀ (w : World) (a : Addr) (m : Mode) (b : Nat), (store a (.float .f64 b) m).run Tryz.prog w = stored Tryz.prog w a (.float .f64 b) m := fun w a m b => run_store Tryz.prog w a _ m rfl
    have hwz : (w.alloc (.cells #[.int .i64 0, .int .i64 0, .float .f64 0, .string ⟨#[]⟩, .slice none 0 0] 25)).heap.size = w.heap.size + 1 := by simp
    go_enter Tryz.func40, Tryz.ntmps40
    go_wp2
    generalize w.alloc (.cells #[.int .i64 0, .int .i64 0, .float .f64 0, .string ⟨#[]⟩, .slice none 0 0] 25) = w1 at *
    go_loop [7] (fun n => ∃ j : Nat, j ≤ l.length ∧ n = .int .i64 (j : Int) ∧ ∀ i, i < j → l.getD i 0 ≠ 32 ∧ l.getD i 0 ≠ 93) (fun n => l.length - (intOf n).toNat)
    case atStart => exact ⟨0, Nat.zero_le _, rfl, fun i hi => absurd hi (by omega)⟩
    case round =>
      obtain ⟨j, hj, rfl, hw⟩ := hrel
      have Hw := Lib.hid hw
      clear hw
      by_cases hlt : j < l.length
      · have K1 : j < (str l).size := by omega
        have hgj := Hg.out j K1
        have hji : (j : Int) < (l.length : Int) := by omega
        have Hlt := Lib.hid hlt
        clear hlt
        have Hj := Lib.hid hj
        by_cases q1 : l.getD j 0 = 32
        · have He := Lib.hid (show j < l.length → l.getD j 0 = 32 ∨ l.getD j 0 = 93 from fun _ => .inl q1)
          rw [q1] at hgj
          have hx1 := str_extract l 0 j
          rw [List.drop_zero] at hx1
          have hx2 := str_extract l j l.length
          rw [List.take_of_length_le (Nat.le_refl _)] at hx2
          have HA := Lib.hid (ratom_any (l.take j) w1 (fun c hc => HL.out c (List.mem_of_mem_take hc)) (by rw [List.length_take]; omega))
          clear hbq hne hg0
          generalize hs1 : str (l.take j) = s1 at *
          generalize hs2 : str (l.drop j) = s2 at *
          have Hs2 := Lib.hid hs2
          clear hs1 hs2
          go_wp2_with fail
          refine HA.out.mono ?_
          rintro e w2 ⟨v, x, ok, rfl, hv, hb2, hok, hno⟩
          obtain ⟨a2, cap2, rfl⟩ := hv.parts5
          have Hv := Lib.hid hv
          have Hok := Lib.hid hok
          have Hno := Lib.hid hno
          have Hb2 := Lib.hid (Hb0.out.trans (hb2.mono (by omega)))
          have H2 := (hb2.block w.heap.size (by omega)).trans H0.out
          have hz2 : w.heap.size < w2.heap.size := (Array.getElem?_eq_some_iff.1 H2).1
          have H3 := (Below.heap_alloc w2 (.cells #[.int .i64 v.kind, .int .i64 v.n, .float .f64 v.f, .string (str v.s), .slice a2 v.l.length cap2] 25) _ hz2).trans H2
          have hnew := heap_alloc_new w2 (.cells #[.int .i64 v.kind, .int .i64 v.n, .float .f64 v.f, .string (str v.s), .slice a2 v.l.length cap2] 25)
          have Hb3 := Lib.hid (Hb2.out.alloc Hb2.out.size (.cells #[.int .i64 v.kind, .int .i64 v.n, .float .f64 v.f, .string (str v.s), .slice a2 v.l.length cap2] 25))
          clear hv hok hno hb2 H2
          go_wp2
          obtain ⟨⟨z0, z1, z2, z3, z4⟩, ⟨y0, y1, y2, y3, y4⟩⟩ := res_cells H3
          obtain ⟨x0, x1, x2, x3, x4⟩ := box_cells hnew
          have hne2 : w2.heap.size ≠ w.heap.size := by omega
          have hne3 : w.heap.size ≠ w2.heap.size := by omega
          clear H3 hnew hz2
          generalize w2.alloc (.cells #[.int .i64 v.kind, .int .i64 v.n, .float .f64 v.f, .string (str v.s), .slice a2 v.l.length cap2] 25) = w3 at *
          generalize w2.heap.size = B2 at *
          go_region
          all_goals go_wp2
          all_goals refine bodyPost_ret (v := .tuple #[.agg #[.int .i64 v.kind, .int .i64 v.n, .float .f64 v.f, .string (str v.s), .slice a2 v.l.length cap2], .string s2, .bool ok]) (by simp [results, Tryz.results40, go_sem, *]) rfl ?_
          all_goals rw [← Hs2.out]
          all_goals exact word_end Hj.out (noEnd_take Hw.out) (ends_drop He.out) H91.out HL.out Hv.out Hok.out Hno.out (set5 Hb3.out _ _ _ _ _).drew
        · by_cases q2 : l.getD j 0 = 93
          · have He := Lib.hid (show j < l.length → l.getD j 0 = 32 ∨ l.getD j 0 = 93 from fun _ => .inr q2)
            rw [q2] at hgj
            clear q1
            have hx1 := str_extract l 0 j
            rw [List.drop_zero] at hx1
            have hx2 := str_extract l j l.length
            rw [List.take_of_length_le (Nat.le_refl _)] at hx2
            have HA := Lib.hid (ratom_any (l.take j) w1 (fun c hc => HL.out c (List.mem_of_mem_take hc)) (by rw [List.length_take]; omega))
            clear hbq hne hg0
            generalize hs1 : str (l.take j) = s1 at *
            generalize hs2 : str (l.drop j) = s2 at *
            have Hs2 := Lib.hid hs2
            clear hs1 hs2
            go_wp2_with fail
            refine HA.out.mono ?_
            rintro e w2 ⟨v, x, ok, rfl, hv, hb2, hok, hno⟩
            obtain ⟨a2, cap2, rfl⟩ := hv.parts5
            have Hv := Lib.hid hv
            have Hok := Lib.hid hok
            have Hno := Lib.hid hno
            have Hb2 := Lib.hid (Hb0.out.trans (hb2.mono (by omega)))
            have H2 := (hb2.block w.heap.size (by omega)).trans H0.out
            have hz2 : w.heap.size < w2.heap.size := (Array.getElem?_eq_some_iff.1 H2).1
            have H3 := (Below.heap_alloc w2 (.cells #[.int .i64 v.kind, .int .i64 v.n, .float .f64 v.f, .string (str v.s), .slice a2 v.l.length cap2] 25) _ hz2).trans H2
            have hnew := heap_alloc_new w2 (.cells #[.int .i64 v.kind, .int .i64 v.n, .float .f64 v.f, .string (str v.s), .slice a2 v.l.length cap2] 25)
            have Hb3 := Lib.hid (Hb2.out.alloc Hb2.out.size (.cells #[.int .i64 v.kind, .int .i64 v.n, .float .f64 v.f, .string (str v.s), .slice a2 v.l.length cap2] 25))
            clear hv hok hno hb2 H2
            go_wp2
            obtain ⟨⟨z0, z1, z2, z3, z4⟩, ⟨y0, y1, y2, y3, y4⟩⟩ := res_cells H3
            obtain ⟨x0, x1, x2, x3, x4⟩ := box_cells hnew
            have hne2 : w2.heap.size ≠ w.heap.size := by omega
            have hne3 : w.heap.size ≠ w2.heap.size := by omega
            clear H3 hnew hz2
            generalize w2.alloc (.cells #[.int .i64 v.kind, .int .i64 v.n, .float .f64 v.f, .string (str v.s), .slice a2 v.l.length cap2] 25) = w3 at *
            generalize w2.heap.size = B2 at *
            go_region
            all_goals go_wp2
            all_goals refine bodyPost_ret (v := .tuple #[.agg #[.int .i64 v.kind, .int .i64 v.n, .float .f64 v.f, .string (str v.s), .slice a2 v.l.length cap2], .string s2, .bool ok]) (by simp [results, Tryz.results40, go_sem, *]) rfl ?_
            all_goals rw [← Hs2.out]
            all_goals exact word_end Hj.out (noEnd_take Hw.out) (ends_drop He.out) H91.out HL.out Hv.out Hok.out Hno.out (set5 Hb3.out _ _ _ _ _).drew
          · have b1 : ((((l.getD j 0 : Nat) : Int)) != 32) = true := bne_iff_ne.2 (by omega)
            have b2 : ((((l.getD j 0 : Nat) : Int)) != 93) = true := bne_iff_ne.2 (by omega)
            have Hq := Lib.hid (show l.getD j 0 ≠ 32 ∧ l.getD j 0 ≠ 93 from ⟨q1, q2⟩)
            clear q1 q2 hbq hne hg0
            generalize hcj : l.getD j 0 = cj at *
            have Hcj := Lib.hid hcj
            clear hcj
            go_wp2
            go_round
            case rel =>
              refine ⟨j + 1, Hlt.out, by go_num, fun i hi => ?_⟩
              rcases Nat.lt_or_eq_of_le (Nat.le_of_lt_succ hi) with h | h
              · exact Hw.out i h
              · rw [h, Hcj.out]; exact Hq.out
            case measure => simp [intOf]; have := Hlt.out; omega
      · have He := Lib.hid (show j < l.length → l.getD j 0 = 32 ∨ l.getD j 0 = 93 from fun h => absurd h hlt)
        have Hj := Lib.hid hj
        have hji : ¬ ((j : Int) < (l.length : Int)) := by omega
        have hx1 := str_extract l 0 j
        rw [List.drop_zero] at hx1
        have hx2 := str_extract l j l.length
        rw [List.take_of_length_le (Nat.le_refl _)] at hx2
        have HA := Lib.hid (ratom_any (l.take j) w1 (fun c hc => HL.out c (List.mem_of_mem_take hc)) (by rw [List.length_take]; omega))
        clear hbq hne hg0
        generalize hs1 : str (l.take j) = s1 at *
        generalize hs2 : str (l.drop j) = s2 at *
        have Hs2 := Lib.hid hs2
        clear hs1 hs2
        go_wp2_with fail
        refine HA.out.mono ?_
        rintro e w2 ⟨v, x, ok, rfl, hv, hb2, hok, hno⟩
        obtain ⟨a2, cap2, rfl⟩ := hv.parts5
        have Hv := Lib.hid hv
        have Hok := Lib.hid hok
        have Hno := Lib.hid hno
        have Hb2 := Lib.hid (Hb0.out.trans (hb2.mono (by omega)))
        have H2 := (hb2.block w.heap.size (by omega)).trans H0.out
        have hz2 : w.heap.size < w2.heap.size := (Array.getElem?_eq_some_iff.1 H2).1
        have H3 := (Below.heap_alloc w2 (.cells #[.int .i64 v.kind, .int .i64 v.n, .float .f64 v.f, .string (str v.s), .slice a2 v.l.length cap2] 25) _ hz2).trans H2
        have hnew := heap_alloc_new w2 (.cells #[.int .i64 v.kind, .int .i64 v.n, .float .f64 v.f, .string (str v.s), .slice a2 v.l.length cap2] 25)
        have Hb3 := Lib.hid (Hb2.out.alloc Hb2.out.size (.cells #[.int .i64 v.kind, .int .i64 v.n, .float .f64 v.f, .string (str v.s), .slice a2 v.l.length cap2] 25))
        clear hv hok hno hb2 H2
        go_wp2
        obtain ⟨⟨z0, z1, z2, z3, z4⟩, ⟨y0, y1, y2, y3, y4⟩⟩ := res_cells H3
        obtain ⟨x0, x1, x2, x3, x4⟩ := box_cells hnew
        have hne2 : w2.heap.size ≠ w.heap.size := by omega
        have hne3 : w.heap.size ≠ w2.heap.size := by omega
        clear H3 hnew hz2
        generalize w2.alloc (.cells #[.int .i64 v.kind, .int .i64 v.n, .float .f64 v.f, .string (str v.s), .slice a2 v.l.length cap2] 25) = w3 at *
        generalize w2.heap.size = B2 at *
        go_region
        all_goals go_wp2
        all_goals refine bodyPost_ret (v := .tuple #[.agg #[.int .i64 v.kind, .int .i64 v.n, .float .f64 v.f, .string (str v.s), .slice a2 v.l.length cap2], .string s2, .bool ok]) (by simp [results, Tryz.results40, go_sem, *]) rfl ?_
        all_goals rw [← Hs2.out]
        all_goals exact word_end Hj.out (noEnd_take Hw.out) (ends_drop He.out) H91.out HL.out Hv.out Hok.out Hno.out (set5 Hb3.out _ _ _ _ _).drew
  · have hq : ((str l).toList == ([] : List UInt8)) = true := by
      rw [List.length_eq_zero_iff.1 (show l.length = 0 by omega), str_list]
      rfl
    have H91 := Lib.hid h91
    have hl0 : l.length = 0 := by omega
    clear h91 hg p0
    have hfl : ∀ (w : World) (a : Addr) (m : Mode) (b : Nat), (store a (.float .f64 b) m).run Tryz.prog w = stored Tryz.prog w a (.float .f64 b) m := fun w a m b => run_store Tryz.prog w a _ m rfl
    have hwz : (w.alloc (.cells #[.int .i64 0, .int .i64 0, .float .f64 0, .string ⟨#[]⟩, .slice none 0 0] 25)).heap.size = w.heap.size + 1 := by simp
    have Hl0 := Lib.hid hl0
    clear hl0
    go_enter Tryz.func40, Tryz.ntmps40
    go_wp2
    generalize w.alloc (.cells #[.int .i64 0, .int .i64 0, .float .f64 0, .string ⟨#[]⟩, .slice none 0 0] 25) = w1 at *
    go_loop [7] (fun n => ∃ j : Nat, j ≤ l.length ∧ n = .int .i64 (j : Int) ∧ ∀ i, i < j → l.getD i 0 ≠ 32 ∧ l.getD i 0 ≠ 93) (fun n => l.length - (intOf n).toNat)
    case atStart => exact ⟨0, Nat.zero_le _, rfl, fun i hi => absurd hi (by omega)⟩
    case round =>
      obtain ⟨j, hj, rfl, hw⟩ := hrel
      have Hw := Lib.hid hw
      clear hw
      have hlt : ¬ j < l.length := by have := Hl0.out; omega
      have He := Lib.hid (show j < l.length → l.getD j 0 = 32 ∨ l.getD j 0 = 93 from fun h => absurd h (by omega))
      have Hj := Lib.hid hj
      have hji : ¬ ((j : Int) < (l.length : Int)) := by omega
      have hx1 := str_extract l 0 j
      rw [List.drop_zero] at hx1
      have hx2 := str_extract l j l.length
      rw [List.take_of_length_le (Nat.le_refl _)] at hx2
      have HA := Lib.hid (ratom_any (l.take j) w1 (fun c hc => HL.out c (List.mem_of_mem_take hc)) (by rw [List.length_take]; omega))
      skip
      generalize hs1 : str (l.take j) = s1 at *
      generalize hs2 : str (l.drop j) = s2 at *
      have Hs2 := Lib.hid hs2
      clear hs1 hs2
      go_wp2_with fail
      refine HA.out.mono ?_
      rintro e w2 ⟨v, x, ok, rfl, hv, hb2, hok, hno⟩
      obtain ⟨a2, cap2, rfl⟩ := hv.parts5
      have Hv := Lib.hid hv
      have Hok := Lib.hid hok
      have Hno := Lib.hid hno
      have Hb2 := Lib.hid (Hb0.out.trans (hb2.mono (by omega)))
      have H2 := (hb2.block w.heap.size (by omega)).trans H0.out
      have hz2 : w.heap.size < w2.heap.size := (Array.getElem?_eq_some_iff.1 H2).1
      have H3 := (Below.heap_alloc w2 (.cells #[.int .i64 v.kind, .int .i64 v.n, .float .f64 v.f, .string (str v.s), .slice a2 v.l.length cap2] 25) _ hz2).trans H2
      have hnew := heap_alloc_new w2 (.cells #[.int .i64 v.kind, .int .i64 v.n, .float .f64 v.f, .string (str v.s), .slice a2 v.l.length cap2] 25)
      have Hb3 := Lib.hid (Hb2.out.alloc Hb2.out.size (.cells #[.int .i64 v.kind, .int .i64 v.n, .float .f64 v.f, .string (str v.s), .slice a2 v.l.length cap2] 25))
      clear hv hok hno hb2 H2
      go_wp2
      obtain ⟨⟨z0, z1, z2, z3, z4⟩, ⟨y0, y1, y2, y3, y4⟩⟩ := res_cells H3
      obtain ⟨x0, x1, x2, x3, x4⟩ := box_cells hnew
      have hne2 : w2.heap.size ≠ w.heap.size := by omega
      have hne3 : w.heap.size ≠ w2.heap.size := by omega
      clear H3 hnew hz2
      generalize w2.alloc (.cells #[.int .i64 v.kind, .int .i64 v.n, .float .f64 v.f, .string (str v.s), .slice a2 v.l.length cap2] 25) = w3 at *
      generalize w2.heap.size = B2 at *
      go_region
      all_goals go_wp2
      all_goals refine bodyPost_ret (v := .tuple #[.agg #[.int .i64 v.kind, .int .i64 v.n, .float .f64 v.f, .string (str v.s), .slice a2 v.l.length cap2], .string s2, .bool ok]) (by simp [results, Tryz.results40, go_sem, *]) rfl ?_
      all_goals rw [← Hs2.out]
      all_goals exact word_end Hj.out (noEnd_take Hw.out) (ends_drop He.out) H91.out HL.out Hv.out Hok.out Hno.out (set5 Hb3.out _ _ _ _ _).drew
end Go.Proofs.YtpjadeihackkpaaGreatDoor

/- The walk of the library's FormatUint at base 16. -/
namespace Go.Proofs.YtpjadeihackkpaaGreatDoor
open Go.RowKit Fl

/-- The one place of the library's table that base 16 asks for. -/
def Tab16 (w : World) : Prop := w.cell? ⟨6, 15, none⟩ = some (.int .u8 4)

theorem tz64_any (w : World) (ht : Tab16 w) :
    Calls Tryz.prog 143 #[.int .u64 16] w fun e w' => e = .returned (.int .i64 4) ∧ w = w' := by
  have hc := ht
  unfold Tab16 at hc
  have e0 : bits .and .u64 16 (IntKind.u64.wrap (-16)) = 16 := by decide +kernel
  have e1 : bits .and .u64 16 18446744073709551600 = 16 := by decide +kernel
  have e2 : IntKind.u64.wrap (16 * 285870213051353865) = 4573923408821661840 := by decide +kernel
  have e3 : IntKind.u64.wrap 4573923408821661840 = 4573923408821661840 := by decide +kernel
  go_enter Tryz.func143, Tryz.ntmps143
  go_wp2
  go_ret
  exact ⟨rfl, rfl⟩

theorem tz_any (w : World) (ht : Tab16 w) :
    Calls Tryz.prog 138 #[.int .u64 16] w fun e w' => e = .returned (.int .i64 4) ∧ w = w' := by
  have H := Lib.hid (tz64_any w ht)
  go_enter Tryz.func138, Tryz.ntmps138
  go_wp2_with fail
  refine H.out.mono ?_
  rintro e w' ⟨rfl, rfl⟩
  go_wp2
  go_ret
  exact ⟨rfl, rfl⟩

theorem pow2_any (w : World) :
    Calls Tryz.prog 137 #[.int .i64 16] w fun e w' => e = .returned (.bool true) ∧ w = w' := by
  have e1 : bits .and .i64 16 15 = 0 := by decide +kernel
  go_enter Tryz.func137, Tryz.ntmps137
  go_wp2
  go_ret
  exact ⟨rfl, rfl⟩
end Go.Proofs.YtpjadeihackkpaaGreatDoor

/- The walk of the library's FormatUint at base 16: the digits. -/
namespace Go.Proofs.YtpjadeihackkpaaGreatDoor
open Go.RowKit Fl

theorem zero65 : Tryz.zeroCells162 = Array.replicate 65 (.int .u8 0) := by kernel_rfl

/-- The row of digits behind j rounds. -/
def fcell (x j p : Nat) : Value := if 65 ≤ p + j then .int .u8 (hexD (x / 16 ^ (64 - p) % 16) : Nat) else .int .u8 0

def FRel (x : Nat) (w : World) (u i : Value) (wr : World) : Prop :=
  ∃ j q : Nat, q + j = 65 ∧ j ≤ 15 ∧ i = .int .i64 (q : Int) ∧ u = .int .u64 ((x / 16 ^ j : Nat) : Int) ∧ wr.rowIs w.heap.size 162 65 (fcell x j) ∧ Below w.heap.size w wr

theorem fRel_start (x : Nat) (w : World) : FRel x w (.int .u64 (x : Int)) (.int .i64 65) (w.alloc (.cells Tryz.zeroCells162 162)) := by
  refine ⟨0, 65, rfl, by omega, rfl, by rw [Nat.pow_zero, Nat.div_one], ?_, (Below.refl _ _).alloc (Nat.le_refl _) _⟩
  have h := World.rowIs_alloc w Tryz.zeroCells162 162 (fun _ => .int .u8 0) (fun i hi => by
    rw [zero65] at hi ⊢
    rw [Array.size_replicate] at hi
    rw [Array.getElem?_replicate, if_pos hi])
  rw [zero65, Array.size_replicate] at h
  rw [zero65]
  exact h.congr (fun i hi => by unfold fcell; rw [if_neg (by omega)])

theorem fcell_set {x j p : Nat} (h : p + 1 + j = 65) (k : Nat) (hk : k < 65) : (if k = p then Value.int .u8 (hexD (x / 16 ^ j % 16) : Nat) else fcell x j k) = fcell x (j + 1) k := by
  unfold fcell
  by_cases e : k = p
  · subst e
    rw [if_pos rfl, if_pos (show 65 ≤ k + (j + 1) by omega), show 64 - k = j by omega]
  · rw [if_neg e]
    by_cases h2 : 65 ≤ k + j
    · rw [if_pos h2, if_pos (by omega)]
    · rw [if_neg h2, if_neg (by omega)]

theorem dig_all : ∀ d : Fin 16, ∀ h : d.val < (ByteArray.mk #[48, 49, 50, 51, 52, 53, 54, 55, 56, 57, 97, 98, 99, 100, 101, 102, 103, 104, 105, 106, 107, 108, 109, 110, 111, 112, 113, 114, 115, 116, 117, 118, 119, 120, 121, 122]).size, (((ByteArray.mk #[48, 49, 50, 51, 52, 53, 54, 55, 56, 57, 97, 98, 99, 100, 101, 102, 103, 104, 105, 106, 107, 108, 109, 110, 111, 112, 113, 114, 115, 116, 117, 118, 119, 120, 121, 122])[d.val]'h).toNat : Int) = (hexD d.val : Nat) := by decide +kernel

theorem dig_at {d : Nat} (hd : d < 16) (h : d < (ByteArray.mk #[48, 49, 50, 51, 52, 53, 54, 55, 56, 57, 97, 98, 99, 100, 101, 102, 103, 104, 105, 106, 107, 108, 109, 110, 111, 112, 113, 114, 115, 116, 117, 118, 119, 120, 121, 122]).size) : (((ByteArray.mk #[48, 49, 50, 51, 52, 53, 54, 55, 56, 57, 97, 98, 99, 100, 101, 102, 103, 104, 105, 106, 107, 108, 109, 110, 111, 112, 113, 114, 115, 116, 117, 118, 119, 120, 121, 122])[d]'h).toNat : Int) = (hexD d : Nat) := dig_all ⟨d, hd⟩ h

theorem slice65 (B p : Nat) (h : p < 65) (w : World) :
    (Instr.sliceAt 162 (.pointer (some ⟨B, 0, none⟩)) (some (.int .i64 (p : Int))) none none).run Tryz.prog w = .ok (.slice (some ⟨B, p, none⟩) (65 - p) (65 - p)) w := by
  have e := run_sliceAt_array_l (P := Tryz.prog) w 162 ⟨B, 0, none⟩ (by kernel_rfl) .i64 (p : Int) (by omega) (by rw [show Tryz.prog.arrayLen 162 = 65 by kernel_rfl]; omega)
  have es : (sizeOf (Tryz.prog.elem 162)).run Tryz.prog w = .ok 1 w := by kernel_rfl
  rw [e, es, show Tryz.prog.arrayLen 162 = 65 by kernel_rfl]
  show Result.ok (slicedAt ⟨B, 0, none⟩ (p : Int).toNat 65 65 1) w = _
  unfold slicedAt
  rw [if_neg (by omega), Int.toNat_natCast]
  simp [Addr.add]
  exact fun h => h.symm

theorem hexs_get (x n : Nat) : ∀ i, i < n → (hexs x n).getD i 0 = hexD (x / 2 ^ (4 * (15 - i)) % 16) := by
  induction n with
  | zero => intro i hi; omega
  | succ n ih =>
    intro i hi
    rw [hexs, List.getD_eq_getElem?_getD]
    rcases Nat.lt_or_eq_of_le (Nat.le_of_lt_succ hi) with h | h
    · rw [List.getElem?_append_left (by rw [hexs_len]; exact h), ← List.getD_eq_getElem?_getD]
      exact ih i h
    · subst h
      rw [List.getElem?_append_right (by rw [hexs_len]; exact Nat.le_refl _), hexs_len, Nat.sub_self]
      rfl

/-- The digits as bytes of a slice. -/
theorem digits_bytes {w : World} {B x j p : Nat} (hp : p + 1 + j = 65) (hj : j ≤ 15) (h : w.rowIs B 162 65 (fcell x (j + 1))) : Bytes w (some ⟨B, p, none⟩) (65 - p) (65 - p) ((hexs x 16).drop (16 - (j + 1))) := by
  refine ⟨by rw [List.length_drop, hexs_len]; omega, Nat.le_refl _, by omega, ?_, (fun h => by cases h), fun _ => ⟨B, p, rfl, fun i hi => ?_⟩⟩
  · intro c hc
    obtain ⟨k, hk, rfl⟩ := List.getElem_of_mem (List.mem_of_mem_drop hc)
    have hk2 : k < 16 := by rw [hexs_len] at hk; exact hk
    have e := hexs_get x 16 k hk2
    rw [List.getD_eq_getElem?_getD, List.getElem?_eq_getElem hk] at e
    have e2 : (hexs x 16)[k] = hexD (x / 2 ^ (4 * (15 - k)) % 16) := e
    have hm : x / 2 ^ (4 * (15 - k)) % 16 < 16 := Nat.mod_lt _ (by omega)
    have h5 : hexD (x / 2 ^ (4 * (15 - k)) % 16) < 256 := by
      unfold hexD
      split <;> omega
    rw [← e2] at h5
    exact h5
  · rw [h.cell (by omega)]
    unfold fcell
    rw [if_pos (by omega), List.getD_eq_getElem?_getD, List.getElem?_drop, ← List.getD_eq_getElem?_getD, hexs_get x 16 _ (by omega)]
    rw [show 64 - (p + i) = 15 - (16 - (j + 1) + i) by omega, show (16 : Nat) = 2 ^ 4 by decide, ← Nat.pow_mul]

set_option maxRecDepth 100000 in
set_option maxHeartbeats 1600000 in
theorem fbits_any (x : Nat) (w : World) (hx : x < 18446744073709551616) (ht : Tab16 w) :
    Calls Tryz.prog 128 #[.slice none 0 0, .int .u64 (x : Int), .int .i64 16, .bool false, .bool false] w fun e w' => (∃ m, 1 ≤ m ∧ m ≤ 16 ∧ x < 16 ^ m ∧ e = .returned (.tuple #[.slice none 0 0, .string (str ((hexs x 16).drop (16 - m)))])) ∧ Below w.heap.size w w' := by
  have HP := Lib.hid (fun w : World => pow2_any w)
  have HT := Lib.hid (fun w : World => tz_any w)
  have Ht := Lib.hid ht
  have Hst := Lib.hid (fRel_start x w)
  clear ht
  go_enter Tryz.func128, Tryz.ntmps128
  go_wp2_with fail
  refine (HP.out _).mono ?_
  rintro e w' ⟨rfl, rfl⟩
  go_wp2_with fail
  refine (HT.out _ ?_).mono ?_
  · have h := Ht.out
    unfold Tab16 at h ⊢
    rw [((Below.refl w.heap.size w).alloc (Nat.le_refl _) _).cell (World.block_lt_of_cell? _ _ h)]
    exact h
  rintro e w' ⟨rfl, rfl⟩
  go_wp2
  go_loopw [1, 13] (fun u i wr => FRel x w u i wr) (fun _ i _ => (intOf i).toNat)
  case atStart => exact Hst.out
  case round =>
    obtain ⟨j, q, hqj, hj, rfl, rfl, hrow, hbel⟩ := hrel
    obtain ⟨p, rfl⟩ : ∃ p, q = p + 1 := ⟨q - 1, by omega⟩
    have hult : x / 16 ^ j < 18446744073709551616 := Nat.lt_of_le_of_lt (Nat.div_le_self _ _) hx
    have Hn := Lib.hid (show x / 16 ^ j / 16 = x / 16 ^ (j + 1) by rw [Nat.div_div_eq_div_mul, ← Nat.pow_succ])
    have Hset := Lib.hid (fun k hk => fcell_set (x := x) hqj k hk)
    have Hp := Lib.hid (hrow.cell (show p < 65 by omega))
    have Hz := Lib.hid (hrow.frozen p)
    have hp65 : p < 65 := by omega
    generalize fcell x j p = old at *
    generalize hU : x / 16 ^ j = u at *
    by_cases h16 : 16 ≤ u
    · have ha := and15 hult
      have hd : u % 16 < 16 := Nat.mod_lt _ (by omega)
      have hdig := dig_at hd
      have hcell := Hp.out
      have hfz := Hz.out
      have hj2 : j < 15 := by
        rcases Nat.lt_or_eq_of_le hj with h | h
        · exact h
        · rw [h] at hU
          have : x / 16 ^ 15 < 16 := Nat.div_lt_of_lt_mul (by omega)
          omega
      have Hset2 := Lib.hid (show ∀ k, k < 65 → (if k = p then Value.int .u8 (hexD (u % 16) : Nat) else fcell x j k) = fcell x (j + 1) k by
        intro k hk
        have h := Hset.out k hk
        exact h)
      clear hU hx Hset
      generalize u % 16 = d at *
      go_wp2
      go_round
      case rel =>
        refine ⟨j + 1, p, by omega, by omega, rfl, congrArg (Value.int .u64) (congrArg Nat.cast Hn.out), ?_, hbel.setCell (Nat.le_refl _) _⟩
        exact (hrow.set p _).congr (fun k hk => Hset2.out k hk)
      case measure => simp [intOf]
    · have hd : u < 16 := by omega
      have hdig := dig_at hd
      have hcell := Hp.out
      have hfz := Hz.out
      have hsl := slice65 w.heap.size p hp65
      have Hset2 := Lib.hid (show ∀ k, k < 65 → (if k = p then Value.int .u8 (hexD u : Nat) else fcell x j k) = fcell x (j + 1) k by
        intro k hk
        have h := Hset.out k hk
        rw [Nat.mod_eq_of_lt hd] at h
        exact h)
      have hrow2 := (hrow.set p (.int .u8 (hexD u : Nat))).congr (fun k hk => Hset2.out k hk)
      have hby := digits_bytes (by omega) hj hrow2
      have hconv := convert_bytes hby 28 5 9 Tryz.underlying28 Tryz.underlying5 Tryz.underlying9
      have Hlast := Lib.hid (show x < 16 ^ (j + 1) by
        rw [← hU] at hd
        have h := (Nat.div_lt_iff_lt_mul (Nat.pow_pos (by omega))).1 hd
        rw [Nat.pow_succ, Nat.mul_comm]
        exact h)
      have Hbel := Lib.hid (hbel.setCell (show w.heap.size ≤ (Addr.mk w.heap.size p none).block from Nat.le_refl _) (.int .u8 (hexD u : Nat)))
      clear hx hU Hset Hset2 hrow2 hby
      go_wp2
      go_ret2
      exact ⟨⟨j + 1, by omega, by omega, Hlast.out, by rw [show 16 - (j + 1) = 15 - j by omega]; rfl⟩, Hbel.out⟩
end Go.Proofs.YtpjadeihackkpaaGreatDoor

