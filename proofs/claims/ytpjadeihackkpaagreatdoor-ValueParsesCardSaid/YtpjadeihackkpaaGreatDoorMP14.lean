import Derived.Test.YtpjadeihackkpaaGreatDoorMP12
import Derived.Test.YtpjadeihackkpaaGreatDoorMP6
import Derived.Deep.OwnRows
import Derived.Lib.SmallJoins
import Derived.Deep.RegionHeld
import Derived.Test.YtpjadeihackkpaaGreatDoorMP3
/- The text of a list of values. -/
namespace Go.Proofs.YtpjadeihackkpaaGreatDoor
open Go.RowKit Go.Shelf Fl

theorem info_string : (Tryz.prog.info? 9).map (fun i => (i.zero, i.size, i.bytes)) = some (some (.string ByteArray.empty), 1, 16) := by kernel_rfl

/-- The array of texts when the first j of them are written. -/
def textRow (l : List V) (j : Nat) : Array Value := ((l.take j).map (fun u => Value.string (str (textV u))) ++ List.replicate (l.length - j) (Value.string ⟨#[]⟩)).toArray

theorem textRow_size {l : List V} {j : Nat} (h : j ≤ l.length) : (textRow l j).size = l.length := by
  unfold textRow
  simp
  omega

theorem textRow_zero (l : List V) : (madeCells #[Value.string ByteArray.empty] l.length) = textRow l 0 := by
  apply Array.ext
  · rw [size_madeCells, textRow_size (Nat.zero_le _)]
  · intro i h1 h2
    simp [madeCells, textRow, Nat.mod_one]
    rfl

theorem textRow_set {l : List V} {j : Nat} (h : j < l.length) : (textRow l j).setIfInBounds j (.string (str (textV l[j]))) = textRow l (j + 1) := by
  apply Array.ext
  · rw [Array.size_setIfInBounds, textRow_size (by omega), textRow_size (by omega)]
  · intro i h1 h2
    rw [textRow_size (by omega)] at h2
    rw [Array.getElem_setIfInBounds (by rw [textRow_size (by omega)]; exact h2)]
    by_cases e : j = i
    · subst e
      rw [if_pos rfl]
      simp [textRow, List.length_take, Nat.min_eq_left (show j + 1 ≤ l.length by omega)]
    · rw [if_neg e]
      by_cases e2 : i < j
      · simp [textRow, List.length_take, Nat.min_eq_left (show j + 1 ≤ l.length by omega), Nat.min_eq_left (show j ≤ l.length by omega), e2, show i < j + 1 by omega]
      · simp [textRow, List.getElem_append, List.length_take, Nat.min_eq_left (show j + 1 ≤ l.length by omega), Nat.min_eq_left (show j ≤ l.length by omega), e2, show ¬ i < j + 1 by omega]

theorem join_len : ∀ a : List (List Nat), a.length ≤ (joinS a).length + 1
  | [] => by simp
  | [y] => by simp [joinS]
  | y :: z :: r => by
    have := join_len (z :: r)
    rw [joinS, List.length_append, List.length_cons]
    simp only [List.length_cons] at this ⊢
    omega

theorem lib_join : ∀ a : List (List Nat), Lib.join (a.map (fun l => l.map UInt8.ofNat)) [32] = (joinS a).map UInt8.ofNat
  | [] => rfl
  | [y] => by simp [Lib.join, List.intercalate, joinS]
  | y :: z :: r => by
    have ih := lib_join (z :: r)
    unfold Lib.join at ih ⊢
    rw [joinS, List.map_append, show (32 :: joinS (z :: r)).map UInt8.ofNat = 32 :: (joinS (z :: r)).map UInt8.ofNat from rfl, ← ih]
    simp [List.intercalate]

/-- How a content answers text. -/
def TextAt (w : World) (con : Value) (txt : List Nat) : Prop :=
  ∃ (T : TypeId) (v : Value) (f : FuncId), con = .iface T v ∧ (∀ (n : Nat) (w : World), (method (n + 1) T v "clockwork/value.text").run Tryz.prog w = .ok (f, v) w) ∧ (∀ args w, (callFunc f args).run Tryz.prog w = .ok (.enter f args) w) ∧
    ∀ w', Below w.heap.size w w' → Calls Tryz.prog f #[v] w' fun e w'' => e = .returned (.string (str txt)) ∧ Below w'.heap.size w' w''

set_option maxRecDepth 100000 in
theorem listText_any (l : List V) (a : Option Addr) (cap : Nat) (w : World) (hn : (textV (.mk 4 0 0 [] l)).length ≤ 1000000) (hl : l = [] ∨ ∃ b o, a = some ⟨b, o, none⟩ ∧ VsIn w l b o)
    (ht : ∀ u ∈ l, ∀ a cap, VIn w u (cells5 u.kind u.n u.f u.s a u.l.length cap) → TextAt w (conOf u.kind u.n u.f u.s a u.l.length cap) (textV u)) :
    Calls Tryz.prog 172 #[.slice a l.length cap] w fun e w' => e = .returned (.string (str (textV (.mk 4 0 0 [] l)))) ∧ Below w.heap.size w w' := by
  have hll : l.length ≤ 1000000 := by
    have h := join_len (textVs l)
    rw [textVs_map, List.length_map] at h
    rw [textV, if_neg (by decide), if_neg (by decide), if_neg (by decide), if_pos rfl, List.length_cons, List.length_append, textVs_map] at hn
    simp only [List.length_cons, List.length_nil] at hn
    omega
  have hmk := run_make_row' (P := Tryz.prog) 184 9 (.string ByteArray.empty) 16 Tryz.underlying184 info_string rfl .i64 .i64 l.length (by omega) (by omega)
  have hfl : ∀ (w : World) (a : Addr) (m : Mode) (b : Nat), (store a (.float .f64 b) m).run Tryz.prog w = stored Tryz.prog w a (.float .f64 b) m := fun w a m b => run_store Tryz.prog w a _ m rfl
  have HC := Lib.hid (fun k n f s a len cap w => contentOf_any k n f s a len cap w)
  have H0 := Lib.hid (show (w.alloc (.cells (madeCells #[Value.string ByteArray.empty] l.length) 9)).heap[w.heap.size]? = some (.cells (textRow l 0) 9 (0, 0)) from by
    rw [textRow_zero]; exact heap_alloc_new w _)
  have HL := Lib.hid hl
  have HT := Lib.hid ht
  have HN := Lib.hid hn
  have hb0 := (Below.refl w.heap.size w).alloc (Nat.le_refl _) (.cells (madeCells #[Value.string ByteArray.empty] l.length) 9)
  have Hb0 := Lib.hid hb0
  have hj1 := Tryz.strings_Join
  clear hl hb0 ht hn
  go_enter Tryz.func172, Tryz.ntmps172
  go_wp2_with fail
  generalize w.alloc (.cells (madeCells #[Value.string ByteArray.empty] l.length) 9) = w1 at *
  go_loopw [11] (fun i wr => ∃ j : Nat, j ≤ l.length ∧ i = .int .i64 (j : Int) ∧ wr.heap[w.heap.size]? = some (.cells (textRow l j) 9 (0, 0)) ∧ Below w.heap.size w wr) (fun i _ => l.length - (intOf i).toNat)
  case atStart => exact ⟨0, Nat.zero_le _, rfl, H0.out, Hb0.out⟩
  case round =>
    obtain ⟨j, hj, rfl, hR, hbr⟩ := hrel
    have HR := Lib.hid hR
    have Hbr := Lib.hid hbr
    by_cases hlt : j < l.length
    · have hji : (j : Int) < (l.length : Int) := by omega
      obtain ⟨b, o, rfl, hvs⟩ := HL.out.resolve_left (by intro e; rw [e] at hlt; simp at hlt)
      obtain ⟨a', cap', hvy, c0, c1, c2, c3, c4⟩ := hvs.elem hlt
      replace c0 := cell_below hbr c0
      replace c1 := cell_below hbr c1
      replace c2 := cell_below hbr c2
      replace c3 := cell_below hbr c3
      replace c4 := cell_below hbr c4
      obtain ⟨hget, hmem⟩ := get_mem hlt
      have Hset := Lib.hid (textRow_set hlt)
      have Hlt := Lib.hid hlt
      obtain ⟨T, v, f, hc, hm, he, hcall⟩ := HT.out _ hmem _ _ hvy
      generalize l[j] = u at *
      obtain ⟨z0, z1, z2, z3, z4⟩ := new5 wr (.int .i64 u.kind) (.int .i64 u.n) (.float .f64 u.f) (.string (str u.s)) (.slice a' u.l.length cap') 25
      have HM := Lib.hid hm
      have HK := Lib.hid hcall
      have hal := (Below.refl wr.heap.size wr).alloc (Nat.le_refl _) (.cells #[.int .i64 u.kind, .int .i64 u.n, .float .f64 u.f, .string (str u.s), .slice a' u.l.length cap'] 25)
      have Hal := Lib.hid hal
      clear hlt hbr hR hvs hvy hget hmem hm hcall hal
      go_wp2_with fail
      refine (HC.out u.kind u.n u.f u.s a' u.l.length cap' _).mono ?_
      rintro e w3 ⟨rfl, hb3⟩
      rw [hc]
      have Hb3 := Lib.hid (Hal.out.trans (hb3.mono Hal.out.size))
      clear hb3 hc
      go_wp2_with fail
      rw [HM.out]
      go_wp2_with fail
      refine (HK.out _ (Hbr.out.trans (Hb3.out.mono Hbr.out.size))).mono ?_
      rintro e w4 ⟨rfl, hb4⟩
      have hblk : w4.heap[w.heap.size]? = some (.cells (textRow l j) 9 (0, 0)) := by
        have hlt2 : w.heap.size < wr.heap.size := (Array.getElem?_eq_some_iff.1 HR.out).1
        rw [hb4.block _ (by have := Hb3.out.size; omega), Hb3.out.block _ hlt2]
        exact HR.out
      have Hblk := Lib.hid hblk
      have hcell : ∃ y, w4.cell? ⟨w.heap.size, j, none⟩ = some y := by
        rw [cell_of_row _ _ _ _ _ _ hblk]
        exact ⟨_, Array.getElem?_eq_getElem (by rw [textRow_size (by have := Hlt.out; omega)]; exact Hlt.out)⟩
      obtain ⟨y, hy⟩ := hcell
      have hfr : w4.frozen? ⟨w.heap.size, j, none⟩ = false := by simp [World.frozen?, hblk]
      have Hb4 := Lib.hid (show Below w.heap.size w w4 from Hbr.out.trans ((Hb3.out.trans (hb4.mono Hb3.out.size)).mono Hbr.out.size))
      clear hb4 hblk c0 c1 c2 c3 c4 z0 z1 z2 z3 z4
      go_wp2
      go_roundw
      case rel =>
        refine ⟨j + 1, Hlt.out, by go_num, ?_, Hb4.out.setCell (Nat.le_refl _) _⟩
        rw [← Hset.out]
        exact Joins.block_setCell Hblk.out _
      case measure => simp [intOf]; have := Hlt.out; omega
    · have hji : ¬ ((j : Int) < (l.length : Int)) := by omega
      obtain rfl : j = l.length := by omega
      have hxl : (l.map (fun u => str (textV u))).length = l.length := List.length_map _
      have hmm : (l.map (fun u => str (textV u))).map (·.data.toList) = (textVs l).map (fun x => x.map UInt8.ofNat) := by
        rw [textVs_map, List.map_map, List.map_map]
        exact List.map_congr_left (fun u _ => by simp [str])
      have hjn := hj1 w.heap.size 0 l.length (l.map (fun u => str (textV u))) ⟨#[32]⟩ wr (fun i x hx => by
          rw [List.getElem?_map] at hx
          obtain ⟨u, hu, rfl⟩ := Option.map_eq_some_iff.1 hx
          obtain ⟨hi, rfl⟩ := List.getElem?_eq_some_iff.1 hu
          rw [Nat.zero_add, cell_of_row _ _ _ _ _ _ hR]
          simp [textRow, hi])
        (Array.getElem?_eq_some_iff.1 hR).1 (by rw [hxl]; omega) (by rw [hxl]; exact Nat.le_refl _) (by
          rw [hmm, show ((⟨#[32]⟩ : ByteArray).data.toList) = [32] from rfl, lib_join, List.length_map]
          have h := HN.out
          rw [textV, if_neg (by decide), if_neg (by decide), if_neg (by decide), if_pos rfl, List.length_cons, List.length_append] at h
          omega)
      rw [hxl, hmm, show ((⟨#[32]⟩ : ByteArray).data.toList) = [32] from rfl, lib_join] at hjn
      have Hjn := Lib.hid (show Calls Tryz.prog 173 #[.slice (some ⟨w.heap.size, 0, none⟩) l.length l.length, .string ⟨#[32]⟩] wr (fun e w' => e = .returned (.string (str (joinS (textVs l)))) ∧ Below wr.heap.size wr w') from hjn)
      have hq := str_size (joinS (textVs l))
      have Hsum := Lib.hid (show (⟨#[91]⟩ : ByteArray) ++ str (joinS (textVs l)) ++ (⟨#[93]⟩ : ByteArray) = str (textV (.mk 4 0 0 [] l)) from by
        rw [textV, if_neg (by decide), if_neg (by decide), if_neg (by decide), if_pos rfl]
        exact (congrArg (· ++ (⟨#[93]⟩ : ByteArray)) (str_append [91] (joinS (textVs l)))).trans ((str_append (91 :: joinS (textVs l)) [93]).trans (by simp)))
      have hqn : (joinS (textVs l)).length ≤ 1000000 := by
        have h := HN.out
        rw [textV, if_neg (by decide), if_neg (by decide), if_neg (by decide), if_pos rfl, List.length_cons, List.length_append] at h
        omega
      clear hR hbr hlt hxl hmm hjn hj1
      generalize str (joinS (textVs l)) = S at *
      generalize (joinS (textVs l)).length = q at *
      go_wp2_with fail
      refine Hjn.out.mono ?_
      rintro e w5 ⟨rfl, hb5⟩
      have Hb5 := Lib.hid (Hbr.out.trans (hb5.mono Hbr.out.size))
      clear hb5
      go_wp2
      go_ret
      exact ⟨by rw [← Hsum.out]; rfl, Hb5.out⟩
end Go.Proofs.YtpjadeihackkpaaGreatDoor

/- Which values have only fields of their kind: bare, and Valid's own test. -/
namespace Go.Proofs.YtpjadeihackkpaaGreatDoor
open Go.RowKit Fl

/-- Only fields of a kind that there is. -/
def bareB (v : V) : Bool := decide (FieldsOk v ∧ 0 ≤ v.kind ∧ v.kind ≤ 4)

theorem chain5 {p q r s t u : Prop} [Decidable p] [Decidable q] [Decidable r] [Decidable s] [Decidable t] {_ : Decidable u} (h : u ↔ (p ∧ q ∧ r ∧ s ∧ t)) :
    decide u = (decide p && (decide q && (decide r && (decide s && decide t)))) := by
  rw [Bool.eq_iff_iff]
  simp only [Bool.and_eq_true, decide_eq_true_eq]
  exact h

theorem whole_cells (k n : Int) (f : Nat) (s : List Nat) (a : Option Addr) (l : List V) (cap : Nat) (hf : f < 18446744073709551616) (hs : ∀ c ∈ s, c < 256) :
    ∃ (k2 n2 : Int) (f2 : Nat) (s2 : List Nat) (a2 : Option Addr) (len2 cap2 : Nat), wholeOf k n f s a l.length cap = cells5 k2 n2 f2 s2 a2 len2 cap2 ∧ f2 < 18446744073709551616 ∧ (∀ c ∈ s2, c < 256) ∧
      bareB (.mk k n f s l) = (decide (k2 = k) && (decide (n2 = n) && (decide (bitsB f2 = bitsB f) && (decide (s2 = s) && decide (len2 = l.length))))) := by
  have hb0 : bitsB 0 = 0 := by decide
  have hl : 0 = l.length ↔ l = [] := ⟨fun h => List.length_eq_zero_iff.1 h.symm, fun h => by rw [h]; rfl⟩
  have hss : ([] : List Nat) = s ↔ s = [] := ⟨fun h => h.symm, fun h => h.symm⟩
  have hn0 : 0 = n ↔ n = 0 := ⟨fun h => h.symm, fun h => h.symm⟩
  have hff : 0 = bitsB f ↔ bitsB f = 0 := ⟨fun h => h.symm, fun h => h.symm⟩
  unfold wholeOf bareB FieldsOk
  simp only [V.kind, V.n, V.f, V.s, V.l]
  by_cases h1 : k = 1
  · subst h1
    refine ⟨1, n, 0, [], none, 0, 0, rfl, by omega, (fun c h => by cases h), chain5 ?_⟩
    rw [hb0, hl, hss, hff]
    constructor
    · rintro ⟨⟨_, g2, g3, g4⟩, _⟩
      exact ⟨rfl, rfl, g2.resolve_left (by omega), g3.resolve_left (by omega), g4.resolve_left (by omega)⟩
    · rintro ⟨_, _, g2, g3, g4⟩
      exact ⟨⟨.inl rfl, .inr g2, .inr g3, .inr g4⟩, by omega, by omega⟩
  rw [if_neg h1]
  by_cases h2 : k = 2
  · subst h2
    refine ⟨2, 0, f, [], none, 0, 0, rfl, hf, (fun c h => by cases h), chain5 ?_⟩
    rw [hl, hss, hn0]
    constructor
    · rintro ⟨⟨g1, _, g3, g4⟩, _⟩
      exact ⟨rfl, g1.resolve_left (by omega), rfl, g3.resolve_left (by omega), g4.resolve_left (by omega)⟩
    · rintro ⟨_, g1, _, g3, g4⟩
      exact ⟨⟨.inr g1, .inl rfl, .inr g3, .inr g4⟩, by omega, by omega⟩
  rw [if_neg h2]
  by_cases h3 : k = 3
  · subst h3
    refine ⟨3, 0, 0, s, none, 0, 0, rfl, by omega, hs, chain5 ?_⟩
    rw [hb0, hl, hff, hn0]
    constructor
    · rintro ⟨⟨g1, g2, _, g4⟩, _⟩
      exact ⟨rfl, g1.resolve_left (by omega), g2.resolve_left (by omega), rfl, g4.resolve_left (by omega)⟩
    · rintro ⟨_, g1, g2, _, g4⟩
      exact ⟨⟨.inr g1, .inr g2, .inl rfl, .inr g4⟩, by omega, by omega⟩
  rw [if_neg h3]
  by_cases h4 : k = 4
  · subst h4
    refine ⟨4, 0, 0, [], a, l.length, cap, rfl, by omega, (fun c h => by cases h), chain5 ?_⟩
    rw [hb0, hss, hff, hn0]
    constructor
    · rintro ⟨⟨g1, g2, g3, _⟩, _⟩
      exact ⟨rfl, g1.resolve_left (by omega), g2.resolve_left (by omega), g3.resolve_left (by omega), rfl⟩
    · rintro ⟨_, g1, g2, g3, _⟩
      exact ⟨⟨.inr g1, .inr g2, .inr g3, .inl rfl⟩, by omega, by omega⟩
  rw [if_neg h4]
  refine ⟨0, 0, 0, [], none, 0, 0, rfl, by omega, (fun c h => by cases h), chain5 ?_⟩
  rw [hb0, hl, hss, hff, hn0]
  constructor
  · rintro ⟨⟨g1, g2, g3, g4⟩, g5, g6⟩
    exact ⟨by omega, g1.resolve_left h1, g2.resolve_left h2, g3.resolve_left h3, g4.resolve_left h4⟩
  · rintro ⟨g0, g1, g2, g3, g4⟩
    exact ⟨⟨.inr g1, .inr g2, .inr g3, .inr g4⟩, by omega, by omega⟩

theorem keep5 {w w' : World} {p : Nat} {a b c d e : Value} (hb : Below w.heap.size w w')
    (h : w.cell? ⟨p, 0, none⟩ = some a ∧ w.cell? ⟨p, 1, none⟩ = some b ∧ w.cell? ⟨p, 2, none⟩ = some c ∧ w.cell? ⟨p, 3, none⟩ = some d ∧ w.cell? ⟨p, 4, none⟩ = some e) :
    w'.cell? ⟨p, 0, none⟩ = some a ∧ w'.cell? ⟨p, 1, none⟩ = some b ∧ w'.cell? ⟨p, 2, none⟩ = some c ∧ w'.cell? ⟨p, 3, none⟩ = some d ∧ w'.cell? ⟨p, 4, none⟩ = some e := by
  have g : ∀ {q : Addr} {v : Value}, w.cell? q = some v → w'.cell? q = some v := fun {q v} h => by
    rw [hb.cell (World.block_lt_of_cell? _ _ h)]; exact h
  exact ⟨g h.1, g h.2.1, g h.2.2.1, g h.2.2.2.1, g h.2.2.2.2⟩

set_option maxRecDepth 100000 in
set_option maxHeartbeats 1600000 in
theorem bare_any (k n : Int) (f : Nat) (s : List Nat) (a : Option Addr) (l : List V) (cap : Nat) (w : World) (hf : f < 18446744073709551616) (hs : ∀ c ∈ s, c < 256) :
    Calls Tryz.prog 30 #[.agg (cells5 k n f s a l.length cap)] w fun e w' => e = .returned (.bool (bareB (.mk k n f s l))) ∧ Below w.heap.size w w' := by
  obtain ⟨k2, n2, f2, s2, a2, len2, cap2, hw, hf2, hs2, hB⟩ := whole_cells k n f s a l cap hf hs
  have HC := Lib.hid (fun w => contentOf_any k n f s a l.length cap w)
  have HW := Lib.hid (fun w => whole_any k n f s a l.length cap w)
  rw [hw] at HW
  have hfl : ∀ (w : World) (a : Addr) (m : Mode) (b : Nat), (store a (.float .f64 b) m).run Tryz.prog w = stored Tryz.prog w a (.float .f64 b) m := fun w a m b => run_store Tryz.prog w a _ m rfl
  have HR := Lib.hid (fun w => same_any f2 f w hf2 hf)
  have hB : ∃ b : Bool, bareB (.mk k n f s l) = b ∧ b = (decide (k2 = k) && (decide (n2 = n) && (decide (bitsB f2 = bitsB f) && (decide (s2 = s) && decide (len2 = l.length))))) := ⟨_, rfl, hB⟩
  obtain ⟨bb, hbb, hB⟩ := hB
  rw [hbb]
  generalize l.length = len at *
  have HB := Lib.hid hB
  have C0 := Lib.hid (new5 w (.int .i64 k) (.int .i64 n) (.float .f64 f) (.string (str s)) (.slice a len cap) 25)
  have Hb := Lib.hid ((Below.refl w.heap.size w).alloc (Nat.le_refl _) (.cells (cells5 k n f s a len cap) 25))
  have hwz : (w.alloc (.cells #[.int .i64 k, .int .i64 n, .float .f64 f, .string (str s), .slice a len cap] 25)).heap.size = w.heap.size + 1 := by simp
  clear hw hB hf hf2 hbb
  generalize conOf k n f s a len cap = con at *
  unfold cells5 at *
  go_enter Tryz.func30, Tryz.ntmps30
  go_wp2_with fail
  generalize w.alloc (.cells #[.int .i64 k, .int .i64 n, .float .f64 f, .string (str s), .slice a len cap] 25) = w0 at *
  refine (HC.out _).mono ?_
  rintro e w1 ⟨rfl, hb1⟩
  have Hb1 := Lib.hid hb1
  clear hb1
  go_wp2_with fail
  refine (HW.out _).mono ?_
  rintro e w2 ⟨rfl, hb2⟩
  have Hb2 := Lib.hid (Hb1.out.trans (hb2.mono Hb1.out.size))
  have Hb3 := Lib.hid (Hb2.out.alloc Hb2.out.size (.cells #[.int .i64 k2, .int .i64 n2, .float .f64 f2, .string (str s2), .slice a2 len2 cap2] 25))
  have Hbe := Lib.hid (show Below w.heap.size w _ from Hb.out.trans (Hb3.out.mono (by omega)))
  obtain ⟨c0, c1, c2, c3, c4⟩ := new5 w2 (.int .i64 k2) (.int .i64 n2) (.float .f64 f2) (.string (str s2)) (.slice a2 len2 cap2) 25
  obtain ⟨m0, m1, m2, m3, m4⟩ := keep5 Hb3.out C0.out
  clear hb2
  by_cases q1 : k2 = k
  · rw [decide_eq_true q1] at HB
    have d1 : (k2 == k) = true := beq_iff_eq.2 q1
    by_cases q2 : n2 = n
    · rw [decide_eq_true q2] at HB
      have d2 : (n2 == n) = true := beq_iff_eq.2 q2
      by_cases q3 : bitsB f2 = bitsB f
      · rw [decide_eq_true q3] at HB HR
        by_cases q4 : s2 = s
        · have d4 : ((str s2).toList == (str s).toList) = true := by rw [q4]; exact str_eq s
          rw [decide_eq_true q4] at HB
          have HB5 := Lib.hid (show (decide (len2 = len)) = bb from by rw [HB.out]; simp)
          clear q1 q2 q3 q4 hs hs2
          go_wp2_with ((with_reducible refine (HR.out _).mono ?_); rintro e w' ⟨rfl, rfl⟩)
          go_ret
          exact ⟨ret_bool (by rw [← HB5.out, Bool.eq_iff_iff]; simp; omega), Hbe.out⟩
        · have d4 : ((str s2).toList == (str s).toList) = false := str_ne hs2 hs q4
          rw [decide_eq_false q4] at HB
          have HB5 := Lib.hid (show false = bb from by rw [HB.out]; simp)
          clear q1 q2 q3 q4 hs hs2
          go_wp2_with ((with_reducible refine (HR.out _).mono ?_); rintro e w' ⟨rfl, rfl⟩)
          go_ret
          exact ⟨ret_bool HB5.out, Hbe.out⟩
      · rw [decide_eq_false q3] at HB HR
        have HB5 := Lib.hid (show false = bb from by rw [HB.out]; simp)
        clear q1 q2 q3 hs hs2
        go_wp2_with ((with_reducible refine (HR.out _).mono ?_); rintro e w' ⟨rfl, rfl⟩)
        go_ret
        exact ⟨ret_bool HB5.out, Hbe.out⟩
    · have d2 : (n2 == n) = false := beq_eq_false_iff_ne.2 q2
      rw [decide_eq_false q2] at HB
      have HB5 := Lib.hid (show false = bb from by rw [HB.out]; simp)
      clear q1 q2 hs hs2
      go_wp2
      go_ret
      exact ⟨ret_bool HB5.out, Hbe.out⟩
  · have d1 : (k2 == k) = false := beq_eq_false_iff_ne.2 q1
    rw [decide_eq_false q1] at HB
    have HB5 := Lib.hid (show false = bb from by rw [HB.out]; simp)
    clear q1 hs hs2
    go_wp2
    go_ret
    exact ⟨ret_bool HB5.out, Hbe.out⟩
end Go.Proofs.YtpjadeihackkpaaGreatDoor

/- The test of one value by Valid. -/
namespace Go.Proofs.YtpjadeihackkpaaGreatDoor
open Go.RowKit Fl

/-- What Valid asks of a value with so many values around it. -/
def testB (v : V) (d : Nat) : Bool := bareB v && (decide (v.kind ≠ 4) || decide (d < 8))

set_option maxRecDepth 100000 in
set_option maxHeartbeats 1600000 in
theorem visit_valid (k n : Int) (f : Nat) (s : List Nat) (a : Option Addr) (l : List V) (cap : Nat) (d : Nat) (w : World) (hf : f < 18446744073709551616) (hs : ∀ c ∈ s, c < 256) :
    Calls Tryz.prog 29 #[.agg (cells5 k n f s a l.length cap), .int .i64 (d : Int)] w fun e w' => e = .returned (.bool (testB (.mk k n f s l) d)) ∧ Below w.heap.size w w' := by
  have HA := Lib.hid (fun w => bare_any k n f s a l cap w hf hs)
  have ht : ∃ b : Bool, testB (.mk k n f s l) d = b ∧ b = (bareB (.mk k n f s l) && (decide (k ≠ 4) || decide (d < 8))) := ⟨_, rfl, rfl⟩
  obtain ⟨bb, hbb, hB⟩ := ht
  rw [hbb]
  have HB := Lib.hid hB
  clear hbb hB hf hs
  generalize bareB (.mk k n f s l) = br at *
  generalize l.length = len at *
  have C0 := Lib.hid (new5 w (.int .i64 k) (.int .i64 n) (.float .f64 f) (.string (str s)) (.slice a len cap) 25)
  have Hb := Lib.hid ((Below.refl w.heap.size w).alloc (Nat.le_refl _) (.cells (cells5 k n f s a len cap) 25))
  have hwz : (w.alloc (.cells #[.int .i64 k, .int .i64 n, .float .f64 f, .string (str s), .slice a len cap] 25)).heap.size = w.heap.size + 1 := by simp
  unfold cells5 at *
  go_enter Tryz.func29, Tryz.ntmps29
  go_wp2_with fail
  generalize w.alloc (.cells #[.int .i64 k, .int .i64 n, .float .f64 f, .string (str s), .slice a len cap] 25) = w0 at *
  refine (HA.out _).mono ?_
  rintro e w1 ⟨rfl, hb1⟩
  have Hbe := Lib.hid (show Below w.heap.size w _ from Hb.out.trans (hb1.mono (by omega)))
  obtain ⟨m0, m1, m2, m3, m4⟩ := keep5 hb1 C0.out
  clear hb1
  cases br
  · have HB5 := Lib.hid (show false = bb from by rw [HB.out]; simp)
    go_wp2
    go_ret
    exact ⟨ret_bool HB5.out, Hbe.out⟩
  · by_cases q : k = 4
    · have d1 : (k != 4) = false := by rw [q]; rfl
      have HB5 := Lib.hid (show decide (d < 8) = bb from by rw [HB.out, q]; simp)
      clear q
      go_wp2
      go_ret
      exact ⟨ret_bool (by rw [← HB5.out, Bool.eq_iff_iff]; simp; omega), Hbe.out⟩
    · have d1 : (k != 4) = true := bne_iff_ne.2 q
      have HB5 := Lib.hid (show true = bb from by rw [HB.out, decide_eq_true q]; simp)
      clear q
      go_wp2
      go_ret
      exact ⟨ret_bool HB5.out, Hbe.out⟩
end Go.Proofs.YtpjadeihackkpaaGreatDoor

/- The walk of the reference's small. -/
namespace Go.Proofs.YtpjadeihackkpaaGreatDoor
open Go.RowKit Fl

def smallN : Nat → V → Bool
  | 0, _ => false
  | t + 1, v => v.l.all (smallN t)

set_option maxRecDepth 100000 in
theorem small_any (t : Nat) (ht : t ≤ 1000) : ∀ (v : V) (x : Array Value) (w : World), VIn w v x →
    Calls Tryz.prog 22 #[.agg x, .int .i64 (t : Int)] w fun e w' => e = .returned (.bool (smallN t v)) ∧ Below w.heap.size w w' := by
  induction t with
  | zero =>
    intro v x w h
    obtain ⟨_, _, _, _, _, a, cap, rfl, _, _, _⟩ := h.parts
    have hb := (Below.refl w.heap.size w).alloc (Nat.le_refl _) (.cells (cells5 v.kind v.n v.f v.s a v.l.length cap) 25)
    have hf : smallN 0 v = false := rfl
    rw [hf]
    unfold cells5 at *
    go_enter Tryz.func22, Tryz.ntmps22
    go_wp2
    go_ret
    exact ⟨rfl, hb⟩
  | succ t ih =>
    intro v x w h
    have IH := Lib.hid (ih (by omega))
    obtain ⟨T, hT⟩ : ∃ T : Int, T = ((t + 1 : Nat) : Int) := ⟨_, rfl⟩
    have hT0 : (T == 0) = false := beq_eq_false_iff_ne.2 (by omega)
    have hT1 : T - 1 = (t : Int) := by omega
    have hT2 : 0 < T ∧ T ≤ 1000 := by omega
    rw [← hT]
    clear hT
    obtain ⟨_, _, _, _, _, a, cap, rfl, hcap, hmax, _⟩ := h.parts
    have hb := (Below.refl w.heap.size w).alloc (Nat.le_refl _) (.cells (cells5 v.kind v.n v.f v.s a v.l.length cap) 25)
    have HV := Lib.hid (h.below hb)
    have hc4 := box_cell w (cells5 v.kind v.n v.f v.s a v.l.length cap) 25 4
    have Hb := Lib.hid hb
    have e4 : (cells5 v.kind v.n v.f v.s a v.l.length cap)[4]? = some (.slice a v.l.length cap) := rfl
    rw [e4] at hc4
    clear hb h e4
    unfold cells5 at *
    go_enter Tryz.func22, Tryz.ntmps22
    go_wp2
    have hsz : (w.alloc (.cells #[.int .i64 v.kind, .int .i64 v.n, .float .f64 v.f, .string (str v.s), .slice a v.l.length cap] 25)).heap.size = w.heap.size + 1 := by simp
    generalize w.alloc (.cells #[.int .i64 v.kind, .int .i64 v.n, .float .f64 v.f, .string (str v.s), .slice a v.l.length cap] 25) = w1 at *
    go_loopw [5] (fun i wr => ∃ j : Nat, j ≤ v.l.length ∧ i = .int .i64 (j : Int) ∧ (∀ k u, k < j → v.l[k]? = some u → smallN t u = true) ∧ Below w1.heap.size w1 wr) (fun i _ => v.l.length - (intOf i).toNat)
    case atStart => exact ⟨0, Nat.zero_le _, rfl, fun k u hk _ => absurd hk (by omega), Below.refl _ _⟩
    case round =>
      obtain ⟨j, hj, rfl, hall, hbr⟩ := hrel
      have hcr : wr.cell? ⟨w.heap.size, 4, none⟩ = some (.slice a v.l.length cap) := by
        rw [hbr.cell (show w.heap.size < w1.heap.size by omega)]
        exact hc4
      have Hall := Lib.hid hall
      have Hbr := Lib.hid hbr
      by_cases hlt : j < v.l.length
      · obtain ⟨b, o, rfl, hvs⟩ := (HV.out.below hbr).list (by intro e; rw [e] at hlt; simp at hlt)
        obtain ⟨a', cap', hvy, c0, c1, c2, c3, c4⟩ := hvs.elem hlt
        obtain ⟨hget, _⟩ := get_mem hlt
        have Hvy := Lib.hid hvy
        have Hget := Lib.hid hget
        clear hall hbr hvs hvy hget
        generalize v.l[j] = u at *
        have HI := Lib.hid (IH.out u _ wr Hvy.out)
        have Hlt := Lib.hid hlt
        clear hlt
        have hji : (j : Int) < (v.l.length : Int) := by have := Hlt.out; omega
        go_wp2_with fail
        refine HI.out.mono ?_
        rintro e w2 ⟨rfl, hb2⟩
        have Hb2 := Lib.hid hb2
        clear hb2 c0 c1 c2 c3 c4 hcr hc4
        cases hres : smallN t u with
        | false =>
          have Hres := Lib.hid hres
          have hbw : Below w.heap.size w w2 := (Hb.out.trans (Hbr.out.mono (by omega))).trans (Hb2.out.mono (by have := Hbr.out.size; omega))
          have hf : smallN (t + 1) v = false := by
            rw [smallN, List.all_eq_false]
            exact ⟨u, List.mem_of_getElem? Hget.out, by rw [Hres.out]; simp⟩
          have Hf := Lib.hid hf
          clear hres hf
          go_wp2
          go_ret
          exact ⟨ret_bool Hf.out.symm, hbw⟩
        | true =>
          have Hres := Lib.hid hres
          have hbw : Below w1.heap.size w1 w2 := Hbr.out.trans (Hb2.out.mono Hbr.out.size)
          clear hres
          go_wp2
          go_roundw
          case rel =>
            refine ⟨j + 1, Hlt.out, by go_num, fun k u' hk hu' => ?_, hbw⟩
            rcases Nat.lt_or_eq_of_le (Nat.le_of_lt_succ hk) with h1 | h1
            · exact Hall.out k u' h1 hu'
            · rw [h1, Hget.out] at hu'
              cases hu'
              exact Hres.out
          case measure => simp [intOf]; have := Hlt.out; omega
      · have hbw : Below w.heap.size w wr := Hb.out.trans (hbr.mono (by omega))
        have hf : smallN (t + 1) v = true := by
          rw [smallN, List.all_eq_true]
          intro u hu
          obtain ⟨k, hk, rfl⟩ := List.getElem_of_mem hu
          exact hall k _ (by omega) (List.getElem?_eq_getElem hk)
        have hji : ¬ ((j : Int) < (v.l.length : Int)) := by omega
        have Hf := Lib.hid hf
        clear hf hall hbr hlt
        go_wp2
        go_ret
        exact ⟨ret_bool Hf.out.symm, hbw⟩
end Go.Proofs.YtpjadeihackkpaaGreatDoor

