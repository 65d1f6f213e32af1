import Derived.Test.YtfapajmbmgpipaaGreatDoorMD7
import Derived.Test.YtfapajmbmgpipaaGreatDoorMD10
import Derived.WalkLawsBesides
import Derived.Test.YtfapajmbmgpipaaGreatDoorMD8
import Derived.Test.YtfapajmbmgpipaaGreatDoorMD5
import Derived.Lib.LaidTab
import Derived.Lib.ItoaNum
/- The walk of the reference's atom. -/
namespace Go.Proofs.YtfapajmbmgpipaaGreatDoor
open Go.RowKit Fl

theorem str_extract (l : List Nat) (i j : Nat) : (str l).extract i j = str ((l.take j).drop i) := by
  apply ByteArray.ext
  unfold str
  rw [ByteArray.data_extract]
  apply Array.ext'
  simp [List.map_take, List.map_drop, List.drop_take]

mutual
/-- A value as a world holds it: numbers and bytes in their bounds. -/
def soundV : V → Prop
  | .mk _ n f s l => (-9223372036854775808 ≤ n ∧ n ≤ 9223372036854775807) ∧ f < 18446744073709551616 ∧ (∀ c ∈ s, c < 256) ∧ soundL l
def soundL : List V → Prop
  | [] => True
  | v :: r => soundV v ∧ soundL r
end

mutual
theorem soundV.words : ∀ v : V, soundV v → wordsV v
  | .mk k n f s l, h => by
    rw [soundV] at h
    rw [wordsV]
    exact ⟨h.2.1, soundL.words l h.2.2.2⟩
theorem soundL.words : ∀ l : List V, soundL l → wordsL l
  | [], _ => by rw [wordsL]; trivial
  | v :: r, h => by
    rw [soundL] at h
    rw [wordsL]
    exact ⟨soundV.words v h.1, soundL.words r h.2⟩
end

mutual
theorem VIn.sound {w : World} : ∀ (v : V) (x : Array Value), VIn w v x → soundV v
  | .mk k n f s l, x, h => by
    rw [VIn] at h
    obtain ⟨_, hn, hf, hs, _, a, cap, _, _, _, h9⟩ := h
    rw [soundV]
    refine ⟨hn, hf, hs, ?_⟩
    rcases h9 with rfl | ⟨b, o, _, hv⟩
    · rw [soundL]; trivial
    · exact VsIn.sound l b o hv
theorem VsIn.sound {w : World} : ∀ (l : List V) (b o : Nat), VsIn w l b o → soundL l
  | [], _, _, _ => by rw [soundL]; trivial
  | v :: r, b, o, h => by
    rw [VsIn] at h
    obtain ⟨⟨x, _, _, hv⟩, hr⟩ := h
    rw [soundL]
    exact ⟨VIn.sound v x hv, VsIn.sound r b (o + 5) hr⟩
end

/-- What the text of a value that is no list looks like. -/
theorem plain_text {t : Nat} {u : V} {l : List Nat} (h : rightN t u = true) (hs : soundV u) (hk : u.kind ≠ 4) (e : textV u = l) :
    l = [110, 105, 108] ∨ (∃ n : Int, -9223372036854775808 ≤ n ∧ n ≤ 9223372036854775807 ∧ decL n = l) ∨ (∃ b, b < 18446744073709551616 ∧ l = 35 :: textL (bitsB b)) ∨ ∃ s : List Nat, (∀ c ∈ s, c < 256) ∧ l = 34 :: (hex2 s ++ [34]) := by
  obtain ⟨k, n, f, s, q⟩ := u
  obtain ⟨_, h0, h4, _⟩ := right_parts h
  change k ≠ 4 at hk
  rw [soundV] at hs
  rw [textV] at e
  by_cases h1 : k = 1
  · rw [if_pos h1] at e
    exact .inr (.inl ⟨n, hs.1.1, hs.1.2, e⟩)
  · rw [if_neg h1] at e
    by_cases h2 : k = 2
    · rw [if_pos h2] at e
      exact .inr (.inr (.inl ⟨f, hs.2.1, e.symm⟩))
    · rw [if_neg h2] at e
      by_cases h3 : k = 3
      · rw [if_pos h3] at e
        exact .inr (.inr (.inr ⟨s, hs.2.2.1, e.symm⟩))
      · rw [if_neg h3, if_neg hk] at e
        exact .inl e.symm

/-- What atom answers. -/
def AtomEnd (w : World) (l : List Nat) (e : Ending) (w' : World) : Prop :=
  ∃ (v : V) (x : Array Value) (ok : Bool), e = .returned (.tuple #[.agg x, .bool ok]) ∧ VInP (fun _ => False) w' v x ∧ Below w.heap.size w w' ∧ (ok = true → textV v = l ∧ ∀ t, rightN t v = true) ∧
    (ok = false → ∀ (t : Nat) (u : V), rightN t u = true → soundV u → u.kind ≠ 4 → textV u ≠ l)

/-- A value without a list, in its five words. -/
theorem vin_plain {w : World} {k n : Int} {f : Nat} {s : List Nat} (hk : 0 ≤ k ∧ k ≤ 4) (hn : -9223372036854775808 ≤ n ∧ n ≤ 9223372036854775807) (hf : f < 18446744073709551616) (hs : ∀ c ∈ s, c < 256) (hss : s.length ≤ 9223372036854775807) :
    VInP (fun _ => False) w (.mk k n f s []) #[.int .i64 k, .int .i64 n, .float .f64 f, .string (str s), .slice none 0 0] := by
  rw [VInP]
  exact ⟨by omega, hn, hf, hs, hss, none, 0, rfl, Nat.le_refl _, by omega, .inl rfl⟩

theorem atom_none {l : List Nat} (h0 : l ≠ [110, 105, 108]) (hN : ∀ n : Int, -9223372036854775808 ≤ n → n ≤ 9223372036854775807 → decL n ≠ l) (h35 : ∀ b, b < 18446744073709551616 → l ≠ 35 :: textL (bitsB b))
    (h34 : ∀ s : List Nat, (∀ c ∈ s, c < 256) → l ≠ 34 :: (hex2 s ++ [34])) : ∀ (t : Nat) (u : V), rightN t u = true → soundV u → u.kind ≠ 4 → textV u ≠ l := by
  intro t u h hs hk e
  rcases plain_text h hs hk e with e | ⟨n, h1, h2, e⟩ | ⟨b, hb, e⟩ | ⟨x, hx, e⟩
  · exact h0 e
  · exact hN n h1 h2 e
  · exact h35 b hb e
  · exact h34 x hx e

theorem ends34 {l x : List Nat} (h : l = 34 :: (x ++ [34])) : 2 ≤ l.length ∧ l.getD 0 0 = 34 ∧ l.getD (l.length - 1) 0 = 34 ∧ (l.take (l.length - 1)).drop 1 = x := by
  subst h
  refine ⟨by simp, rfl, ?_, ?_⟩
  · simp
  · simp

theorem mid34 {l : List Nat} (h2 : 2 ≤ l.length) (h0 : l.getD 0 0 = 34) (h1 : l.getD (l.length - 1) 0 = 34) : l = 34 :: ((l.take (l.length - 1)).drop 1 ++ [34]) := by
  cases l with
  | nil => simp at h2
  | cons c r =>
    have e0 : c = 34 := by simpa using h0
    rcases List.eq_nil_or_concat r with e | ⟨q, d, e⟩
    · rw [e] at h2; simp at h2
    · subst e0
      subst e
      have e1 : d = 34 := by simpa using h1
      subst e1
      simp

set_option maxRecDepth 100000 in
set_option maxHeartbeats 1600000 in
theorem ratom_any (l : List Nat) (w : World) (hl : ∀ x ∈ l, x < 256) (hn : l.length ≤ 1000000) :
    Calls Tryz.prog 62 #[.string (str l)] w (AtomEnd w l) := by
  have hsz := str_size l
  have HL := Lib.hid hl
  have hfl : ∀ (w : World) (a : Addr) (m : Mode) (b : Nat), (store a (.float .f64 b) m).run Tryz.prog w = stored Tryz.prog w a (.float .f64 b) m := fun w a m b => run_store Tryz.prog w a _ m rfl
  have H0 := Lib.hid (heap_alloc_new w (.cells #[.int .i64 0, .int .i64 0, .float .f64 0, .string ⟨#[]⟩, .slice none 0 0] 25))
  have Hb0 := Lib.hid ((Below.refl w.heap.size w).alloc (Nat.le_refl _) (.cells #[.int .i64 0, .int .i64 0, .float .f64 0, .string ⟨#[]⟩, .slice none 0 0] 25))
  by_cases q0 : l = [110, 105, 108]
  · have hq : ((str l).toList == ([110, 105, 108] : List UInt8)) = true := by rw [q0, str_list]; rfl
    have Q0 := Lib.hid q0
    obtain ⟨⟨z0, z1, z2, z3, z4⟩, ⟨y0, y1, y2, y3, y4⟩⟩ := res_cells H0.out
    clear q0 hl
    go_enter Tryz.func62, Tryz.ntmps62
    go_wp2
    refine bodyPost_ret (v := .tuple #[.agg #[.int .i64 0, .int .i64 0, .float .f64 0, .string (str []), .slice none 0 0], .bool true]) (by simp [results, Tryz.results62, go_sem, *]; rfl) rfl ?_
    refine ⟨.mk 0 0 0 [] [], _, true, rfl, vin_plain (by omega) (by omega) (by omega) (by simp) (by simp), Hb0.out, fun _ => ⟨Q0.out.symm, fun t => rightN_plain ?_ ?_ ?_⟩, fun h => by cases h⟩
    · exact ⟨.inr rfl, .inr (show bitsB 0 = 0 by decide), .inr rfl, .inr rfl⟩
    · show (0 : Int) ≠ 4; omega
    · show (0 : Int) ≤ 0 ∧ (0 : Int) ≤ 4; omega
  · have hq : ((str l).toList == ([110, 105, 108] : List UInt8)) = false := by
      have h := str_ne (b := [110, 105, 108]) hl (by decide) q0
      rw [str_list [110, 105, 108]] at h
      exact h
    have HN := Lib.hid (fun w => vnumber_any l w hl hn)
    have Q0 := Lib.hid q0
    clear q0 hl
    have hwz : (w.alloc (.cells #[.int .i64 0, .int .i64 0, .float .f64 0, .string ⟨#[]⟩, .slice none 0 0] 25)).heap.size = w.heap.size + 1 := by simp
    go_enter Tryz.func62, Tryz.ntmps62
    go_wp2_with fail
    generalize w.alloc (.cells #[.int .i64 0, .int .i64 0, .float .f64 0, .string ⟨#[]⟩, .slice none 0 0] 25) = w1 at *
    refine (HN.out _).mono ?_
    rintro e w2 ⟨m, hm, rfl, hno, hb⟩
    have Hb2 := Lib.hid (Hb0.out.trans (hb.mono (by omega)))
    have H2 := Lib.hid ((hb.block w.heap.size (by omega)).trans H0.out)
    have Hm := Lib.hid hm
    by_cases q1 : decL m = l
    · have Q1 := Lib.hid q1
      obtain ⟨⟨z0, z1, z2, z3, z4⟩, ⟨y0, y1, y2, y3, y4⟩⟩ := res_cells H2.out
      have hd : decide (decL m = l) = true := decide_eq_true q1
      clear q1 hno hb hm hwz
      go_wp2
      refine bodyPost_ret (v := .tuple #[.agg #[.int .i64 1, .int .i64 m, .float .f64 0, .string (str []), .slice none 0 0], .bool true]) (by simp [results, Tryz.results62, go_sem, *]; rfl) rfl ?_
      refine ⟨.mk 1 m 0 [] [], _, true, rfl, vin_plain (by omega) Hm.out (by omega) (by simp) (by simp), set5 Hb2.out _ _ _ _ _, fun _ => ⟨by rw [textV, if_pos rfl]; exact Q1.out, fun t => rightN_plain ?_ ?_ ?_⟩, fun h => by cases h⟩
      · exact ⟨.inl rfl, .inr (show bitsB 0 = 0 by decide), .inr rfl, .inr rfl⟩
      · show (1 : Int) ≠ 4; omega
      · show (0 : Int) ≤ 1 ∧ (1 : Int) ≤ 4; omega
    · have Hno := Lib.hid (hno q1)
      have hd : decide (decL m = l) = false := decide_eq_false q1
      clear q1 hno hb hm hwz
      have hg := get_str HL.out
      by_cases p0 : 0 < l.length
      · have hg0 := hg 0 (by omega)
        have hl0 : (0 : Int) < (l.length : Int) := by omega
        by_cases p1 : l.getD 0 0 = 35
        · rw [p1] at hg0
          have hx := str_extract l 1 l.length
          rw [List.take_of_length_le (Nat.le_refl _)] at hx
          have HP := Lib.hid (fun w => rparse_any (l.drop 1) w (fun c hc => HL.out c (List.mem_of_mem_drop hc)) (by rw [List.length_drop]; omega))
          have Hl := Lib.hid (show l = 35 :: l.drop 1 from by
            cases l with
            | nil => simp at p0
            | cons c r => have e0 : c = 35 := by simpa using p1
                          rw [e0]; rfl)
          clear hg p1
          generalize str (l.drop 1) = s1 at *
          go_wp2_with fail
          refine (HP.out _).mono ?_
          rintro e w3 ⟨hb3, ⟨b, hbl, hbt, rfl⟩ | ⟨hno3, rfl⟩⟩
          · have Hb3 := Lib.hid (Hb2.out.trans (hb3.mono Hb2.out.size))
            have hz2 : w.heap.size < w2.heap.size := (Array.getElem?_eq_some_iff.1 H2.out).1
            have H3 := (hb3.block w.heap.size hz2).trans H2.out
            obtain ⟨⟨z0, z1, z2, z3, z4⟩, ⟨y0, y1, y2, y3, y4⟩⟩ := res_cells H3
            have Hbt := Lib.hid hbt
            have Hbl := Lib.hid hbl
            clear hb3 hbl hbt hz2 H3
            go_wp2
            refine bodyPost_ret (v := .tuple #[.agg #[.int .i64 2, .int .i64 0, .float .f64 b, .string (str []), .slice none 0 0], .bool true]) (by simp [results, Tryz.results62, go_sem, *]; rfl) rfl ?_
            refine ⟨.mk 2 0 b [] [], _, true, rfl, vin_plain (by omega) (by omega) Hbl.out (by simp) (by simp), set5 Hb3.out _ _ _ _ _, fun _ => ⟨by rw [textV, if_neg (by omega), if_pos rfl, Hbt.out]; exact Hl.out.symm, fun t => rightN_plain ?_ ?_ ?_⟩, fun h => by cases h⟩
            · exact ⟨.inr rfl, .inl rfl, .inr rfl, .inr rfl⟩
            · show (2 : Int) ≠ 4; omega
            · show (0 : Int) ≤ 2 ∧ (2 : Int) ≤ 4; omega
          · have Hb3 := Lib.hid (Hb2.out.trans (hb3.mono Hb2.out.size))
            have hz2 : w.heap.size < w2.heap.size := (Array.getElem?_eq_some_iff.1 H2.out).1
            have H3 := (hb3.block w.heap.size hz2).trans H2.out
            obtain ⟨⟨z0, z1, z2, z3, z4⟩, ⟨y0, y1, y2, y3, y4⟩⟩ := res_cells H3
            have Hno3 := Lib.hid hno3
            clear hb3 hno3 hz2 H3
            go_wp2
            refine bodyPost_ret (v := .tuple #[.agg #[.int .i64 2, .int .i64 0, .float .f64 0, .string (str []), .slice none 0 0], .bool false]) (by simp [results, Tryz.results62, go_sem, *]; rfl) rfl ?_
            refine ⟨.mk 2 0 0 [] [], _, false, rfl, vin_plain (by omega) (by omega) (by omega) (by simp) (by simp), set5 Hb3.out _ _ _ _ _, fun h => (by cases h), fun _ => atom_none Q0.out Hno.out (fun b hb e => ?_) (fun x _ e => ?_)⟩
            · rw [Hl.out] at e
              exact Hno3.out b hb (List.cons.inj e).2.symm
            · rw [Hl.out] at e
              have := (List.cons.inj e).1
              omega
        · have H35 := Lib.hid (show ∀ b, b < 18446744073709551616 → l ≠ 35 :: textL (bitsB b) from fun b _ e => p1 (by rw [e]; rfl))
          have hne35 : ((l.getD 0 0 : Nat) : Int) ≠ 35 := by omega
          have hbq35 : ((((l.getD 0 0 : Nat) : Int)) == 35) = false := beq_eq_false_iff_ne.2 hne35
          obtain ⟨⟨z0, z1, z2, z3, z4⟩, ⟨y0, y1, y2, y3, y4⟩⟩ := res_cells H2.out
          by_cases p2 : 2 ≤ l.length
          · have hg1 := hg (l.length - 1) (by omega)
            have hl2 : (2 : Int) ≤ (l.length : Int) := by omega
            by_cases p3 : l.getD 0 0 = 34
            · by_cases p4 : l.getD (l.length - 1) 0 = 34
              · have Hl := Lib.hid (mid34 p2 p3 p4)
                have hx := str_extract l 1 (l.length - 1)
                have HU := Lib.hid (fun w => runhex_any ((l.take (l.length - 1)).drop 1) w (fun c hc => HL.out c (List.mem_of_mem_take (List.mem_of_mem_drop hc))) (by rw [List.length_drop, List.length_take]; omega))
                rw [p3] at hg0
                rw [p4] at hg1
                clear hg p1 p3 p4 hne35 hbq35 z0 z1 z2 z3 z4 y0 y1 y2 y3 y4
                generalize (l.take (l.length - 1)).drop 1 = mid at *
                generalize str mid = s1 at *
                go_wp2_with fail
                refine (HU.out _).mono ?_
                rintro e w3 ⟨b, hb, hbl, rfl, hno3, hb3⟩
                have Hb3 := Lib.hid (Hb2.out.trans (hb3.mono Hb2.out.size))
                have hz2 : w.heap.size < w2.heap.size := (Array.getElem?_eq_some_iff.1 H2.out).1
                have H3 := (hb3.block w.heap.size hz2).trans H2.out
                obtain ⟨⟨z0, z1, z2, z3, z4⟩, ⟨y0, y1, y2, y3, y4⟩⟩ := res_cells H3
                have Hno3 := Lib.hid hno3
                have Hbb := Lib.hid hb
                have Hlb := Lib.hid (show b.length ≤ 9223372036854775807 from by have := congrArg List.length Hl.out; rw [List.length_cons, List.length_append] at this; omega)
                clear hb3 hno3 hz2 H3 hb hbl
                have Hok := Lib.hid (show (decide (hex2 b = mid) = true → textV (.mk 3 0 0 b []) = l) ∧ (decide (hex2 b = mid) = false → ∀ (t : Nat) (u : V), rightN t u = true → soundV u → u.kind ≠ 4 → textV u ≠ l) from by
                  refine ⟨fun h => ?_, fun h => atom_none Q0.out Hno.out H35.out (fun x hx e => ?_)⟩
                  · rw [textV, if_neg (by omega), if_neg (by omega), if_pos rfl, of_decide_eq_true h]
                    exact Hl.out.symm
                  · rw [Hl.out] at e
                    exact Hno3.out (of_decide_eq_false h) x hx (List.append_cancel_right (List.cons.inj e).2).symm)
                generalize decide (hex2 b = mid) = ok at *
                generalize hsb : str b = sb at *
                have Hsb := Lib.hid hsb
                clear hsb
                go_wp2
                refine bodyPost_ret (v := .tuple #[.agg #[.int .i64 3, .int .i64 0, .float .f64 0, .string sb, .slice none 0 0], .bool ok]) (by simp [results, Tryz.results62, go_sem, *]) rfl ?_
                rw [← Hsb.out]
                refine ⟨.mk 3 0 0 b [], _, ok, rfl, vin_plain (by omega) (by omega) (by omega) Hbb.out Hlb.out, set5 Hb3.out _ _ _ _ _, fun h => ⟨Hok.out.1 h, fun t => rightN_plain ?_ ?_ ?_⟩, Hok.out.2⟩
                · exact ⟨.inr rfl, .inr (show bitsB 0 = 0 by decide), .inl rfl, .inr rfl⟩
                · show (3 : Int) ≠ 4; omega
                · show (0 : Int) ≤ 3 ∧ (3 : Int) ≤ 4; omega
              · have H34 := Lib.hid (show ∀ s : List Nat, (∀ c ∈ s, c < 256) → l ≠ 34 :: (hex2 s ++ [34]) from fun s _ e => p4 (ends34 e).2.2.1)
                have hne34 : ((l.getD (l.length - 1) 0 : Nat) : Int) ≠ 34 := by omega
                have hbq34 : ((((l.getD (l.length - 1) 0 : Nat) : Int)) == 34) = false := beq_eq_false_iff_ne.2 hne34
                rw [p3] at hg0
                clear hg p1 p3 p4 hne35 hbq35
                generalize l.getD (l.length - 1) 0 = c1 at *
                go_wp2
                refine bodyPost_ret (v := .tuple #[.agg #[.int .i64 0, .int .i64 0, .float .f64 0, .string (str []), .slice none 0 0], .bool false]) (by simp [results, Tryz.results62, go_sem, *]; rfl) rfl ?_
                exact ⟨.mk 0 0 0 [] [], _, false, rfl, vin_plain (by omega) (by omega) (by omega) (by simp) (by simp), set5 Hb2.out _ _ _ _ _, fun h => (by cases h), fun _ => atom_none Q0.out Hno.out H35.out H34.out⟩
            · have H34 := Lib.hid (show ∀ s : List Nat, (∀ c ∈ s, c < 256) → l ≠ 34 :: (hex2 s ++ [34]) from fun s _ e => p3 (ends34 e).2.1)
              have hne34 : ((l.getD 0 0 : Nat) : Int) ≠ 34 := by omega
              have hbq34 : ((((l.getD 0 0 : Nat) : Int)) == 34) = false := beq_eq_false_iff_ne.2 hne34
              clear hg hg1 p1 p3
              generalize l.getD 0 0 = c0 at *
              go_wp2
              refine bodyPost_ret (v := .tuple #[.agg #[.int .i64 0, .int .i64 0, .float .f64 0, .string (str []), .slice none 0 0], .bool false]) (by simp [results, Tryz.results62, go_sem, *]; rfl) rfl ?_
              exact ⟨.mk 0 0 0 [] [], _, false, rfl, vin_plain (by omega) (by omega) (by omega) (by simp) (by simp), set5 Hb2.out _ _ _ _ _, fun h => (by cases h), fun _ => atom_none Q0.out Hno.out H35.out H34.out⟩
          · have H34 := Lib.hid (show ∀ s : List Nat, (∀ c ∈ s, c < 256) → l ≠ 34 :: (hex2 s ++ [34]) from fun s _ e => p2 (ends34 e).1)
            have hl2 : ¬ (2 : Int) ≤ (l.length : Int) := by omega
            clear hg p1
            generalize l.getD 0 0 = c0 at *
            go_wp2
            refine bodyPost_ret (v := .tuple #[.agg #[.int .i64 0, .int .i64 0, .float .f64 0, .string (str []), .slice none 0 0], .bool false]) (by simp [results, Tryz.results62, go_sem, *]; rfl) rfl ?_
            exact ⟨.mk 0 0 0 [] [], _, false, rfl, vin_plain (by omega) (by omega) (by omega) (by simp) (by simp), set5 Hb2.out _ _ _ _ _, fun h => (by cases h), fun _ => atom_none Q0.out Hno.out H35.out H34.out⟩
      · have H35 := Lib.hid (show ∀ b, b < 18446744073709551616 → l ≠ 35 :: textL (bitsB b) from fun b _ e => p0 (by rw [e]; simp))
        have H34 := Lib.hid (show ∀ s : List Nat, (∀ c ∈ s, c < 256) → l ≠ 34 :: (hex2 s ++ [34]) from fun s _ e => p0 (by rw [e]; simp))
        obtain ⟨⟨z0, z1, z2, z3, z4⟩, ⟨y0, y1, y2, y3, y4⟩⟩ := res_cells H2.out
        have hl0 : ¬ (0 : Int) < (l.length : Int) := by omega
        have hl2 : ¬ (2 : Int) ≤ (l.length : Int) := by omega
        clear hg
        go_wp2
        refine bodyPost_ret (v := .tuple #[.agg #[.int .i64 0, .int .i64 0, .float .f64 0, .string (str []), .slice none 0 0], .bool false]) (by simp [results, Tryz.results62, go_sem, *]; rfl) rfl ?_
        exact ⟨.mk 0 0 0 [] [], _, false, rfl, vin_plain (by omega) (by omega) (by omega) (by simp) (by simp), set5 Hb2.out _ _ _ _ _, fun h => (by cases h), fun _ => atom_none Q0.out Hno.out H35.out H34.out⟩
end Go.Proofs.YtfapajmbmgpipaaGreatDoor

/- What a value has in the field of its kind: contentOf and whole. -/
namespace Go.Proofs.YtfapajmbmgpipaaGreatDoor
open Go.RowKit Fl

/-- The content of a value with these fields. -/
def conOf (k n : Int) (f : Nat) (s : List Nat) (a : Option Addr) (len cap : Nat) : Value :=
  if k = 0 then .iface 70 (.agg #[]) else if k = 1 then .iface 71 (.int .i64 n) else if k = 2 then .iface 72 (.float .f64 f)
  else if k = 3 then .iface 73 (.string (str s)) else if k = 4 then .iface 74 (.slice a len cap) else .nilIface

theorem contentOf_any (k n : Int) (f : Nat) (s : List Nat) (a : Option Addr) (len cap : Nat) (w : World) :
    Calls Tryz.prog 28 #[.agg (cells5 k n f s a len cap)] w fun e w' => e = .returned (conOf k n f s a len cap) ∧ Below w.heap.size w w' := by
  have hb := (Below.refl w.heap.size w).alloc (Nat.le_refl _) (.cells (cells5 k n f s a len cap) 25)
  unfold cells5 at *
  by_cases h0 : k = 0
  · subst h0
    go_enter Tryz.func28, Tryz.ntmps28
    go_wp2
    go_ret
    exact ⟨rfl, hb⟩
  by_cases h1 : k = 1
  · subst h1
    clear h0
    go_enter Tryz.func28, Tryz.ntmps28
    go_wp2
    go_ret
    exact ⟨rfl, hb⟩
  by_cases h2 : k = 2
  · subst h2
    clear h0 h1
    go_enter Tryz.func28, Tryz.ntmps28
    go_wp2
    go_ret
    exact ⟨rfl, hb⟩
  by_cases h3 : k = 3
  · subst h3
    clear h0 h1 h2
    go_enter Tryz.func28, Tryz.ntmps28
    go_wp2
    go_ret
    exact ⟨rfl, hb⟩
  by_cases h4 : k = 4
  · subst h4
    clear h0 h1 h2 h3
    go_enter Tryz.func28, Tryz.ntmps28
    go_wp2
    go_ret
    exact ⟨rfl, hb⟩
  have Hf := Lib.hid (show conOf k n f s a len cap = .nilIface from by unfold conOf; rw [if_neg h0, if_neg h1, if_neg h2, if_neg h3, if_neg h4])
  have d0 : (k == 0) = false := beq_eq_false_iff_ne.2 h0
  have d1 : (k == 1) = false := beq_eq_false_iff_ne.2 h1
  have d2 : (k == 2) = false := beq_eq_false_iff_ne.2 h2
  have d3 : (k == 3) = false := beq_eq_false_iff_ne.2 h3
  have d4 : (k == 4) = false := beq_eq_false_iff_ne.2 h4
  clear h0 h1 h2 h3 h4
  go_enter Tryz.func28, Tryz.ntmps28
  go_wp2
  go_ret
  exact ⟨by rw [Hf.out]; rfl, hb⟩

theorem as_none_int (w : World) : (Instr.typeAssert .nilIface 48 71 true).run Tryz.prog w = .ok (.tuple #[.int .i64 0, .bool false]) w := by kernel_rfl
theorem as_none_float (w : World) : (Instr.typeAssert .nilIface 48 72 true).run Tryz.prog w = .ok (.tuple #[.float .f64 0, .bool false]) w := by kernel_rfl
theorem as_none_text (w : World) : (Instr.typeAssert .nilIface 48 73 true).run Tryz.prog w = .ok (.tuple #[.string ByteArray.empty, .bool false]) w := by kernel_rfl
theorem as_none_list (w : World) : (Instr.typeAssert .nilIface 48 74 true).run Tryz.prog w = .ok (.tuple #[.slice none 0 0, .bool false]) w := by kernel_rfl

set_option maxRecDepth 100000 in
theorem whole_none  (w : World) :
    Calls Tryz.prog 36 #[.nilIface] w fun e w' => e = .returned (.agg (cells5 0 0 0 [] none 0 0)) ∧ Below w.heap.size w w' := by
  have a_int := as_none_int
  have a_float := as_none_float
  have a_text := as_none_text
  have a_list := as_none_list
  have hfl : ∀ (w : World) (a : Addr) (m : Mode) (b : Nat), (store a (.float .f64 b) m).run Tryz.prog w = stored Tryz.prog w a (.float .f64 b) m := fun w a m b => run_store Tryz.prog w a _ m rfl
  go_enter Tryz.func36, Tryz.ntmps36
  go_wp2
  obtain ⟨z0, z1, z2, z3, z4⟩ := new5 w (.int .i64 0) (.int .i64 0) (.float .f64 0) (.string ⟨#[]⟩) (.slice none 0 0) 25
  refine bodyPost_ret (v := .agg #[.int .i64 0, .int .i64 0, .float .f64 0, .string (str []), .slice none 0 0]) (by simp [results, Tryz.results36, go_sem, *]; try rfl) rfl ⟨rfl, (Below.refl _ _).alloc (Nat.le_refl _) _⟩

theorem as_nil_int (v : Value) (w : World) : (Instr.typeAssert (.iface 70 v) 48 71 true).run Tryz.prog w = .ok (.tuple #[.int .i64 0, .bool false]) w := by kernel_rfl
theorem as_nil_float (v : Value) (w : World) : (Instr.typeAssert (.iface 70 v) 48 72 true).run Tryz.prog w = .ok (.tuple #[.float .f64 0, .bool false]) w := by kernel_rfl
theorem as_nil_text (v : Value) (w : World) : (Instr.typeAssert (.iface 70 v) 48 73 true).run Tryz.prog w = .ok (.tuple #[.string ByteArray.empty, .bool false]) w := by kernel_rfl
theorem as_nil_list (v : Value) (w : World) : (Instr.typeAssert (.iface 70 v) 48 74 true).run Tryz.prog w = .ok (.tuple #[.slice none 0 0, .bool false]) w := by kernel_rfl

set_option maxRecDepth 100000 in
theorem whole_nil  (w : World) :
    Calls Tryz.prog 36 #[.iface 70 (.agg #[])] w fun e w' => e = .returned (.agg (cells5 0 0 0 [] none 0 0)) ∧ Below w.heap.size w w' := by
  have a_int := as_nil_int (.agg #[])
  have a_float := as_nil_float (.agg #[])
  have a_text := as_nil_text (.agg #[])
  have a_list := as_nil_list (.agg #[])
  have hfl : ∀ (w : World) (a : Addr) (m : Mode) (b : Nat), (store a (.float .f64 b) m).run Tryz.prog w = stored Tryz.prog w a (.float .f64 b) m := fun w a m b => run_store Tryz.prog w a _ m rfl
  go_enter Tryz.func36, Tryz.ntmps36
  go_wp2
  obtain ⟨z0, z1, z2, z3, z4⟩ := new5 w (.int .i64 0) (.int .i64 0) (.float .f64 0) (.string ⟨#[]⟩) (.slice none 0 0) 25
  refine bodyPost_ret (v := .agg #[.int .i64 0, .int .i64 0, .float .f64 0, .string (str []), .slice none 0 0]) (by simp [results, Tryz.results36, go_sem, *]; try rfl) rfl ⟨rfl, (Below.refl _ _).alloc (Nat.le_refl _) _⟩

theorem as_int_int (v : Value) (w : World) : (Instr.typeAssert (.iface 71 v) 48 71 true).run Tryz.prog w = .ok (.tuple #[v, .bool true]) w := by kernel_rfl
theorem as_int_float (v : Value) (w : World) : (Instr.typeAssert (.iface 71 v) 48 72 true).run Tryz.prog w = .ok (.tuple #[.float .f64 0, .bool false]) w := by kernel_rfl
theorem as_int_text (v : Value) (w : World) : (Instr.typeAssert (.iface 71 v) 48 73 true).run Tryz.prog w = .ok (.tuple #[.string ByteArray.empty, .bool false]) w := by kernel_rfl
theorem as_int_list (v : Value) (w : World) : (Instr.typeAssert (.iface 71 v) 48 74 true).run Tryz.prog w = .ok (.tuple #[.slice none 0 0, .bool false]) w := by kernel_rfl

set_option maxRecDepth 100000 in
theorem whole_int (n : Int) (w : World) :
    Calls Tryz.prog 36 #[.iface 71 (.int .i64 n)] w fun e w' => e = .returned (.agg (cells5 1 n 0 [] none 0 0)) ∧ Below w.heap.size w w' := by
  have a_int := as_int_int (.int .i64 n)
  have a_float := as_int_float (.int .i64 n)
  have a_text := as_int_text (.int .i64 n)
  have a_list := as_int_list (.int .i64 n)
  have hfl : ∀ (w : World) (a : Addr) (m : Mode) (b : Nat), (store a (.float .f64 b) m).run Tryz.prog w = stored Tryz.prog w a (.float .f64 b) m := fun w a m b => run_store Tryz.prog w a _ m rfl
  go_enter Tryz.func36, Tryz.ntmps36
  go_wp2
  obtain ⟨z0, z1, z2, z3, z4⟩ := new5 w (.int .i64 1) (.int .i64 n) (.float .f64 0) (.string ⟨#[]⟩) (.slice none 0 0) 25
  refine bodyPost_ret (v := .agg #[.int .i64 1, .int .i64 n, .float .f64 0, .string (str []), .slice none 0 0]) (by simp [results, Tryz.results36, go_sem, *]; try rfl) rfl ⟨rfl, (Below.refl _ _).alloc (Nat.le_refl _) _⟩

theorem as_float_int (v : Value) (w : World) : (Instr.typeAssert (.iface 72 v) 48 71 true).run Tryz.prog w = .ok (.tuple #[.int .i64 0, .bool false]) w := by kernel_rfl
theorem as_float_float (v : Value) (w : World) : (Instr.typeAssert (.iface 72 v) 48 72 true).run Tryz.prog w = .ok (.tuple #[v, .bool true]) w := by kernel_rfl
theorem as_float_text (v : Value) (w : World) : (Instr.typeAssert (.iface 72 v) 48 73 true).run Tryz.prog w = .ok (.tuple #[.string ByteArray.empty, .bool false]) w := by kernel_rfl
theorem as_float_list (v : Value) (w : World) : (Instr.typeAssert (.iface 72 v) 48 74 true).run Tryz.prog w = .ok (.tuple #[.slice none 0 0, .bool false]) w := by kernel_rfl

set_option maxRecDepth 100000 in
theorem whole_float (f : Nat) (w : World) :
    Calls Tryz.prog 36 #[.iface 72 (.float .f64 f)] w fun e w' => e = .returned (.agg (cells5 2 0 f [] none 0 0)) ∧ Below w.heap.size w w' := by
  have a_int := as_float_int (.float .f64 f)
  have a_float := as_float_float (.float .f64 f)
  have a_text := as_float_text (.float .f64 f)
  have a_list := as_float_list (.float .f64 f)
  have hfl : ∀ (w : World) (a : Addr) (m : Mode) (b : Nat), (store a (.float .f64 b) m).run Tryz.prog w = stored Tryz.prog w a (.float .f64 b) m := fun w a m b => run_store Tryz.prog w a _ m rfl
  go_enter Tryz.func36, Tryz.ntmps36
  go_wp2
  obtain ⟨z0, z1, z2, z3, z4⟩ := new5 w (.int .i64 2) (.int .i64 0) (.float .f64 f) (.string ⟨#[]⟩) (.slice none 0 0) 25
  refine bodyPost_ret (v := .agg #[.int .i64 2, .int .i64 0, .float .f64 f, .string (str []), .slice none 0 0]) (by simp [results, Tryz.results36, go_sem, *]; try rfl) rfl ⟨rfl, (Below.refl _ _).alloc (Nat.le_refl _) _⟩

theorem as_text_int (v : Value) (w : World) : (Instr.typeAssert (.iface 73 v) 48 71 true).run Tryz.prog w = .ok (.tuple #[.int .i64 0, .bool false]) w := by kernel_rfl
theorem as_text_float (v : Value) (w : World) : (Instr.typeAssert (.iface 73 v) 48 72 true).run Tryz.prog w = .ok (.tuple #[.float .f64 0, .bool false]) w := by kernel_rfl
theorem as_text_text (v : Value) (w : World) : (Instr.typeAssert (.iface 73 v) 48 73 true).run Tryz.prog w = .ok (.tuple #[v, .bool true]) w := by kernel_rfl
theorem as_text_list (v : Value) (w : World) : (Instr.typeAssert (.iface 73 v) 48 74 true).run Tryz.prog w = .ok (.tuple #[.slice none 0 0, .bool false]) w := by kernel_rfl

set_option maxRecDepth 100000 in
theorem whole_text (s : List Nat) (w : World) :
    Calls Tryz.prog 36 #[.iface 73 (.string (str s))] w fun e w' => e = .returned (.agg (cells5 3 0 0 s none 0 0)) ∧ Below w.heap.size w w' := by
  have a_int := as_text_int (.string (str s))
  have a_float := as_text_float (.string (str s))
  have a_text := as_text_text (.string (str s))
  have a_list := as_text_list (.string (str s))
  have hfl : ∀ (w : World) (a : Addr) (m : Mode) (b : Nat), (store a (.float .f64 b) m).run Tryz.prog w = stored Tryz.prog w a (.float .f64 b) m := fun w a m b => run_store Tryz.prog w a _ m rfl
  go_enter Tryz.func36, Tryz.ntmps36
  go_wp2
  obtain ⟨z0, z1, z2, z3, z4⟩ := new5 w (.int .i64 3) (.int .i64 0) (.float .f64 0) (.string (str s)) (.slice none 0 0) 25
  refine bodyPost_ret (v := .agg #[.int .i64 3, .int .i64 0, .float .f64 0, .string (str s), .slice none 0 0]) (by simp [results, Tryz.results36, go_sem, *]; try rfl) rfl ⟨rfl, (Below.refl _ _).alloc (Nat.le_refl _) _⟩

theorem as_list_int (v : Value) (w : World) : (Instr.typeAssert (.iface 74 v) 48 71 true).run Tryz.prog w = .ok (.tuple #[.int .i64 0, .bool false]) w := by kernel_rfl
theorem as_list_float (v : Value) (w : World) : (Instr.typeAssert (.iface 74 v) 48 72 true).run Tryz.prog w = .ok (.tuple #[.float .f64 0, .bool false]) w := by kernel_rfl
theorem as_list_text (v : Value) (w : World) : (Instr.typeAssert (.iface 74 v) 48 73 true).run Tryz.prog w = .ok (.tuple #[.string ByteArray.empty, .bool false]) w := by kernel_rfl
theorem as_list_list (v : Value) (w : World) : (Instr.typeAssert (.iface 74 v) 48 74 true).run Tryz.prog w = .ok (.tuple #[v, .bool true]) w := by kernel_rfl

set_option maxRecDepth 100000 in
theorem whole_list (a : Option Addr) (len cap : Nat) (w : World) :
    Calls Tryz.prog 36 #[.iface 74 (.slice a len cap)] w fun e w' => e = .returned (.agg (cells5 4 0 0 [] a len cap)) ∧ Below w.heap.size w w' := by
  have a_int := as_list_int (.slice a len cap)
  have a_float := as_list_float (.slice a len cap)
  have a_text := as_list_text (.slice a len cap)
  have a_list := as_list_list (.slice a len cap)
  have hfl : ∀ (w : World) (a : Addr) (m : Mode) (b : Nat), (store a (.float .f64 b) m).run Tryz.prog w = stored Tryz.prog w a (.float .f64 b) m := fun w a m b => run_store Tryz.prog w a _ m rfl
  go_enter Tryz.func36, Tryz.ntmps36
  go_wp2
  obtain ⟨z0, z1, z2, z3, z4⟩ := new5 w (.int .i64 4) (.int .i64 0) (.float .f64 0) (.string ⟨#[]⟩) (.slice a len cap) 25
  refine bodyPost_ret (v := .agg #[.int .i64 4, .int .i64 0, .float .f64 0, .string (str []), .slice a len cap]) (by simp [results, Tryz.results36, go_sem, *]; try rfl) rfl ⟨rfl, (Below.refl _ _).alloc (Nat.le_refl _) _⟩

/-- The value with a content and nothing else. -/
def wholeOf (k n : Int) (f : Nat) (s : List Nat) (a : Option Addr) (len cap : Nat) : Array Value :=
  if k = 1 then cells5 1 n 0 [] none 0 0 else if k = 2 then cells5 2 0 f [] none 0 0 else if k = 3 then cells5 3 0 0 s none 0 0 else if k = 4 then cells5 4 0 0 [] a len cap else cells5 0 0 0 [] none 0 0

theorem whole_any (k n : Int) (f : Nat) (s : List Nat) (a : Option Addr) (len cap : Nat) (w : World) :
    Calls Tryz.prog 36 #[conOf k n f s a len cap] w fun e w' => e = .returned (.agg (wholeOf k n f s a len cap)) ∧ Below w.heap.size w w' := by
  unfold conOf wholeOf
  by_cases h0 : k = 0
  · subst h0
    exact whole_nil w
  rw [if_neg h0]
  by_cases h1 : k = 1
  · rw [if_pos h1, if_pos h1]
    exact whole_int n w
  rw [if_neg h1, if_neg h1]
  by_cases h2 : k = 2
  · rw [if_pos h2, if_pos h2]
    exact whole_float f w
  rw [if_neg h2, if_neg h2]
  by_cases h3 : k = 3
  · rw [if_pos h3, if_pos h3]
    exact whole_text s w
  rw [if_neg h3, if_neg h3]
  by_cases h4 : k = 4
  · rw [if_pos h4, if_pos h4]
    exact whole_list a len cap w
  rw [if_neg h4, if_neg h4]
  exact whole_none w
end Go.Proofs.YtfapajmbmgpipaaGreatDoor

/- The texts of contents that are no lists. -/
namespace Go.Proofs.YtfapajmbmgpipaaGreatDoor
open Go.RowKit Go.Shelf Fl

/-- The table of powers of ten that strconv keeps. -/
def Pow10 (w : World) : Prop := Lib.TabIs Tryz.prog w "internal/strconv.uint64pow10" .u64 Lib.pow10Tab

theorem below_growN (B : Nat) (w : World) (hB : B ≤ w.heap.size) (k : Nat) (os : Array Obj) : Below B w (Sort.grow (w.drewN k) os) :=
  ⟨rfl, rfl, rfl, by show w.heap.size ≤ (w.heap ++ os).size; rw [Array.size_append]; omega, fun j hj => by
    show (w.heap ++ os)[j]? = w.heap[j]?
    rw [Array.getElem?_append_left (by omega)]⟩

theorem dec_digits : ∀ (n : Nat), Lib.decDigits n = (decD n).map UInt8.ofNat := by
  intro n
  induction n using Nat.strongRecOn with
  | _ n ih =>
    by_cases h : n < 10
    · rw [Lib.decDigits, dif_pos h, decD_low h]; rfl
    · rw [Lib.decDigits, dif_neg h, decD_high h, List.map_append, ih (n / 10) (by omega)]; rfl

theorem itoa_str (n : Int) : (⟨(Lib.itoa n).toArray⟩ : ByteArray) = str (decL n) := by
  unfold str
  congr 2
  unfold Lib.itoa decL
  split
  · rw [dec_digits]; rfl
  · rw [dec_digits, show n.toNat = n.natAbs by omega]

theorem nilText_any (w : World) : Calls Tryz.prog 161 #[.agg #[]] w fun e w' => e = .returned (.string (str [110, 105, 108])) ∧ Below w.heap.size w w' := by
  go_enter Tryz.func161, Tryz.ntmps161
  go_wp2
  go_ret
  exact ⟨rfl, (Below.refl _ _).alloc (Nat.le_refl _) _⟩

theorem intText_any (n : Int) (w : World) (h0 : -9223372036854775808 ≤ n) (h1 : n ≤ 9223372036854775807) (ht : Pow10 w) :
    Calls Tryz.prog 163 #[.int .i64 n] w fun e w' => e = .returned (.string (str (decL n))) ∧ Below w.heap.size w w' := by
  have H := Lib.hid (Tryz.strconv_FormatInt_10 n h0 h1 w ht)
  rw [itoa_str] at H
  clear h0 h1 ht
  go_enter Tryz.func163, Tryz.ntmps163
  go_wp2_with fail
  refine H.out.mono ?_
  rintro e w' ⟨rfl, k, os, rfl⟩
  go_wp2
  go_ret
  exact ⟨rfl, below_growN _ _ (Nat.le_refl _) _ _⟩

theorem tl_len (b : Nat) : (textL b).length ≤ 17 := by
  unfold textL
  split
  · simp
  split
  · simp
  split
  · simp
  split
  · simp
  split
  · simp
  · rw [List.length_cons, hexs_len]; omega

theorem floatText_any (b : Nat) (w : World) (hb : b < 18446744073709551616) (ht : Tab16 w) :
    Calls Tryz.prog 168 #[.float .f64 b] w fun e w' => e = .returned (.string (str (35 :: textL (bitsB b)))) ∧ Below w.heap.size w w' := by
  have H := Lib.hid (text_any b w hb ht)
  have hs : (⟨#[35]⟩ : ByteArray) ++ str (textL (bitsB b)) = str (35 :: textL (bitsB b)) := str_append [35] (textL (bitsB b))
  have Hs := Lib.hid hs
  have hq := str_size (textL (bitsB b))
  have hl := tl_len (bitsB b)
  clear hb ht hs
  rw [← Hs.out]
  go_enter Tryz.func168, Tryz.ntmps168
  go_wp2_with fail
  refine H.out.mono ?_
  rintro e w' ⟨rfl, hb⟩
  have Hb := Lib.hid hb
  clear hb
  go_wp2
  go_ret
  exact ⟨rfl, Hb.out⟩
end Go.Proofs.YtfapajmbmgpipaaGreatDoor

