import Derived.Test.YtpjadeihackkpaaGreatDoorMP7
import Derived.Deep.RegionHeld
import Derived.Test.YtpjadeihackkpaaGreatDoorMP6
import Derived.Maps.AppendAt
import Derived.Test.YtpjadeihackkpaaGreatDoorMP3
/- The walk of the reference's Unhex. -/
namespace Go.Proofs.YtpjadeihackkpaaGreatDoor
open Go.RowKit

/-- A new row of one byte. -/
theorem byte_row (w : World) {z : Int} {x : Nat} (h : z = (x : Int)) (hx : x < 256) : Bytes (w.alloc (.cells #[.int .u8 z] 5)) (some ⟨w.heap.size, 0, none⟩) 1 1 [x] := by
  subst h
  exact bytes_of_own (new_row w [x] (by simp)) (by simpa using hx)

def stepU (n c : Nat) : Nat := n * 16 + (if 48 ≤ c ∧ c ≤ 57 then c - 48 else if 97 ≤ c ∧ c ≤ 102 then c - 87 else 0)

theorem stepU_hexD {n d : Nat} (h : d < 16) : stepU n (hexD d) = n * 16 + d := by
  unfold stepU hexD
  split
  · rw [if_pos (by omega)]; omega
  · rw [if_neg (by omega), if_pos (by omega)]; omega

theorem stepU_lt {n c k : Nat} (h : n < k) : stepU n c < 16 * k := by
  unfold stepU
  split
  · omega
  · split <;> omega

/-- The bytes of the first pairs. -/
def outB (l : List Nat) (j : Nat) : List Nat := (List.range j).map fun i => stepU (stepU 0 (l.getD (2 * i) 0)) (l.getD (2 * i + 1) 0)

theorem outB_len (l : List Nat) (j : Nat) : (outB l j).length = j := by unfold outB; rw [List.length_map, List.length_range]

theorem outB_succ (l : List Nat) (j : Nat) : outB l (j + 1) = outB l j ++ [stepU (stepU 0 (l.getD (2 * j) 0)) (l.getD (2 * j + 1) 0)] := by
  unfold outB
  rw [List.range_succ, List.map_append]
  rfl

theorem outB_byte (l : List Nat) (j : Nat) : ∀ c ∈ outB l j, c < 256 := by
  intro c hc
  unfold outB at hc
  obtain ⟨i, _, rfl⟩ := List.mem_map.1 hc
  exact stepU_lt (k := 16) (stepU_lt (k := 1) (by omega))

theorem hex2_get : ∀ (b : List Nat) (i : Nat), i < b.length → (hex2 b).getD (2 * i) 0 = hexD (b.getD i 0 / 16) ∧ (hex2 b).getD (2 * i + 1) 0 = hexD (b.getD i 0 % 16)
  | [], i, h => by simp at h
  | c :: r, 0, _ => ⟨rfl, rfl⟩
  | c :: r, i + 1, h => by
    have ih := hex2_get r i (by simpa using h)
    unfold hex2 at *
    rw [List.flatMap_cons, show 2 * (i + 1) = 2 * i + 1 + 1 by omega]
    exact ih

theorem outB_hex2 (b : List Nat) (hb : ∀ c ∈ b, c < 256) : outB (hex2 b) ((hex2 b).length / 2) = b := by
  rw [hex2_len, Nat.mul_div_cancel_left _ (by omega)]
  apply List.ext_getElem
  · rw [outB_len]
  · intro i h1 h2
    obtain ⟨e1, e2⟩ := hex2_get b i h2
    have e3 : b.getD i 0 = b[i] := by rw [List.getD_eq_getElem?_getD, List.getElem?_eq_getElem h2]; rfl
    have := hb _ (List.getElem_mem h2)
    have e4 : (outB (hex2 b) b.length)[i] = stepU (stepU 0 ((hex2 b).getD (2 * i) 0)) ((hex2 b).getD (2 * i + 1) 0) := by simp [outB]
    rw [e4, e1, e2, e3, stepU_hexD (by omega), stepU_hexD (by omega)]
    omega

/-- What Unhex answers. -/
def UnhexEnd (w : World) (l : List Nat) (e : Ending) (w' : World) : Prop :=
  ∃ b : List Nat, (∀ c ∈ b, c < 256) ∧ 2 * b.length ≤ l.length ∧ e = .returned (.tuple #[.string (str b), .bool (decide (hex2 b = l))]) ∧ (hex2 b ≠ l → ∀ x : List Nat, (∀ c ∈ x, c < 256) → hex2 x ≠ l) ∧ Below w.heap.size w w'

def UnRel (w : World) (l : List Nat) (v i : Value) (wr : World) : Prop := ∃ j : Nat, 2 * j ≤ l.length ∧ i = .int .i64 ((2 * j : Nat) : Int) ∧ wr.ownsRow w.heap.size 5 1 v (outB l j).length (u8s (outB l j)) ∧ Below w.heap.size w wr

def InRel (c d J : Nat) (n k : Value) : Prop :=
  (n = .int .i64 0 ∧ k = .int .i64 (J : Int)) ∨ (n = .int .i64 ((stepU 0 c : Nat) : Int) ∧ k = .int .i64 ((J : Int) + 1)) ∨ (n = .int .i64 ((stepU (stepU 0 c) d : Nat) : Int) ∧ k = .int .i64 ((J : Int) + 2))

theorem stepU_is {n c : Nat} {x : Int} (h : x = (n : Int) * 16 + (if 48 ≤ (c : Int) ∧ (c : Int) ≤ 57 then (c : Int) - 48 else if 97 ≤ (c : Int) ∧ (c : Int) ≤ 102 then (c : Int) - 87 else 0)) : x = ((stepU n c : Nat) : Int) := by
  rw [h]
  unfold stepU
  by_cases h1 : 48 ≤ c ∧ c ≤ 57
  · rw [if_pos h1, if_pos (by omega)]; omega
  · rw [if_neg h1, if_neg (by omega)]
    by_cases h2 : 97 ≤ c ∧ c ≤ 102
    · rw [if_pos h2, if_pos (by omega)]; omega
    · rw [if_neg h2, if_neg (by omega)]; omega

set_option maxRecDepth 100000 in
set_option maxHeartbeats 1600000 in
theorem runhex_any (l : List Nat) (w : World) (hl : ∀ x ∈ l, x < 256) (hn : l.length ≤ 1000000) :
    Calls Tryz.prog 84 #[.string (str l)] w (UnhexEnd w l) := by
  have hsz := str_size l
  have hg := get_str hl
  have HL := Lib.hid hl
  clear hl
  go_enter Tryz.func84, Tryz.ntmps84
  go_wp2
  go_loopw [4, 5] (fun v i wr => UnRel w l v i wr) (fun _ i _ => l.length - (intOf i).toNat)
  case atStart => exact ⟨0, by omega, rfl, World.ownsRow_nil _ _ _ _, Below.refl _ _⟩
  case round =>
    obtain ⟨j, hj, rfl, hown, hbel⟩ := hrel
    by_cases hlt : 2 * j + 1 < l.length
    · obtain ⟨J, hJ⟩ : ∃ J, J = 2 * j := ⟨_, rfl⟩
      have Hsucc := Lib.hid (outB_succ l j)
      rw [← hJ] at hlt Hsucc ⊢
      have hc8 : l.getD J 0 < 256 := by
        rw [List.getD_eq_getElem?_getD, List.getElem?_eq_getElem (by omega)]
        exact HL.out _ (List.getElem_mem _)
      have hd8 : l.getD (J + 1) 0 < 256 := by
        rw [List.getD_eq_getElem?_getD, List.getElem?_eq_getElem (by omega)]
        exact HL.out _ (List.getElem_mem _)
      have K1 : J < (str l).size := by rw [hsz]; omega
      have K2 : J + 1 < (str l).size := by rw [hsz]; omega
      have hgc := hg J K1
      have hgd := hg (J + 1) K2
      have Hlen := Lib.hid (outB_len l j)
      have Hown := Lib.hid hown
      have Hbel := Lib.hid hbel
      generalize l.getD J 0 = c at *
      generalize l.getD (J + 1) 0 = d at *
      have hb1 : stepU 0 c < 16 := stepU_lt (k := 1) (by omega)
      have hb2 : stepU (stepU 0 c) d < 256 := stepU_lt (k := 16) hb1
      have hji : (J : Int) + 1 < ((str l).size : Int) := by omega
      have Hlt := Lib.hid hlt
      have HJ := Lib.hid hJ
      clear hg hown hbel hlt hj hJ
      go_wp2
      go_loop [6, 7] (fun n k => InRel c d J n k) (fun _ k => J + 2 - (intOf k).toNat)
      case atStart => exact .inl ⟨rfl, rfl⟩
      case round =>
        rcases hrel with ⟨rfl, rfl⟩ | ⟨rfl, rfl⟩ | ⟨rfl, rfl⟩
        · clear hgd hb1 hb2 hd8
          go_wp2
          all_goals go_round
          all_goals try (case measure => simp [intOf]; try omega)
          all_goals refine .inr (.inl ⟨congrArg (Value.int IntKind.i64) (stepU_is ?_), by go_num⟩)
          all_goals split <;> (try split) <;> omega
        · clear hgc hb2 hc8
          generalize he : stepU 0 c = n1 at *
          have He := Lib.hid he
          clear he
          go_wp2
          all_goals go_round
          all_goals try (case measure => simp [intOf]; try omega)
          all_goals refine .inr (.inr ⟨?_, by go_num⟩)
          all_goals rw [He.out]
          all_goals refine congrArg (Value.int IntKind.i64) (stepU_is ?_)
          all_goals split <;> (try split) <;> omega
        · have hbz := Hbel.out.size
          have hlj : (outB l j).length ≤ 1000000 := by have := Hlen.out; have := HJ.out; rw [hsz] at K1; omega
          clear hgc hgd hb1 hc8 hd8
          generalize stepU (stepU 0 c) d = z at *
          go_wp2_with (at_builtin; refine wpList_append_bytes _ rfl _ _ 28 rfl w.heap.size 5 Tryz.underlying28 info_u8 _ _ _ rfl (Hown.out.alloc _) _ 1 1 [z] rfl (byte_row _ (by omega) (by omega)) (by omega) (by simp; omega) ?_; intro v' w1 g1 g2)
          go_roundw
          case rel =>
            refine ⟨j + 1, by have := HJ.out; have := Hlt.out; omega, ?_, ?_, ?_⟩
            · rw [show (J : Int) + 2 = ((2 * (j + 1) : Nat) : Int) by have := HJ.out; omega]
            · rw [Hsucc.out, List.length_append]
              exact g1
            · have hb : Below w.heap.size w (wr.alloc (.cells #[.int .u8 (z : Int)] 5)) := Hbel.out.alloc Hbel.out.size _
              exact hb.grown g2 hb.size (fun x hx => (Hown.out.lt x hx).1)
          case measure => simp [intOf]; have := Hlt.out; omega
    · obtain ⟨p, cp, rfl, hB⟩ := own_slice hown (outB_byte l j)
      have HF := Lib.hid (show ∀ x : List Nat, (∀ c ∈ x, c < 256) → hex2 x = l → x = outB l j from fun x hx h => by
        have h1 := outB_hex2 x hx
        rw [h, show l.length / 2 = j by omega] at h1
        exact h1.symm)
      have hlen := outB_len l j
      have HB := Lib.hid (outB_byte l j)
      have Hle := Lib.hid (show 2 * (outB l j).length ≤ l.length by omega)
      have hcv := fun (w' : World) (hw : Bytes w' p (outB l j).length cp (outB l j)) => convert_bytes (P := Tryz.prog) hw 28 5 9 Tryz.underlying28 Tryz.underlying5 Tryz.underlying9
      have hB0 := hB.grow (Below.refl _ _).drew
      have hc1 := hcv wr.drew hB0
      have HC := Lib.hid (fun w' (hb : Below wr.drew.heap.size wr.drew w') => hcv w' (hB0.grow hb))
      have Hx := Lib.hid (rhex_any (outB l j) wr.drew (outB_byte l j) (by omega))
      have hji : ¬ ((2 * j : Nat) : Int) + 1 < ((str l).size : Int) := by omega
      have Hbel := Lib.hid hbel
      have Hq := Lib.hid (show ((str (hex2 (outB l j))).toList == (str l).toList) = decide (hex2 (outB l j) = l) from by
        by_cases h : hex2 (outB l j) = l
        · rw [h, decide_eq_true rfl]; exact str_eq l
        · rw [decide_eq_false h]
          exact str_ne (fun c hc => by
            unfold hex2 at hc
            obtain ⟨x, hx, hc⟩ := List.mem_flatMap.1 hc
            have := outB_byte l j x hx
            simp only [List.mem_cons, List.not_mem_nil, or_false] at hc
            unfold hexD at hc
            rcases hc with rfl | rfl <;> split <;> omega) HL.out h)
      clear hg hcv hown hbel hB0
      have Hlen := Lib.hid hlen
      clear hlen
      generalize outB l j = b at *
      have hq := Hq.out
      generalize hsb : str b = sb at *
      have Hsb := Lib.hid hsb
      generalize hsh : str (hex2 b) = sh at *
      clear hsb hsh hB
      go_wp2_with fail
      go_region_held (fun w' => (convert 28 9 (.slice p b.length cp)).run Tryz.prog w' = .ok (.string sb) w')
        (first | exact hc1 | exact hc2)
        (first | (go_at_call 50; (with_reducible refine Hx.out.mono ?_); rintro e w2 ⟨rfl, hb2⟩; have hc2 := HC.out w2 hb2; have hbw : Below w.heap.size w w2 := Hbel.out.trans ((((Below.refl _ _).drew).trans hb2).mono Hbel.out.size)))
      all_goals go_wp2
      all_goals go_ret2
      all_goals exact ⟨b, HB.out, Hle.out, by rw [Hsb.out]; rfl, fun h x hx e => h (by rw [← HF.out x hx e]; exact e), hbw⟩
end Go.Proofs.YtpjadeihackkpaaGreatDoor

/- Lists of values that a call has made itself: where their rows lie, and how they grow. -/
namespace Go.Proofs.YtpjadeihackkpaaGreatDoor
open Go.RowKit Fl

mutual
/-- The cells x hold the value v; the rows of its lists lie in blocks that q allows. -/
def VInP (q : Nat → Prop) (w : World) : V → Array Value → Prop
  | .mk k n f s l, x => (-9223372036854775808 ≤ k ∧ k ≤ 9223372036854775807) ∧ (-9223372036854775808 ≤ n ∧ n ≤ 9223372036854775807) ∧ f < 18446744073709551616 ∧ (∀ c ∈ s, c < 256) ∧ s.length ≤ 9223372036854775807 ∧
    ∃ a cap, x = cells5 k n f s a l.length cap ∧ l.length ≤ cap ∧ cap ≤ 9223372036854775807 ∧ (l = [] ∨ ∃ b o, a = some ⟨b, o, none⟩ ∧ q b ∧ VsInP q w l b o)
def VsInP (q : Nat → Prop) (w : World) : List V → Nat → Nat → Prop
  | [], _, _ => True
  | v :: r, b, o => (∃ x : Array Value, x.size = 5 ∧ (∀ j, j < 5 → w.cell? ⟨b, o + j, none⟩ = x[j]?) ∧ VInP q w v x) ∧ VsInP q w r b (o + 5)
end

mutual
theorem VInP.weak {q : Nat → Prop} {w : World} : ∀ (v : V) (x : Array Value), VInP q w v x → VIn w v x
  | .mk k n f s l, x, h => by
    rw [VInP] at h
    rw [VIn]
    obtain ⟨h1, h2, h3, h4, h5, a, cap, h6, h7, h8, h9⟩ := h
    refine ⟨h1, h2, h3, h4, h5, a, cap, h6, h7, h8, ?_⟩
    rcases h9 with h9 | ⟨b, o, ha, _, hv⟩
    · exact .inl h9
    · exact .inr ⟨b, o, ha, VsInP.weak l b o hv⟩
theorem VsInP.weak {q : Nat → Prop} {w : World} : ∀ (l : List V) (b o : Nat), VsInP q w l b o → VsIn w l b o
  | [], _, _, _ => by rw [VsIn]; trivial
  | v :: r, b, o, h => by
    rw [VsInP] at h
    rw [VsIn]
    obtain ⟨⟨x, hx, hc, hv⟩, hr⟩ := h
    exact ⟨⟨x, hx, hc, VInP.weak v x hv⟩, VsInP.weak r b (o + 5) hr⟩
end

mutual
theorem VInP.turn {q q' : Nat → Prop} {w w' : World} (hq : ∀ b, q b → q' b) (hw : ∀ p : Addr, q p.block → w'.cell? p = w.cell? p) : ∀ (v : V) (x : Array Value), VInP q w v x → VInP q' w' v x
  | .mk k n f s l, x, h => by
    rw [VInP] at h ⊢
    obtain ⟨h1, h2, h3, h4, h5, a, cap, h6, h7, h8, h9⟩ := h
    refine ⟨h1, h2, h3, h4, h5, a, cap, h6, h7, h8, ?_⟩
    rcases h9 with h9 | ⟨b, o, ha, hb, hv⟩
    · exact .inl h9
    · exact .inr ⟨b, o, ha, hq b hb, VsInP.turn hq hw l b o hb hv⟩
theorem VsInP.turn {q q' : Nat → Prop} {w w' : World} (hq : ∀ b, q b → q' b) (hw : ∀ p : Addr, q p.block → w'.cell? p = w.cell? p) : ∀ (l : List V) (b o : Nat), q b → VsInP q w l b o → VsInP q' w' l b o
  | [], _, _, _, _ => by rw [VsInP]; trivial
  | v :: r, b, o, hb, h => by
    rw [VsInP] at h ⊢
    obtain ⟨⟨x, hx, hc, hv⟩, hr⟩ := h
    exact ⟨⟨x, hx, fun j hj => by rw [hw ⟨b, o + j, none⟩ hb]; exact hc j hj, VInP.turn hq hw v x hv⟩, VsInP.turn hq hw r b (o + 5) hb hr⟩
end

theorem VInP.size {q : Nat → Prop} {w : World} {v : V} {x : Array Value} (h : VInP q w v x) : x.size = 5 := (VInP.weak v x h).size

/-- A list of values of the call's own: its row, and its elements' rows in other blocks. -/
def OwnVs (w : World) (base : Nat) (v : Value) (l : List V) : Prop :=
  ∃ cs : List (Array Value), cs.length = l.length ∧ w.ownsRow base 25 5 v l.length (cs.flatMap Array.toList) ∧
    ∀ (i : Nat) (x : Array Value) (u : V), cs[i]? = some x → l[i]? = some u → VInP (fun b => base ≤ b ∧ some b ≠ v.ownBlock ∧ b < w.heap.size) w u x

theorem OwnVs.nil (w : World) (base : Nat) : OwnVs w base (.slice none 0 0) [] := ⟨[], rfl, ⟨rfl, .inl ⟨rfl, rfl⟩⟩, fun i x u h => by simp at h⟩

theorem OwnVs.snoc {w w' : World} {base : Nat} {v v' : Value} {l : List V} {cs : List (Array Value)} {u : V} {x : Array Value} (hlen : cs.length = l.length)
    (hel : ∀ (i : Nat) (x : Array Value) (u : V), cs[i]? = some x → l[i]? = some u → VInP (fun b => base ≤ b ∧ some b ≠ v.ownBlock ∧ b < w.heap.size) w u x)
    (hu : VInP (fun b => base ≤ b ∧ some b ≠ v.ownBlock ∧ b < w.heap.size) w u x) (hown : w'.ownsRow base 25 5 v' (l.length + 1) (cs.flatMap Array.toList ++ x.toList))
    (hg : w.grownBy w' v.ownBlock) (hb : v'.ownBlock = v.ownBlock ∨ v'.ownBlock = some w.heap.size) : OwnVs w' base v' (l ++ [u]) := by
  have hs : w.heap.size ≤ w'.heap.size := hg.size
  have hturn : ∀ (y : Array Value) (z : V), VInP (fun b => base ≤ b ∧ some b ≠ v.ownBlock ∧ b < w.heap.size) w z y → VInP (fun b => base ≤ b ∧ some b ≠ v'.ownBlock ∧ b < w'.heap.size) w' z y := by
    intro y z hz
    have k1 : ∀ b, (base ≤ b ∧ some b ≠ v.ownBlock ∧ b < w.heap.size) → (base ≤ b ∧ some b ≠ v'.ownBlock ∧ b < w'.heap.size) := by
      intro b hb1
      refine ⟨hb1.1, ?_, by omega⟩
      rcases hb with e | e
      · rw [e]; exact hb1.2.1
      · rw [e]
        intro e2
        have e3 : b = w.heap.size := Option.some.inj e2
        omega
    have k2 : ∀ p : Addr, (base ≤ p.block ∧ some p.block ≠ v.ownBlock ∧ p.block < w.heap.size) → w'.cell? p = w.cell? p := by
      intro p hp
      unfold World.cell?
      rw [hg.block p.block hp.2.2 hp.2.1]
    exact VInP.turn k1 k2 z y hz
  refine ⟨cs ++ [x], by rw [List.length_append, List.length_append, hlen]; rfl, ?_, fun i y z hy hz => ?_⟩
  · rw [List.length_append, List.flatMap_append]
    simpa using hown
  · rcases Nat.lt_or_ge i cs.length with hi | hi
    · rw [List.getElem?_append_left hi] at hy
      rw [List.getElem?_append_left (by omega)] at hz
      exact hturn y z (hel i y z hy hz)
    · rw [List.getElem?_append_right hi] at hy
      rw [List.getElem?_append_right (by omega), ← hlen] at hz
      cases hk : i - cs.length with
      | zero =>
        rw [hk] at hy hz
        simp at hy hz
        subst hy
        subst hz
        exact hturn x u hu
      | succ m => rw [hk] at hy; simp at hy

theorem flat_at : ∀ (cs : List (Array Value)), (∀ x ∈ cs, x.size = 5) → ∀ (i : Nat) (x : Array Value), cs[i]? = some x → ∀ j, j < 5 → (cs.flatMap Array.toList)[i * 5 + j]? = x[j]?
  | [], _, i, x, h, _, _ => by simp at h
  | y :: r, hs, i, x, h, j, hj => by
    have hy : y.toList.length = 5 := by rw [Array.length_toList]; exact hs y (by simp)
    rw [List.flatMap_cons]
    cases i with
    | zero =>
      simp at h
      subst h
      rw [List.getElem?_append_left (by omega)]
      simp
    | succ i =>
      have ih := flat_at r (fun z hz => hs z (by simp [hz])) i x (by simpa using h) j hj
      rw [List.getElem?_append_right (by omega), hy, show (i + 1) * 5 + j - 5 = i * 5 + j by omega]
      exact ih

theorem VsInP.mk {q : Nat → Prop} {w : World} {b : Nat} : ∀ (l : List V) (o : Nat), (∀ (i : Nat) (u : V), l[i]? = some u → ∃ x : Array Value, x.size = 5 ∧ (∀ j, j < 5 → w.cell? ⟨b, o + i * 5 + j, none⟩ = x[j]?) ∧ VInP q w u x) → VsInP q w l b o
  | [], _, _ => by rw [VsInP]; trivial
  | v :: r, o, h => by
    rw [VsInP]
    obtain ⟨x, hx, hc, hv⟩ := h 0 v rfl
    refine ⟨⟨x, hx, fun j hj => by have := hc j hj; simpa using this, hv⟩, VsInP.mk r (o + 5) (fun i u hu => ?_)⟩
    obtain ⟨y, hy, hd, hz⟩ := h (i + 1) u (by simpa using hu)
    exact ⟨y, hy, fun j hj => by rw [← hd j hj]; congr 2; omega, hz⟩

/-- A list of the call's own, as a list in memory. -/
theorem OwnVs.lies {w : World} {base : Nat} {v : Value} {l : List V} (h : OwnVs w base v l) : ∃ a cap, v = .slice a l.length cap ∧ l.length ≤ cap ∧ cap ≤ 9223372036854775807 ∧
    (l = [] ∨ ∃ g, a = some ⟨g, 0, none⟩ ∧ (base ≤ g ∧ g < w.heap.size) ∧ VsInP (fun b => base ≤ b ∧ b < w.heap.size) w l g 0) := by
  obtain ⟨cs, hlen, ⟨_, hrow⟩, hel⟩ := h
  rcases hrow with ⟨rfl, h0⟩ | ⟨g, cap, cur, rfl, hbg, hg, hle, hcm, hsz, htake⟩
  · have e : l = [] := List.length_eq_zero_iff.1 h0
    subst e
    exact ⟨none, 0, rfl, Nat.le_refl _, by omega, .inl rfl⟩
  · have hglt : g < w.heap.size := (Array.getElem?_eq_some_iff.1 hg).1
    refine ⟨_, cap, rfl, hle, by rw [maxLen_nat] at hcm; exact hcm, .inr ⟨g, rfl, ⟨hbg, hglt⟩, VsInP.mk l 0 (fun i u hu => ?_)⟩⟩
    have hi : i < l.length := (List.getElem?_eq_some_iff.1 hu).1
    have hx : cs[i]? = some (cs[i]'(by omega)) := List.getElem?_eq_getElem (by omega)
    have hsz5 : ∀ x ∈ cs, x.size = 5 := by
      intro x hx
      obtain ⟨k, hk, rfl⟩ := List.getElem_of_mem hx
      exact (hel k _ l[k] (List.getElem?_eq_getElem hk) (List.getElem?_eq_getElem (by omega))).size
    have hv := hel i _ u hx hu
    refine ⟨_, hv.size, fun j hj => ?_, VInP.turn (fun b hb => ⟨hb.1, hb.2.2⟩) (fun _ _ => rfl) u _ hv⟩
    rw [cell_of_row w g _ cur _ _ hg, ← flat_at cs hsz5 i _ hx j hj, ← htake, Nat.zero_add, List.getElem?_take, if_pos (by omega), Array.getElem?_toList]
end Go.Proofs.YtpjadeihackkpaaGreatDoor

/- The walk of the reference's atom. -/
namespace Go.Proofs.YtpjadeihackkpaaGreatDoor
open Go.RowKit Fl

theorem str_extract (l : List Nat) (i j : Nat) : (str l).extract i j = str ((l.take j).drop i) := by
  apply ByteArray.ext
  unfold str
  rw [ByteArray.data_extract]
  apply Array.ext'
  simp [List.map_take, List.map_drop, List.drop_take]

mutual
/-- A value as a world holds it: numbers and bytes in their bounds. -/
def soundV : V → Prop
  | .mk _ n f s l => (-9223372036854775808 ≤ n ∧ n ≤ 9223372036854775807) ∧ f < 18446744073709551616 ∧ (∀ c ∈ s, c < 256) ∧ soundL l
def soundL : List V → Prop
  | [] => True
  | v :: r => soundV v ∧ soundL r
end

mutual
theorem soundV.words : ∀ v : V, soundV v → wordsV v
  | .mk k n f s l, h => by
    rw [soundV] at h
    rw [wordsV]
    exact ⟨h.2.1, soundL.words l h.2.2.2⟩
theorem soundL.words : ∀ l : List V, soundL l → wordsL l
  | [], _ => by rw [wordsL]; trivial
  | v :: r, h => by
    rw [soundL] at h
    rw [wordsL]
    exact ⟨soundV.words v h.1, soundL.words r h.2⟩
end

mutual
theorem VIn.sound {w : World} : ∀ (v : V) (x : Array Value), VIn w v x → soundV v
  | .mk k n f s l, x, h => by
    rw [VIn] at h
    obtain ⟨_, hn, hf, hs, _, a, cap, _, _, _, h9⟩ := h
    rw [soundV]
    refine ⟨hn, hf, hs, ?_⟩
    rcases h9 with rfl | ⟨b, o, _, hv⟩
    · rw [soundL]; trivial
    · exact VsIn.sound l b o hv
theorem VsIn.sound {w : World} : ∀ (l : List V) (b o : Nat), VsIn w l b o → soundL l
  | [], _, _, _ => by rw [soundL]; trivial
  | v :: r, b, o, h => by
    rw [VsIn] at h
    obtain ⟨⟨x, _, _, hv⟩, hr⟩ := h
    rw [soundL]
    exact ⟨VIn.sound v x hv, VsIn.sound r b (o + 5) hr⟩
end

/-- What the text of a value that is no list looks like. -/
theorem plain_text {t : Nat} {u : V} {l : List Nat} (h : rightN t u = true) (hs : soundV u) (hk : u.kind ≠ 4) (e : textV u = l) :
    l = [110, 105, 108] ∨ (∃ n : Int, -9223372036854775808 ≤ n ∧ n ≤ 9223372036854775807 ∧ decL n = l) ∨ (∃ b, b < 18446744073709551616 ∧ l = 35 :: textL (bitsB b)) ∨ ∃ s : List Nat, (∀ c ∈ s, c < 256) ∧ l = 34 :: (hex2 s ++ [34]) := by
  obtain ⟨k, n, f, s, q⟩ := u
  obtain ⟨_, h0, h4, _⟩ := right_parts h
  change k ≠ 4 at hk
  rw [soundV] at hs
  rw [textV] at e
  by_cases h1 : k = 1
  · rw [if_pos h1] at e
    exact .inr (.inl ⟨n, hs.1.1, hs.1.2, e⟩)
  · rw [if_neg h1] at e
    by_cases h2 : k = 2
    · rw [if_pos h2] at e
      exact .inr (.inr (.inl ⟨f, hs.2.1, e.symm⟩))
    · rw [if_neg h2] at e
      by_cases h3 : k = 3
      · rw [if_pos h3] at e
        exact .inr (.inr (.inr ⟨s, hs.2.2.1, e.symm⟩))
      · rw [if_neg h3, if_neg hk] at e
        exact .inl e.symm

/-- What atom answers. -/
def AtomEnd (w : World) (l : List Nat) (e : Ending) (w' : World) : Prop :=
  ∃ (v : V) (x : Array Value) (ok : Bool), e = .returned (.tuple #[.agg x, .bool ok]) ∧ VInP (fun _ => False) w' v x ∧ Below w.heap.size w w' ∧ (ok = true → textV v = l ∧ ∀ t, rightN t v = true) ∧
    (ok = false → ∀ (t : Nat) (u : V), rightN t u = true → soundV u → u.kind ≠ 4 → textV u ≠ l)

/-- A value without a list, in its five words. -/
theorem vin_plain {w : World} {k n : Int} {f : Nat} {s : List Nat} (hk : 0 ≤ k ∧ k ≤ 4) (hn : -9223372036854775808 ≤ n ∧ n ≤ 9223372036854775807) (hf : f < 18446744073709551616) (hs : ∀ c ∈ s, c < 256) (hss : s.length ≤ 9223372036854775807) :
    VInP (fun _ => False) w (.mk k n f s []) #[.int .i64 k, .int .i64 n, .float .f64 f, .string (str s), .slice none 0 0] := by
  rw [VInP]
  exact ⟨by omega, hn, hf, hs, hss, none, 0, rfl, Nat.le_refl _, by omega, .inl rfl⟩

theorem atom_none {l : List Nat} (h0 : l ≠ [110, 105, 108]) (hN : ∀ n : Int, -9223372036854775808 ≤ n → n ≤ 9223372036854775807 → decL n ≠ l) (h35 : ∀ b, b < 18446744073709551616 → l ≠ 35 :: textL (bitsB b))
    (h34 : ∀ s : List Nat, (∀ c ∈ s, c < 256) → l ≠ 34 :: (hex2 s ++ [34])) : ∀ (t : Nat) (u : V), rightN t u = true → soundV u → u.kind ≠ 4 → textV u ≠ l := by
  intro t u h hs hk e
  rcases plain_text h hs hk e with e | ⟨n, h1, h2, e⟩ | ⟨b, hb, e⟩ | ⟨x, hx, e⟩
  · exact h0 e
  · exact hN n h1 h2 e
  · exact h35 b hb e
  · exact h34 x hx e

theorem ends34 {l x : List Nat} (h : l = 34 :: (x ++ [34])) : 2 ≤ l.length ∧ l.getD 0 0 = 34 ∧ l.getD (l.length - 1) 0 = 34 ∧ (l.take (l.length - 1)).drop 1 = x := by
  subst h
  refine ⟨by simp, rfl, ?_, ?_⟩
  · simp
  · simp

theorem mid34 {l : List Nat} (h2 : 2 ≤ l.length) (h0 : l.getD 0 0 = 34) (h1 : l.getD (l.length - 1) 0 = 34) : l = 34 :: ((l.take (l.length - 1)).drop 1 ++ [34]) := by
  cases l with
  | nil => simp at h2
  | cons c r =>
    have e0 : c = 34 := by simpa using h0
    rcases List.eq_nil_or_concat r with e | ⟨q, d, e⟩
    · rw [e] at h2; simp at h2
    · subst e0
      subst e
      have e1 : d = 34 := by simpa using h1
      subst e1
      simp

set_option maxRecDepth 100000 in
set_option maxHeartbeats 1600000 in
theorem ratom_any (l : List Nat) (w : World) (hl : ∀ x ∈ l, x < 256) (hn : l.length ≤ 1000000) :
    Calls Tryz.prog 61 #[.string (str l)] w (AtomEnd w l) := by
  have hsz := str_size l
  have HL := Lib.hid hl
  have hfl : ∀ (w : World) (a : Addr) (m : Mode) (b : Nat), (store a (.float .f64 b) m).run Tryz.prog w = stored Tryz.prog w a (.float .f64 b) m := fun w a m b => run_store Tryz.prog w a _ m rfl
  have H0 := Lib.hid (heap_alloc_new w (.cells #[.int .i64 0, .int .i64 0, .float .f64 0, .string ⟨#[]⟩, .slice none 0 0] 25))
  have Hb0 := Lib.hid ((Below.refl w.heap.size w).alloc (Nat.le_refl _) (.cells #[.int .i64 0, .int .i64 0, .float .f64 0, .string ⟨#[]⟩, .slice none 0 0] 25))
  by_cases q0 : l = [110, 105, 108]
  · have hq : ((str l).toList == ([110, 105, 108] : List UInt8)) = true := by rw [q0, str_list]; rfl
    have Q0 := Lib.hid q0
    obtain ⟨⟨z0, z1, z2, z3, z4⟩, ⟨y0, y1, y2, y3, y4⟩⟩ := res_cells H0.out
    clear q0 hl
    go_enter Tryz.func61, Tryz.ntmps61
    go_wp2
    refine bodyPost_ret (v := .tuple #[.agg #[.int .i64 0, .int .i64 0, .float .f64 0, .string (str []), .slice none 0 0], .bool true]) (by simp [results, Tryz.results61, go_sem, *]; rfl) rfl ?_
    refine ⟨.mk 0 0 0 [] [], _, true, rfl, vin_plain (by omega) (by omega) (by omega) (by simp) (by simp), Hb0.out, fun _ => ⟨Q0.out.symm, fun t => rightN_plain ?_ ?_ ?_⟩, fun h => by cases h⟩
    · exact ⟨.inr rfl, .inr (show bitsB 0 = 0 by decide), .inr rfl, .inr rfl⟩
    · show (0 : Int) ≠ 4; omega
    · show (0 : Int) ≤ 0 ∧ (0 : Int) ≤ 4; omega
  · have hq : ((str l).toList == ([110, 105, 108] : List UInt8)) = false := by
      have h := str_ne (b := [110, 105, 108]) hl (by decide) q0
      rw [str_list [110, 105, 108]] at h
      exact h
    have HN := Lib.hid (fun w => vnumber_any l w hl hn)
    have Q0 := Lib.hid q0
    clear q0 hl
    have hwz : (w.alloc (.cells #[.int .i64 0, .int .i64 0, .float .f64 0, .string ⟨#[]⟩, .slice none 0 0] 25)).heap.size = w.heap.size + 1 := by simp
    go_enter Tryz.func61, Tryz.ntmps61
    go_wp2_with fail
    generalize w.alloc (.cells #[.int .i64 0, .int .i64 0, .float .f64 0, .string ⟨#[]⟩, .slice none 0 0] 25) = w1 at *
    refine (HN.out _).mono ?_
    rintro e w2 ⟨m, hm, rfl, hno, hb⟩
    have Hb2 := Lib.hid (Hb0.out.trans (hb.mono (by omega)))
    have H2 := Lib.hid ((hb.block w.heap.size (by omega)).trans H0.out)
    have Hm := Lib.hid hm
    by_cases q1 : decL m = l
    · have Q1 := Lib.hid q1
      obtain ⟨⟨z0, z1, z2, z3, z4⟩, ⟨y0, y1, y2, y3, y4⟩⟩ := res_cells H2.out
      have hd : decide (decL m = l) = true := decide_eq_true q1
      clear q1 hno hb hm hwz
      go_wp2
      refine bodyPost_ret (v := .tuple #[.agg #[.int .i64 1, .int .i64 m, .float .f64 0, .string (str []), .slice none 0 0], .bool true]) (by simp [results, Tryz.results61, go_sem, *]; rfl) rfl ?_
      refine ⟨.mk 1 m 0 [] [], _, true, rfl, vin_plain (by omega) Hm.out (by omega) (by simp) (by simp), set5 Hb2.out _ _ _ _ _, fun _ => ⟨by rw [textV, if_pos rfl]; exact Q1.out, fun t => rightN_plain ?_ ?_ ?_⟩, fun h => by cases h⟩
      · exact ⟨.inl rfl, .inr (show bitsB 0 = 0 by decide), .inr rfl, .inr rfl⟩
      · show (1 : Int) ≠ 4; omega
      · show (0 : Int) ≤ 1 ∧ (1 : Int) ≤ 4; omega
    · have Hno := Lib.hid (hno q1)
      have hd : decide (decL m = l) = false := decide_eq_false q1
      clear q1 hno hb hm hwz
      have hg := get_str HL.out
      by_cases p0 : 0 < l.length
      · have hg0 := hg 0 (by omega)
        have hl0 : (0 : Int) < (l.length : Int) := by omega
        by_cases p1 : l.getD 0 0 = 35
        · rw [p1] at hg0
          have hx := str_extract l 1 l.length
          rw [List.take_of_length_le (Nat.le_refl _)] at hx
          have HP := Lib.hid (fun w => rparse_any (l.drop 1) w (fun c hc => HL.out c (List.mem_of_mem_drop hc)) (by rw [List.length_drop]; omega))
          have Hl := Lib.hid (show l = 35 :: l.drop 1 from by
            cases l with
            | nil => simp at p0
            | cons c r => have e0 : c = 35 := by simpa using p1
                          rw [e0]; rfl)
          clear hg p1
          generalize str (l.drop 1) = s1 at *
          go_wp2_with fail
          refine (HP.out _).mono ?_
          rintro e w3 ⟨hb3, ⟨b, hbl, hbt, rfl⟩ | ⟨hno3, rfl⟩⟩
          · have Hb3 := Lib.hid (Hb2.out.trans (hb3.mono Hb2.out.size))
            have hz2 : w.heap.size < w2.heap.size := (Array.getElem?_eq_some_iff.1 H2.out).1
            have H3 := (hb3.block w.heap.size hz2).trans H2.out
            obtain ⟨⟨z0, z1, z2, z3, z4⟩, ⟨y0, y1, y2, y3, y4⟩⟩ := res_cells H3
            have Hbt := Lib.hid hbt
            have Hbl := Lib.hid hbl
            clear hb3 hbl hbt hz2 H3
            go_wp2
            refine bodyPost_ret (v := .tuple #[.agg #[.int .i64 2, .int .i64 0, .float .f64 b, .string (str []), .slice none 0 0], .bool true]) (by simp [results, Tryz.results61, go_sem, *]; rfl) rfl ?_
            refine ⟨.mk 2 0 b [] [], _, true, rfl, vin_plain (by omega) (by omega) Hbl.out (by simp) (by simp), set5 Hb3.out _ _ _ _ _, fun _ => ⟨by rw [textV, if_neg (by omega), if_pos rfl, Hbt.out]; exact Hl.out.symm, fun t => rightN_plain ?_ ?_ ?_⟩, fun h => by cases h⟩
            · exact ⟨.inr rfl, .inl rfl, .inr rfl, .inr rfl⟩
            · show (2 : Int) ≠ 4; omega
            · show (0 : Int) ≤ 2 ∧ (2 : Int) ≤ 4; omega
          · have Hb3 := Lib.hid (Hb2.out.trans (hb3.mono Hb2.out.size))
            have hz2 : w.heap.size < w2.heap.size := (Array.getElem?_eq_some_iff.1 H2.out).1
            have H3 := (hb3.block w.heap.size hz2).trans H2.out
            obtain ⟨⟨z0, z1, z2, z3, z4⟩, ⟨y0, y1, y2, y3, y4⟩⟩ := res_cells H3
            have Hno3 := Lib.hid hno3
            clear hb3 hno3 hz2 H3
            go_wp2
            refine bodyPost_ret (v := .tuple #[.agg #[.int .i64 2, .int .i64 0, .float .f64 0, .string (str []), .slice none 0 0], .bool false]) (by simp [results, Tryz.results61, go_sem, *]; rfl) rfl ?_
            refine ⟨.mk 2 0 0 [] [], _, false, rfl, vin_plain (by omega) (by omega) (by omega) (by simp) (by simp), set5 Hb3.out _ _ _ _ _, fun h => (by cases h), fun _ => atom_none Q0.out Hno.out (fun b hb e => ?_) (fun x _ e => ?_)⟩
            · rw [Hl.out] at e
              exact Hno3.out b hb (List.cons.inj e).2.symm
            · rw [Hl.out] at e
              have := (List.cons.inj e).1
              omega
        · have H35 := Lib.hid (show ∀ b, b < 18446744073709551616 → l ≠ 35 :: textL (bitsB b) from fun b _ e => p1 (by rw [e]; rfl))
          have hne35 : ((l.getD 0 0 : Nat) : Int) ≠ 35 := by omega
          have hbq35 : ((((l.getD 0 0 : Nat) : Int)) == 35) = false := beq_eq_false_iff_ne.2 hne35
          obtain ⟨⟨z0, z1, z2, z3, z4⟩, ⟨y0, y1, y2, y3, y4⟩⟩ := res_cells H2.out
          by_cases p2 : 2 ≤ l.length
          · have hg1 := hg (l.length - 1) (by omega)
            have hl2 : (2 : Int) ≤ (l.length : Int) := by omega
            by_cases p3 : l.getD 0 0 = 34
            · by_cases p4 : l.getD (l.length - 1) 0 = 34
              · have Hl := Lib.hid (mid34 p2 p3 p4)
                have hx := str_extract l 1 (l.length - 1)
                have HU := Lib.hid (fun w => runhex_any ((l.take (l.length - 1)).drop 1) w (fun c hc => HL.out c (List.mem_of_mem_take (List.mem_of_mem_drop hc))) (by rw [List.length_drop, List.length_take]; omega))
                rw [p3] at hg0
                rw [p4] at hg1
                clear hg p1 p3 p4 hne35 hbq35 z0 z1 z2 z3 z4 y0 y1 y2 y3 y4
                generalize (l.take (l.length - 1)).drop 1 = mid at *
                generalize str mid = s1 at *
                go_wp2_with fail
                refine (HU.out _).mono ?_
                rintro e w3 ⟨b, hb, hbl, rfl, hno3, hb3⟩
                have Hb3 := Lib.hid (Hb2.out.trans (hb3.mono Hb2.out.size))
                have hz2 : w.heap.size < w2.heap.size := (Array.getElem?_eq_some_iff.1 H2.out).1
                have H3 := (hb3.block w.heap.size hz2).trans H2.out
                obtain ⟨⟨z0, z1, z2, z3, z4⟩, ⟨y0, y1, y2, y3, y4⟩⟩ := res_cells H3
                have Hno3 := Lib.hid hno3
                have Hbb := Lib.hid hb
                have Hlb := Lib.hid (show b.length ≤ 9223372036854775807 from by have := congrArg List.length Hl.out; rw [List.length_cons, List.length_append] at this; omega)
                clear hb3 hno3 hz2 H3 hb hbl
                have Hok := Lib.hid (show (decide (hex2 b = mid) = true → textV (.mk 3 0 0 b []) = l) ∧ (decide (hex2 b = mid) = false → ∀ (t : Nat) (u : V), rightN t u = true → soundV u → u.kind ≠ 4 → textV u ≠ l) from by
                  refine ⟨fun h => ?_, fun h => atom_none Q0.out Hno.out H35.out (fun x hx e => ?_)⟩
                  · rw [textV, if_neg (by omega), if_neg (by omega), if_pos rfl, of_decide_eq_true h]
                    exact Hl.out.symm
                  · rw [Hl.out] at e
                    exact Hno3.out (of_decide_eq_false h) x hx (List.append_cancel_right (List.cons.inj e).2).symm)
                generalize decide (hex2 b = mid) = ok at *
                generalize hsb : str b = sb at *
                have Hsb := Lib.hid hsb
                clear hsb
                go_wp2
                refine bodyPost_ret (v := .tuple #[.agg #[.int .i64 3, .int .i64 0, .float .f64 0, .string sb, .slice none 0 0], .bool ok]) (by simp [results, Tryz.results61, go_sem, *]) rfl ?_
                rw [← Hsb.out]
                refine ⟨.mk 3 0 0 b [], _, ok, rfl, vin_plain (by omega) (by omega) (by omega) Hbb.out Hlb.out, set5 Hb3.out _ _ _ _ _, fun h => ⟨Hok.out.1 h, fun t => rightN_plain ?_ ?_ ?_⟩, Hok.out.2⟩
                · exact ⟨.inr rfl, .inr (show bitsB 0 = 0 by decide), .inl rfl, .inr rfl⟩
                · show (3 : Int) ≠ 4; omega
                · show (0 : Int) ≤ 3 ∧ (3 : Int) ≤ 4; omega
              · have H34 := Lib.hid (show ∀ s : List Nat, (∀ c ∈ s, c < 256) → l ≠ 34 :: (hex2 s ++ [34]) from fun s _ e => p4 (ends34 e).2.2.1)
                have hne34 : ((l.getD (l.length - 1) 0 : Nat) : Int) ≠ 34 := by omega
                have hbq34 : ((((l.getD (l.length - 1) 0 : Nat) : Int)) == 34) = false := beq_eq_false_iff_ne.2 hne34
                rw [p3] at hg0
                clear hg p1 p3 p4 hne35 hbq35
                generalize l.getD (l.length - 1) 0 = c1 at *
                go_wp2
                refine bodyPost_ret (v := .tuple #[.agg #[.int .i64 0, .int .i64 0, .float .f64 0, .string (str []), .slice none 0 0], .bool false]) (by simp [results, Tryz.results61, go_sem, *]; rfl) rfl ?_
                exact ⟨.mk 0 0 0 [] [], _, false, rfl, vin_plain (by omega) (by omega) (by omega) (by simp) (by simp), set5 Hb2.out _ _ _ _ _, fun h => (by cases h), fun _ => atom_none Q0.out Hno.out H35.out H34.out⟩
            · have H34 := Lib.hid (show ∀ s : List Nat, (∀ c ∈ s, c < 256) → l ≠ 34 :: (hex2 s ++ [34]) from fun s _ e => p3 (ends34 e).2.1)
              have hne34 : ((l.getD 0 0 : Nat) : Int) ≠ 34 := by omega
              have hbq34 : ((((l.getD 0 0 : Nat) : Int)) == 34) = false := beq_eq_false_iff_ne.2 hne34
              clear hg hg1 p1 p3
              generalize l.getD 0 0 = c0 at *
              go_wp2
              refine bodyPost_ret (v := .tuple #[.agg #[.int .i64 0, .int .i64 0, .float .f64 0, .string (str []), .slice none 0 0], .bool false]) (by simp [results, Tryz.results61, go_sem, *]; rfl) rfl ?_
              exact ⟨.mk 0 0 0 [] [], _, false, rfl, vin_plain (by omega) (by omega) (by omega) (by simp) (by simp), set5 Hb2.out _ _ _ _ _, fun h => (by cases h), fun _ => atom_none Q0.out Hno.out H35.out H34.out⟩
          · have H34 := Lib.hid (show ∀ s : List Nat, (∀ c ∈ s, c < 256) → l ≠ 34 :: (hex2 s ++ [34]) from fun s _ e => p2 (ends34 e).1)
            have hl2 : ¬ (2 : Int) ≤ (l.length : Int) := by omega
            clear hg p1
            generalize l.getD 0 0 = c0 at *
            go_wp2
            refine bodyPost_ret (v := .tuple #[.agg #[.int .i64 0, .int .i64 0, .float .f64 0, .string (str []), .slice none 0 0], .bool false]) (by simp [results, Tryz.results61, go_sem, *]; rfl) rfl ?_
            exact ⟨.mk 0 0 0 [] [], _, false, rfl, vin_plain (by omega) (by omega) (by omega) (by simp) (by simp), set5 Hb2.out _ _ _ _ _, fun h => (by cases h), fun _ => atom_none Q0.out Hno.out H35.out H34.out⟩
      · have H35 := Lib.hid (show ∀ b, b < 18446744073709551616 → l ≠ 35 :: textL (bitsB b) from fun b _ e => p0 (by rw [e]; simp))
        have H34 := Lib.hid (show ∀ s : List Nat, (∀ c ∈ s, c < 256) → l ≠ 34 :: (hex2 s ++ [34]) from fun s _ e => p0 (by rw [e]; simp))
        obtain ⟨⟨z0, z1, z2, z3, z4⟩, ⟨y0, y1, y2, y3, y4⟩⟩ := res_cells H2.out
        have hl0 : ¬ (0 : Int) < (l.length : Int) := by omega
        have hl2 : ¬ (2 : Int) ≤ (l.length : Int) := by omega
        clear hg
        go_wp2
        refine bodyPost_ret (v := .tuple #[.agg #[.int .i64 0, .int .i64 0, .float .f64 0, .string (str []), .slice none 0 0], .bool false]) (by simp [results, Tryz.results61, go_sem, *]; rfl) rfl ?_
        exact ⟨.mk 0 0 0 [] [], _, false, rfl, vin_plain (by omega) (by omega) (by omega) (by simp) (by simp), set5 Hb2.out _ _ _ _ _, fun h => (by cases h), fun _ => atom_none Q0.out Hno.out H35.out H34.out⟩
end Go.Proofs.YtpjadeihackkpaaGreatDoor

