import Derived.Test.YtpnfnmeilhiebaaGreatDoorMP7
import Derived.Maps.AppendAt
import Derived.Test.YtpnfnmeilhiebaaGreatDoorMP5
import Derived.Test.YtpnfnmeilhiebaaGreatDoorMP18
import Derived.Test.YtpnfnmeilhiebaaGreatDoorMP6
import Derived.Test.YtpnfnmeilhiebaaGreatDoorMP10
import Derived.Test.YtpnfnmeilhiebaaGreatDoorMP16
import Derived.Lib.LaidTab
import Derived.Lib.ItoaNum
import Derived.Test.YtpnfnmeilhiebaaGreatDoorMP1
import Derived.Lib.SlBytesConst
import Derived.Deep.RegionLawGrows
import Derived.Deep.AppendLies
/- Lists of values that a call has made itself: where their rows lie, and how they grow. -/
namespace Go.Proofs.YtpnfnmeilhiebaaGreatDoor
open Go.RowKit Fl

mutual
/-- The cells x hold the value v; the rows of its lists lie in blocks that q allows. -/
def VInP (q : Nat → Prop) (w : World) : V → Array Value → Prop
  | .mk k n f s l, x => (-9223372036854775808 ≤ k ∧ k ≤ 9223372036854775807) ∧ (-9223372036854775808 ≤ n ∧ n ≤ 9223372036854775807) ∧ f < 18446744073709551616 ∧ (∀ c ∈ s, c < 256) ∧ s.length ≤ 9223372036854775807 ∧
    ∃ a cap, x = cells5 k n f s a l.length cap ∧ l.length ≤ cap ∧ cap ≤ 9223372036854775807 ∧ (l = [] ∨ ∃ b o, a = some ⟨b, o, none⟩ ∧ q b ∧ VsInP q w l b o)
def VsInP (q : Nat → Prop) (w : World) : List V → Nat → Nat → Prop
  | [], _, _ => True
  | v :: r, b, o => (∃ x : Array Value, x.size = 5 ∧ (∀ j, j < 5 → w.cell? ⟨b, o + j, none⟩ = x[j]?) ∧ VInP q w v x) ∧ VsInP q w r b (o + 5)
end

mutual
theorem VInP.weak {q : Nat → Prop} {w : World} : ∀ (v : V) (x : Array Value), VInP q w v x → VIn w v x
  | .mk k n f s l, x, h => by
    rw [VInP] at h
    rw [VIn]
    obtain ⟨h1, h2, h3, h4, h5, a, cap, h6, h7, h8, h9⟩ := h
    refine ⟨h1, h2, h3, h4, h5, a, cap, h6, h7, h8, ?_⟩
    rcases h9 with h9 | ⟨b, o, ha, _, hv⟩
    · exact .inl h9
    · exact .inr ⟨b, o, ha, VsInP.weak l b o hv⟩
theorem VsInP.weak {q : Nat → Prop} {w : World} : ∀ (l : List V) (b o : Nat), VsInP q w l b o → VsIn w l b o
  | [], _, _, _ => by rw [VsIn]; trivial
  | v :: r, b, o, h => by
    rw [VsInP] at h
    rw [VsIn]
    obtain ⟨⟨x, hx, hc, hv⟩, hr⟩ := h
    exact ⟨⟨x, hx, hc, VInP.weak v x hv⟩, VsInP.weak r b (o + 5) hr⟩
end

mutual
theorem VInP.turn {q q' : Nat → Prop} {w w' : World} (hq : ∀ b, q b → q' b) (hw : ∀ p : Addr, q p.block → w'.cell? p = w.cell? p) : ∀ (v : V) (x : Array Value), VInP q w v x → VInP q' w' v x
  | .mk k n f s l, x, h => by
    rw [VInP] at h ⊢
    obtain ⟨h1, h2, h3, h4, h5, a, cap, h6, h7, h8, h9⟩ := h
    refine ⟨h1, h2, h3, h4, h5, a, cap, h6, h7, h8, ?_⟩
    rcases h9 with h9 | ⟨b, o, ha, hb, hv⟩
    · exact .inl h9
    · exact .inr ⟨b, o, ha, hq b hb, VsInP.turn hq hw l b o hb hv⟩
theorem VsInP.turn {q q' : Nat → Prop} {w w' : World} (hq : ∀ b, q b → q' b) (hw : ∀ p : Addr, q p.block → w'.cell? p = w.cell? p) : ∀ (l : List V) (b o : Nat), q b → VsInP q w l b o → VsInP q' w' l b o
  | [], _, _, _, _ => by rw [VsInP]; trivial
  | v :: r, b, o, hb, h => by
    rw [VsInP] at h ⊢
    obtain ⟨⟨x, hx, hc, hv⟩, hr⟩ := h
    exact ⟨⟨x, hx, fun j hj => by rw [hw ⟨b, o + j, none⟩ hb]; exact hc j hj, VInP.turn hq hw v x hv⟩, VsInP.turn hq hw r b (o + 5) hb hr⟩
end

theorem VInP.size {q : Nat → Prop} {w : World} {v : V} {x : Array Value} (h : VInP q w v x) : x.size = 5 := (VInP.weak v x h).size

/-- A list of values of the call's own: its row, and its elements' rows in other blocks. -/
def OwnVs (w : World) (base : Nat) (v : Value) (l : List V) : Prop :=
  ∃ cs : List (Array Value), cs.length = l.length ∧ w.ownsRow base 25 5 v l.length (cs.flatMap Array.toList) ∧
    ∀ (i : Nat) (x : Array Value) (u : V), cs[i]? = some x → l[i]? = some u → VInP (fun b => base ≤ b ∧ some b ≠ v.ownBlock ∧ b < w.heap.size) w u x

theorem OwnVs.nil (w : World) (base : Nat) : OwnVs w base (.slice none 0 0) [] := ⟨[], rfl, ⟨rfl, .inl ⟨rfl, rfl⟩⟩, fun i x u h => by simp at h⟩

theorem OwnVs.snoc {w w' : World} {base : Nat} {v v' : Value} {l : List V} {cs : List (Array Value)} {u : V} {x : Array Value} (hlen : cs.length = l.length)
    (hel : ∀ (i : Nat) (x : Array Value) (u : V), cs[i]? = some x → l[i]? = some u → VInP (fun b => base ≤ b ∧ some b ≠ v.ownBlock ∧ b < w.heap.size) w u x)
    (hu : VInP (fun b => base ≤ b ∧ some b ≠ v.ownBlock ∧ b < w.heap.size) w u x) (hown : w'.ownsRow base 25 5 v' (l.length + 1) (cs.flatMap Array.toList ++ x.toList))
    (hg : w.grownBy w' v.ownBlock) (hb : v'.ownBlock = v.ownBlock ∨ v'.ownBlock = some w.heap.size) : OwnVs w' base v' (l ++ [u]) := by
  have hs : w.heap.size ≤ w'.heap.size := hg.size
  have hturn : ∀ (y : Array Value) (z : V), VInP (fun b => base ≤ b ∧ some b ≠ v.ownBlock ∧ b < w.heap.size) w z y → VInP (fun b => base ≤ b ∧ some b ≠ v'.ownBlock ∧ b < w'.heap.size) w' z y := by
    intro y z hz
    have k1 : ∀ b, (base ≤ b ∧ some b ≠ v.ownBlock ∧ b < w.heap.size) → (base ≤ b ∧ some b ≠ v'.ownBlock ∧ b < w'.heap.size) := by
      intro b hb1
      refine ⟨hb1.1, ?_, by omega⟩
      rcases hb with e | e
      · rw [e]; exact hb1.2.1
      · rw [e]
        intro e2
        have e3 : b = w.heap.size := Option.some.inj e2
        omega
    have k2 : ∀ p : Addr, (base ≤ p.block ∧ some p.block ≠ v.ownBlock ∧ p.block < w.heap.size) → w'.cell? p = w.cell? p := by
      intro p hp
      unfold World.cell?
      rw [hg.block p.block hp.2.2 hp.2.1]
    exact VInP.turn k1 k2 z y hz
  refine ⟨cs ++ [x], by rw [List.length_append, List.length_append, hlen]; rfl, ?_, fun i y z hy hz => ?_⟩
  · rw [List.length_append, List.flatMap_append]
    simpa using hown
  · rcases Nat.lt_or_ge i cs.length with hi | hi
    · rw [List.getElem?_append_left hi] at hy
      rw [List.getElem?_append_left (by omega)] at hz
      exact hturn y z (hel i y z hy hz)
    · rw [List.getElem?_append_right hi] at hy
      rw [List.getElem?_append_right (by omega), ← hlen] at hz
      cases hk : i - cs.length with
      | zero =>
        rw [hk] at hy hz
        simp at hy hz
        subst hy
        subst hz
        exact hturn x u hu
      | succ m => rw [hk] at hy; simp at hy

theorem flat_at : ∀ (cs : List (Array Value)), (∀ x ∈ cs, x.size = 5) → ∀ (i : Nat) (x : Array Value), cs[i]? = some x → ∀ j, j < 5 → (cs.flatMap Array.toList)[i * 5 + j]? = x[j]?
  | [], _, i, x, h, _, _ => by simp at h
  | y :: r, hs, i, x, h, j, hj => by
    have hy : y.toList.length = 5 := by rw [Array.length_toList]; exact hs y (by simp)
    rw [List.flatMap_cons]
    cases i with
    | zero =>
      simp at h
      subst h
      rw [List.getElem?_append_left (by omega)]
      simp
    | succ i =>
      have ih := flat_at r (fun z hz => hs z (by simp [hz])) i x (by simpa using h) j hj
      rw [List.getElem?_append_right (by omega), hy, show (i + 1) * 5 + j - 5 = i * 5 + j by omega]
      exact ih

theorem VsInP.mk {q : Nat → Prop} {w : World} {b : Nat} : ∀ (l : List V) (o : Nat), (∀ (i : Nat) (u : V), l[i]? = some u → ∃ x : Array Value, x.size = 5 ∧ (∀ j, j < 5 → w.cell? ⟨b, o + i * 5 + j, none⟩ = x[j]?) ∧ VInP q w u x) → VsInP q w l b o
  | [], _, _ => by rw [VsInP]; trivial
  | v :: r, o, h => by
    rw [VsInP]
    obtain ⟨x, hx, hc, hv⟩ := h 0 v rfl
    refine ⟨⟨x, hx, fun j hj => by have := hc j hj; simpa using this, hv⟩, VsInP.mk r (o + 5) (fun i u hu => ?_)⟩
    obtain ⟨y, hy, hd, hz⟩ := h (i + 1) u (by simpa using hu)
    exact ⟨y, hy, fun j hj => by rw [← hd j hj]; congr 2; omega, hz⟩

/-- A list of the call's own, as a list in memory. -/
theorem OwnVs.lies {w : World} {base : Nat} {v : Value} {l : List V} (h : OwnVs w base v l) : ∃ a cap, v = .slice a l.length cap ∧ l.length ≤ cap ∧ cap ≤ 9223372036854775807 ∧
    (l = [] ∨ ∃ g, a = some ⟨g, 0, none⟩ ∧ (base ≤ g ∧ g < w.heap.size) ∧ VsInP (fun b => base ≤ b ∧ b < w.heap.size) w l g 0) := by
  obtain ⟨cs, hlen, ⟨_, hrow⟩, hel⟩ := h
  rcases hrow with ⟨rfl, h0⟩ | ⟨g, cap, cur, rfl, hbg, hg, hle, hcm, hsz, htake⟩
  · have e : l = [] := List.length_eq_zero_iff.1 h0
    subst e
    exact ⟨none, 0, rfl, Nat.le_refl _, by omega, .inl rfl⟩
  · have hglt : g < w.heap.size := (Array.getElem?_eq_some_iff.1 hg).1
    refine ⟨_, cap, rfl, hle, by rw [maxLen_nat] at hcm; exact hcm, .inr ⟨g, rfl, ⟨hbg, hglt⟩, VsInP.mk l 0 (fun i u hu => ?_)⟩⟩
    have hi : i < l.length := (List.getElem?_eq_some_iff.1 hu).1
    have hx : cs[i]? = some (cs[i]'(by omega)) := List.getElem?_eq_getElem (by omega)
    have hsz5 : ∀ x ∈ cs, x.size = 5 := by
      intro x hx
      obtain ⟨k, hk, rfl⟩ := List.getElem_of_mem hx
      exact (hel k _ l[k] (List.getElem?_eq_getElem hk) (List.getElem?_eq_getElem (by omega))).size
    have hv := hel i _ u hx hu
    refine ⟨_, hv.size, fun j hj => ?_, VInP.turn (fun b hb => ⟨hb.1, hb.2.2⟩) (fun _ _ => rfl) u _ hv⟩
    rw [cell_of_row w g _ cur _ _ hg, ← flat_at cs hsz5 i _ hx j hj, ← htake, Nat.zero_add, List.getElem?_take, if_pos (by omega), Array.getElem?_toList]
end Go.Proofs.YtpnfnmeilhiebaaGreatDoor

/- The walk of the reference's atom. -/
namespace Go.Proofs.YtpnfnmeilhiebaaGreatDoor
open Go.RowKit Fl

theorem str_extract (l : List Nat) (i j : Nat) : (str l).extract i j = str ((l.take j).drop i) := by
  apply ByteArray.ext
  unfold str
  rw [ByteArray.data_extract]
  apply Array.ext'
  simp [List.map_take, List.map_drop, List.drop_take]

mutual
/-- A value as a world holds it: numbers and bytes in their bounds. -/
def soundV : V → Prop
  | .mk _ n f s l => (-9223372036854775808 ≤ n ∧ n ≤ 9223372036854775807) ∧ f < 18446744073709551616 ∧ (∀ c ∈ s, c < 256) ∧ soundL l
def soundL : List V → Prop
  | [] => True
  | v :: r => soundV v ∧ soundL r
end

mutual
theorem soundV.words : ∀ v : V, soundV v → wordsV v
  | .mk k n f s l, h => by
    rw [soundV] at h
    rw [wordsV]
    exact ⟨h.2.1, soundL.words l h.2.2.2⟩
theorem soundL.words : ∀ l : List V, soundL l → wordsL l
  | [], _ => by rw [wordsL]; trivial
  | v :: r, h => by
    rw [soundL] at h
    rw [wordsL]
    exact ⟨soundV.words v h.1, soundL.words r h.2⟩
end

mutual
theorem VIn.sound {w : World} : ∀ (v : V) (x : Array Value), VIn w v x → soundV v
  | .mk k n f s l, x, h => by
    rw [VIn] at h
    obtain ⟨_, hn, hf, hs, _, a, cap, _, _, _, h9⟩ := h
    rw [soundV]
    refine ⟨hn, hf, hs, ?_⟩
    rcases h9 with rfl | ⟨b, o, _, hv⟩
    · rw [soundL]; trivial
    · exact VsIn.sound l b o hv
theorem VsIn.sound {w : World} : ∀ (l : List V) (b o : Nat), VsIn w l b o → soundL l
  | [], _, _, _ => by rw [soundL]; trivial
  | v :: r, b, o, h => by
    rw [VsIn] at h
    obtain ⟨⟨x, _, _, hv⟩, hr⟩ := h
    rw [soundL]
    exact ⟨VIn.sound v x hv, VsIn.sound r b (o + 5) hr⟩
end

/-- What the text of a value that is no list looks like. -/
theorem plain_text {t : Nat} {u : V} {l : List Nat} (h : rightN t u = true) (hs : soundV u) (hk : u.kind ≠ 4) (e : textV u = l) :
    l = [110, 105, 108] ∨ (∃ n : Int, -9223372036854775808 ≤ n ∧ n ≤ 9223372036854775807 ∧ decL n = l) ∨ (∃ b, b < 18446744073709551616 ∧ l = 35 :: textL (bitsB b)) ∨ ∃ s : List Nat, (∀ c ∈ s, c < 256) ∧ l = 34 :: (hex2 s ++ [34]) := by
  obtain ⟨k, n, f, s, q⟩ := u
  obtain ⟨_, h0, h4, _⟩ := right_parts h
  change k ≠ 4 at hk
  rw [soundV] at hs
  rw [textV] at e
  by_cases h1 : k = 1
  · rw [if_pos h1] at e
    exact .inr (.inl ⟨n, hs.1.1, hs.1.2, e⟩)
  · rw [if_neg h1] at e
    by_cases h2 : k = 2
    · rw [if_pos h2] at e
      exact .inr (.inr (.inl ⟨f, hs.2.1, e.symm⟩))
    · rw [if_neg h2] at e
      by_cases h3 : k = 3
      · rw [if_pos h3] at e
        exact .inr (.inr (.inr ⟨s, hs.2.2.1, e.symm⟩))
      · rw [if_neg h3, if_neg hk] at e
        exact .inl e.symm

/-- What atom answers. -/
def AtomEnd (w : World) (l : List Nat) (e : Ending) (w' : World) : Prop :=
  ∃ (v : V) (x : Array Value) (ok : Bool), e = .returned (.tuple #[.agg x, .bool ok]) ∧ VInP (fun _ => False) w' v x ∧ Below w.heap.size w w' ∧ (ok = true → textV v = l ∧ ∀ t, rightN t v = true) ∧
    (ok = false → ∀ (t : Nat) (u : V), rightN t u = true → soundV u → u.kind ≠ 4 → textV u ≠ l)

/-- A value without a list, in its five words. -/
theorem vin_plain {w : World} {k n : Int} {f : Nat} {s : List Nat} (hk : 0 ≤ k ∧ k ≤ 4) (hn : -9223372036854775808 ≤ n ∧ n ≤ 9223372036854775807) (hf : f < 18446744073709551616) (hs : ∀ c ∈ s, c < 256) (hss : s.length ≤ 9223372036854775807) :
    VInP (fun _ => False) w (.mk k n f s []) #[.int .i64 k, .int .i64 n, .float .f64 f, .string (str s), .slice none 0 0] := by
  rw [VInP]
  exact ⟨by omega, hn, hf, hs, hss, none, 0, rfl, Nat.le_refl _, by omega, .inl rfl⟩

theorem atom_none {l : List Nat} (h0 : l ≠ [110, 105, 108]) (hN : ∀ n : Int, -9223372036854775808 ≤ n → n ≤ 9223372036854775807 → decL n ≠ l) (h35 : ∀ b, b < 18446744073709551616 → l ≠ 35 :: textL (bitsB b))
    (h34 : ∀ s : List Nat, (∀ c ∈ s, c < 256) → l ≠ 34 :: (hex2 s ++ [34])) : ∀ (t : Nat) (u : V), rightN t u = true → soundV u → u.kind ≠ 4 → textV u ≠ l := by
  intro t u h hs hk e
  rcases plain_text h hs hk e with e | ⟨n, h1, h2, e⟩ | ⟨b, hb, e⟩ | ⟨x, hx, e⟩
  · exact h0 e
  · exact hN n h1 h2 e
  · exact h35 b hb e
  · exact h34 x hx e

theorem ends34 {l x : List Nat} (h : l = 34 :: (x ++ [34])) : 2 ≤ l.length ∧ l.getD 0 0 = 34 ∧ l.getD (l.length - 1) 0 = 34 ∧ (l.take (l.length - 1)).drop 1 = x := by
  subst h
  refine ⟨by simp, rfl, ?_, ?_⟩
  · simp
  · simp

theorem mid34 {l : List Nat} (h2 : 2 ≤ l.length) (h0 : l.getD 0 0 = 34) (h1 : l.getD (l.length - 1) 0 = 34) : l = 34 :: ((l.take (l.length - 1)).drop 1 ++ [34]) := by
  cases l with
  | nil => simp at h2
  | cons c r =>
    have e0 : c = 34 := by simpa using h0
    rcases List.eq_nil_or_concat r with e | ⟨q, d, e⟩
    · rw [e] at h2; simp at h2
    · subst e0
      subst e
      have e1 : d = 34 := by simpa using h1
      subst e1
      simp

end Go.Proofs.YtpnfnmeilhiebaaGreatDoor

/- The texts of contents that are no lists. -/
namespace Go.Proofs.YtpnfnmeilhiebaaGreatDoor
open Go.RowKit Go.Shelf Fl

/-- The table of powers of ten that strconv keeps. -/
def Pow10 (w : World) : Prop := Lib.TabIs Tryz.prog w "internal/strconv.uint64pow10" .u64 Lib.pow10Tab

theorem below_growN (B : Nat) (w : World) (hB : B ≤ w.heap.size) (k : Nat) (os : Array Obj) : Below B w (Sort.grow (w.drewN k) os) :=
  ⟨rfl, rfl, rfl, by show w.heap.size ≤ (w.heap ++ os).size; rw [Array.size_append]; omega, fun j hj => by
    show (w.heap ++ os)[j]? = w.heap[j]?
    rw [Array.getElem?_append_left (by omega)]⟩

theorem dec_digits : ∀ (n : Nat), Lib.decDigits n = (decD n).map UInt8.ofNat := by
  intro n
  induction n using Nat.strongRecOn with
  | _ n ih =>
    by_cases h : n < 10
    · rw [Lib.decDigits, dif_pos h, decD_low h]; rfl
    · rw [Lib.decDigits, dif_neg h, decD_high h, List.map_append, ih (n / 10) (by omega)]; rfl

theorem itoa_str (n : Int) : (⟨(Lib.itoa n).toArray⟩ : ByteArray) = str (decL n) := by
  unfold str
  congr 2
  unfold Lib.itoa decL
  split
  · rw [dec_digits]; rfl
  · rw [dec_digits, show n.toNat = n.natAbs by omega]

theorem nilText_any (w : World) : Calls Tryz.prog 153 #[.agg #[]] w fun e w' => e = .returned (.string (str [110, 105, 108])) ∧ Below w.heap.size w w' := by
  go_enter Tryz.func153, Tryz.ntmps153
  go_wp2
  go_ret
  exact ⟨rfl, (Below.refl _ _).alloc (Nat.le_refl _) _⟩

theorem intText_any (n : Int) (w : World) (h0 : -9223372036854775808 ≤ n) (h1 : n ≤ 9223372036854775807) (ht : Pow10 w) :
    Calls Tryz.prog 155 #[.int .i64 n] w fun e w' => e = .returned (.string (str (decL n))) ∧ Below w.heap.size w w' := by
  have H := Lib.hid (Tryz.strconv_FormatInt_10 n h0 h1 w ht)
  rw [itoa_str] at H
  clear h0 h1 ht
  go_enter Tryz.func155, Tryz.ntmps155
  go_wp2_with fail
  refine H.out.mono ?_
  rintro e w' ⟨rfl, k, os, rfl⟩
  go_wp2
  go_ret
  exact ⟨rfl, below_growN _ _ (Nat.le_refl _) _ _⟩

theorem tl_len (b : Nat) : (textL b).length ≤ 17 := by
  unfold textL
  split
  · simp
  split
  · simp
  split
  · simp
  split
  · simp
  split
  · simp
  · rw [List.length_cons, hexs_len]; omega

theorem floatText_any (b : Nat) (w : World) (hb : b < 18446744073709551616) (ht : Tab16 w) :
    Calls Tryz.prog 160 #[.float .f64 b] w fun e w' => e = .returned (.string (str (35 :: textL (bitsB b)))) ∧ Below w.heap.size w w' := by
  have H := Lib.hid (text_any b w hb ht)
  have hs : (⟨#[35]⟩ : ByteArray) ++ str (textL (bitsB b)) = str (35 :: textL (bitsB b)) := str_append [35] (textL (bitsB b))
  have Hs := Lib.hid hs
  have hq := str_size (textL (bitsB b))
  have hl := tl_len (bitsB b)
  clear hb ht hs
  rw [← Hs.out]
  go_enter Tryz.func160, Tryz.ntmps160
  go_wp2_with fail
  refine H.out.mono ?_
  rintro e w' ⟨rfl, hb⟩
  have Hb := Lib.hid hb
  clear hb
  go_wp2
  go_ret
  exact ⟨rfl, Hb.out⟩
end Go.Proofs.YtpnfnmeilhiebaaGreatDoor

/- The text of a content of bytes. -/

namespace Go.Proofs.YtpnfnmeilhiebaaGreatDoor
open Go.RowKit Go.Shelf Fl

/-- What is written so far: the first row, which the program lays, or one of the call's own. -/
def TxtRel (w wr : World) (l : List Nat) (v : Value) : Prop :=
  (l = [34] ∧ v = .slice (some ⟨w.heap.size, 0, none⟩) 1 1 ∨ wr.ownsRow (w.heap.size + 1) 5 1 v l.length (u8s l)) ∧ wr.heap[w.heap.size]? = some (.cells #[.int .u8 34] 5 (1, 2)) ∧ Below w.heap.size w wr

theorem TxtRel.keep {w wr W : World} {l : List Nat} {v : Value} (h : TxtRel w wr l v) (hb : Below wr.heap.size wr W) : TxtRel w W l v := by
  obtain ⟨h1, h2, h3⟩ := h
  have hlt : w.heap.size < wr.heap.size := (Array.getElem?_eq_some_iff.1 h2).1
  refine ⟨h1.imp id (fun h => own_below h hb), (hb.block _ hlt).trans h2, h3.trans (hb.mono h3.size)⟩

theorem TxtRel.bytes {w W : World} {l : List Nat} {v : Value} (h : TxtRel w W l v) (hl : ∀ c ∈ l, c < 256) : ∃ a n cap, v = .slice a n cap ∧ Bytes W a n cap l := by
  obtain ⟨h1, h2, _⟩ := h
  rcases h1 with ⟨rfl, rfl⟩ | h1
  · refine ⟨_, _, _, rfl, rfl, Nat.le_refl _, by omega, hl, (fun h => by cases h), fun _ => ⟨w.heap.size, 0, rfl, fun i hi => ?_⟩⟩
    obtain rfl : i = 0 := by omega
    simp [World.cell?, h2]
  · obtain ⟨p, cp, e, hB⟩ := own_slice h1 hl
    exact ⟨p, _, cp, e, hB⟩

theorem TxtRel.form {w W : World} {l : List Nat} {v : Value} (h : TxtRel w W l v) (hl : l ≠ []) : ∃ g cap, v = .slice (some ⟨g, 0, none⟩) l.length cap := by
  rcases h.1 with ⟨rfl, rfl⟩ | h1
  · exact ⟨_, _, rfl⟩
  · obtain ⟨g, cap, e, _⟩ := h1.form (by cases l with | nil => exact absurd rfl hl | cons _ _ => simp)
    exact ⟨g, cap, e⟩

/-- 'b = append(b, x, y)' as one step of a region that draws. -/
theorem step_txt {ops : Array Oper} {o : Oper} {a : Act} {W : World} {K : Act → World → Prop} {Q : Exit → Act → World → Prop} {E : Prop}
    (hg : o.guard = none) (s x : Operand) (hop : o.op = Op.call { callee := Callee.builtin Builtin.append, args := #[s, x], argTypes := #[28, 28] })
    (w : World) (l : List Nat) (v : Value) (hs : a.eval s = v) (hT : TxtRel w W l v) (ad : Addr) (c : Nat) (p q : Nat) (hx : a.eval x = .slice (some ad) 2 c) (hc : ∀ j u, (u8s [p, q])[j]? = some u → W.cell? (ad.add j) = some u)
    (hn : l.length ≤ 10000000)
    (hK : ∀ g cap w', TxtRel w w' (l ++ [p, q]) (.slice (some ⟨g, 0, none⟩) (l.length + 2) cap) → K (a.put o.dst (.slice (some ⟨g, 0, none⟩) (l.length + 2) cap)) w') :
    if Region.wanted o (yielded ops a.tmps) = true then Oper.wp Tryz.prog o a W K Q else E := by
  obtain ⟨i0, hi, hz0, hz1, hz2⟩ := info_parts info_u8
  have hsz : w.heap.size < W.heap.size := (Array.getElem?_eq_some_iff.1 hT.2.1).1
  rcases hT.1 with ⟨rfl, rfl⟩ | hown
  · refine step_append_grows hg s x 28 hop 5 i0 _ 1 1 Tryz.underlying28 hi hz0 hz1 hz2 rfl (by decide) _ 1 1 (u8s [34]) hs (fun h => by cases h) rfl (fun b e j u hj => ?_) ad 2 c (u8s [p, q]) hx rfl hc (u8s_one _) (by omega) (by rw [maxLen_nat]; omega) (by omega) ?_
    · cases e
      obtain ⟨hj', rfl⟩ := u8s_get hj
      obtain rfl : j = 0 := by simp at hj'; omega
      rw [Lib.add_plain]
      simp [World.cell?, hT.2.1]
    · intro v' w' h1 h2
      obtain ⟨g, cap, rfl, _⟩ := h1.form (by omega)
      have e2 : (1 + 2 : Nat) = [34].length + 2 := rfl
      exact hK g cap w' ⟨.inr (own_base (base' := w.heap.size + 1) h1 (by omega)), (h2.block _ hsz (by simp)).trans hT.2.1, hT.2.2.grown h2 (by omega) (fun k hk => by cases hk)⟩
  · refine step_append_lies W hg s x 28 hop (w.heap.size + 1) 5 i0 _ 1 1 Tryz.underlying28 hi hz0 hz1 hz2 rfl (by decide) v l.length (u8s l) hs hown ad 2 c (u8s [p, q]) hx rfl hc (u8s_one _) (by omega) (by rw [maxLen_nat]; omega) (by omega) (by omega) _ rfl ?_
    intro g cap w' h1 h2 _ _
    have hne : ∀ k, v.ownBlock = some k → w.heap.size + 1 ≤ k := by
      intro k hk
      rcases hown.2 with ⟨e, _⟩ | ⟨g', cap', cur, e, hbg, _⟩
      · rw [e] at hk; cases hk
      · rw [e] at hk
        have e2 : g' = k := Option.some.inj hk
        omega
    refine hK g cap w' ⟨.inr ?_, (h2.block _ hsz (fun e => ?_)).trans hT.2.1, hT.2.2.grown h2 (by omega) (fun k hk => by have := hne k hk; omega)⟩
    · rw [List.length_append, u8s_append]; exact h1
    · have := hne _ e.symm; omega

theorem hexc_all : ∀ d : Fin 16, ∀ h : d.val < (ByteArray.mk #[48, 49, 50, 51, 52, 53, 54, 55, 56, 57, 97, 98, 99, 100, 101, 102]).size, (((ByteArray.mk #[48, 49, 50, 51, 52, 53, 54, 55, 56, 57, 97, 98, 99, 100, 101, 102])[d.val]'h).toNat : Int) = ((hexD d.val : Nat) : Int) := by decide +kernel
theorem hexc_at {d : Nat} (hd : d < 16) (h : d < (ByteArray.mk #[48, 49, 50, 51, 52, 53, 54, 55, 56, 57, 97, 98, 99, 100, 101, 102]).size) : (((ByteArray.mk #[48, 49, 50, 51, 52, 53, 54, 55, 56, 57, 97, 98, 99, 100, 101, 102])[d]'h).toNat : Int) = ((hexD d : Nat) : Int) := hexc_all ⟨d, hd⟩ h
theorem and15b : ∀ c : Fin 256, bits .and .u8 (c.val : Int) 15 = ((c.val % 16 : Nat) : Int) := by decide +kernel

theorem hexD_lt : ∀ d : Fin 16, hexD d.val < 256 := by decide +kernel

theorem hex2_byte {l : List Nat} (hl : ∀ c ∈ l, c < 256) : ∀ c ∈ hex2 l, c < 256 := by
  intro c hc
  unfold hex2 at hc
  obtain ⟨x, hx, hc⟩ := List.mem_flatMap.1 hc
  have hx := hl x hx
  have h1 := hexD_lt ⟨x / 16, by omega⟩
  have h2 := hexD_lt ⟨x % 16, by omega⟩
  simp at hc h1 h2
  rcases hc with rfl | rfl
  · exact h1
  · exact h2

set_option maxRecDepth 100000 in
theorem textText_any (s : List Nat) (w : World) (hs : ∀ c ∈ s, c < 256) (hn : s.length ≤ 1000000) :
    Calls Tryz.prog 162 #[.string (str s)] w fun e w' => e = .returned (.string (str (34 :: (hex2 s ++ [34])))) ∧ Below w.heap.size w w' := by
  have hsz := str_size s
  have kc := fun (w : World) (C : Array Value) (n c : Nat) => Lib.run_convert_bytes_const (P := Tryz.prog) w 28 5 C n c Tryz.underlying28 Tryz.underlying5
  have H0 := Lib.hid (show TxtRel w (w.alloc (.cells #[.int .u8 34] 5 (1, 2))) (34 :: hex2 (s.take 0)) (.slice (some ⟨w.heap.size, 0, none⟩) 1 1) from
    ⟨.inl ⟨rfl, rfl⟩, heap_alloc_new w _, (Below.refl w.heap.size w).alloc (Nat.le_refl _) _⟩)
  have HG := Lib.hid (get_str hs)
  have Hs := Lib.hid hs
  clear hs
  go_enter Tryz.func162, Tryz.ntmps162
  go_wp2
  go_loopw [3, 9] (fun v i wr => ∃ j : Nat, j ≤ s.length ∧ i = .int .i64 (j : Int) ∧ TxtRel w wr (34 :: hex2 (s.take j)) v) (fun _ i _ => s.length - (intOf i).toNat)
  case atStart => exact ⟨0, Nat.zero_le _, rfl, H0.out⟩
  case round =>
    obtain ⟨j, hj, rfl, hR⟩ := hrel
    have HR := Lib.hid hR
    obtain ⟨g, cap, rfl⟩ := hR.form (by simp)
    clear hR
    by_cases hlt : j < s.length
    · have hji : (j : Int) < (s.length : Int) := by omega
      have hgl : j < (str s).size := by rw [hsz]; exact hlt
      have hgj := HG.out j hgl
      have hc : s.getD j 0 < 256 := by
        rw [List.getD_eq_getElem?_getD, List.getElem?_eq_getElem hlt]
        exact Hs.out _ (List.getElem_mem _)
      have hxs : 34 :: hex2 (s.take (j + 1)) = (34 :: hex2 (s.take j)) ++ [hexD (s.getD j 0 / 16), hexD (s.getD j 0 % 16)] := by
        rw [hex2_take hlt]; simp
      have Hl := Lib.hid (show (34 :: hex2 (s.take j)).length ≤ 10000000 from by rw [List.length_cons, hex2_len, List.length_take]; omega)
      generalize 34 :: hex2 (s.take j) = L at *
      generalize s.getD j 0 = c at *
      obtain ⟨x, hx⟩ : ∃ x, x = c / 16 := ⟨_, rfl⟩
      obtain ⟨y, hy⟩ : ∃ y, y = c % 16 := ⟨_, rfl⟩
      have h15 := and15b ⟨c, hc⟩
      simp only at h15
      rw [← hx, ← hy] at hxs
      have Hx := Lib.hid hxs
      have Hlt := Lib.hid hlt
      rw [← hy] at h15
      have hx16 : (c : Int) / 16 = (x : Int) := by omega
      have hxl : x < 16 := by omega
      have hyl : y < 16 := by omega
      have hxi : (x : Int) < 16 := by omega
      have hyi : (y : Int) < 16 := by omega
      have hxd := fun h => hexc_at hxl h
      have hyd := fun h => hexc_at hyl h
      have HT := Lib.hid (HR.out.keep (((Below.refl wr.heap.size wr).alloc (Nat.le_refl _) (.cells #[.int .u8 (hexD x : Nat), .int .u8 (hexD y : Nat)] 5)).drew))
      have HC := Lib.hid (World.news_of_block (w := (wr.alloc (.cells #[.int .u8 (hexD x : Nat), .int .u8 (hexD y : Nat)] 5)).drew) (heap_alloc_new wr (.cells #[.int .u8 (hexD x : Nat), .int .u8 (hexD y : Nat)] 5)))
      clear hx hy hc hlt hxs
      go_wp2
      go_region_law (refine step_txt rfl (.tmp 12) (.tmp 23) rfl w L _ (by simp [Act.eval]) HT.out ⟨wr.heap.size, 0, none⟩ 2 (hexD x) (hexD y) (by simp [Act.eval]) HC.out Hl.out ?_; intro g2 cap2 w2 hT2; have HT2 := Lib.hid hT2; clear hT2)
      all_goals go_wp2
      all_goals go_roundw
      all_goals first
        | exact ⟨j + 1, Hlt.out, by go_num, by rw [Hx.out]; exact HT2.out⟩
        | (simp [intOf]; have := Hlt.out; omega)
    · have hji : ¬ ((j : Int) < (s.length : Int)) := by omega
      have he : 34 :: hex2 (s.take j) = 34 :: hex2 s := by rw [List.take_of_length_le (by omega)]
      rw [he] at HR ⊢
      have hl34 : ∀ c ∈ 34 :: hex2 s, c < 256 := by
        intro c hc
        rcases List.mem_cons.1 hc with rfl | hc
        · omega
        · exact hex2_byte Hs.out c hc
      obtain ⟨a', n', cap', e, hB⟩ := HR.out.bytes hl34
      have hcv := convert_bytes (P := Tryz.prog) hB 28 5 9 Tryz.underlying28 Tryz.underlying5 Tryz.underlying9
      rw [← e] at hcv
      have hq := str_size (34 :: hex2 s)
      rw [List.length_cons, hex2_len] at hq
      have Happ := Lib.hid (show str (34 :: hex2 s) ++ (⟨#[34]⟩ : ByteArray) = str (34 :: (hex2 s ++ [34])) from (str_append (34 :: hex2 s) [34]).trans (by simp))
      have Hb := Lib.hid HR.out.2.2
      clear e hB he
      generalize str (34 :: hex2 s) = S at *
      generalize (34 :: hex2 s).length = len at *
      go_wp2
      go_ret
      exact ⟨by rw [← Happ.out]; rfl, Hb.out⟩
end Go.Proofs.YtpnfnmeilhiebaaGreatDoor

