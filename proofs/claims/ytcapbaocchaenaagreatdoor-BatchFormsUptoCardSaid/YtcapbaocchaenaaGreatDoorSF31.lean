import Derived.Test.YtcapbaocchaenaaGreatDoorSF8
import Derived.Maps.AppendAt
import Derived.Test.YtcapbaocchaenaaGreatDoorSF12
import Derived.Test.YtcapbaocchaenaaGreatDoorSF15
import Derived.Deep.QuietTactic
import Derived.BigQuiet
import Derived.Test.YtcapbaocchaenaaGreatDoorSF1
import Derived.Deep.RegionHeld
import Derived.Deep.RegionLaw
import Derived.Deep.AppendLies
import Derived.Test.YtcapbaocchaenaaGreatDoorSF30
import Derived.Test.YtcapbaocchaenaaGreatDoorSF22
/- Lists of values that a call has made itself: where their rows lie, and how they grow. -/
namespace Go.Proofs.YtcapbaocchaenaaGreatDoor
open Go.RowKit Fl

mutual
/-- The cells x hold the value v; the rows of its lists lie in blocks that q allows. -/
def VInP (q : Nat → Prop) (w : World) : V → Array Value → Prop
  | .mk k n f s l, x => (-9223372036854775808 ≤ k ∧ k ≤ 9223372036854775807) ∧ (-9223372036854775808 ≤ n ∧ n ≤ 9223372036854775807) ∧ f < 18446744073709551616 ∧ (∀ c ∈ s, c < 256) ∧ s.length ≤ 9223372036854775807 ∧
    ∃ a cap, x = cells5 k n f s a l.length cap ∧ l.length ≤ cap ∧ cap ≤ 9223372036854775807 ∧ (l = [] ∨ ∃ b o, a = some ⟨b, o, none⟩ ∧ q b ∧ VsInP q w l b o)
def VsInP (q : Nat → Prop) (w : World) : List V → Nat → Nat → Prop
  | [], _, _ => True
  | v :: r, b, o => (∃ x : Array Value, x.size = 5 ∧ (∀ j, j < 5 → w.cell? ⟨b, o + j, none⟩ = x[j]?) ∧ VInP q w v x) ∧ VsInP q w r b (o + 5)
end

mutual
theorem VInP.weak {q : Nat → Prop} {w : World} : ∀ (v : V) (x : Array Value), VInP q w v x → VIn w v x
  | .mk k n f s l, x, h => by
    rw [VInP] at h
    rw [VIn]
    obtain ⟨h1, h2, h3, h4, h5, a, cap, h6, h7, h8, h9⟩ := h
    refine ⟨h1, h2, h3, h4, h5, a, cap, h6, h7, h8, ?_⟩
    rcases h9 with h9 | ⟨b, o, ha, _, hv⟩
    · exact .inl h9
    · exact .inr ⟨b, o, ha, VsInP.weak l b o hv⟩
theorem VsInP.weak {q : Nat → Prop} {w : World} : ∀ (l : List V) (b o : Nat), VsInP q w l b o → VsIn w l b o
  | [], _, _, _ => by rw [VsIn]; trivial
  | v :: r, b, o, h => by
    rw [VsInP] at h
    rw [VsIn]
    obtain ⟨⟨x, hx, hc, hv⟩, hr⟩ := h
    exact ⟨⟨x, hx, hc, VInP.weak v x hv⟩, VsInP.weak r b (o + 5) hr⟩
end

mutual
theorem VInP.turn {q q' : Nat → Prop} {w w' : World} (hq : ∀ b, q b → q' b) (hw : ∀ p : Addr, q p.block → w'.cell? p = w.cell? p) : ∀ (v : V) (x : Array Value), VInP q w v x → VInP q' w' v x
  | .mk k n f s l, x, h => by
    rw [VInP] at h ⊢
    obtain ⟨h1, h2, h3, h4, h5, a, cap, h6, h7, h8, h9⟩ := h
    refine ⟨h1, h2, h3, h4, h5, a, cap, h6, h7, h8, ?_⟩
    rcases h9 with h9 | ⟨b, o, ha, hb, hv⟩
    · exact .inl h9
    · exact .inr ⟨b, o, ha, hq b hb, VsInP.turn hq hw l b o hb hv⟩
theorem VsInP.turn {q q' : Nat → Prop} {w w' : World} (hq : ∀ b, q b → q' b) (hw : ∀ p : Addr, q p.block → w'.cell? p = w.cell? p) : ∀ (l : List V) (b o : Nat), q b → VsInP q w l b o → VsInP q' w' l b o
  | [], _, _, _, _ => by rw [VsInP]; trivial
  | v :: r, b, o, hb, h => by
    rw [VsInP] at h ⊢
    obtain ⟨⟨x, hx, hc, hv⟩, hr⟩ := h
    exact ⟨⟨x, hx, fun j hj => by rw [hw ⟨b, o + j, none⟩ hb]; exact hc j hj, VInP.turn hq hw v x hv⟩, VsInP.turn hq hw r b (o + 5) hb hr⟩
end

theorem VInP.size {q : Nat → Prop} {w : World} {v : V} {x : Array Value} (h : VInP q w v x) : x.size = 5 := (VInP.weak v x h).size

/-- A list of values of the call's own: its row, and its elements' rows in other blocks. -/
def OwnVs (w : World) (base : Nat) (v : Value) (l : List V) : Prop :=
  ∃ cs : List (Array Value), cs.length = l.length ∧ w.ownsRow base 43 5 v l.length (cs.flatMap Array.toList) ∧
    ∀ (i : Nat) (x : Array Value) (u : V), cs[i]? = some x → l[i]? = some u → VInP (fun b => base ≤ b ∧ some b ≠ v.ownBlock ∧ b < w.heap.size) w u x

theorem OwnVs.nil (w : World) (base : Nat) : OwnVs w base (.slice none 0 0) [] := ⟨[], rfl, ⟨rfl, .inl ⟨rfl, rfl⟩⟩, fun i x u h => by simp at h⟩

theorem OwnVs.snoc {w w' : World} {base : Nat} {v v' : Value} {l : List V} {cs : List (Array Value)} {u : V} {x : Array Value} (hlen : cs.length = l.length)
    (hel : ∀ (i : Nat) (x : Array Value) (u : V), cs[i]? = some x → l[i]? = some u → VInP (fun b => base ≤ b ∧ some b ≠ v.ownBlock ∧ b < w.heap.size) w u x)
    (hu : VInP (fun b => base ≤ b ∧ some b ≠ v.ownBlock ∧ b < w.heap.size) w u x) (hown : w'.ownsRow base 43 5 v' (l.length + 1) (cs.flatMap Array.toList ++ x.toList))
    (hg : w.grownBy w' v.ownBlock) (hb : v'.ownBlock = v.ownBlock ∨ v'.ownBlock = some w.heap.size) : OwnVs w' base v' (l ++ [u]) := by
  have hs : w.heap.size ≤ w'.heap.size := hg.size
  have hturn : ∀ (y : Array Value) (z : V), VInP (fun b => base ≤ b ∧ some b ≠ v.ownBlock ∧ b < w.heap.size) w z y → VInP (fun b => base ≤ b ∧ some b ≠ v'.ownBlock ∧ b < w'.heap.size) w' z y := by
    intro y z hz
    have k1 : ∀ b, (base ≤ b ∧ some b ≠ v.ownBlock ∧ b < w.heap.size) → (base ≤ b ∧ some b ≠ v'.ownBlock ∧ b < w'.heap.size) := by
      intro b hb1
      refine ⟨hb1.1, ?_, by omega⟩
      rcases hb with e | e
      · rw [e]; exact hb1.2.1
      · rw [e]
        intro e2
        have e3 : b = w.heap.size := Option.some.inj e2
        omega
    have k2 : ∀ p : Addr, (base ≤ p.block ∧ some p.block ≠ v.ownBlock ∧ p.block < w.heap.size) → w'.cell? p = w.cell? p := by
      intro p hp
      unfold World.cell?
      rw [hg.block p.block hp.2.2 hp.2.1]
    exact VInP.turn k1 k2 z y hz
  refine ⟨cs ++ [x], by rw [List.length_append, List.length_append, hlen]; rfl, ?_, fun i y z hy hz => ?_⟩
  · rw [List.length_append, List.flatMap_append]
    simpa using hown
  · rcases Nat.lt_or_ge i cs.length with hi | hi
    · rw [List.getElem?_append_left hi] at hy
      rw [List.getElem?_append_left (by omega)] at hz
      exact hturn y z (hel i y z hy hz)
    · rw [List.getElem?_append_right hi] at hy
      rw [List.getElem?_append_right (by omega), ← hlen] at hz
      cases hk : i - cs.length with
      | zero =>
        rw [hk] at hy hz
        simp at hy hz
        subst hy
        subst hz
        exact hturn x u hu
      | succ m => rw [hk] at hy; simp at hy

theorem flat_at : ∀ (cs : List (Array Value)), (∀ x ∈ cs, x.size = 5) → ∀ (i : Nat) (x : Array Value), cs[i]? = some x → ∀ j, j < 5 → (cs.flatMap Array.toList)[i * 5 + j]? = x[j]?
  | [], _, i, x, h, _, _ => by simp at h
  | y :: r, hs, i, x, h, j, hj => by
    have hy : y.toList.length = 5 := by rw [Array.length_toList]; exact hs y (by simp)
    rw [List.flatMap_cons]
    cases i with
    | zero =>
      simp at h
      subst h
      rw [List.getElem?_append_left (by omega)]
      simp
    | succ i =>
      have ih := flat_at r (fun z hz => hs z (by simp [hz])) i x (by simpa using h) j hj
      rw [List.getElem?_append_right (by omega), hy, show (i + 1) * 5 + j - 5 = i * 5 + j by omega]
      exact ih

theorem VsInP.mk {q : Nat → Prop} {w : World} {b : Nat} : ∀ (l : List V) (o : Nat), (∀ (i : Nat) (u : V), l[i]? = some u → ∃ x : Array Value, x.size = 5 ∧ (∀ j, j < 5 → w.cell? ⟨b, o + i * 5 + j, none⟩ = x[j]?) ∧ VInP q w u x) → VsInP q w l b o
  | [], _, _ => by rw [VsInP]; trivial
  | v :: r, o, h => by
    rw [VsInP]
    obtain ⟨x, hx, hc, hv⟩ := h 0 v rfl
    refine ⟨⟨x, hx, fun j hj => by have := hc j hj; simpa using this, hv⟩, VsInP.mk r (o + 5) (fun i u hu => ?_)⟩
    obtain ⟨y, hy, hd, hz⟩ := h (i + 1) u (by simpa using hu)
    exact ⟨y, hy, fun j hj => by rw [← hd j hj]; congr 2; omega, hz⟩

/-- A list of the call's own, as a list in memory. -/
theorem OwnVs.lies {w : World} {base : Nat} {v : Value} {l : List V} (h : OwnVs w base v l) : ∃ a cap, v = .slice a l.length cap ∧ l.length ≤ cap ∧ cap ≤ 9223372036854775807 ∧
    (l = [] ∨ ∃ g, a = some ⟨g, 0, none⟩ ∧ (base ≤ g ∧ g < w.heap.size) ∧ VsInP (fun b => base ≤ b ∧ b < w.heap.size) w l g 0) := by
  obtain ⟨cs, hlen, ⟨_, hrow⟩, hel⟩ := h
  rcases hrow with ⟨rfl, h0⟩ | ⟨g, cap, cur, rfl, hbg, hg, hle, hcm, hsz, htake⟩
  · have e : l = [] := List.length_eq_zero_iff.1 h0
    subst e
    exact ⟨none, 0, rfl, Nat.le_refl _, by omega, .inl rfl⟩
  · have hglt : g < w.heap.size := (Array.getElem?_eq_some_iff.1 hg).1
    refine ⟨_, cap, rfl, hle, by rw [maxLen_nat] at hcm; exact hcm, .inr ⟨g, rfl, ⟨hbg, hglt⟩, VsInP.mk l 0 (fun i u hu => ?_)⟩⟩
    have hi : i < l.length := (List.getElem?_eq_some_iff.1 hu).1
    have hx : cs[i]? = some (cs[i]'(by omega)) := List.getElem?_eq_getElem (by omega)
    have hsz5 : ∀ x ∈ cs, x.size = 5 := by
      intro x hx
      obtain ⟨k, hk, rfl⟩ := List.getElem_of_mem hx
      exact (hel k _ l[k] (List.getElem?_eq_getElem hk) (List.getElem?_eq_getElem (by omega))).size
    have hv := hel i _ u hx hu
    refine ⟨_, hv.size, fun j hj => ?_, VInP.turn (fun b hb => ⟨hb.1, hb.2.2⟩) (fun _ _ => rfl) u _ hv⟩
    rw [cell_of_row w g _ cur _ _ hg, ← flat_at cs hsz5 i _ hx j hj, ← htake, Nat.zero_add, List.getElem?_take, if_pos (by omega), Array.getElem?_toList]
end Go.Proofs.YtcapbaocchaenaaGreatDoor

/- The walk of the reference's atom. -/
namespace Go.Proofs.YtcapbaocchaenaaGreatDoor
open Go.RowKit Fl

mutual
/-- A value as a world holds it: numbers and bytes in their bounds. -/
def soundV : V → Prop
  | .mk _ n f s l => (-9223372036854775808 ≤ n ∧ n ≤ 9223372036854775807) ∧ f < 18446744073709551616 ∧ (∀ c ∈ s, c < 256) ∧ soundL l
def soundL : List V → Prop
  | [] => True
  | v :: r => soundV v ∧ soundL r
end

mutual
theorem VIn.sound {w : World} : ∀ (v : V) (x : Array Value), VIn w v x → soundV v
  | .mk k n f s l, x, h => by
    rw [VIn] at h
    obtain ⟨_, hn, hf, hs, _, a, cap, _, _, _, h9⟩ := h
    rw [soundV]
    refine ⟨hn, hf, hs, ?_⟩
    rcases h9 with rfl | ⟨b, o, _, hv⟩
    · rw [soundL]; trivial
    · exact VsIn.sound l b o hv
theorem VsIn.sound {w : World} : ∀ (l : List V) (b o : Nat), VsIn w l b o → soundL l
  | [], _, _, _ => by rw [soundL]; trivial
  | v :: r, b, o, h => by
    rw [VsIn] at h
    obtain ⟨⟨x, _, _, hv⟩, hr⟩ := h
    rw [soundL]
    exact ⟨VIn.sound v x hv, VsIn.sound r b (o + 5) hr⟩
end

end Go.Proofs.YtcapbaocchaenaaGreatDoor

/- How long the texts of a list are. -/
namespace Go.Proofs.YtcapbaocchaenaaGreatDoor
open Go.RowKit Fl

def tsum : List V → Nat
  | [] => 0
  | v :: r => (textV v).length + 1 + tsum r

theorem joinS_tsum : ∀ (a : List V), (joinS (textVs a)).length ≤ tsum a
  | [] => by simp [textVs, joinS]
  | [v] => by simp [textVs, joinS, tsum]
  | v :: u :: r => by
    have ih := joinS_tsum (u :: r)
    rw [textVs, tsum]
    rw [textVs] at ih ⊢
    rw [joinS, List.length_append, List.length_cons]
    omega
end Go.Proofs.YtcapbaocchaenaaGreatDoor

/- The walk of the reference's Clone. -/
namespace Go.Proofs.YtcapbaocchaenaaGreatDoor
open Go.RowKit Fl

theorem info_value : (Tryz.prog.info? 43).map (fun i => (i.zero, i.size, i.bytes)) = some (some (.agg #[.int .i64 0, .int .i64 0, .float .f64 0, .string ⟨#[]⟩, .slice none 0 0]), 5, 64) := by kernel_rfl

theorem bulk_pos (v : V) : 1 ≤ bulkV v := by
  obtain ⟨k, n, f, s, l⟩ := v
  rw [bulkV]; omega

theorem bulkL_len : ∀ l : List V, l.length ≤ bulkL l
  | [] => by simp [bulkL]
  | v :: r => by
    rw [bulkL, List.length_cons]
    have := bulkL_len r
    have := bulk_pos v
    omega

theorem OwnVs.keep {w w' : World} {base : Nat} {v : Value} {l : List V} (h : OwnVs w base v l) (hb : ∀ b, base ≤ b → b < w.heap.size → w'.heap[b]? = w.heap[b]?) (hs : w.heap.size ≤ w'.heap.size) : OwnVs w' base v l := by
  obtain ⟨cs, hlen, ⟨hx, hrow⟩, hel⟩ := h
  refine ⟨cs, hlen, ⟨hx, ?_⟩, fun i x u hi hu => VInP.turn (fun b hq => ⟨hq.1, hq.2.1, by omega⟩) (fun p hp => ?_) u x (hel i x u hi hu)⟩
  · rcases hrow with hn | ⟨g, cap, cur, e, hbg, hg, rest⟩
    · exact .inl hn
    · exact .inr ⟨g, cap, cur, e, hbg, (hb g hbg (Array.getElem?_eq_some_iff.1 hg).1).trans hg, rest⟩
  · unfold World.cell?
    rw [hb p.block hp.1 hp.2.2]

theorem OwnVs.block {w : World} {base : Nat} {v : Value} {l : List V} (h : OwnVs w base v l) {g : Nat} (hg : v.ownBlock = some g) : base ≤ g ∧ g < w.heap.size := by
  obtain ⟨cs, hlen, ⟨hx, hrow⟩, hel⟩ := h
  rcases hrow with ⟨e, _⟩ | ⟨g', cap, cur, e, hbg, hg', rest⟩
  · rw [e] at hg
    cases hg
  · rw [e] at hg
    have e2 : g' = g := Option.some.inj hg
    rw [← e2]
    exact ⟨hbg, (Array.getElem?_eq_some_iff.1 hg').1⟩

/-- The three blocks of a call of Clone: its argument, its result, the value that it fills. -/
structure CloH (w wr : World) (k n : Int) (f : Nat) (s : List Nat) (a : Option Addr) (m cap : Nat) (acc : Value) : Prop where
  box : wr.heap[w.heap.size]? = some (.cells #[.int .i64 k, .int .i64 n, .float .f64 f, .string (str s), .slice a m cap] 43 (0, 0))
  res : wr.heap[w.heap.size + 1]? = some (.cells #[.int .i64 0, .int .i64 0, .float .f64 0, .string ⟨#[]⟩, .slice none 0 0] 43 (0, 0))
  out : wr.heap[w.heap.size + 2]? = some (.cells #[.int .i64 k, .int .i64 n, .float .f64 f, .string (str s), acc] 43 (0, 0))
  below : Below w.heap.size w wr

theorem CloH.store {w wr : World} {k n : Int} {f : Nat} {s : List Nat} {a : Option Addr} {m cap : Nat} {acc : Value} (h : CloH w wr k n f s a m cap acc) (acc' : Value) : CloH w (wr.setCell ⟨w.heap.size + 2, 4, none⟩ acc') k n f s a m cap acc' := by
  refine ⟨(Below.heap_setCell _ _ _ _ (by simp)).trans h.box, (Below.heap_setCell _ _ _ _ (by simp)).trans h.res, ?_, h.below.setCell (by simp) _⟩
  simp [World.setCell, Array.getElem?_modify, h.out]

end Go.Proofs.YtcapbaocchaenaaGreatDoor

/- How long texts and forms are. -/
namespace Go.Proofs.YtcapbaocchaenaaGreatDoor
open Go.RowKit Go.Shelf Fl

theorem decL_len {n : Int} (h : -9223372036854775808 ≤ n ∧ n ≤ 9223372036854775807) : (decL n).length ≤ 21 := by
  have := decD_len20 (n := n.natAbs) (by omega)
  unfold decL
  split
  · rw [List.length_cons]; omega
  · omega

mutual
/-- How long a text is. -/
theorem text_bulk : ∀ v : V, soundV v → (∀ u ∈ preV v, u.s.length ≤ 1000) → (textV v).length + 1 ≤ 25 * bulkV v
  | .mk k n f s l, h, hs => by
    rw [soundV] at h
    have h0 : s.length ≤ 1000 := hs (.mk k n f s l) (by rw [preV]; simp)
    have hl := texts_bulk l h.2.2.2 (fun u hu => hs u (by rw [preV]; simp [hu]))
    rw [textV, bulkV, Nat.min_eq_left h0]
    split
    · have := decL_len h.1; omega
    split
    · have := tl_len (bitsB f)
      rw [List.length_cons]; omega
    split
    · rw [List.length_cons, List.length_append, hex2_len]
      simp only [List.length_cons, List.length_nil]
      omega
    split
    · have := joinS_tsum l
      rw [List.length_cons, List.length_append]
      simp only [List.length_cons, List.length_nil]
      omega
    · simp only [List.length_cons, List.length_nil]
      omega
theorem texts_bulk : ∀ l : List V, soundL l → (∀ u ∈ preV.preL l, u.s.length ≤ 1000) → tsum l ≤ 25 * bulkL l
  | [], _, _ => by rw [tsum]; omega
  | v :: r, h, hs => by
    rw [soundL] at h
    have h1 := text_bulk v h.1 (fun u hu => hs u (by rw [preV.preL]; simp [hu]))
    have h2 := texts_bulk r h.2 (fun u hu => hs u (by rw [preV.preL]; simp [hu]))
    rw [tsum, bulkL]
    omega
end

theorem piece_len {k n : Int} {f : Nat} {s : List Nat} {l : List V} (hk : k ≤ 4) (hn : -9223372036854775808 ≤ n ∧ n ≤ 9223372036854775807) (hs : s.length ≤ 1000) (hl : l.length < 18446744073709551616) : (pieceV (.mk k n f s l)).length ≤ 21 + s.length := by
  unfold pieceV
  change (form k.toNat ++ contF k n f s l.length).length ≤ _
  have h1 := form_len (x := k.toNat) (by omega)
  rw [List.length_append]
  unfold contF
  split
  · have := form_len (fold_lt hn.1 hn.2); omega
  split
  · simp [be8]; omega
  split
  · have := form_len (x := s.length) (by omega)
    unfold formB
    rw [List.length_append]; omega
  split
  · have := form_len hl; omega
  · simp only [List.length_nil]; omega

mutual
theorem form_bulk : ∀ v : V, soundV v → (∀ u ∈ preV v, u.s.length ≤ 1000 ∧ u.kind ≤ 4 ∧ u.l.length < 18446744073709551616) → (formV v).length ≤ 25 * bulkV v
  | .mk k n f s l, h, hs => by
    rw [soundV] at h
    obtain ⟨h0, hk, hln⟩ : s.length ≤ 1000 ∧ k ≤ 4 ∧ l.length < 18446744073709551616 := hs (.mk k n f s l) (by rw [preV]; simp)
    have hl := forms_bulk l h.2.2.2 (fun u hu => hs u (by rw [preV]; simp [hu]))
    have hp := piece_len (n := n) (f := f) (s := s) (l := l) hk h.1 h0 hln
    unfold formV
    rw [preV, List.flatMap_cons, List.length_append, bulkV, Nat.min_eq_left h0]
    omega
theorem forms_bulk : ∀ l : List V, soundL l → (∀ u ∈ preV.preL l, u.s.length ≤ 1000 ∧ u.kind ≤ 4 ∧ u.l.length < 18446744073709551616) → ((preV.preL l).flatMap pieceV).length ≤ 25 * bulkL l
  | [], _, _ => by rw [preV.preL]; simp
  | v :: r, h, hs => by
    rw [soundL] at h
    have h1 := form_bulk v h.1 (fun u hu => hs u (by rw [preV.preL]; simp [hu]))
    have h2 := forms_bulk r h.2 (fun u hu => hs u (by rw [preV.preL]; simp [hu]))
    unfold formV at h1
    rw [preV.preL, List.flatMap_append, List.length_append, bulkL]
    omega
end

mutual
theorem bulk_strings : ∀ v : V, bulkV v ≤ 900 → ∀ u ∈ preV v, u.s.length ≤ 1000 ∧ u.l.length ≤ 900
  | .mk k n f s l, h, u, hu => by
    rw [bulkV] at h
    have hb := bulkL_len l
    rw [preV] at hu
    rcases List.mem_cons.1 hu with e | e
    · rw [e]
      show s.length ≤ 1000 ∧ l.length ≤ 900
      omega
    · exact bulks_strings l (by omega) u e
theorem bulks_strings : ∀ l : List V, bulkL l ≤ 900 → ∀ u ∈ preV.preL l, u.s.length ≤ 1000 ∧ u.l.length ≤ 900
  | [], _, u, hu => by simp [preV.preL] at hu
  | v :: r, h, u, hu => by
    rw [bulkL] at h
    rw [preV.preL] at hu
    rcases List.mem_append.1 hu with e | e
    · exact bulk_strings v (by omega) u e
    · exact bulks_strings r (by omega) u e
end
end Go.Proofs.YtcapbaocchaenaaGreatDoor

/- Bytes and Text of small events. -/
namespace Go.Proofs.YtcapbaocchaenaaGreatDoor
open Go.RowKit Go.Shelf Fl

theorem ok_right {e : Ev} (h : okE e = true) : rightN 8 e.v = true := by
  have h5 := (okE_parts h).2 5 (by omega)
  by_cases hm : 5 ∈ evFields e.k
  · rw [if_pos hm] at h5
    simpa [rightE] using h5
  · rw [if_neg hm] at h5
    have h1 : sameV e.v zeroV = true := by simpa [emptyE] using h5
    rw [fields_same 8 _ _ h1]
    decide +kernel

theorem few_parts {e : Ev} (h : fewE e = true) : bulkV e.v ≤ 900 ∧ smallN 20 e.v = true ∧ e.nm.length ≤ 1100 ∧ e.tx.length ≤ 1100 := by
  unfold fewE fewB at h
  simp only [Bool.and_eq_true, decide_eq_true_eq] at h
  exact ⟨h.1.1.1, h.1.1.2, h.1.2, h.2⟩

theorem few_word {e : Ev} {w : World} {x : Array Value} (h : EvIn w e x) (hf : fewE e = true) (i : Nat) : (wordE e i).length ≤ 1000000 := by
  obtain ⟨f1, _, f3, f4⟩ := few_parts hf
  obtain ⟨_, h2, h3, h4, h5, h6, a, cap, _, hv⟩ := h
  have q : ∀ s : List Nat, s.length ≤ 1100 → (quoteL s).length ≤ 1000000 := fun s hs => by
    rw [quoteL_is, List.length_cons, List.length_append, hex2_len]
    simp
    omega
  unfold wordE
  repeat' split
  · have := decD_len20 h2; omega
  · have := decL_len h3; omega
  · have := decD_len20 h4; omega
  · exact q _ f3
  · exact q _ f4
  · unfold textB
    split
    · have := text_bulk e.v (VIn.sound _ _ hv) (fun u hu => (bulk_strings e.v f1 u hu).1)
      omega
    · simp

set_option maxRecDepth 100000 in
theorem evbytes_bad (q : Nat) (hq : q ≤ 1000) (e : Ev) (x : Array Value) (w : World) (hs : smallN q e.v = true) (hok : okE e = false) (h : EvIn w e x) :
    Calls Tryz.prog 53 #[.agg x] w (EBytesEnd w e) := by
  have HV := Lib.hid (fun W (hW : Below w.heap.size w W) => evalid_any q hq e x W hs (h.below hW))
  obtain ⟨_, b2, b3, b4, b5, b6, a, cap, rfl, hv⟩ := h
  rw [hok] at HV
  have Hok := Lib.hid hok
  have Hal := Lib.hid ((Below.refl w.heap.size w).alloc (Nat.le_refl _) (.cells (evC e.k e.id e.n e.t e.nm e.tx e.v.kind e.v.n e.v.f e.v.s a e.v.l.length cap) 45))
  have HV := Lib.hid (HV.out _ Hal.out)
  clear hok hs b2 b3 b4 b5 b6 hv hq
  go_enter Tryz.func53, Tryz.ntmps53
  go_wp2_with fail
  refine HV.out.mono ?_
  rintro r w1 ⟨rfl, hb⟩
  have Hb := Lib.hid (Hal.out.trans (hb.mono Hal.out.size))
  clear hb
  go_wp2
  refine bodyPost_ret (v := .tuple #[.slice none 0 0, .bool false]) (by simp [results, Tryz.results53, go_sem, *]) rfl ?_
  exact .inl ⟨Hok.out, rfl, Hb.out⟩

theorem form_few {e : Ev} {w : World} {x : Array Value} (h : EvIn w e x) (hf : fewE e = true) (hr : rightN 8 e.v = true) : (formV e.v).length ≤ 10000000 ∧ ∀ u ∈ preV e.v, u.s.length ≤ 1000000 := by
  obtain ⟨f1, _⟩ := few_parts hf
  obtain ⟨_, _, _, _, _, _, a, cap, _, hv⟩ := h
  have hb := fun u hu => bulk_strings e.v f1 u hu
  refine ⟨?_, fun u hu => by have := (hb u hu).1; omega⟩
  have := form_bulk e.v (VIn.sound _ _ hv) (fun u hu => ⟨(hb u hu).1, (pre_kinds e.v 8 hr u hu).2, by have := (hb u hu).2; omega⟩)
  omega

theorem evbytes_few (e : Ev) (x : Array Value) (w : World) (hf : fewE e = true) (h : EvIn w e x) : Calls Tryz.prog 53 #[.agg x] w (EBytesEnd w e) := by
  obtain ⟨_, f2, _, _⟩ := few_parts hf
  cases hok : okE e with
  | false => exact evbytes_bad 20 (by omega) e x w f2 hok h
  | true =>
    obtain ⟨g1, g2⟩ := form_few h hf (ok_right hok)
    exact evbytes_any 20 (by omega) e x w f2 g1 g2 h

theorem formE_byte {e : Ev} {w : World} {x : Array Value} (h : EvIn w e x) : ∀ c ∈ formE e, c < 256 := by
  obtain ⟨_, _, _, _, h5, h6, a, cap, _, hv⟩ := h
  have hp : ∀ i, ∀ c ∈ pieceE e i, c < 256 := fun i => by
    unfold pieceE
    repeat' split
    · exact form_byte _
    · exact form_byte _
    · exact form_byte _
    · exact formB_byte h5.1
    · exact formB_byte h6.1
    · exact formV_byte e.v w _ hv
  unfold formE
  intro c hc
  rcases List.mem_append.1 hc with hc | hc
  · rcases List.mem_append.1 hc with hc | hc
    · exact form_byte _ c hc
    · exact form_byte _ c hc
  · obtain ⟨l, hl, hc⟩ := List.mem_flatten.1 hc
    obtain ⟨i, _, rfl⟩ := List.mem_map.1 hl
    exact hp i c hc

/-- What Bytes answers, as a slice. -/
theorem ebytes_slice {w w' : World} {e : Ev} {r : Ending} (h : EBytesEnd w e r w') (hb : ∀ c ∈ formE e, c < 256) : ∃ p n cap L, r = .returned (.tuple #[.slice p n cap, .bool (okE e)]) ∧ Bytes w' p n cap L ∧ Below w.heap.size w w' ∧ (okE e = true → L = formE e) := by
  rcases h with ⟨h0, rfl, hb'⟩ | ⟨h1, u, rfl, ho, hb'⟩
  · exact ⟨none, 0, 0, [], by rw [h0], ⟨rfl, Nat.le_refl _, by omega, fun c h => (by cases h), fun _ => rfl, fun h => absurd h (by omega)⟩, hb', fun h => by rw [h0] at h; cases h⟩
  · obtain ⟨p, cp, rfl, hB⟩ := own_slice ho hb
    exact ⟨p, _, cp, formE e, by rw [h1], hB, hb', fun _ => rfl⟩

theorem evtext_few (e : Ev) (x : Array Value) (w : World) (hf : fewE e = true) (h : EvIn w e x) (hp : Pow10 w) (ht : Tab16 w) : Calls Tryz.prog 35 #[.agg x] w fun r w' => r = .returned (.string (str (textE e))) ∧ Below w.heap.size w w' :=
  evtext_any 20 (by omega) e x w (few_parts hf).2.1 (few_word h hf) hp ht h
end Go.Proofs.YtcapbaocchaenaaGreatDoor

/- The walk of the code's formOf. -/
namespace Go.Proofs.YtcapbaocchaenaaGreatDoor
open Go.RowKit Go.Shelf Fl

/-- What formOf returns for a valid event. -/
def FormEnd (w : World) (e : Ev) (r : Ending) (w' : World) : Prop := ∃ p n cap, r = .returned (.slice p n cap) ∧ Bytes w' p n cap (formE e) ∧ Below w.heap.size w w'

set_option maxRecDepth 100000 in
theorem formof_any (e : Ev) (x : Array Value) (w : World) (hf : fewE e = true) (hok : okE e = true) (h : EvIn w e x) :
    Calls Tryz.prog 24 #[.agg x] w (FormEnd w e) := by
  have HV := Lib.hid (fun W (hW : Below w.heap.size w W) => evbytes_few e x W hf (h.below hW))
  have Hby := Lib.hid (formE_byte h)
  have Hok := Lib.hid hok
  obtain ⟨_, _, _, _, _, _, a, cap, hx, _⟩ := id h
  have Hal := Lib.hid ((Below.refl w.heap.size w).alloc (Nat.le_refl _) (.cells (evC e.k e.id e.n e.t e.nm e.tx e.v.kind e.v.n e.v.f e.v.s a e.v.l.length cap) 45))
  subst hx
  clear h hf hok
  go_enter Tryz.func24, Tryz.ntmps24
  go_wp2_with fail
  refine (HV.out _ Hal.out).mono ?_
  intro r w1 hr
  obtain ⟨p, n, cap', L, rfl, hB, hb, hL⟩ := ebytes_slice hr Hby.out
  obtain rfl := hL Hok.out
  have Hb := Lib.hid (Hal.out.trans (hb.mono Hal.out.size))
  have HB := Lib.hid hB
  clear hb hB hL hr
  go_wp2
  go_ret
  exact ⟨p, n, cap', rfl, HB.out, Hb.out⟩
end Go.Proofs.YtcapbaocchaenaaGreatDoor

/- The walk of the code's mapped with formOf: the forms of valid events. -/
namespace Go.Proofs.YtcapbaocchaenaaGreatDoor
open Go.RowKit Go.Shelf Fl

theorem info_u8s : (Tryz.prog.info? 28).map (fun i => (i.zero, i.size, i.bytes)) = some (some (.slice none 0 0), 1, 24) := by kernel_rfl

/-- A slice. -/
def IsSl (y : Value) : Prop := ∃ p m c, y = .slice p m c

/-- The first j cells of a row of slices hold the forms of the first j events. -/
def FormRow (w : World) (M : Nat) (es : List Ev) (n j : Nat) : Prop := ∃ x, w.heap[M]? = some (.cells x 28 (0, 0)) ∧ x.size = n ∧ (∀ (i : Nat) (y : Value), x[i]? = some y → IsSl y) ∧
  ∀ (k : Nat) (e : Ev), k < j → es[k]? = some e → ∃ p m c, x[k]? = some (.slice p m c) ∧ Bytes w p m c (formE e)

theorem bytes_set {w : World} {M i : Nat} {x : Array Value} {t : TypeId} {p : Option Addr} {m c : Nat} {L : List Nat} (hM : w.heap[M]? = some (.cells x t (0, 0))) (hx : ∀ (i : Nat) (y : Value), x[i]? = some y → IsSl y) (h : Bytes w p m c L) (v : Value) :
    Bytes (w.setCell ⟨M, i, none⟩ v) p m c L := by
  refine ⟨h.len, h.le, h.capmax, h.byte, h.nil, fun hm => ?_⟩
  obtain ⟨b, o, e, hc⟩ := h.cell hm
  refine ⟨b, o, e, fun k hk => ?_⟩
  have h1 := hc k hk
  by_cases hb : M = b
  · subst hb
    rw [cell_of_row _ _ _ _ _ _ hM] at h1
    obtain ⟨_, _, _, h2⟩ := hx _ _ h1
    cases h2
  · rw [World.cell?_setCell_far _ _ _ _ hb]
    exact h1

theorem FormRow.below {w w' : World} {M : Nat} {es : List Ev} {n j : Nat} (h : FormRow w M es n j) (hb : Below w.heap.size w w') : FormRow w' M es n j := by
  obtain ⟨x, h1, h2, h3, h4⟩ := h
  refine ⟨x, (hb.block _ (Array.getElem?_eq_some_iff.1 h1).1).trans h1, h2, h3, fun k e hk he => ?_⟩
  obtain ⟨p, m, c, g1, g2⟩ := h4 k e hk he
  exact ⟨p, m, c, g1, g2.grow hb⟩

theorem FormRow.set {w : World} {M : Nat} {es : List Ev} {n j : Nat} (h : FormRow w M es n j) {e : Ev} (he : es[j]? = some e) (hj : j < n) {p : Option Addr} {m c : Nat} (hB : Bytes w p m c (formE e)) :
    FormRow (w.setCell ⟨M, j, none⟩ (.slice p m c)) M es n (j + 1) := by
  obtain ⟨x, h1, h2, h3, h4⟩ := h
  refine ⟨x.setIfInBounds j (.slice p m c), Joins.block_setCell h1 _, by rw [Array.size_setIfInBounds, h2], fun i y hy => ?_, fun k e' hk he' => ?_⟩
  · rw [Array.getElem?_setIfInBounds] at hy
    split at hy
    · split at hy
      · cases hy
        exact ⟨_, _, _, rfl⟩
      · cases hy
    · exact h3 i y hy
  · by_cases hkj : k = j
    · subst hkj
      rw [he] at he'
      cases he'
      exact ⟨p, m, c, by rw [Array.getElem?_setIfInBounds, if_pos rfl, if_pos (by omega)], bytes_set h1 h3 hB _⟩
    · obtain ⟨p', m', c', g1, g2⟩ := h4 k e' (by omega) he'
      exact ⟨p', m', c', by rw [Array.getElem?_setIfInBounds, if_neg (fun h => hkj h.symm)]; exact g1, bytes_set h1 h3 g2 _⟩

theorem formRow_zero (w : World) (es : List Ev) (n : Nat) : FormRow (w.alloc (.cells (madeCells #[Value.slice none 0 0] n) 28)) w.heap.size es n 0 :=
  ⟨_, heap_alloc_new w _, size_madeCells _ _, fun i y hy => by
    obtain ⟨hi, rfl⟩ := Array.getElem?_eq_some_iff.1 hy
    exact ⟨none, 0, 0, by simp [madeCells, Nat.mod_one]⟩, fun k _ hk => absurd hk (by omega)⟩

/-- What mapped returns. -/
def MapEnd (w : World) (es : List Ev) (r : Ending) (w' : World) : Prop := ∃ a n c, r = .returned (.slice a n c) ∧ Parts w' a n c (es.map formE) ∧ Below w.heap.size w w'

set_option maxRecDepth 100000 in
set_option maxHeartbeats 3200000 in
theorem mapform_any (a : Option Addr) (n c : Nat) (es : List Ev) (w : World) (hn : n ≤ 1048576) (hf : es.all fewE = true) (hok : es.all okE = true) (h : Evs w a n c es) :
    Calls Tryz.prog 23 #[.slice a n c, fnV 24] w (MapEnd w es) := by
  have hlen := h.len
  have hcm := h.max
  have hle := h.le
  have H := Lib.hid h
  have HF := Lib.hid hf
  have HO := Lib.hid hok
  have hent := fun W args => enters_of Tryz.func24 (by kernel_rfl) rfl args W
  have hsf := fun (W : World) (A : Addr) (f : Nat) (m : Mode) => (run_store Tryz.prog W A (.float .f64 f) m rfl)
  have hmk := run_make_row' (P := Tryz.prog) 49 28 (.slice none 0 0) 24 Tryz.underlying49 info_u8s rfl .i64 .i64 n (by omega) (by omega)
  have H0 := Lib.hid (formRow_zero w es n)
  have Hb0 := Lib.hid ((Below.refl w.heap.size w).alloc (Nat.le_refl _) (.cells (madeCells #[Value.slice none 0 0] n) 28))
  have Hq := Lib.hid (show w.heap.size < (w.alloc (.cells (madeCells #[Value.slice none 0 0] n) 28)).heap.size from by simp)
  clear h hf hok
  go_enter Tryz.func23, Tryz.ntmps23
  go_wp2_with fail
  generalize w.alloc (.cells (madeCells #[Value.slice none 0 0] n) 28) = w1 at *
  go_loopw [13] (fun i wr => ∃ j : Nat, j ≤ n ∧ i = .int .i64 (j : Int) ∧ FormRow wr w.heap.size es n j ∧ Below w.heap.size w wr) (fun i _ => n - (intOf i).toNat)
  case atStart => exact ⟨0, Nat.zero_le _, rfl, H0.out, Hb0.out⟩
  case round =>
    obtain ⟨j, hj, rfl, hrow, hb⟩ := hrel
    have Hrow := Lib.hid hrow
    have Hb := Lib.hid hb
    clear hrow hb
    by_cases hlt : j < n
    · have hl1 : j < es.length := by omega
      obtain ⟨b, o, rfl, hc⟩ := H.out.cell (by omega)
      obtain ⟨p, cap, hI, ⟨g0, g1, g2, g3, g4, g5⟩, g6, g7, g8, g9, g10⟩ := ((hc j hl1).below Hb.out).all
      have HC := Lib.hid (fun W hb1 => formof_any es[j] _ W (List.all_eq_true.1 HF.out _ (List.getElem_mem hl1)) (List.all_eq_true.1 HO.out _ (List.getElem_mem hl1)) (hI.below (w' := W) hb1))
      have Hje := Lib.hid (List.getElem?_eq_getElem hl1)
      have hji : (j : Int) < (n : Int) := by omega
      have Hlt := Lib.hid hlt
      generalize es[j] = e at *
      have Hal := Lib.hid ((Below.refl wr.heap.size wr).alloc (Nat.le_refl _) (.cells (evC e.k e.id e.n e.t e.nm e.tx e.v.kind e.v.n e.v.f e.v.s p e.v.l.length cap) 45))
      clear hc hI hlt hl1
      go_wp2_with fail
      refine (HC.out _ Hal.out).mono ?_
      rintro r w2 ⟨q, m, c2, rfl, hB, hb2⟩
      have hrow2 := Hrow.out.below (Hal.out.trans (hb2.mono Hal.out.size))
      have Hb2 := Lib.hid (Hb.out.trans ((Hal.out.trans (hb2.mono Hal.out.size)).mono Hb.out.size))
      have Hset := Lib.hid (hrow2.set Hje.out Hlt.out hB)
      obtain ⟨x, hx, hxs, hxi, _⟩ := hrow2
      obtain ⟨y, hy⟩ : ∃ y, w2.cell? ⟨w.heap.size, j, none⟩ = some y := by
        rw [cell_of_row _ _ _ _ _ _ hx]
        exact ⟨_, Array.getElem?_eq_getElem (by rw [hxs]; exact Hlt.out)⟩
      have hfr : w2.frozen? ⟨w.heap.size, j, none⟩ = false := by simp [World.frozen?, hx]
      clear hb2 hB hx hxs hxi g0 g1 g2 g3 g4 g5 g6 g7 g8 g9 g10 HC
      go_wp2
      go_roundw
      case rel => exact ⟨j + 1, Hlt.out, by go_num, Hset.out, Hb2.out.setCell (Nat.le_refl _) _⟩
      case measure => simp [intOf]; have := Hlt.out; omega
    · have hjn : j = n := by omega
      have hji : ¬ ((j : Int) < (n : Int)) := by omega
      have Hlen := Lib.hid hlen
      clear hlt
      go_wp2
      go_ret
      refine ⟨_, _, _, rfl, ⟨by rw [List.length_map]; exact Hlen.out, Nat.le_refl _, by omega, fun h0 => ?_⟩, Hb.out⟩
      obtain ⟨x, hx, hxs, _, hxk⟩ := Hrow.out
      refine ⟨_, _, rfl, (Array.getElem?_eq_some_iff.1 hx).1, fun i hi => ?_⟩
      have hil : i < es.length := by have := Hlen.out; omega
      obtain ⟨p, m, c2, g1, g2⟩ := hxk i es[i] (by omega) (List.getElem?_eq_getElem hil)
      refine ⟨p, m, c2, by rw [cell_of_row _ _ _ _ _ _ hx, Nat.zero_add]; exact g1, ?_⟩
      rw [List.getD_eq_getElem?_getD, List.getElem?_map, List.getElem?_eq_getElem hil]
      exact g2
end Go.Proofs.YtcapbaocchaenaaGreatDoor

