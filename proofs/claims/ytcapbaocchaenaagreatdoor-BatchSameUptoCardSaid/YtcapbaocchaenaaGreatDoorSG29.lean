import Derived.Test.YtcapbaocchaenaaGreatDoorSG26
import Derived.Test.YtcapbaocchaenaaGreatDoorSG15
import Derived.Deep.QuietTactic
import Derived.BigQuiet
import Derived.Test.YtcapbaocchaenaaGreatDoorSG8
import Derived.Maps.AppendAt
import Derived.Test.YtcapbaocchaenaaGreatDoorSG12
import Derived.Test.YtcapbaocchaenaaGreatDoorSG1
import Derived.Deep.RegionHeld
import Derived.Deep.RegionLaw
import Derived.Deep.AppendLies
import Derived.Test.YtcapbaocchaenaaGreatDoorSG28
import Derived.Test.YtcapbaocchaenaaGreatDoorSG20
/- Events with the same text are the same. -/
namespace Go.Proofs.YtcapbaocchaenaaGreatDoor
open Go.RowKit Fl

mutual
theorem textV_same : ∀ (u v : V), sameV u v = true → textV u = textV v
  | .mk k n f s l, .mk k' n' f' s' l', h => by
    rw [sameV, Bool.and_eq_true, decide_eq_true_eq] at h
    obtain ⟨⟨rfl, rfl, rfl, e⟩, h⟩ := h
    rw [textV, textV, e, textVs_same l l' h]
theorem textVs_same : ∀ (l l' : List V), sameL l l' = true → textVs l = textVs l'
  | [], [], _ => rfl
  | [], _ :: _, h => by simp [sameL] at h
  | _ :: _, [], h => by simp [sameL] at h
  | u :: l, v :: l', h => by
    rw [sameL, Bool.and_eq_true] at h
    rw [textVs, textVs, textV_same u v h.1, textVs_same l l' h.2]
end

mutual
theorem fields_same : ∀ (t : Nat) (u v : V), sameV u v = true → rightN t u = rightN t v
  | t, .mk k n f s l, .mk k' n' f' s' l', h => by
    rw [sameV, Bool.and_eq_true, decide_eq_true_eq] at h
    obtain ⟨⟨rfl, rfl, rfl, e⟩, h⟩ := h
    have hl : l = [] ↔ l' = [] := by
      have := sameL_len h
      constructor <;> (rintro rfl; simp at this)
      · exact List.eq_nil_of_length_eq_zero this.symm
      · exact this
    have hf : FieldsOk (.mk k n f s l) ↔ FieldsOk (.mk k n f' s l') := by
      unfold FieldsOk
      show ((k = 1 ∨ n = 0) ∧ (k = 2 ∨ bitsB f = 0) ∧ (k = 3 ∨ s = []) ∧ (k = 4 ∨ l = [])) ↔ ((k = 1 ∨ n = 0) ∧ (k = 2 ∨ bitsB f' = 0) ∧ (k = 3 ∨ s = []) ∧ (k = 4 ∨ l' = []))
      rw [e, hl]
    cases t with
    | zero =>
      unfold rightN
      simp only [hf]
      rfl
    | succ t =>
      unfold rightN
      simp only [hf]
      show (decide _ && l.all (rightN t) && _) = (decide _ && l'.all (rightN t) && _)
      rw [alls_same t l l' h]
      rfl
theorem alls_same : ∀ (t : Nat) (l l' : List V), sameL l l' = true → l.all (rightN t) = l'.all (rightN t)
  | _, [], [], _ => rfl
  | _, [], _ :: _, h => by simp [sameL] at h
  | _, _ :: _, [], h => by simp [sameL] at h
  | t, u :: l, v :: l', h => by
    rw [sameL, Bool.and_eq_true] at h
    rw [List.all_cons, List.all_cons, fields_same t u v h.1, alls_same t l l' h.2]
end

theorem decD_word (n : Nat) : Word (decD n) := fun c hc => by have := decD_digit n c hc; omega

theorem quoteL_is (s : List Nat) : quoteL s = 34 :: (hex2 s ++ [34]) := by
  unfold quoteL textB
  have h : rightN 8 (.mk 3 0 0 s []) = true := by
    have hz : bitsB 0 = 0 := by decide
    unfold rightN
    simp [FieldsOk, V.kind, V.n, V.f, V.s, V.l, hz]
  rw [if_pos h, textV]
  simp

theorem quoteL_word (s : List Nat) : Word (quoteL s) := by
  rw [quoteL_is]
  intro c hc
  rcases List.mem_cons.1 hc with rfl | hc
  · omega
  rcases List.mem_append.1 hc with hc | hc
  · exact hex2_word s c hc
  · rw [List.mem_singleton.1 hc]; omega

theorem quoteL_inj {s s' : List Nat} (h : quoteL s = quoteL s') : s = s' := by
  rw [quoteL_is, quoteL_is] at h
  exact hex2_inj (List.append_cancel_right (List.cons.inj h).2)

theorem evName_word (k : Int) : Word (evName k) := by
  unfold evName
  (repeat' split) <;> (unfold Word; decide)

theorem evName_inj {k k' : Int} (h : 1 ≤ k ∧ k ≤ 11) (h' : 1 ≤ k' ∧ k' ≤ 11) (e : evName k = evName k') : k = k' := by
  have c : k = 1 ∨ k = 2 ∨ k = 3 ∨ k = 4 ∨ k = 5 ∨ k = 6 ∨ k = 7 ∨ k = 8 ∨ k = 9 ∨ k = 10 ∨ k = 11 := by omega
  have c' : k' = 1 ∨ k' = 2 ∨ k' = 3 ∨ k' = 4 ∨ k' = 5 ∨ k' = 6 ∨ k' = 7 ∨ k' = 8 ∨ k' = 9 ∨ k' = 10 ∨ k' = 11 := by omega
  rcases c with rfl | rfl | rfl | rfl | rfl | rfl | rfl | rfl | rfl | rfl | rfl <;> rcases c' with rfl | rfl | rfl | rfl | rfl | rfl | rfl | rfl | rfl | rfl | rfl <;> first | rfl | (exfalso; revert e; decide)

theorem wordE_split {a b : Ev} (ha : EvB a) (hb : EvB b) {i : Nat} (hi : i < 6) (hra : rightE a i = true) (hrb : rightE b i = true) {r r' : List Nat} (er : Ends r) (er' : Ends r') (h : wordE a i ++ r = wordE b i ++ r') : eqF a b i ∧ r = r' := by
  match i, hi with
  | 0, _ =>
    obtain ⟨e, h⟩ := word_split (decD_word _) (decD_word _) er er' h
    exact ⟨decD_inj e, h⟩
  | 1, _ =>
    obtain ⟨e, h⟩ := word_split (decL_word _) (decL_word _) er er' h
    exact ⟨decL_inj e, h⟩
  | 2, _ =>
    obtain ⟨e, h⟩ := word_split (decD_word _) (decD_word _) er er' h
    exact ⟨decD_inj e, h⟩
  | 3, _ =>
    change quoteL a.nm ++ r = quoteL b.nm ++ r' at h
    obtain ⟨e, h⟩ := word_split (quoteL_word _) (quoteL_word _) er er' h
    exact ⟨quoteL_inj e, h⟩
  | 4, _ =>
    change quoteL a.tx ++ r = quoteL b.tx ++ r' at h
    obtain ⟨e, h⟩ := word_split (quoteL_word _) (quoteL_word _) er er' h
    exact ⟨quoteL_inj e, h⟩
  | 5, _ =>
    have h1 : rightN 8 a.v = true := by simpa [rightE] using hra
    have h2 : rightN 8 b.v = true := by simpa [rightE] using hrb
    change textB a.v ++ r = textB b.v ++ r' at h
    unfold textB at h
    rw [if_pos h1, if_pos h2] at h
    exact text_split _ _ 8 8 _ _ h1 h2 ha.w hb.w er er' h

theorem wordsT_ends (pc : Nat → List Nat) (fs : List Nat) : Ends (wordsT pc fs) := by
  cases fs with
  | nil => exact ends_nil
  | cons i fs => exact ends_32 _

theorem wordsT_split {a b : Ev} (ha : EvB a) (hb : EvB b) : ∀ (fs : List Nat), (∀ i ∈ fs, i < 6 ∧ rightE a i = true ∧ rightE b i = true) → wordsT (wordE a) fs = wordsT (wordE b) fs → ∀ i ∈ fs, eqF a b i
  | [], _, _ => fun i hi => (by cases hi)
  | i :: fs, hf, h => by
    have e : ∀ pc : Nat → List Nat, wordsT pc (i :: fs) = 32 :: (pc i ++ wordsT pc fs) := fun pc => by simp [wordsT]
    rw [e, e] at h
    obtain ⟨h6, h1, h2⟩ := hf i (by simp)
    obtain ⟨e, h⟩ := wordE_split ha hb h6 h1 h2 (wordsT_ends _ _) (wordsT_ends _ _) (List.cons.inj h).2
    have g := wordsT_split ha hb fs (fun j hj => hf j (by simp [hj])) h
    intro j hj
    rcases List.mem_cons.1 hj with rfl | hj
    · exact e
    · exact g j hj

theorem wordE_same {a b : Ev} (h : sameE a b = true) (i : Nat) : wordE a i = wordE b i := by
  unfold sameE at h
  rw [Bool.and_eq_true, decide_eq_true_eq] at h
  obtain ⟨⟨h0, h1, h2, h3, h4, h5⟩, h6⟩ := h
  unfold wordE
  have e : textB a.v = textB b.v := by
    unfold textB
    rw [fields_same 8 _ _ h6, textV_same _ _ h6]
  rw [h1, h2, h3, h4, h5, e]

theorem textE_iff {a b : Ev} (ha : okE a = true) (hb : okE b = true) (ba : EvB a) (bb : EvB b) : decide (textE a = textE b) = sameE a b := by
  unfold textE
  rw [if_pos ha, if_pos hb, Bool.eq_iff_iff, decide_eq_true_eq]
  constructor
  · intro h
    obtain ⟨hk, _⟩ := okE_parts ha
    obtain ⟨hk', _⟩ := okE_parts hb
    obtain ⟨e, h⟩ := word_split (evName_word _) (evName_word _) (wordsT_ends _ _) (wordsT_ends _ _) h
    have hkk := evName_inj hk hk' e
    rw [← hkk] at h
    exact same_of_fields ha hb hkk (wordsT_split ba bb _ (fun i hi => ⟨evFields_lt _ _ hi, okE_right ha hi, okE_right hb (by rw [← hkk]; exact hi)⟩) h)
  · intro h
    have hk : a.k = b.k := by
      unfold sameE at h
      rw [Bool.and_eq_true, decide_eq_true_eq] at h
      exact h.1.1
    unfold wordsT
    rw [hk, List.map_congr_left (fun i _ => by rw [wordE_same h i])]
end Go.Proofs.YtcapbaocchaenaaGreatDoor

/- The walk of the reference's Number. -/
namespace Go.Proofs.YtcapbaocchaenaaGreatDoor
open Go.RowKit

theorem decL_byte (n : Int) : ∀ c ∈ decL n, c < 256 := by
  have hh : ∀ m, ∀ c ∈ decD m, c < 256 := fun m c hc => by have := decD_digit m c hc; omega
  intro c hc
  unfold decL at hc
  split at hc
  · rcases List.mem_cons.1 hc with rfl | hc
    · decide
    · exact hh _ c hc
  · exact hh _ c hc

end Go.Proofs.YtcapbaocchaenaaGreatDoor

/- Lists of values that a call has made itself: where their rows lie, and how they grow. -/
namespace Go.Proofs.YtcapbaocchaenaaGreatDoor
open Go.RowKit Fl

mutual
/-- The cells x hold the value v; the rows of its lists lie in blocks that q allows. -/
def VInP (q : Nat → Prop) (w : World) : V → Array Value → Prop
  | .mk k n f s l, x => (-9223372036854775808 ≤ k ∧ k ≤ 9223372036854775807) ∧ (-9223372036854775808 ≤ n ∧ n ≤ 9223372036854775807) ∧ f < 18446744073709551616 ∧ (∀ c ∈ s, c < 256) ∧ s.length ≤ 9223372036854775807 ∧
    ∃ a cap, x = cells5 k n f s a l.length cap ∧ l.length ≤ cap ∧ cap ≤ 9223372036854775807 ∧ (l = [] ∨ ∃ b o, a = some ⟨b, o, none⟩ ∧ q b ∧ VsInP q w l b o)
def VsInP (q : Nat → Prop) (w : World) : List V → Nat → Nat → Prop
  | [], _, _ => True
  | v :: r, b, o => (∃ x : Array Value, x.size = 5 ∧ (∀ j, j < 5 → w.cell? ⟨b, o + j, none⟩ = x[j]?) ∧ VInP q w v x) ∧ VsInP q w r b (o + 5)
end

mutual
theorem VInP.weak {q : Nat → Prop} {w : World} : ∀ (v : V) (x : Array Value), VInP q w v x → VIn w v x
  | .mk k n f s l, x, h => by
    rw [VInP] at h
    rw [VIn]
    obtain ⟨h1, h2, h3, h4, h5, a, cap, h6, h7, h8, h9⟩ := h
    refine ⟨h1, h2, h3, h4, h5, a, cap, h6, h7, h8, ?_⟩
    rcases h9 with h9 | ⟨b, o, ha, _, hv⟩
    · exact .inl h9
    · exact .inr ⟨b, o, ha, VsInP.weak l b o hv⟩
theorem VsInP.weak {q : Nat → Prop} {w : World} : ∀ (l : List V) (b o : Nat), VsInP q w l b o → VsIn w l b o
  | [], _, _, _ => by rw [VsIn]; trivial
  | v :: r, b, o, h => by
    rw [VsInP] at h
    rw [VsIn]
    obtain ⟨⟨x, hx, hc, hv⟩, hr⟩ := h
    exact ⟨⟨x, hx, hc, VInP.weak v x hv⟩, VsInP.weak r b (o + 5) hr⟩
end

mutual
theorem VInP.turn {q q' : Nat → Prop} {w w' : World} (hq : ∀ b, q b → q' b) (hw : ∀ p : Addr, q p.block → w'.cell? p = w.cell? p) : ∀ (v : V) (x : Array Value), VInP q w v x → VInP q' w' v x
  | .mk k n f s l, x, h => by
    rw [VInP] at h ⊢
    obtain ⟨h1, h2, h3, h4, h5, a, cap, h6, h7, h8, h9⟩ := h
    refine ⟨h1, h2, h3, h4, h5, a, cap, h6, h7, h8, ?_⟩
    rcases h9 with h9 | ⟨b, o, ha, hb, hv⟩
    · exact .inl h9
    · exact .inr ⟨b, o, ha, hq b hb, VsInP.turn hq hw l b o hb hv⟩
theorem VsInP.turn {q q' : Nat → Prop} {w w' : World} (hq : ∀ b, q b → q' b) (hw : ∀ p : Addr, q p.block → w'.cell? p = w.cell? p) : ∀ (l : List V) (b o : Nat), q b → VsInP q w l b o → VsInP q' w' l b o
  | [], _, _, _, _ => by rw [VsInP]; trivial
  | v :: r, b, o, hb, h => by
    rw [VsInP] at h ⊢
    obtain ⟨⟨x, hx, hc, hv⟩, hr⟩ := h
    exact ⟨⟨x, hx, fun j hj => by rw [hw ⟨b, o + j, none⟩ hb]; exact hc j hj, VInP.turn hq hw v x hv⟩, VsInP.turn hq hw r b (o + 5) hb hr⟩
end

theorem VInP.size {q : Nat → Prop} {w : World} {v : V} {x : Array Value} (h : VInP q w v x) : x.size = 5 := (VInP.weak v x h).size

/-- A list of values of the call's own: its row, and its elements' rows in other blocks. -/
def OwnVs (w : World) (base : Nat) (v : Value) (l : List V) : Prop :=
  ∃ cs : List (Array Value), cs.length = l.length ∧ w.ownsRow base 43 5 v l.length (cs.flatMap Array.toList) ∧
    ∀ (i : Nat) (x : Array Value) (u : V), cs[i]? = some x → l[i]? = some u → VInP (fun b => base ≤ b ∧ some b ≠ v.ownBlock ∧ b < w.heap.size) w u x

theorem OwnVs.nil (w : World) (base : Nat) : OwnVs w base (.slice none 0 0) [] := ⟨[], rfl, ⟨rfl, .inl ⟨rfl, rfl⟩⟩, fun i x u h => by simp at h⟩

theorem flat_at : ∀ (cs : List (Array Value)), (∀ x ∈ cs, x.size = 5) → ∀ (i : Nat) (x : Array Value), cs[i]? = some x → ∀ j, j < 5 → (cs.flatMap Array.toList)[i * 5 + j]? = x[j]?
  | [], _, i, x, h, _, _ => by simp at h
  | y :: r, hs, i, x, h, j, hj => by
    have hy : y.toList.length = 5 := by rw [Array.length_toList]; exact hs y (by simp)
    rw [List.flatMap_cons]
    cases i with
    | zero =>
      simp at h
      subst h
      rw [List.getElem?_append_left (by omega)]
      simp
    | succ i =>
      have ih := flat_at r (fun z hz => hs z (by simp [hz])) i x (by simpa using h) j hj
      rw [List.getElem?_append_right (by omega), hy, show (i + 1) * 5 + j - 5 = i * 5 + j by omega]
      exact ih

theorem VsInP.mk {q : Nat → Prop} {w : World} {b : Nat} : ∀ (l : List V) (o : Nat), (∀ (i : Nat) (u : V), l[i]? = some u → ∃ x : Array Value, x.size = 5 ∧ (∀ j, j < 5 → w.cell? ⟨b, o + i * 5 + j, none⟩ = x[j]?) ∧ VInP q w u x) → VsInP q w l b o
  | [], _, _ => by rw [VsInP]; trivial
  | v :: r, o, h => by
    rw [VsInP]
    obtain ⟨x, hx, hc, hv⟩ := h 0 v rfl
    refine ⟨⟨x, hx, fun j hj => by have := hc j hj; simpa using this, hv⟩, VsInP.mk r (o + 5) (fun i u hu => ?_)⟩
    obtain ⟨y, hy, hd, hz⟩ := h (i + 1) u (by simpa using hu)
    exact ⟨y, hy, fun j hj => by rw [← hd j hj]; congr 2; omega, hz⟩

end Go.Proofs.YtcapbaocchaenaaGreatDoor

/- The walk of the reference's atom. -/
namespace Go.Proofs.YtcapbaocchaenaaGreatDoor
open Go.RowKit Fl

mutual
/-- A value as a world holds it: numbers and bytes in their bounds. -/
def soundV : V → Prop
  | .mk _ n f s l => (-9223372036854775808 ≤ n ∧ n ≤ 9223372036854775807) ∧ f < 18446744073709551616 ∧ (∀ c ∈ s, c < 256) ∧ soundL l
def soundL : List V → Prop
  | [] => True
  | v :: r => soundV v ∧ soundL r
end

mutual
theorem VIn.sound {w : World} : ∀ (v : V) (x : Array Value), VIn w v x → soundV v
  | .mk k n f s l, x, h => by
    rw [VIn] at h
    obtain ⟨_, hn, hf, hs, _, a, cap, _, _, _, h9⟩ := h
    rw [soundV]
    refine ⟨hn, hf, hs, ?_⟩
    rcases h9 with rfl | ⟨b, o, _, hv⟩
    · rw [soundL]; trivial
    · exact VsIn.sound l b o hv
theorem VsIn.sound {w : World} : ∀ (l : List V) (b o : Nat), VsIn w l b o → soundL l
  | [], _, _, _ => by rw [soundL]; trivial
  | v :: r, b, o, h => by
    rw [VsIn] at h
    obtain ⟨⟨x, _, _, hv⟩, hr⟩ := h
    rw [soundL]
    exact ⟨VIn.sound v x hv, VsIn.sound r b (o + 5) hr⟩
end

end Go.Proofs.YtcapbaocchaenaaGreatDoor

/- How long the texts of a list are. -/
namespace Go.Proofs.YtcapbaocchaenaaGreatDoor
open Go.RowKit Fl

def tsum : List V → Nat
  | [] => 0
  | v :: r => (textV v).length + 1 + tsum r

theorem joinS_tsum : ∀ (a : List V), (joinS (textVs a)).length ≤ tsum a
  | [] => by simp [textVs, joinS]
  | [v] => by simp [textVs, joinS, tsum]
  | v :: u :: r => by
    have ih := joinS_tsum (u :: r)
    rw [textVs, tsum]
    rw [textVs] at ih ⊢
    rw [joinS, List.length_append, List.length_cons]
    omega
end Go.Proofs.YtcapbaocchaenaaGreatDoor

/- The walk of the reference's Clone. -/
namespace Go.Proofs.YtcapbaocchaenaaGreatDoor
open Go.RowKit Fl

theorem info_value : (Tryz.prog.info? 43).map (fun i => (i.zero, i.size, i.bytes)) = some (some (.agg #[.int .i64 0, .int .i64 0, .float .f64 0, .string ⟨#[]⟩, .slice none 0 0]), 5, 64) := by kernel_rfl

theorem bulkL_mem : ∀ {l : List V} {u : V}, u ∈ l → bulkV u ≤ bulkL l
  | v :: r, u, h => by
    rw [bulkL]
    rcases List.mem_cons.1 h with e | e
    · rw [e]; omega
    · have := bulkL_mem e; omega

theorem bulk_pos (v : V) : 1 ≤ bulkV v := by
  obtain ⟨k, n, f, s, l⟩ := v
  rw [bulkV]; omega

theorem bulkL_len : ∀ l : List V, l.length ≤ bulkL l
  | [] => by simp [bulkL]
  | v :: r => by
    rw [bulkL, List.length_cons]
    have := bulkL_len r
    have := bulk_pos v
    omega

theorem OwnVs.block {w : World} {base : Nat} {v : Value} {l : List V} (h : OwnVs w base v l) {g : Nat} (hg : v.ownBlock = some g) : base ≤ g ∧ g < w.heap.size := by
  obtain ⟨cs, hlen, ⟨hx, hrow⟩, hel⟩ := h
  rcases hrow with ⟨e, _⟩ | ⟨g', cap, cur, e, hbg, hg', rest⟩
  · rw [e] at hg
    cases hg
  · rw [e] at hg
    have e2 : g' = g := Option.some.inj hg
    rw [← e2]
    exact ⟨hbg, (Array.getElem?_eq_some_iff.1 hg').1⟩

/-- The three blocks of a call of Clone: its argument, its result, the value that it fills. -/
structure CloH (w wr : World) (k n : Int) (f : Nat) (s : List Nat) (a : Option Addr) (m cap : Nat) (acc : Value) : Prop where
  box : wr.heap[w.heap.size]? = some (.cells #[.int .i64 k, .int .i64 n, .float .f64 f, .string (str s), .slice a m cap] 43 (0, 0))
  res : wr.heap[w.heap.size + 1]? = some (.cells #[.int .i64 0, .int .i64 0, .float .f64 0, .string ⟨#[]⟩, .slice none 0 0] 43 (0, 0))
  out : wr.heap[w.heap.size + 2]? = some (.cells #[.int .i64 k, .int .i64 n, .float .f64 f, .string (str s), acc] 43 (0, 0))
  below : Below w.heap.size w wr

theorem CloH.size {w wr : World} {k n : Int} {f : Nat} {s : List Nat} {a : Option Addr} {m cap : Nat} {acc : Value} (h : CloH w wr k n f s a m cap acc) : w.heap.size + 3 ≤ wr.heap.size := by
  have := (Array.getElem?_eq_some_iff.1 h.out).1
  omega

theorem CloH.store {w wr : World} {k n : Int} {f : Nat} {s : List Nat} {a : Option Addr} {m cap : Nat} {acc : Value} (h : CloH w wr k n f s a m cap acc) (acc' : Value) : CloH w (wr.setCell ⟨w.heap.size + 2, 4, none⟩ acc') k n f s a m cap acc' := by
  refine ⟨(Below.heap_setCell _ _ _ _ (by simp)).trans h.box, (Below.heap_setCell _ _ _ _ (by simp)).trans h.res, ?_, h.below.setCell (by simp) _⟩
  simp [World.setCell, Array.getElem?_modify, h.out]

theorem VInP.parts5 {q : Nat → Prop} {w : World} {v : V} {x : Array Value} (h : VInP q w v x) : ∃ a cap, x = #[.int .i64 v.kind, .int .i64 v.n, .float .f64 v.f, .string (str v.s), .slice a v.l.length cap] := by
  obtain ⟨_, _, _, _, _, a, cap, e, _⟩ := (VInP.weak v x h).parts
  exact ⟨a, cap, e⟩

end Go.Proofs.YtcapbaocchaenaaGreatDoor

/- How long texts and forms are. -/
namespace Go.Proofs.YtcapbaocchaenaaGreatDoor
open Go.RowKit Go.Shelf Fl

theorem decL_len {n : Int} (h : -9223372036854775808 ≤ n ∧ n ≤ 9223372036854775807) : (decL n).length ≤ 21 := by
  have := decD_len20 (n := n.natAbs) (by omega)
  unfold decL
  split
  · rw [List.length_cons]; omega
  · omega

mutual
/-- How long a text is. -/
theorem text_bulk : ∀ v : V, soundV v → (∀ u ∈ preV v, u.s.length ≤ 1000) → (textV v).length + 1 ≤ 25 * bulkV v
  | .mk k n f s l, h, hs => by
    rw [soundV] at h
    have h0 : s.length ≤ 1000 := hs (.mk k n f s l) (by rw [preV]; simp)
    have hl := texts_bulk l h.2.2.2 (fun u hu => hs u (by rw [preV]; simp [hu]))
    rw [textV, bulkV, Nat.min_eq_left h0]
    split
    · have := decL_len h.1; omega
    split
    · have := tl_len (bitsB f)
      rw [List.length_cons]; omega
    split
    · rw [List.length_cons, List.length_append, hex2_len]
      simp only [List.length_cons, List.length_nil]
      omega
    split
    · have := joinS_tsum l
      rw [List.length_cons, List.length_append]
      simp only [List.length_cons, List.length_nil]
      omega
    · simp only [List.length_cons, List.length_nil]
      omega
theorem texts_bulk : ∀ l : List V, soundL l → (∀ u ∈ preV.preL l, u.s.length ≤ 1000) → tsum l ≤ 25 * bulkL l
  | [], _, _ => by rw [tsum]; omega
  | v :: r, h, hs => by
    rw [soundL] at h
    have h1 := text_bulk v h.1 (fun u hu => hs u (by rw [preV.preL]; simp [hu]))
    have h2 := texts_bulk r h.2 (fun u hu => hs u (by rw [preV.preL]; simp [hu]))
    rw [tsum, bulkL]
    omega
end

theorem piece_len {k n : Int} {f : Nat} {s : List Nat} {l : List V} (hk : k ≤ 4) (hn : -9223372036854775808 ≤ n ∧ n ≤ 9223372036854775807) (hs : s.length ≤ 1000) (hl : l.length < 18446744073709551616) : (pieceV (.mk k n f s l)).length ≤ 21 + s.length := by
  unfold pieceV
  change (form k.toNat ++ contF k n f s l.length).length ≤ _
  have h1 := form_len (x := k.toNat) (by omega)
  rw [List.length_append]
  unfold contF
  split
  · have := form_len (fold_lt hn.1 hn.2); omega
  split
  · simp [be8]; omega
  split
  · have := form_len (x := s.length) (by omega)
    unfold formB
    rw [List.length_append]; omega
  split
  · have := form_len hl; omega
  · simp only [List.length_nil]; omega

mutual
theorem form_bulk : ∀ v : V, soundV v → (∀ u ∈ preV v, u.s.length ≤ 1000 ∧ u.kind ≤ 4 ∧ u.l.length < 18446744073709551616) → (formV v).length ≤ 25 * bulkV v
  | .mk k n f s l, h, hs => by
    rw [soundV] at h
    obtain ⟨h0, hk, hln⟩ : s.length ≤ 1000 ∧ k ≤ 4 ∧ l.length < 18446744073709551616 := hs (.mk k n f s l) (by rw [preV]; simp)
    have hl := forms_bulk l h.2.2.2 (fun u hu => hs u (by rw [preV]; simp [hu]))
    have hp := piece_len (n := n) (f := f) (s := s) (l := l) hk h.1 h0 hln
    unfold formV
    rw [preV, List.flatMap_cons, List.length_append, bulkV, Nat.min_eq_left h0]
    omega
theorem forms_bulk : ∀ l : List V, soundL l → (∀ u ∈ preV.preL l, u.s.length ≤ 1000 ∧ u.kind ≤ 4 ∧ u.l.length < 18446744073709551616) → ((preV.preL l).flatMap pieceV).length ≤ 25 * bulkL l
  | [], _, _ => by rw [preV.preL]; simp
  | v :: r, h, hs => by
    rw [soundL] at h
    have h1 := form_bulk v h.1 (fun u hu => hs u (by rw [preV.preL]; simp [hu]))
    have h2 := forms_bulk r h.2 (fun u hu => hs u (by rw [preV.preL]; simp [hu]))
    unfold formV at h1
    rw [preV.preL, List.flatMap_append, List.length_append, bulkL]
    omega
end

mutual
theorem bulk_strings : ∀ v : V, bulkV v ≤ 900 → ∀ u ∈ preV v, u.s.length ≤ 1000 ∧ u.l.length ≤ 900
  | .mk k n f s l, h, u, hu => by
    rw [bulkV] at h
    have hb := bulkL_len l
    rw [preV] at hu
    rcases List.mem_cons.1 hu with e | e
    · rw [e]
      show s.length ≤ 1000 ∧ l.length ≤ 900
      omega
    · exact bulks_strings l (by omega) u e
theorem bulks_strings : ∀ l : List V, bulkL l ≤ 900 → ∀ u ∈ preV.preL l, u.s.length ≤ 1000 ∧ u.l.length ≤ 900
  | [], _, u, hu => by simp [preV.preL] at hu
  | v :: r, h, u, hu => by
    rw [bulkL] at h
    rw [preV.preL] at hu
    rcases List.mem_append.1 hu with e | e
    · exact bulk_strings v (by omega) u e
    · exact bulks_strings r (by omega) u e
end
end Go.Proofs.YtcapbaocchaenaaGreatDoor

/- Bytes and Text of small events. -/
namespace Go.Proofs.YtcapbaocchaenaaGreatDoor
open Go.RowKit Go.Shelf Fl

theorem ok_right {e : Ev} (h : okE e = true) : rightN 8 e.v = true := by
  have h5 := (okE_parts h).2 5 (by omega)
  by_cases hm : 5 ∈ evFields e.k
  · rw [if_pos hm] at h5
    simpa [rightE] using h5
  · rw [if_neg hm] at h5
    have h1 : sameV e.v zeroV = true := by simpa [emptyE] using h5
    rw [fields_same 8 _ _ h1]
    decide +kernel

theorem few_parts {e : Ev} (h : fewE e = true) : bulkV e.v ≤ 900 ∧ smallN 20 e.v = true ∧ e.nm.length ≤ 1100 ∧ e.tx.length ≤ 1100 := by
  unfold fewE fewB at h
  simp only [Bool.and_eq_true, decide_eq_true_eq] at h
  exact ⟨h.1.1.1, h.1.1.2, h.1.2, h.2⟩

theorem few_word {e : Ev} {w : World} {x : Array Value} (h : EvIn w e x) (hf : fewE e = true) (i : Nat) : (wordE e i).length ≤ 1000000 := by
  obtain ⟨f1, _, f3, f4⟩ := few_parts hf
  obtain ⟨_, h2, h3, h4, h5, h6, a, cap, _, hv⟩ := h
  have q : ∀ s : List Nat, s.length ≤ 1100 → (quoteL s).length ≤ 1000000 := fun s hs => by
    rw [quoteL_is, List.length_cons, List.length_append, hex2_len]
    simp
    omega
  unfold wordE
  repeat' split
  · have := decD_len20 h2; omega
  · have := decL_len h3; omega
  · have := decD_len20 h4; omega
  · exact q _ f3
  · exact q _ f4
  · unfold textB
    split
    · have := text_bulk e.v (VIn.sound _ _ hv) (fun u hu => (bulk_strings e.v f1 u hu).1)
      omega
    · simp

set_option maxRecDepth 100000 in
theorem evbytes_bad (q : Nat) (hq : q ≤ 1000) (e : Ev) (x : Array Value) (w : World) (hs : smallN q e.v = true) (hok : okE e = false) (h : EvIn w e x) :
    Calls Tryz.prog 53 #[.agg x] w (EBytesEnd w e) := by
  have HV := Lib.hid (fun W (hW : Below w.heap.size w W) => evalid_any q hq e x W hs (h.below hW))
  obtain ⟨_, b2, b3, b4, b5, b6, a, cap, rfl, hv⟩ := h
  rw [hok] at HV
  have Hok := Lib.hid hok
  have Hal := Lib.hid ((Below.refl w.heap.size w).alloc (Nat.le_refl _) (.cells (evC e.k e.id e.n e.t e.nm e.tx e.v.kind e.v.n e.v.f e.v.s a e.v.l.length cap) 45))
  have HV := Lib.hid (HV.out _ Hal.out)
  clear hok hs b2 b3 b4 b5 b6 hv hq
  go_enter Tryz.func53, Tryz.ntmps53
  go_wp2_with fail
  refine HV.out.mono ?_
  rintro r w1 ⟨rfl, hb⟩
  have Hb := Lib.hid (Hal.out.trans (hb.mono Hal.out.size))
  clear hb
  go_wp2
  refine bodyPost_ret (v := .tuple #[.slice none 0 0, .bool false]) (by simp [results, Tryz.results53, go_sem, *]) rfl ?_
  exact .inl ⟨Hok.out, rfl, Hb.out⟩

theorem form_few {e : Ev} {w : World} {x : Array Value} (h : EvIn w e x) (hf : fewE e = true) (hr : rightN 8 e.v = true) : (formV e.v).length ≤ 10000000 ∧ ∀ u ∈ preV e.v, u.s.length ≤ 1000000 := by
  obtain ⟨f1, _⟩ := few_parts hf
  obtain ⟨_, _, _, _, _, _, a, cap, _, hv⟩ := h
  have hb := fun u hu => bulk_strings e.v f1 u hu
  refine ⟨?_, fun u hu => by have := (hb u hu).1; omega⟩
  have := form_bulk e.v (VIn.sound _ _ hv) (fun u hu => ⟨(hb u hu).1, (pre_kinds e.v 8 hr u hu).2, by have := (hb u hu).2; omega⟩)
  omega

theorem evbytes_few (e : Ev) (x : Array Value) (w : World) (hf : fewE e = true) (h : EvIn w e x) : Calls Tryz.prog 53 #[.agg x] w (EBytesEnd w e) := by
  obtain ⟨_, f2, _, _⟩ := few_parts hf
  cases hok : okE e with
  | false => exact evbytes_bad 20 (by omega) e x w f2 hok h
  | true =>
    obtain ⟨g1, g2⟩ := form_few h hf (ok_right hok)
    exact evbytes_any 20 (by omega) e x w f2 g1 g2 h

theorem formE_byte {e : Ev} {w : World} {x : Array Value} (h : EvIn w e x) : ∀ c ∈ formE e, c < 256 := by
  obtain ⟨_, _, _, _, h5, h6, a, cap, _, hv⟩ := h
  have hp : ∀ i, ∀ c ∈ pieceE e i, c < 256 := fun i => by
    unfold pieceE
    repeat' split
    · exact form_byte _
    · exact form_byte _
    · exact form_byte _
    · exact formB_byte h5.1
    · exact formB_byte h6.1
    · exact formV_byte e.v w _ hv
  unfold formE
  intro c hc
  rcases List.mem_append.1 hc with hc | hc
  · rcases List.mem_append.1 hc with hc | hc
    · exact form_byte _ c hc
    · exact form_byte _ c hc
  · obtain ⟨l, hl, hc⟩ := List.mem_flatten.1 hc
    obtain ⟨i, _, rfl⟩ := List.mem_map.1 hl
    exact hp i c hc

theorem joinS_byte : ∀ a : List (List Nat), (∀ x ∈ a, ∀ c ∈ x, c < 256) → ∀ c ∈ joinS a, c < 256
  | [], _, c, hc => by simp [joinS] at hc
  | [y], h, c, hc => h y (by simp) c hc
  | y :: z :: r, h, c, hc => by
    rw [joinS] at hc
    rcases List.mem_append.1 hc with e | e
    · exact h y (by simp) c e
    · rcases List.mem_cons.1 e with e | e
      · omega
      · exact joinS_byte (z :: r) (fun x hx => h x (by simp [hx])) c e

theorem sound_mem : ∀ {l : List V}, soundL l → ∀ u ∈ l, soundV u
  | [], _, u, hu => by cases hu
  | v :: r, h, u, hu => by
    rw [soundL] at h
    rcases List.mem_cons.1 hu with e | e
    · rw [e]; exact h.1
    · exact sound_mem h.2 u e

theorem text_byte : ∀ v : V, soundV v → ∀ c ∈ textV v, c < 256 := by
  refine V.ind ?_
  rintro ⟨k, n, f, s, l⟩ ih hs c hc
  change ∀ u ∈ l, _ at ih
  rw [soundV] at hs
  rw [textV] at hc
  split at hc
  · exact decL_byte _ c hc
  split at hc
  · rcases List.mem_cons.1 hc with e | e
    · omega
    · exact textL_byte _ c e
  split at hc
  · rcases List.mem_cons.1 hc with e | e
    · omega
    · rcases List.mem_append.1 e with e | e
      · exact hex2_byte hs.2.2.1 c e
      · have := List.mem_singleton.1 e; omega
  split at hc
  · rcases List.mem_cons.1 hc with e | e
    · omega
    · rcases List.mem_append.1 e with e | e
      · refine joinS_byte _ (fun x hx => ?_) c e
        rw [textVs_map] at hx
        obtain ⟨u, hu, rfl⟩ := List.mem_map.1 hx
        exact ih u hu (sound_mem hs.2.2.2 u hu)
      · have := List.mem_singleton.1 e; omega
  · simp at hc; omega

def ByteL (x : List Nat) : Prop := ∀ c ∈ x, c < 256
theorem evName_byte (k : Int) : ByteL (evName k) := by
  unfold evName
  (repeat' split) <;> (unfold ByteL; decide)

theorem textE_byte {e : Ev} {w : World} {x : Array Value} (h : EvIn w e x) : ∀ c ∈ textE e, c < 256 := by
  obtain ⟨_, _, _, _, h5, h6, a, cap, _, hv⟩ := h
  have hd : ∀ n, ∀ c ∈ decD n, c < 256 := fun n c hc => by have := decD_digit n c hc; omega
  have hq : ∀ s : List Nat, (∀ c ∈ s, c < 256) → ∀ c ∈ quoteL s, c < 256 := fun s hs c hc => by
    rw [quoteL_is] at hc
    rcases List.mem_cons.1 hc with rfl | hc
    · omega
    rcases List.mem_append.1 hc with hc | hc
    · exact hex2_byte hs c hc
    · rw [List.mem_singleton.1 hc]; omega
  have hw : ∀ i, ∀ c ∈ wordE e i, c < 256 := fun i => by
    unfold wordE
    repeat' split
    · exact hd _
    · exact decL_byte _
    · exact hd _
    · exact hq _ h5.1
    · exact hq _ h6.1
    · intro c hc
      unfold textB at hc
      by_cases hr : rightN 8 e.v = true
      · rw [if_pos hr] at hc
        exact text_byte e.v (VIn.sound _ _ hv) c hc
      · rw [if_neg hr] at hc
        cases hc
  intro c hc
  unfold textE at hc
  by_cases hok : okE e = true
  · rw [if_pos hok] at hc
    rcases List.mem_append.1 hc with hc | hc
    · exact evName_byte _ c hc
    · unfold wordsT at hc
      obtain ⟨l, hl, hc⟩ := List.mem_flatten.1 hc
      obtain ⟨i, _, rfl⟩ := List.mem_map.1 hl
      rcases List.mem_cons.1 hc with e1 | hc
      · omega
      · exact hw i c hc
  · rw [if_neg hok] at hc
    cases hc

/-- What Bytes answers, as a slice. -/
theorem ebytes_slice {w w' : World} {e : Ev} {r : Ending} (h : EBytesEnd w e r w') (hb : ∀ c ∈ formE e, c < 256) : ∃ p n cap L, r = .returned (.tuple #[.slice p n cap, .bool (okE e)]) ∧ Bytes w' p n cap L ∧ Below w.heap.size w w' ∧ (okE e = true → L = formE e) := by
  rcases h with ⟨h0, rfl, hb'⟩ | ⟨h1, u, rfl, ho, hb'⟩
  · exact ⟨none, 0, 0, [], by rw [h0], ⟨rfl, Nat.le_refl _, by omega, fun c h => (by cases h), fun _ => rfl, fun h => absurd h (by omega)⟩, hb', fun h => by rw [h0] at h; cases h⟩
  · obtain ⟨p, cp, rfl, hB⟩ := own_slice ho hb
    exact ⟨p, _, cp, formE e, by rw [h1], hB, hb', fun _ => rfl⟩

theorem evtext_few (e : Ev) (x : Array Value) (w : World) (hf : fewE e = true) (h : EvIn w e x) (hp : Pow10 w) (ht : Tab16 w) : Calls Tryz.prog 35 #[.agg x] w fun r w' => r = .returned (.string (str (textE e))) ∧ Below w.heap.size w w' :=
  evtext_any 20 (by omega) e x w (few_parts hf).2.1 (few_word h hf) hp ht h
end Go.Proofs.YtcapbaocchaenaaGreatDoor

