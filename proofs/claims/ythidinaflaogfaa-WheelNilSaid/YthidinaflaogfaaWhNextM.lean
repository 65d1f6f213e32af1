/- The least deadline; a slot's list taken aside. No condition. -/
import Derived.Test.YthidinaflaogfaaWhTakeM
import Derived.Test.YthidinaflaogfaaWhFireM
namespace Go.Proofs.Ythidinaflaogfaa
open Go.RowKit

set_option maxRecDepth 100000 in
set_option maxHeartbeats 3200000 in
theorem take_at {S : Nat → Prop} {w : World} {d k : Nat} {V : List Value} {F : Nat → List It} (h : LvAt S w d k V F) (s : Nat) (hs : s < 64) :
    Calls Try.prog 43 #[.pointer (some ⟨d, 0, none⟩), .int .i64 (s : Int)] w fun r w' => ∃ v, V[s]? = some v ∧ r = .returned v ∧ w' = w.setCell ⟨d, 1 + s, none⟩ (.slice none 0 0) := by
  have HI := Lib.hid (fun w => isslot_any (s : Int) w)
  rw [(isSlotB_iff (s : Int)).2 ⟨by omega, by omega⟩] at HI
  obtain ⟨v, hv, hc, p, c, hvp, _⟩ := h.cell hs
  have hf := h.frozen (1 + s)
  obtain ⟨n, hn⟩ : ∃ n, n = (F s).length := ⟨_, rfl⟩
  rw [← hn] at hvp
  subst hvp
  have Hv := Lib.hid hv
  have hsi : (s : Int) < 64 := by omega
  clear h hv hn
  go_enter Try.func43, Try.ntmps43
  go_wp2_with fail
  refine (HI.out _).mono ?_
  rintro r w2 ⟨rfl, rfl⟩
  go_wp2
  go_ret
  exact ⟨_, Hv.out, rfl, rfl⟩

section
variable {w0 : World} {X : Nat → Prop} {w : World} {d now : Nat} {L : Nat → List It} {T : List It} {o p : Nat → Nat} {V : Nat → List Value} {mb : Nat}

/-- A level has turned, and gives a block away. -/
theorem Wh.stepX (h : Wh w0 X w d now L T o p V mb) {i : Nat} (hi : i < 11) {l : List It} {w' : World} {X' : Nat → Prop} (hlv : LvO w0 (fun b => X' b ∨ (o b ≤ 12 ∧ o b ≠ i)) w' (p i) (i % 4) (slF (i % 4) l))
    (hkeep : ∀ b, o b ≤ 12 → o b ≠ i → w'.heap[b]? = w.heap[b]?) (hsz : w.heap.size ≤ w'.heap.size) (hX : ∀ b, X' b → ¬ (o b ≤ 12 ∧ o b ≠ i)) (hxb : ∀ b, X' b → b < w'.heap.size) : ∃ o' V', Wh w0 X' w' d now (updL L i l) T o' p V' mb := by
  obtain ⟨V', g1, g2, g3, g4⟩ := hlv
  have hd : o d ≤ 12 ∧ o d ≠ i := by rw [h.od]; omega
  have hm : o mb ≤ 12 ∧ o mb ≠ i := by rw [h.om]; omega
  have hnot : ∀ b, o b ≤ 12 → o b ≠ i → ¬ fp (p i) V' b := fun b h1 h2 h3 => (g2 b h3).2 (.inr ⟨h1, h2⟩)
  refine ⟨newO i (fp (p i) V') o, fun j => if j = i then V' else V j, ?_⟩
  refine ⟨(hkeep d hd.1 hd.2).trans h.head, h.map.kept (hkeep mb hm.1 hm.2), fun j hj => ?_, fun j hj b hb => ?_, ?_, ?_, fun b hb => ?_, hxb, g4⟩
  · by_cases e : j = i
    · subst e
      rw [if_pos rfl, updL_same]
      exact g1
    · rw [if_neg e, updL_other _ _ _ e]
      refine (h.lv j hj).same (fun b hb => ?_)
      have := h.fpo j hj b hb
      exact hkeep b (by omega) (by omega)
  · by_cases e : j = i
    · subst e
      rw [if_pos rfl] at hb
      exact newO_in hb
    · rw [if_neg e] at hb
      have h1 := h.fpo j hj b hb
      rw [newO_other (hnot b (by omega) (by omega)) (by omega), h1]
  · rw [newO_other (hnot d hd.1 hd.2) hd.2, h.od]
  · rw [newO_other (hnot mb hm.1 hm.2) hm.2, h.om]
  · by_cases hf : fp (p i) V' b
    · exact ⟨(g2 b hf).1, fun hx => (g2 b hf).2 (.inl hx), (g1.tight.2 b hf).2⟩
    · by_cases e : o b = i
      · rw [newO_old hf e] at hb; omega
      · rw [newO_other hf e] at hb
        obtain ⟨h1, h2, h3⟩ := h.ob b hb
        exact ⟨h1, fun hx => hX b hx ⟨hb, e⟩, Nat.lt_of_lt_of_le h3 hsz⟩

/-- Take, the list that is returned kept aside. -/
theorem Wh.takeAside (h : Wh w0 X w d now L T o p V mb) {i : Nat} (hi : i < 11) (s : Nat) (hs : s < 64) (l : List It) (hl : upd (slF (i % 4) (L i)) s [] = slF (i % 4) l) :
    Calls Try.prog 43 #[.pointer (some ⟨p i, 0, none⟩), .int .i64 (s : Int)] w fun r w' => ∃ v, r = .returned v ∧ OwnL w' 0 v (slF (i % 4) (L i) s) ∧ (∀ b, X b → w'.heap[b]? = w.heap[b]?) ∧ Below w0.heap.size w w' ∧ ∃ o' V', Wh w0 (fun b => X b ∨ v.ownBlock = some b) w' d now (updL L i l) T o' p V' mb := by
  have hlv := h.lv i hi
  refine (take_at hlv s hs).mono ?_
  rintro r w' ⟨v, hv, rfl, hw'⟩
  obtain ⟨r1, r2⟩ := hlv.slot s v hv
  have hpi : o (p i) = i := h.fpo i hi _ (.inl rfl)
  have hvo : ∀ b, v.ownBlock = some b → o b = i := fun b e => h.fpo i hi b (.inr ⟨s, v, hv, e⟩)
  have hpo := h.ob (p i) (by omega)
  have hother : ∀ b, b ≠ p i → w'.heap[b]? = w.heap[b]? := fun b hb => by rw [hw']; exact heap_setCell_other _ _ _ _ hb
  have hsz : w'.heap.size = w.heap.size := by rw [hw']; simp [World.setCell]
  have hlen := hlv.len
  have hat : LvAt (fp (p i) ((V i).set s (.slice none 0 0))) w' (p i) (i % 4) ((V i).set s (.slice none 0 0)) (upd (slF (i % 4) (L i)) s []) := by
    rw [hw']
    refine ⟨?_, by rw [List.length_set]; exact hlen, .inl rfl, fun t u hu => ?_, fun t r u z b htr hu hz hb => ?_⟩
    · rw [Joins.block_setCell (i := 1 + s) hlv.head (.slice none 0 0)]
      congr 2
      unfold lvC
      apply Array.ext'
      rw [Array.toList_setIfInBounds, Nat.add_comm]
      rfl
    · rw [List.getElem?_set] at hu
      by_cases hts : s = t
      · rw [if_pos hts, if_pos (by rw [hlen]; exact hs)] at hu
        cases hu
        subst hts
        unfold upd
        rw [if_pos rfl]
        exact ⟨World.ownsRow_nil _ _ _ _, fun b hb => by cases hb⟩
      · rw [if_neg hts] at hu
        obtain ⟨h1, h2⟩ := hlv.slot t u hu
        refine ⟨?_, fun b hb => ⟨.inr ⟨t, u, by rw [List.getElem?_set, if_neg hts]; exact hu, hb⟩, (h2 b hb).2⟩⟩
        unfold upd
        rw [if_neg (fun e => hts e.symm)]
        exact ownsRow_setCell_other h1 (fun e => (h2 (p i) e).2 rfl) _
    · rw [List.getElem?_set] at hu hz
      by_cases h1 : s = t
      · rw [if_pos h1, if_pos (by rw [hlen]; exact hs)] at hu
        cases hu
        cases hb
      · rw [if_neg h1] at hu
        by_cases h2 : s = r
        · rw [if_pos h2, if_pos (by rw [hlen]; exact hs)] at hz
          cases hz
          intro hzb
          cases hzb
        · rw [if_neg h2] at hz
          exact hlv.apart t r u z b htr hu hz hb
  have hbel : Below w0.heap.size w w' := ⟨by rw [hw']; rfl, by rw [hw']; rfl, by rw [hw']; rfl, by rw [hsz]; exact Nat.le_refl _, fun b hb => hother b (fun e => by rw [e] at hb; omega)⟩
  refine ⟨v, rfl, ownsRow_same r1 (fun b e => hother b (r2 b e).2), fun b hx => hother b (fun e => hpo.2.1 (e ▸ hx)), hbel, ?_⟩
  have hcases : ∀ b, X b ∨ v.ownBlock = some b → ¬ (o b ≤ 12 ∧ o b ≠ i) := fun b hb e => by
    rcases hb with hb | hb
    · exact (h.ob b e.1).2.1 hb
    · exact e.2 (hvo b hb)
  have hxb : ∀ b, X b ∨ v.ownBlock = some b → b < w'.heap.size := fun b hb => by
    rw [hsz]
    rcases hb with hb | hb
    · exact h.xb b hb
    · have := hvo b hb
      exact (h.ob b (by omega)).2.2
  refine h.stepX hi ⟨_, by rw [← hl]; exact hat, fun b hb => ?_, fun b hb => ?_, h.base.trans hbel⟩ (fun b h1 h2 => hother b (fun e => h2 (by rw [e]; exact hpi))) (by rw [hsz]; exact Nat.le_refl _) hcases hxb
  · have hob : o b = i ∧ v.ownBlock ≠ some b := by
      rcases hb with hb | ⟨t, u, hu, hb⟩
      · subst hb
        exact ⟨hpi, fun e => (r2 _ e).2 rfl⟩
      · rw [List.getElem?_set] at hu
        by_cases hts : s = t
        · rw [if_pos hts, if_pos (by rw [hlen]; exact hs)] at hu
          cases hu
          cases hb
        · rw [if_neg hts] at hu
          exact ⟨h.fpo i hi b (.inr ⟨t, u, hu, hb⟩), fun e => hlv.apart s t v u b hts hv hu e hb⟩
    obtain ⟨h1, h2, h3⟩ := h.ob b (by omega)
    refine ⟨h1, fun hx => ?_⟩
    rcases hx with (hx | hx) | hx
    · exact h2 hx
    · exact hob.2 hx
    · exact hx.2 hob.1
  · rcases hb with hb | hb
    · exact hxb b hb
    · rw [hsz]
      exact (h.ob b hb.1).2.2
end

/-- The slot s of level n is the first that has items: its timers are due before all others. -/
theorem first_least {now : Nat} {T : List It} {L : Nat → List It} (hg : GoodP now T (fun _ => True) L) (hT : TimW T) (hn : now < 9223372036854775808) {n s : Nat} (hb : ∀ m, m < n → L m = []) (hs : ∀ u, u < s → slF (n % 4) (L n) u = []) {x : It} (hx : x ∈ slF (n % 4) (L n) s) {h0 : It} (hh : h0 ∈ T) (hmin : ∀ t ∈ T, h0.2 ≤ t.2) :
    ∃ y, y ∈ slF (n % 4) (L n) s ∧ y.1 = h0.1 := by
  have hpl : ∀ t ∈ T, ∃ m, IsPl now (max t.2 now) m := fun t ht => by
    have := hT.tick t ht
    obtain ⟨m, _, hm⟩ := pl_le (now := now) (a := max t.2 now) (by omega) (by omega)
    exact ⟨m, hm⟩
  obtain ⟨hx1, hx2⟩ := mem_slF.1 hx
  obtain ⟨t, ht, _, hp, rfl⟩ := (hg.mem n x).1 hx1
  rw [slot_itW] at hx2
  obtain ⟨m, hm⟩ := hpl h0 hh
  have hin : itW now m h0 ∈ L m := (hg.mem m _).2 ⟨h0, hh, trivial, hm, rfl⟩
  have hnm : n ≤ m := by
    rcases Nat.lt_or_ge m n with h1 | h1
    · rw [hb m h1] at hin; cases hin
    · exact h1
  have hle := hmin t ht
  rcases Nat.lt_or_eq_of_le hnm with h1 | rfl
  · exfalso
    obtain ⟨q, rfl⟩ : ∃ q, m = q + 1 := ⟨m - 1, by omega⟩
    have hne : ¬ now / 64 ^ (q + 1) = max h0.2 now / 64 ^ (q + 1) := hm.2 q (by omega)
    have h2 := div_gt (Nat.le_max_right _ _) hne
    have e1 : now / 64 ^ (q + 1) = max t.2 now / 64 ^ (q + 1) := fitW_mono (by omega) hp.1
    rw [e1] at h2
    have h3 := gt_of_div h2
    omega
  · refine ⟨itW now n h0, mem_slF.2 ⟨hin, ?_⟩, rfl⟩
    rw [slot_itW]
    rcases Nat.lt_trichotomy (dgt n (max h0.2 now)) s with h1 | h1 | h1
    · have h2 := hs _ h1
      have h3 : itW now n h0 ∈ slF (n % 4) (L n) (dgt n (max h0.2 now)) := mem_slF.2 ⟨hin, slot_itW _ _ _⟩
      rw [h2] at h3
      cases h3
    · exact h1
    · exfalso
      rw [← hx2] at h1
      have hf : fitW n (max t.2 now) (max h0.2 now) := fitW_trans (fitW_symm hp.1) hm.1
      have h2 := ((dgt_div hf).1).2 h1
      have h3 := gt_of_div h2
      omega
end Go.Proofs.Ythidinaflaogfaa
