/- Wheels as plain data: a timer is cancelled; the slots that are taken. No condition. -/
import Derived.Test.YthidinaflaogfaaWhM
import Derived.Test.YthidinaflaogfaaLvMat
namespace Go.Proofs.Ythidinaflaogfaa
open Go.RowKit

theorem mem_del {x y : It} {L : List It} : y ∈ delI x L ↔ y ∈ L ∧ y ≠ x := by
  unfold delI
  rw [List.mem_filter]
  simp

/-- A timer is cancelled. -/
theorem GoodP.del {now : Nat} {T : List It} {P : It → Prop} {L : Nat → List It} (h : GoodP now T P L) (hT : ∀ a ∈ T, ∀ b ∈ T, a.1 = b.1 → a = b) {t : It} (ht : t ∈ T) {n : Nat} (hn : IsPl now (max t.2 now) n) :
    GoodP now T (fun u => P u ∧ u ≠ t) (updL L n (delI (itW now n t) (L n))) := by
  refine ⟨fun m => ?_, fun m x => ?_⟩
  · unfold updL
    by_cases e : m = n
    · rw [if_pos e]; exact List.Pairwise.filter _ (h.srt n)
    · rw [if_neg e]; exact h.srt m
  · unfold updL
    by_cases e : m = n
    · subst e
      rw [if_pos rfl, mem_del, h.mem]
      constructor
      · rintro ⟨⟨u, hu, hp, h1, rfl⟩, h2⟩
        exact ⟨u, hu, ⟨hp, fun e => h2 (by rw [e])⟩, h1, rfl⟩
      · rintro ⟨u, hu, ⟨hp, hne⟩, h1, rfl⟩
        exact ⟨⟨u, hu, hp, h1, rfl⟩, fun e => hne (hT u hu t ht (by have := congrArg Prod.fst e; exact this))⟩
    · rw [if_neg e, h.mem]
      constructor
      · rintro ⟨u, hu, hp, h1, h2⟩
        exact ⟨u, hu, ⟨hp, fun e' => e (by rw [e'] at h1; exact h1.uniq hn)⟩, h1, h2⟩
      · rintro ⟨u, hu, hp, h1, h2⟩
        exact ⟨u, hu, hp.1, h1, h2⟩

/-- A level's items from the slot s on. -/
def fromS (k : Nat) (l : List It) (s : Nat) : List It := l.filter fun y => decide (s ≤ slotN k y.2)

theorem fromS_zero (k : Nat) (l : List It) : fromS k l 0 = l := List.filter_eq_self.2 fun y _ => by simp
theorem fromS_srt {k : Nat} {l : List It} (h : srtI l) (s : Nat) : srtI (fromS k l s) := List.Pairwise.filter _ h
theorem mem_fromS {k : Nat} {l : List It} {s : Nat} {y : It} : y ∈ fromS k l s ↔ y ∈ l ∧ s ≤ slotN k y.2 := by unfold fromS; rw [List.mem_filter, decide_eq_true_eq]

theorem slF_fromS (k : Nat) (l : List It) (s t : Nat) : slF k (fromS k l s) t = if s ≤ t then slF k l t else [] := by
  unfold slF fromS
  rw [List.filter_filter]
  by_cases h : s ≤ t
  · rw [if_pos h]
    refine List.filter_congr fun a _ => ?_
    rw [Bool.eq_iff_iff]
    simp
    omega
  · rw [if_neg h]
    refine List.filter_eq_nil_iff.2 fun a _ => ?_
    simp
    omega

/-- The slots ahead of t are empty: they may be left out. -/
theorem fromS_skip {k : Nat} {l : List It} {s t : Nat} (hst : s ≤ t) (h : ∀ u, u < t → u < 64 → slF k (fromS k l s) u = []) : fromS k l s = fromS k l t := by
  refine List.filter_congr fun a ha => ?_
  rw [decide_eq_decide]
  constructor
  · intro h1
    rcases Nat.lt_or_ge (slotN k a.2) t with h2 | h2
    · have h3 := h (slotN k a.2) h2 (slotN_lt k a.2)
      have h4 : a ∈ slF k (fromS k l s) (slotN k a.2) := mem_slF.2 ⟨mem_fromS.2 ⟨ha, h1⟩, rfl⟩
      rw [h3] at h4
      cases h4
    · exact h2
  · intro h1
    omega

theorem take_slot (k : Nat) (l : List It) (t : Nat) : upd (slF k (fromS k l t)) t [] = slF k (fromS k l (t + 1)) := by
  funext u
  unfold upd
  rw [slF_fromS, slF_fromS]
  by_cases h : u = t
  · rw [if_pos h, if_neg (by omega)]
  · rw [if_neg h]
    by_cases h1 : t ≤ u
    · rw [if_pos h1, if_pos (by omega)]
    · rw [if_neg h1, if_neg (by omega)]

/-- What has been taken so far: R, out of the levels L, of which L' is left. -/
structure TakenW (L L' : Nat → List It) (R : List It) : Prop where
  mem : ∀ x, x ∈ R ↔ ∃ n, x ∈ L n ∧ x ∉ L' n
  nodup : (R.map Prod.fst).Nodup
  sub : ∀ n x, x ∈ L' n → x ∈ L n

/-- A slot is taken. -/
theorem TakenW.slot {now : Nat} {T : List It} {P : It → Prop} {L L' : Nat → List It} {R : List It} (h : TakenW L L' R) (hg : GoodP now T P L) (hT : ∀ a ∈ T, ∀ b ∈ T, a.1 = b.1 → a = b) {n t : Nat} (hsr : srtI (L' n)) {k : Nat} (hL : ∀ y ∈ L' n, t ≤ slotN k y.2) :
    TakenW L (updL L' n (fromS k (L' n) (t + 1))) (R ++ slF k (L' n) t) := by
  have hm : ∀ x, x ∈ slF k (L' n) t ↔ x ∈ L' n ∧ x ∉ fromS k (L' n) (t + 1) := fun x => by
    rw [mem_slF, mem_fromS]
    constructor
    · rintro ⟨h1, h2⟩
      exact ⟨h1, fun h3 => by omega⟩
    · rintro ⟨h1, h2⟩
      refine ⟨h1, ?_⟩
      have h3 := hL x h1
      rcases Nat.lt_or_ge t (slotN k x.2) with h4 | h4
      · exact absurd ⟨h1, h4⟩ h2
      · omega
  refine ⟨fun x => ?_, ?_, fun m x hx => ?_⟩
  · rw [List.mem_append, h.mem, hm]
    constructor
    · rintro (⟨m, h1, h2⟩ | ⟨h1, h2⟩)
      · refine ⟨m, h1, fun h3 => h2 ?_⟩
        unfold updL at h3
        split at h3
        · rename_i e; subst e; exact (mem_fromS.1 h3).1
        · exact h3
      · exact ⟨n, h.sub n x h1, by rw [updL_same]; exact h2⟩
    · rintro ⟨m, h1, h2⟩
      unfold updL at h2
      split at h2
      · rename_i e
        subst e
        by_cases h3 : x ∈ L' m
        · exact .inr ⟨h3, h2⟩
        · exact .inl ⟨m, h1, h3⟩
      · exact .inl ⟨m, h1, h2⟩
  · rw [List.map_append, List.nodup_append]
    refine ⟨h.nodup, ?_, fun a ha b hb e => ?_⟩
    · have hnd : (slF k (L' n) t).Nodup := srt_nodup (srt_slF hsr t)
      refine List.pairwise_map.2 ((List.Pairwise.and_mem.1 hnd).imp ?_)
      rintro x y ⟨hx, hy, hne⟩ e
      exact hne (hg.one hT (h.sub n x ((hm x).1 hx).1) (h.sub n y ((hm y).1 hy).1) e).2
    · obtain ⟨x, hx, rfl⟩ := List.mem_map.1 ha
      obtain ⟨y, hy, rfl⟩ := List.mem_map.1 hb
      obtain ⟨m, h1, h2⟩ := (h.mem x).1 hx
      have h3 := ((hm y).1 hy).1
      obtain ⟨rfl, rfl⟩ := hg.one hT h1 (h.sub n y h3) e
      exact h2 h3
  · unfold updL at hx
    split at hx
    · rename_i e; subst e; exact h.sub m x (mem_fromS.1 hx).1
    · exact h.sub m x hx

theorem TakenW.start (L : Nat → List It) : TakenW L L [] := ⟨fun x => ⟨fun h => (by cases h), fun ⟨n, h1, h2⟩ => absurd h1 h2⟩, List.Pairwise.nil, fun _ _ h => h⟩

theorem TakenW.len {L L' : Nat → List It} {R : List It} (h : TakenW L L' R) {now : Nat} {T : List It} {P : It → Prop} (hg : GoodP now T P L) : R.length ≤ T.length := by
  have := nodup_len (m := T.map Prod.fst) h.nodup (fun x hx => by
    obtain ⟨y, hy, rfl⟩ := List.mem_map.1 hx
    obtain ⟨n, h1, _⟩ := (h.mem y).1 hy
    obtain ⟨t, ht, _, _, rfl⟩ := (hg.mem n y).1 h1
    exact List.mem_map.2 ⟨t, ht, rfl⟩)
  rwa [List.length_map, List.length_map] at this

/-- What the levels hold behind Advance's first half. -/
def leftW (now' K : Nat) (L : Nat → List It) (n : Nat) : List It := if n < K then [] else if n = K then fromS (K % 4) (L K) (dgt K now' + 1) else L n

theorem slot_itW (now n : Nat) (t : It) : slotN (n % 4) (itW now n t).2 = dgt n (max t.2 now) := slot_coarse n _

/-- What is left is in its place for the new tick; what was taken is known by its IDs. -/
theorem left_good {now now' K : Nat} {T : List It} {L : Nat → List It} (hg : GoodP now T (fun _ => True) L) (hT : TimW T) (hle : now ≤ now') (hK : IsPl now now' K) (hb : now' < 9223372036854775808) {R : List It} (hR : TakenW L (leftW now' K L) R) :
    GoodP now' T (fun t => t.1 ∉ R.map Prod.fst) (leftW now' K L) ∧ (∀ r ∈ R, ∃ t ∈ T, t.1 = r.1) ∧ ∀ t ∈ T, t.2 ≤ now' → t.1 ∈ R.map Prod.fst := by
  have hpl : ∀ t ∈ T, ∃ n, IsPl now (max t.2 now) n := fun t ht => by
    have := hT.tick t ht
    obtain ⟨m, _, hm⟩ := pl_le (now := now) (a := max t.2 now) (by omega) (by omega)
    exact ⟨m, hm⟩
  have hmem : ∀ n x, x ∈ leftW now' K L n ↔ x ∈ L n ∧ (K < n ∨ (n = K ∧ dgt K now' < slotN (K % 4) x.2)) := fun n x => by
    unfold leftW
    split
    · rename_i h
      constructor
      · intro h1; cases h1
      · rintro ⟨_, h1⟩; omega
    · split
      · rename_i h1 h2
        subst h2
        rw [mem_fromS]
        constructor
        · rintro ⟨h3, h4⟩; exact ⟨h3, .inr ⟨rfl, by omega⟩⟩
        · rintro ⟨h3, h4⟩; exact ⟨h3, by omega⟩
      · rename_i h1 h2
        constructor
        · intro h3; exact ⟨h3, .inl (by omega)⟩
        · rintro ⟨h3, _⟩; exact h3
  have hnot : ∀ t ∈ T, ∀ n, IsPl now (max t.2 now) n → (t.1 ∉ R.map Prod.fst ↔ (K < n ∨ (n = K ∧ dgt K now' < dgt K (max t.2 now)))) := fun t ht n hn => by
    have hin : itW now n t ∈ L n := (hg.mem n _).2 ⟨t, ht, trivial, hn, rfl⟩
    constructor
    · intro h1
      have h2 : itW now n t ∈ leftW now' K L n := by
        by_cases h3 : itW now n t ∈ leftW now' K L n
        · exact h3
        · exact absurd (List.mem_map.2 ⟨_, (hR.mem _).2 ⟨n, hin, h3⟩, rfl⟩) h1
      have h3 := ((hmem n _).1 h2).2
      rcases h3 with h3 | ⟨rfl, h3⟩
      · exact .inl h3
      · exact .inr ⟨rfl, by rw [slot_itW] at h3; exact h3⟩
    · intro h1 h2
      obtain ⟨r, hr, hre⟩ := List.mem_map.1 h2
      obtain ⟨m, h3, h4⟩ := (hR.mem r).1 hr
      obtain ⟨rfl, rfl⟩ := hg.one hT.ids h3 hin hre
      refine h4 ((hmem m _).2 ⟨hin, ?_⟩)
      rcases h1 with h1 | ⟨rfl, h1⟩
      · exact .inl h1
      · exact .inr ⟨rfl, by rw [slot_itW]; exact h1⟩
  refine ⟨⟨fun n => ?_, fun n x => ?_⟩, fun r hr => ?_, fun t ht hle' => ?_⟩
  · unfold leftW
    split
    · exact List.Pairwise.nil
    · split
      · exact fromS_srt (hg.srt K) _
      · exact hg.srt n
  · constructor
    · intro hx
      obtain ⟨h1, h2⟩ := (hmem n x).1 hx
      obtain ⟨t, ht, _, hp, rfl⟩ := (hg.mem n x).1 h1
      have h3 : K < n ∨ (n = K ∧ dgt K now' < dgt K (max t.2 now)) := by
        rcases h2 with h2 | ⟨rfl, h2⟩
        · exact .inl h2
        · exact .inr ⟨rfl, by rw [slot_itW] at h2; exact h2⟩
      obtain ⟨h4, h5⟩ := stay_above hle hK hp h3
      have e1 : max t.2 now' = t.2 := by omega
      have e2 : max t.2 now = t.2 := by omega
      refine ⟨t, ht, (hnot t ht n hp).2 h3, by rw [e1]; exact h5, ?_⟩
      unfold itW
      rw [e1, e2]
    · rintro ⟨t, ht, hp, h1, rfl⟩
      obtain ⟨m, hm⟩ := hpl t ht
      have h3 := (hnot t ht m hm).1 hp
      obtain ⟨h4, h5⟩ := stay_above hle hK hm h3
      have e1 : max t.2 now' = t.2 := by omega
      have e2 : max t.2 now = t.2 := by omega
      rw [e1] at h1
      obtain rfl := h1.uniq h5
      have e3 : itW now' n t = itW now n t := by unfold itW; rw [e1, e2]
      rw [e3]
      refine (hmem n _).2 ⟨(hg.mem n _).2 ⟨t, ht, trivial, hm, rfl⟩, ?_⟩
      rcases h3 with h3 | ⟨rfl, h3⟩
      · exact .inl h3
      · exact .inr ⟨rfl, by rw [slot_itW]; exact h3⟩
  · obtain ⟨m, h3, _⟩ := (hR.mem r).1 hr
    obtain ⟨t, ht, _, _, rfl⟩ := (hg.mem m r).1 h3
    exact ⟨t, ht, rfl⟩
  · by_cases h1 : t.1 ∈ R.map Prod.fst
    · exact h1
    · obtain ⟨m, hm⟩ := hpl t ht
      have := (stay_above hle hK hm ((hnot t ht m hm).1 h1)).1
      omega
end Go.Proofs.Ythidinaflaogfaa
