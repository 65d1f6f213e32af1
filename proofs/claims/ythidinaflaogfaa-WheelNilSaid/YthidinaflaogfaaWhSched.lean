/- The walks of Schedule and Cancel. -/
import Derived.Test.YthidinaflaogfaaWhPut
namespace Go.Proofs.Ythidinaflaogfaa
open Go.RowKit

/-- A wheel of the law's own: its tick and its timers. -/
def WhS (w0 : World) (X : Nat → Prop) (w : World) (d now : Nat) (T : List It) : Prop := ∃ L, WhO w0 X w d now L T ∧ GoodP now T (fun _ => True) L ∧ TimW T ∧ now < 9223372036854775808

/-- What a change leaves. -/
structure WhSEnd (w0 : World) (X : Nat → Prop) (w : World) (d now : Nat) (T : List It) (w' : World) : Prop where
  wh : WhS w0 X w' d now T
  keep : ∀ b, X b → w'.heap[b]? = w.heap[b]?
  below : Below w0.heap.size w w'

theorem WhS.below {w0 : World} {X : Nat → Prop} {w w' : World} {d now : Nat} {T : List It} (h : WhS w0 X w d now T) (hb : Below w.heap.size w w') : WhS w0 X w' d now T := by
  obtain ⟨L, h1, h2⟩ := h
  exact ⟨L, h1.below hb, h2⟩
theorem WhS.base {w0 : World} {X : Nat → Prop} {w : World} {d now : Nat} {T : List It} (h : WhS w0 X w d now T) : Below w0.heap.size w0 w := by obtain ⟨_, h, _⟩ := h; exact h.base
theorem WhS.xb {w0 : World} {X : Nat → Prop} {w : World} {d now : Nat} {T : List It} (h : WhS w0 X w d now T) : ∀ b, X b → b < w.heap.size := by obtain ⟨_, h, _⟩ := h; exact h.xb
theorem WhS.tim {w0 : World} {X : Nat → Prop} {w : World} {d now : Nat} {T : List It} (h : WhS w0 X w d now T) : TimW T := by obtain ⟨_, _, _, h, _⟩ := h; exact h
theorem WhS.swap {w0 : World} {X Y : Nat → Prop} {w w' : World} {d now : Nat} {T : List It} (h : WhS w0 X w d now T) (hb : Below w.heap.size w w') (hY : ∀ b, Y b → (X b ∨ w.heap.size ≤ b) ∧ b < w'.heap.size) : WhS w0 Y w' d now T := by
  obtain ⟨L, h1, h2⟩ := h
  exact ⟨L, h1.swap hb hY, h2⟩
theorem WhS.grown {w0 : World} {X Y : Nat → Prop} {w w' : World} {d now : Nat} {T : List It} (h : WhS w0 X w d now T) {v : Value} (hg : w.grownBy w' v.ownBlock) (hv : ∀ b, v.ownBlock = some b → X b ∧ w0.heap.size ≤ b) (hY : ∀ b, Y b → (X b ∨ w.heap.size ≤ b) ∧ b < w'.heap.size) : WhS w0 Y w' d now T := by
  obtain ⟨L, h1, h2⟩ := h
  exact ⟨L, h1.grown hg hv hY, h2⟩
theorem WhSEnd.same {w0 : World} {X : Nat → Prop} {w w' : World} {d now : Nat} {T : List It} (h : WhS w0 X w d now T) (hb : Below w.heap.size w w') : WhSEnd w0 X w d now T w' :=
  ⟨h.below hb, fun b hx => hb.block b (h.xb b hx), hb.mono h.base.size⟩
theorem WhEnd.toS {w0 : World} {X : Nat → Prop} {w w' : World} {d now : Nat} {T : List It} {L : Nat → List It} (h : WhEnd w0 X w d now L T w') (hg : GoodP now T (fun _ => True) L) (hT : TimW T) (hn : now < 9223372036854775808) : WhSEnd w0 X w d now T w' :=
  ⟨⟨L, h.wh, hg, hT, hn⟩, h.keep, h.below⟩

theorem hasW_uniq {T : List It} (hT : TimW T) {id : Nat} (h : hasW T id = true) : ∃ t, t ∈ T ∧ t.1 = id ∧ ∀ u ∈ T, u.1 = id → u = t := by
  obtain ⟨t, ht, rfl⟩ := hasW_iff.1 h
  exact ⟨t, ht, rfl, fun u hu e => hT.ids u hu t ht e⟩

theorem TimW.ins {T : List It} (h : TimW T) {t : It} (hno : hasW T t.1 = false) (ha : t.2 < 9223372036854775808) (hi : t.1 < 18446744073709551616) : TimW (insI t T) := by
  have hnm : t ∉ T := fun hm => hasW_no.1 hno t hm rfl
  refine ⟨srt_ins h.srt hnm, fun a ha' b hb e => ?_, fun a ha' => ?_, fun a ha' => ?_⟩
  · rcases (mem_ins h.srt).1 ha' with rfl | h1 <;> rcases (mem_ins h.srt).1 hb with rfl | h2
    · rfl
    · exact absurd e.symm (hasW_no.1 hno b h2)
    · exact absurd e (hasW_no.1 hno a h1)
    · exact h.ids a h1 b h2 e
  · rcases (mem_ins h.srt).1 ha' with rfl | h1
    · exact ha
    · exact h.tick a h1
  · rcases (mem_ins h.srt).1 ha' with rfl | h1
    · exact hi
    · exact h.idb a h1

theorem TimW.sub {T T' : List It} (h : TimW T) (hs : T'.Sublist T) : TimW T' :=
  ⟨h.srt.sublist hs, fun a ha b hb e => h.ids a (hs.subset ha) b (hs.subset hb) e, fun a ha => h.tick a (hs.subset ha), fun a ha => h.idb a (hs.subset ha)⟩

/-- What Schedule answers. -/
def schedC (T : List It) (t : It) : Int := if 9223372036854775807 < t.2 then 2 else if hasW T t.1 = true then 7 else 0
/-- What Schedule leaves. -/
def schedT (T : List It) (t : It) : List It := if 9223372036854775807 < t.2 then T else if hasW T t.1 = true then T else insI t T

set_option maxRecDepth 100000 in
theorem wsched_any {w0 : World} {X : Nat → Prop} {w : World} {d now : Nat} {T : List It} (h : WhS w0 X w d now T) (hl : T.length ≤ 990) (t : It) (hi : t.1 < 18446744073709551616) (ha : t.2 < 18446744073709551616) :
    Calls Try.prog 13 #[.pointer (some ⟨d, 0, none⟩), .int .u64 (t.1 : Int), .int .u64 (t.2 : Int)] w fun r w' => r = .returned (.int .i64 (schedC T t)) ∧ WhSEnd w0 X w d now (schedT T t) w' := by
  unfold schedC schedT
  by_cases hbig : 9223372036854775807 < t.2
  · rw [if_pos hbig, if_pos hbig]
    have hb : (9223372036854775807 : Int) < (t.2 : Int) := by omega
    have H := Lib.hid h
    obtain ⟨t1, t2⟩ := t
    clear h hbig
    go_enter Try.func13, Try.ntmps13
    go_wp2
    go_ret
    exact ⟨rfl, WhSEnd.same H.out (Below.refl _ _)⟩
  · rw [if_neg hbig, if_neg hbig]
    have hb : ¬ (9223372036854775807 : Int) < (t.2 : Int) := by omega
    have HH : Hid (Calls Try.prog 25 #[.pointer (some ⟨d, 0, none⟩), .int .u64 (t.1 : Int)] w fun r w' => r = .returned (.bool (hasW T t.1)) ∧ w' = w) := by
      obtain ⟨L, h1, _⟩ := h
      exact Lib.hid (whas_any h1 t.1 hi)
    cases hh : hasW T t.1 with
    | true =>
      rw [hh] at HH
      rw [if_pos rfl, if_pos rfl]
      have H := Lib.hid h
      obtain ⟨t1, t2⟩ := t
      clear h hbig hh
      go_enter Try.func13, Try.ntmps13
      go_wp2_with fail
      refine HH.out.mono ?_
      rintro r w1 ⟨rfl, rfl⟩
      go_wp2
      go_ret
      exact ⟨rfl, WhSEnd.same H.out (Below.refl _ _)⟩
    | false =>
      rw [hh] at HH
      rw [if_neg (by decide), if_neg (by decide)]
      obtain ⟨L, ⟨o, p, V, mb, h1⟩, h2, h3, h4⟩ := h
      have q0 := h1.mapc
      have hm : ∀ x, x ∈ insI t T ↔ x = t ∨ x ∈ T := fun x => mem_ins h3.srt
      obtain ⟨w1, hrun, g1, g2⟩ := h1.map.put t hi ha hh (by omega) hm (len_ins t T)
      obtain ⟨g3, g4, g5⟩ := h1.setMap g1 g2
      have hT' := h3.ins hh (by omega) hi
      have hG := h2.congr (T' := insI t T) (P' := fun u => u ≠ t) (fun u => by
        rw [hm]
        constructor
        · rintro ⟨hu, _⟩
          exact ⟨.inr hu, fun e => hasW_no.1 hh u hu (by rw [e])⟩
        · rintro ⟨rfl | hu, hne⟩
          · exact absurd rfl hne
          · exact ⟨hu, trivial⟩)
      have HP := Lib.hid (wput_any (t := t) ⟨o, p, V, mb, g3⟩ h4 h2.srt (fun n => Nat.le_trans (h2.len n) (by omega)) (by omega))
      have Hfin := Lib.hid (show ∀ n w', IsPl now (max t.2 now) n → WhEnd w0 X w1 d now (updL L n (if itW now n t ∈ L n then L n else insI (itW now n t) (L n))) (insI t T) w' → WhSEnd w0 X w d now (insI t T) w' from fun n w' hp hE =>
        WhEnd.toS (L := updL L n (if itW now n t ∈ L n then L n else insI (itW now n t) (L n))) ⟨hE.wh, fun b hx => (hE.keep b hx).trans (g4 b hx), g5.trans hE.below⟩ ((hG.put ((hm t).2 (.inl rfl)) hp).congr (fun u => ⟨fun e => ⟨e.1, trivial⟩, fun e => ⟨e.1, by
          by_cases e1 : u = t
          · exact .inr e1
          · exact .inl e1⟩⟩)) hT' h4)
      obtain ⟨t1, t2⟩ := t
      change (Instr.mapUpdate _ _ (.int .u64 (t1 : Int)) (.int .u64 (t2 : Int))).run _ _ = _ at hrun
      clear h1 h2 h3 h4 hm g1 g2 g3 g4 g5 hT' hG hbig hh
      go_enter Try.func13, Try.ntmps13
      go_wp2_with fail
      refine HH.out.mono ?_
      rintro r w2 ⟨rfl, rfl⟩
      go_wp2_with fail
      refine HP.out.mono ?_
      rintro r w2 ⟨rfl, n, hn, hp, hE⟩
      have He := Lib.hid (Hfin.out n w2 hp hE)
      clear hp hE
      go_wp2
      go_ret
      exact ⟨rfl, He.out⟩

/-- What Cancel leaves. -/
def cancT (T : List It) (id : Nat) : List It := T.filter fun t => !decide (t.1 = id)

theorem cancT_no {T : List It} {id : Nat} (h : hasW T id = false) : cancT T id = T := List.filter_eq_self.2 fun t ht => by
  rw [decide_eq_false (hasW_no.1 h t ht)]; rfl
theorem mem_cancT {T : List It} {id : Nat} {x : It} : x ∈ cancT T id ↔ x ∈ T ∧ x.1 ≠ id := by unfold cancT; rw [List.mem_filter]; simp

theorem cancT_len {T : List It} (h : TimW T) {t : It} (ht : t ∈ T) : (cancT T t.1).length + 1 = T.length := by
  obtain ⟨u, v, rfl⟩ := List.append_of_mem ht
  have hu : ∀ a ∈ u ++ v, a.1 ≠ t.1 := fun a ha e => by
    have ha' : a ∈ u ++ t :: v := by
      rw [List.mem_append, List.mem_cons]
      rcases List.mem_append.1 ha with h1 | h1
      · exact .inl h1
      · exact .inr (.inr h1)
    obtain rfl := h.ids a ha' t ht e
    have hn := srt_nodup h.srt
    rw [List.nodup_append, List.nodup_cons] at hn
    rcases List.mem_append.1 ha with h1 | h1
    · exact hn.2.2 a h1 a List.mem_cons_self rfl
    · exact hn.2.1.1 h1
  have e1 : cancT (u ++ t :: v) t.1 = u ++ v := by
    unfold cancT
    rw [List.filter_append, List.filter_cons, if_neg (by simp), ← List.filter_append]
    exact List.filter_eq_self.2 fun a ha => by rw [decide_eq_false (hu a ha)]; rfl
  rw [e1]
  simp
  omega

set_option maxRecDepth 100000 in
theorem wcancel_any {w0 : World} {X : Nat → Prop} {w : World} {d now : Nat} {T : List It} (h : WhS w0 X w d now T) (hl : T.length ≤ 990) (id : Nat) (hi : id < 18446744073709551616) :
    Calls Try.prog 17 #[.pointer (some ⟨d, 0, none⟩), .int .u64 (id : Int)] w fun r w' => r = .returned (.int .i64 (if hasW T id = true then 0 else 6)) ∧ WhSEnd w0 X w d now (cancT T id) w' := by
  have H := Lib.hid h
  obtain ⟨L, ⟨o, p, V, mb, h1⟩, h2, h3, h4⟩ := h
  have q0 := h1.mapc
  obtain ⟨c, hrun, hc⟩ := h1.map.look id hi
  cases hh : hasW T id with
  | false =>
    rw [hh] at hrun
    rw [if_neg (by decide), cancT_no hh]
    clear h1 h2 h3 h4 hh hc
    go_enter Try.func17, Try.ntmps17
    go_wp2
    go_ret
    exact ⟨rfl, WhSEnd.same H.out (Below.refl _ _)⟩
  | true =>
    rw [hh] at hrun
    rw [if_pos rfl]
    obtain ⟨t, ht, rfl, hun⟩ := hasW_uniq h3 hh
    obtain rfl := hc t ht rfl
    have hta := h3.tick t ht
    have HP := Lib.hid (h1.placed (by omega) t.2 (by omega))
    have HRem := Lib.hid (fun (W : World) (h1 : Wh w0 X W d now L T o p V mb) n (hn : n < 11) => own_remove (h1.lvO hn) (by omega) (h2.srt n) (Nat.le_trans (h2.len n) (by omega)) (itW now n t) (Nat.lt_of_le_of_lt (coarse_le _ _) (show max t.2 now < 18446744073709551616 by omega)))
    have Hfin := Lib.hid (show ∀ n w1 w2 w3 o' V', n < 11 → IsPl now (max t.2 now) n → Below w.heap.size w w1 → (∀ b, X b → w2.heap[b]? = w1.heap[b]?) → Below w0.heap.size w1 w2 → Wh w0 X w2 d now (updL L n (delI (itW now n t) (L n))) T o' p V' mb → MapT w3 mb (cancT T t.1) → w2.grownBy w3 (some mb) → WhSEnd w0 X w d now (cancT T t.1) w3 from fun n w1 w2 w3 o' V' hn hp hb1 hk hb2 hW hm hg => by
      obtain ⟨g3, g4, g5⟩ := hW.setMap hm hg
      refine WhEnd.toS (L := updL L n (delI (itW now n t) (L n))) ⟨⟨o', p, V', mb, g3⟩, fun b hx => ((g4 b hx).trans (hk b hx)).trans (hb1.block b (h1.xb b hx)), ((hb1.mono h1.base.size).trans hb2).trans g5⟩ ((h2.del h3.ids ht hp).congr (fun u => ?_)) (h3.sub List.filter_sublist) h4
      rw [mem_cancT]
      constructor
      · rintro ⟨hu, _, hne⟩
        exact ⟨⟨hu, fun e => hne (hun u hu e)⟩, trivial⟩
      · rintro ⟨⟨hu, hne⟩, _⟩
        exact ⟨hu, trivial, fun e => hne (by rw [e])⟩)
    have HD := Lib.hid (fun (W : World) (L' : Nat → List It) (o' : Nat → Nat) (V' : Nat → List Value) (hW : Wh w0 X W d now L' T o' p V' mb) ty => hW.map.del (T' := cancT T t.1) t ht hi h3.ids (fun x => by
      rw [mem_cancT]
      exact ⟨fun e => ⟨e.1, fun e' => e.2 (by rw [e'])⟩, fun e => ⟨e.1, fun e' => e.2 (hun x e.1 e')⟩⟩) (cancT_len h3 ht) ty)
    obtain ⟨t1, t2⟩ := t
    change (Instr.lookup _ _ (.int .u64 (t1 : Int)) true).run _ _ = .ok (.tuple #[.int .u64 (t2 : Int), _]) _ at hrun
    clear h1 h2 h3 h4 hh hc ht hun hta
    go_enter Try.func17, Try.ntmps17
    go_wp2_with fail
    refine HP.out.mono ?_
    rintro r w1 ⟨n, hn, hp, rfl, hW, hb1⟩
    have HW := Lib.hid hW
    have Hp := Lib.hid (And.intro hp hb1)
    clear hp hb1 hW
    go_wp2_with fail
    refine (HRem.out _ HW.out n hn).mono ?_
    rintro r w2 ⟨rfl, hE⟩
    obtain ⟨⟨o', V', h5⟩, hk, hbel⟩ := HW.out.step hn hE
    have q1 := h5.mapc
    obtain ⟨w3, hdel, g1, g2⟩ := HD.out _ _ _ _ h5 0
    have He := Lib.hid (Hfin.out n w1 w2 w3 o' V' hn Hp.out.1 Hp.out.2 hk hbel h5 g1 g2)
    clear h5 hk hbel hE g1 g2
    go_wp2
    go_ret
    exact ⟨rfl, He.out⟩
end Go.Proofs.Ythidinaflaogfaa
