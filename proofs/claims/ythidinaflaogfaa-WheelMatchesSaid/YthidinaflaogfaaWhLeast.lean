/- The walk of least. -/
import Derived.Test.YthidinaflaogfaaWhMid
import Derived.Deep.RegionLaw
import Derived.Deep.RegionHeld3
namespace Go.Proofs.Ythidinaflaogfaa
open Go.RowKit

/-- A level's items without those of slot s. -/
def notS (k : Nat) (l : List It) (s : Nat) : List It := l.filter fun y => !decide (slotN k y.2 = s)

theorem notS_upd (k : Nat) (l : List It) (s : Nat) : upd (slF k l) s [] = slF k (notS k l s) := by
  funext t
  unfold upd slF notS
  rw [List.filter_filter]
  by_cases h : t = s
  · rw [if_pos h]
    refine (List.filter_eq_nil_iff.2 fun a _ => ?_).symm
    simp
    omega
  · rw [if_neg h]
    refine List.filter_congr fun a _ => ?_
    rw [Bool.eq_iff_iff]
    simp
    omega

/-- What least holds: the list M of slot s of level n has been taken, and j of its items put back. -/
structure LeJ (w0 : World) (X : Nat → Prop) (w : World) (d now : Nat) (L : Nat → List It) (T : List It) (p : Nat → Nat) (mb n s : Nat) (v : Value) (M : List It) (j : Nat) (wr : World) : Prop where
  ex : ∃ o' V' l, Wh w0 (fun b => X b ∨ v.ownBlock = some b) wr d now (updL L n l) T o' p V' mb ∧ srtI l ∧ ∀ x, x ∈ l ↔ x ∈ L n ∧ (slotN (n % 4) x.2 ≠ s ∨ x ∈ M.take j)
  row : OwnL wr 0 v M
  keep : ∀ b, X b → wr.heap[b]? = w.heap[b]?
  below : Below w0.heap.size w wr

section
variable {w0 : World} {X : Nat → Prop} {w : World} {d now : Nat} {L : Nat → List It} {T : List It} {p : Nat → Nat} {mb n s : Nat} {v : Value} {M : List It} {j : Nat} {wr : World}

theorem LeJ.turned (h : LeJ w0 X w d now L T p mb n s v M j wr) (hx : ∀ b, X b → b < w.heap.size) {w' : World} (hb : Below wr.heap.size wr w') : LeJ w0 X w d now L T p mb n s v M j w' := by
  obtain ⟨⟨o', V', l, h1, h2⟩, h3, h4, h5⟩ := h
  exact ⟨⟨o', V', l, h1.below hb, h2⟩, h3.below hb, fun b e => (hb.block b (Nat.lt_of_lt_of_le (hx b e) h5.size)).trans (h4 b e), h5.trans (hb.mono h1.base.size)⟩

theorem LeJ.start {o : Nat → Nat} {V : Nat → List Value} (h : Wh w0 X w d now L T o p V mb) (hg : GoodP now T (fun _ => True) L) (hn : n < 11) (hs : s < 64) :
    Calls Try.prog 43 #[.pointer (some ⟨p n, 0, none⟩), .int .i64 (s : Int)] w fun r w' => ∃ v, r = .returned v ∧ LeJ w0 X w d now L T p mb n s v (slF (n % 4) (L n) s) 0 w' := by
  refine (h.takeAside hn s hs _ (notS_upd _ _ _)).mono ?_
  rintro r w' ⟨v, rfl, h1, h2, h3, o', V', h4⟩
  refine ⟨v, rfl, ⟨o', V', _, h4, List.Pairwise.filter _ (hg.srt n), fun x => ?_⟩, h1, h2, h3⟩
  unfold notS
  rw [List.mem_filter]
  simp

theorem mem_takeS {r : It} (hr : M[j]? = some r) (x : It) : x ∈ M.take (j + 1) ↔ x ∈ M.take j ∨ x = r := by
  obtain ⟨hj, rfl⟩ := List.getElem?_eq_some_iff.1 hr
  rw [List.take_succ_eq_append_getElem hj, List.mem_append]
  simp

theorem LeJ.put (h : LeJ w0 X w d now L T p mb n s v M j wr) (hg : GoodP now T (fun _ => True) L) (hT : TimW T) (hnw : now < 9223372036854775808) (hl : T.length ≤ 990) (hn : n < 11) (hM : M = slF (n % 4) (L n) s) {x : It} (hr : M[j]? = some x) :
    Calls Try.prog 39 #[.pointer (some ⟨p n, 0, none⟩), .agg #[.int .u64 (x.1 : Int), .int .u64 (x.2 : Int)]] wr fun r w' => ∃ b, r = .returned (.bool b) ∧ LeJ w0 X w d now L T p mb n s v M (j + 1) w' := by
  obtain ⟨⟨o', V', l, h1, h2, h2'⟩, h3, h4, h5⟩ := h
  have hxM : x ∈ M := List.mem_of_getElem? hr
  rw [hM] at hxM
  obtain ⟨hxL, hxs⟩ := mem_slF.1 hxM
  have hnd : M.Nodup := by rw [hM]; exact srt_nodup (srt_slF (hg.srt n) s)
  have hxj : x ∉ M.take j := fun hm => by
    obtain ⟨hj, e⟩ := List.getElem?_eq_some_iff.1 hr
    have e2 : M = M.take j ++ x :: M.drop (j + 1) := by rw [← e, ← List.drop_eq_getElem_cons hj, List.take_append_drop]
    rw [e2, List.nodup_append] at hnd
    exact hnd.2.2 x hm x List.mem_cons_self rfl
  have hxl : x ∉ l := fun hm => by
    rcases ((h2' x).1 hm).2 with e | e
    · exact e hxs
    · exact hxj e
  have hll : l.length ≤ 990 := by
    have := nodup_len (srt_nodup h2) (fun y hy => ((h2' y).1 hy).1)
    have := hg.len n
    omega
  have hO := h1.lvO hn
  rw [updL_same] at hO
  have hxb : x.2 < 18446744073709551616 := by
    obtain ⟨t, ht, _, _, rfl⟩ := (hg.mem n x).1 hxL
    have h6 := hT.tick t ht
    exact Nat.lt_of_le_of_lt (coarse_le _ _) (show max t.2 now < 18446744073709551616 by omega)
  refine (own_put hO (by omega) h2 (by omega) x hxb).mono ?_
  rintro r w' ⟨e, hE⟩
  rw [if_neg hxl] at hE
  obtain ⟨⟨o2, V2, g1⟩, g2, g3⟩ := h1.step hn hE
  refine ⟨_, e, ⟨o2, V2, insI x l, ?_, srt_ins h2 hxl, fun y => ?_⟩, OwnL.kept h3 (fun b e => g2 b (.inr e)), fun b hx => (g2 b (.inl hx)).trans (h4 b hx), h5.trans g3⟩
  · have e2 : updL (updL L n l) n (insI x l) = updL L n (insI x l) := funext (updL_twice L n l _)
    rw [e2] at g1
    exact g1
  · rw [mem_ins h2, h2', mem_takeS hr]
    constructor
    · rintro (rfl | ⟨h6, h7⟩)
      · exact ⟨hxL, .inr (.inr rfl)⟩
      · exact ⟨h6, h7.imp id .inl⟩
    · rintro ⟨h6, h7 | h7 | h7⟩
      · exact .inr ⟨h6, .inl h7⟩
      · exact .inr ⟨h6, .inr h7⟩
      · exact .inl h7

theorem LeJ.done (h : LeJ w0 X w d now L T p mb n s v M M.length wr) (hg : GoodP now T (fun _ => True) L) (hM : M = slF (n % 4) (L n) s) : WhEnd w0 X w d now L T wr := by
  obtain ⟨⟨o', V', l, h1, h2, h2'⟩, h3, h4, h5⟩ := h
  have e : l = L n := srt_ext h2 (hg.srt n) (fun x => by
    rw [h2', List.take_length, hM, mem_slF]
    constructor
    · exact fun h => h.1
    · intro h6
      refine ⟨h6, ?_⟩
      by_cases h7 : slotN (n % 4) x.2 = s
      · exact .inr ⟨h6, h7⟩
      · exact .inl h7)
  rw [e, show updL L n (L n) = L from funext (updL_id L n)] at h1
  exact ⟨WhO.swap ⟨o', p, V', mb, h1⟩ (Below.refl _ _) (fun b hb => ⟨.inl (.inl hb), h1.xb b (.inl hb)⟩), h4, h5⟩
end

set_option maxRecDepth 100000 in
set_option maxHeartbeats 3200000 in
theorem wleast_any {w0 : World} {X : Nat → Prop} {w : World} {d now : Nat} {L : Nat → List It} {T : List It} {o p : Nat → Nat} {V : Nat → List Value} {mb n s : Nat} (h : Wh w0 X w d now L T o p V mb) (hg : GoodP now T (fun _ => True) L) (hT : TimW T) (hnw : now < 9223372036854775808) (hl : T.length ≤ 990) (hn : n < 11) (hs : s < 64)
    {h0 : It} (hh : h0 ∈ T) (hmin : ∀ t ∈ T, h0.2 ≤ t.2) (hin : ∃ y, y ∈ slF (n % 4) (L n) s ∧ y.1 = h0.1) :
    Calls Try.prog 37 #[.pointer (some ⟨d, 0, none⟩), .pointer (some ⟨p n, 0, none⟩), .int .i64 (s : Int)] w fun r w' => r = .returned (.int .u64 (h0.2 : Int)) ∧ WhEnd w0 X w d now L T w' := by
  have HT := Lib.hid (LeJ.start h hg hn hs)
  have Hx := Lib.hid h.xb
  have HG := Lib.hid (And.intro hg (And.intro hT (And.intro hnw hl)))
  have hh2 := hT.tick h0 hh
  have Hin := Lib.hid (And.intro hh (And.intro hmin hin))
  obtain ⟨M, hM⟩ : ∃ M, M = slF (n % 4) (L n) s := ⟨_, rfl⟩
  rw [← hM] at HT
  have HM := Lib.hid hM
  obtain ⟨z, hz⟩ : ∃ z, z = h0.2 := ⟨_, rfl⟩
  rw [← hz] at hh2 ⊢
  have Hz := Lib.hid hz
  clear h hg hT hnw hl hh hmin hin hM hz
  go_enter Try.func37, Try.ntmps37
  go_wp2_with fail
  refine HT.out.mono ?_
  rintro r w1 ⟨v, rfl, hJ⟩
  obtain ⟨N, hN⟩ : ∃ N, M.length = N := ⟨_, rfl⟩
  obtain ⟨pp, c, rfl, hI⟩ := OwnL.items hJ.row hN
  have hle := hI.le
  have hmx := hI.max
  have HJ0 := Lib.hid hJ
  have HN := Lib.hid hN
  clear hJ hN hI
  go_wp2
  go_loopw [7, 14] (fun q i wr => ∃ j Q : Nat, j ≤ N ∧ i = .int .i64 (j : Int) ∧ q = .int .u64 (Q : Int) ∧ z ≤ Q ∧ Q < 9223372036854775808 ∧ RowKit.Hid (∀ x ∈ M.take j, x.1 = h0.1 → Q ≤ z) ∧ RowKit.Hid (LeJ w0 X w d now L T p mb n s (.slice pp N c) M j wr)) (fun _ i _ => N - (intOf i).toNat)
  case atStart => exact ⟨0, 9223372036854775807, Nat.zero_le _, rfl, rfl, by omega, by omega, Lib.hid (fun x hx => by simp at hx), HJ0⟩
  case round =>
    obtain ⟨j, Q, hj, rfl, rfl, hzQ, hQb, HQ, HJ⟩ := hrel
    by_cases hlt : j < N
    · have hji : (j : Int) < (N : Int) := by omega
      obtain ⟨x, hr⟩ : ∃ x, M[j]? = some x := ⟨_, List.getElem?_eq_getElem (by rw [HN.out]; exact hlt)⟩
      obtain ⟨pp2, c2, e2, hI⟩ := OwnL.items HJ.out.row HN.out
      rw [Value.slice.injEq] at e2
      obtain ⟨rfl, _, rfl⟩ := e2
      obtain ⟨b, oo, rfl, hc⟩ := hI.cell (by omega)
      obtain ⟨g0, g1⟩ := hc j x hr
      have hxL : x ∈ L n := by
        have := List.mem_of_getElem? hr
        rw [HM.out] at this
        exact (mem_slF.1 this).1
      obtain ⟨⟨t1, t2⟩, ht, _, _, hxt⟩ := (HG.out.1.mem n x).1 hxL
      have Hr := Lib.hid (And.intro hr ht)
      have ht2b := HG.out.2.1.tick _ ht
      change t2 < _ at ht2b
      have Hmin := Lib.hid (Hin.out.2.1 _ ht)
      obtain ⟨x1, x2⟩ := x
      have hx1 : x1 = t1 := congrArg Prod.fst hxt
      subst hx1
      change wr.cell? _ = some (.int .u64 (x1 : Int)) at g0
      change wr.cell? _ = some (.int .u64 (x2 : Int)) at g1
      obtain ⟨Q2, hQ2⟩ : ∃ Q2, Q2 = min Q t2 := ⟨_, rfl⟩
      have hqm : min (Q : Int) (t2 : Int) = (Q2 : Int) := by rw [hQ2]; omega
      have HQ2 := Lib.hid hQ2
      have hb0 : Below wr.heap.size wr (wr.alloc (.cells #[.int .u64 (x1 : Int), .int .u64 (x2 : Int)] 44)) := (Below.refl _ _).alloc (Nat.le_refl _) _
      obtain ⟨d0, d1⟩ := box2 wr (.int .u64 (x1 : Int)) (.int .u64 (x2 : Int)) 44
      obtain ⟨⟨o', V', l, hW, _⟩, _⟩ := HJ.out
      have hW := hW.below hb0
      have q0 := hW.mapc
      have hlook := (hW.map.kept (w' := (wr.alloc (.cells #[.int .u64 (x1 : Int), .int .u64 (x2 : Int)] 44)).drew) rfl).at (x1, t2) ht (HG.out.2.1.idb _ ht)
      have HPut := Lib.hid ((HJ.out.turned Hx.out (hb0.trans ((Below.refl wr.heap.size (wr.alloc (.cells #[.int .u64 (x1 : Int), .int .u64 (x2 : Int)] 44))).drew))).put HG.out.1 HG.out.2.1 HG.out.2.2.1 HG.out.2.2.2 hn HM.out hr)
      obtain ⟨wx, hwx⟩ : ∃ wx, wx = wr.alloc (.cells #[.int .u64 (x1 : Int), .int .u64 (x2 : Int)] 44) := ⟨_, rfl⟩
      rw [← hwx] at d0 d1 q0 hlook HPut
      clear hW hb0 hc hr hxL hxt hQ2 ht hI HJ
      go_upto_region 5 with fail
      rw [← hwx]
      clear hwx g0 g1
      go_region
      go_wp2_with fail
      refine HPut.out.mono ?_
      rintro r w8 ⟨bb, rfl, hJ8⟩
      have HJ8 := Lib.hid hJ8
      clear hJ8
      go_wp2
      go_roundw
      case rel => exact ⟨j + 1, Q2, by omega, by go_num, rfl, by have h1 := HQ2.out; have h2 := Hmin.out; have h3 := Hz.out; change h0.2 ≤ t2 at h2; omega, by have h1 := HQ2.out; omega, Lib.hid (fun y hy e => by
        have h1 := HQ2.out
        rcases (mem_takeS Hr.out.1 y).1 hy with h5 | rfl
        · have := HQ.out y h5 e
          omega
        · have h6 := HG.out.2.1.ids _ Hr.out.2 h0 Hin.out.1 e
          have h7 : t2 = h0.2 := congrArg Prod.snd h6
          have h8 := Hz.out
          omega), HJ8⟩
      case measure => simp [intOf]; omega
    · have hji : ¬ (j : Int) < (N : Int) := by omega
      obtain rfl : j = N := by omega
      have hQz : Q = z := by
        obtain ⟨y, hy, e⟩ := Hin.out.2.2
        have := HQ.out y (by rw [← HN.out, List.take_length, HM.out]; exact hy) e
        omega
      subst hQz
      have hJ := HJ.out
      rw [← HN.out] at hJ
      have HE := Lib.hid (LeJ.done hJ HG.out.1 HM.out)
      clear hJ
      go_wp2
      go_ret
      exact ⟨rfl, HE.out⟩
end Go.Proofs.Ythidinaflaogfaa
