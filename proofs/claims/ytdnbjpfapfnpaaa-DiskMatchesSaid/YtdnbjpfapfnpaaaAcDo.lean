/- The walk of the statements' Do: an operation on a disk that the call itself has made. -/
import Derived.Test.YtdnbjpfapfnpaaaOpenA
import Derived.Test.YtdnbjpfapfnpaaaDkOwn
import Derived.Test.YtdnbjpfapfnpaaaDkO7
import Derived.Test.YtdnbjpfapfnpaaaLift
namespace Go.Proofs.Ytdnbjpfapfnpaaa
open Go.RowKit Go.Maps Go.Shelf

/-- An operation as a value. -/
def actV (x : AM) (pb : Option Addr) (cb : Nat) (pk : Option Addr) (ck : Nat) : Value := .agg #[.int .i64 x.k, .string ⟨x.nm.toArray⟩, .string ⟨x.to.toArray⟩, .slice pb x.bs.length cb, .int .i64 x.n, .slice pk x.ks.length ck]

/-- What the statements' Do answers and leaves. -/
def LDoEnd (w0 : World) (X : Nat → Prop) (w : World) (d : Nat) (r : DM × Int × List Nat) (e : Ending) (w' : World) : Prop :=
  ∃ p c, e = .returned (.tuple #[.int .i64 r.2.1, .slice p r.2.2.length c]) ∧ Bytes w' p r.2.2.length c r.2.2 ∧ OwnEnd w0 X w d r.1 w'

theorem OwnEnd.shift {w0 : World} {X : Nat → Prop} {w w1 : World} {d : Nat} {M : DM} {w' : World} (hb : Below w.heap.size w w1) (h0 : w0.heap.size ≤ w.heap.size) (hX : ∀ b, X b → b < w.heap.size) (h : OwnEnd w0 X w1 d M w') : OwnEnd w0 X w d M w' := by
  obtain ⟨h1, h2, h3, h4⟩ := h
  exact ⟨h1, fun b hb' => (h2 b hb').trans (hb.block b (hX b hb')), (hb.mono h0).trans h3, Nat.le_trans hb.size h4⟩

set_option maxRecDepth 100000 in
set_option maxHeartbeats 3200000 in
theorem ldo_any {w0 : World} {X : Nat → Prop} {w : World} {d : Nat} {M : DM} (hO : Own w0 X w d M) (x : AM) (pb : Option Addr) (cb : Nat) (pk : Option Addr) (ck : Nat)
    (hB : Bytes w0 pb x.bs.length cb x.bs) (hN : Nums w0 pk x.ks.length ck x.ks) (wn : -9223372036854775808 ≤ x.n ∧ x.n ≤ 9223372036854775807) (w1 : x.nm.length ≤ 9223372036854775807) (w2 : x.to.length ≤ 9223372036854775807)
    (hL : M.fs.length < 1000000) (hU : usedF M.fs + x.bs.length ≤ 100000000) :
    Calls Try.prog 8 #[.pointer (some ⟨d, 0, none⟩), actV x pb cb pk ck] w (LDoEnd w0 X w d (stepA x M)) := by
  have hb0 := hO.base
  have hXl : ∀ b, X b → b < w.heap.size := by obtain ⟨_, _, _, h, _⟩ := hO; exact h
  have ha : Below w.heap.size w (w.alloc (.cells #[.int .i64 x.k, .string ⟨x.nm.toArray⟩, .string ⟨x.to.toArray⟩, .slice pb x.bs.length cb, .int .i64 x.n, .slice pk x.ks.length ck] 35)) := (Below.refl _ _).alloc (Nat.le_refl _) _
  have hO1 := hO.below ha
  have hbB : 0 < x.bs.length → ∀ a, pb = some a → X a.block ∨ a.block < w0.heap.size := fun h a e => by
    obtain ⟨b, o, e2, hc⟩ := hB.cell h
    rw [e] at e2
    cases e2
    exact .inr (World.block_lt_of_cell? _ _ (hc 0 h))
  have hbN : 0 < x.ks.length → ∀ a, pk = some a → X a.block ∨ a.block < w0.heap.size := fun h a e => by
    obtain ⟨b, o, e2, hc⟩ := hN.cell h
    rw [e] at e2
    cases e2
    exact .inr (World.block_lt_of_cell? _ _ (hc 0 h))
  have hb01 : Below w0.heap.size w0 (w.alloc (.cells #[.int .i64 x.k, .string ⟨x.nm.toArray⟩, .string ⟨x.to.toArray⟩, .slice pb x.bs.length cb, .int .i64 x.n, .slice pk x.ks.length ck] 35)) := hb0.trans (ha.mono hb0.size)
  have HSh := Lib.hid (fun (M' : DM) (w' : World) (h : OwnEnd w0 X (w.alloc (.cells #[.int .i64 x.k, .string ⟨x.nm.toArray⟩, .string ⟨x.to.toArray⟩, .slice pb x.bs.length cb, .int .i64 x.n, .slice pk x.ks.length ck] 35)) d M' w') => OwnEnd.shift ha hb0.size hXl h)
  have HO := Lib.hid hO1
  have HBw := Lib.hid (hB.grow hb01)
  have HNw := Lib.hid (hN.grow hb01)
  have HbB := Lib.hid hbB
  have HbN := Lib.hid hbN
  have hend : ∀ (r : DM × Int) (v : Value) (w' : World), v = .int .i64 r.2 → OwnEnd w0 X (w.alloc (.cells #[.int .i64 x.k, .string ⟨x.nm.toArray⟩, .string ⟨x.to.toArray⟩, .slice pb x.bs.length cb, .int .i64 x.n, .slice pk x.ks.length ck] 35)) d r.1 w' → LDoEnd w0 X w d (r.1, r.2, []) (.returned (.tuple #[v, .slice none 0 0])) w' := fun r v w' hv h =>
    ⟨none, 0, by rw [hv]; rfl, bytes_nil w', HSh.out _ _ h⟩
  have Hend := Lib.hid hend
  clear hO hO1 hbB hbN hb01 ha hb0 hB hN hXl hend
  obtain ⟨k, nm, to, bs, n, ks⟩ := x
  simp only at *
  unfold actV
  simp only
  by_cases hk : 1 ≤ k ∧ k ≤ 5
  · have hst : stepA ⟨k, nm, to, bs, n, ks⟩ M = ((stepM k nm to bs M).1, (stepM k nm to bs M).2, []) := by unfold stepA; rw [if_pos hk]
    rw [hst]
    clear hst
    rcases (show k = 1 ∨ k = 2 ∨ k = 3 ∨ k = 4 ∨ k = 5 by omega) with rfl | rfl | rfl | rfl | rfl
    · have HC := Lib.hid (own_create HO.out nm w1 hL)
      clear hk
      go_enter Try.func8, Try.ntmps8
      go_wp2_with fail
      refine HC.out.mono ?_
      rintro e w' ⟨rfl, h⟩
      go_wp2
      go_ret2
      exact Hend.out (createM nm M) _ _ rfl h
    · have HC := Lib.hid (own_append HO.out nm w1 pb bs.length cb bs HBw.out HbB.out (by omega))
      clear hk
      go_enter Try.func8, Try.ntmps8
      go_wp2_with fail
      refine HC.out.mono ?_
      rintro e w' ⟨rfl, h⟩
      go_wp2
      go_ret2
      exact Hend.out (appendM nm bs M) _ _ rfl h
    · have HC := Lib.hid (own_sync HO.out nm w1)
      clear hk
      go_enter Try.func8, Try.ntmps8
      go_wp2_with fail
      refine HC.out.mono ?_
      rintro e w' ⟨rfl, h⟩
      go_wp2
      go_ret2
      exact Hend.out (syncM nm M) _ _ rfl h
    · have HC := Lib.hid (own_rename HO.out nm to w1 w2 hL)
      clear hk
      go_enter Try.func8, Try.ntmps8
      go_wp2_with fail
      refine HC.out.mono ?_
      rintro e w' ⟨rfl, h⟩
      go_wp2
      go_ret2
      exact Hend.out (renameM nm to M) _ _ rfl h
    · have HC := Lib.hid (own_remove HO.out nm w1)
      clear hk
      go_enter Try.func8, Try.ntmps8
      go_wp2_with fail
      refine HC.out.mono ?_
      rintro e w' ⟨rfl, h⟩
      go_wp2
      go_ret2
      exact Hend.out (removeM nm M) _ _ rfl h
  · by_cases h6 : k = 6
    · subst h6
      have hst : stepA ⟨6, nm, to, bs, n, ks⟩ M = (armM n M, 0, []) := by unfold stepA; rw [if_neg hk, if_pos rfl]
      rw [hst]
      have HC := Lib.hid (own_arm HO.out n wn.1 (by omega))
      clear hk hst
      go_enter Try.func8, Try.ntmps8
      go_wp2_with fail
      refine HC.out.mono ?_
      rintro e w' ⟨⟨v, rfl⟩, h⟩
      go_wp2
      go_ret2
      exact Hend.out (armM n M, 0) _ _ rfl h
    · by_cases h7 : k = 7
      · subst h7
        have hst : stepA ⟨7, nm, to, bs, n, ks⟩ M = (crashM ks M, 0, []) := by unfold stepA; rw [if_neg hk, if_neg h6, if_pos rfl]
        rw [hst]
        have HC := Lib.hid (own_crash HO.out hL pk ks.length ck ks HNw.out HbN.out)
        clear hk hst h6
        go_enter Try.func8, Try.ntmps8
        go_wp2_with fail
        refine HC.out.mono ?_
        rintro e w' ⟨⟨v, rfl⟩, h⟩
        go_wp2
        go_ret2
        exact Hend.out (crashM ks M, 0) _ _ rfl h
      · have hst : stepA ⟨k, nm, to, bs, n, ks⟩ M = (M, (readM nm M).2, (readM nm M).1) := by unfold stepA; rw [if_neg hk, if_neg h6, if_neg h7]
        rw [hst]
        have q1 : (k == 1) = false := beq_eq_false_iff_ne.2 (by omega)
        have q2 : (k == 2) = false := beq_eq_false_iff_ne.2 (by omega)
        have q3 : (k == 3) = false := beq_eq_false_iff_ne.2 (by omega)
        have q4 : (k == 4) = false := beq_eq_false_iff_ne.2 (by omega)
        have q5 : (k == 5) = false := beq_eq_false_iff_ne.2 (by omega)
        have q6 : (k == 6) = false := beq_eq_false_iff_ne.2 h6
        have q7 : (k == 7) = false := beq_eq_false_iff_ne.2 h7
        have HC := Lib.hid (own_read HO.out nm w1 (by omega))
        clear hk hst h6 h7
        go_enter Try.func8, Try.ntmps8
        go_wp2_with fail
        refine HC.out.mono ?_
        rintro e w' ⟨p, c, rfl, hBr, _, hb, _⟩
        go_wp2
        go_ret2
        have h5 := HO.out.below hb
        exact ⟨p, c, rfl, hBr, HSh.out _ _ ⟨h5, fun b hX => hb.block b (by obtain ⟨_, _, _, h, _⟩ := HO.out; exact h b hX), hb.mono HO.out.base.size, hb.size⟩⟩
end Go.Proofs.Ytdnbjpfapfnpaaa
