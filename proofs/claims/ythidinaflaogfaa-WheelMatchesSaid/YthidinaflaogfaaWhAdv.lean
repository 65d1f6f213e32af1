/- The walk of Advance. -/
import Derived.Test.YthidinaflaogfaaWhTake
import Derived.Test.YthidinaflaogfaaWhFire
namespace Go.Proofs.Ythidinaflaogfaa
open Go.RowKit

/-- What Advance answers. -/
def advC (now now' : Nat) : Int := if 9223372036854775807 < now' then 2 else if now' < now then 12 else 0
/-- What Advance returns. -/
def advD (now now' : Nat) (T : List It) : List It := if advC now now' = 0 then T.filter (fun t => decide (t.2 ≤ now')) else []
/-- What Advance leaves. -/
def advT (now now' : Nat) (T : List It) : List It := if advC now now' = 0 then T.filter (fun t => decide (now' < t.2)) else T
def advN (now now' : Nat) : Nat := if advC now now' = 0 then now' else now

/-- What Advance answers and leaves. -/
def AdvW (w0 : World) (X : Nat → Prop) (w : World) (d now now' : Nat) (T : List It) (r : Ending) (w' : World) : Prop :=
  ∃ u, r = .returned (.tuple #[u, .int .i64 (advC now now')]) ∧ OwnL w' w.heap.size u (advD now now' T) ∧ WhS w0 (fun b => X b ∨ u.ownBlock = some b) w' d (advN now now') (advT now now' T) ∧ (∀ b, X b → w'.heap[b]? = w.heap[b]?) ∧ Below w0.heap.size w w'

theorem AdvW.refused {w0 : World} {X : Nat → Prop} {w : World} {d now now' : Nat} {T : List It} (h : WhS w0 X w d now T) {c : Int} (hc : advC now now' = c) (hne : c ≠ 0) : AdvW w0 X w d now now' T (.returned (.tuple #[.slice none 0 0, .int .i64 c])) w := by
  have hne : advC now now' ≠ 0 := by rw [hc]; exact hne
  refine ⟨.slice none 0 0, by rw [hc], ?_, ?_, fun _ _ => rfl, Below.refl _ _⟩
  · unfold advD
    rw [if_neg hne]
    exact World.ownsRow_nil _ _ _ _
  · unfold advT advN
    rw [if_neg hne, if_neg hne]
    exact h.swap (Below.refl _ _) (fun b hb => ⟨.inl (hb.elim id (fun e => by cases e)), h.xb b (hb.elim id (fun e => by cases e))⟩)

set_option maxRecDepth 100000 in
theorem wadv_any {w0 : World} {X : Nat → Prop} {w : World} {d now : Nat} {T : List It} (h : WhS w0 X w d now T) (hl : T.length ≤ 990) (now' : Nat) (_ : now' < 18446744073709551616) :
    Calls Try.prog 14 #[.pointer (some ⟨d, 0, none⟩), .int .u64 (now' : Int)] w (AdvW w0 X w d now now' T) := by
  have H := Lib.hid h
  obtain ⟨L, ⟨o, p, V, mb, h1⟩, h2, h3, h4⟩ := h
  have q0 := h1.tick
  by_cases hbig : 9223372036854775807 < now'
  · have hb : (9223372036854775807 : Int) < (now' : Int) := by omega
    have Hc := Lib.hid (show advC now now' = 2 from if_pos hbig)
    clear h1 h2 h3 h4 hbig
    go_enter Try.func14, Try.ntmps14
    go_wp2
    refine bodyPost_ret (results_tmp2 rfl _ _ _) rfl ?_
    exact AdvW.refused H.out Hc.out (by decide)
  · by_cases hlt : now' < now
    · have hb : ¬ (9223372036854775807 : Int) < (now' : Int) := by omega
      have hb2 : (now' : Int) < (now : Int) := by omega
      have Hc := Lib.hid (show advC now now' = 12 by unfold advC; rw [if_neg hbig, if_pos hlt])
      clear h1 h2 h3 h4 hbig hlt
      go_enter Try.func14, Try.ntmps14
      go_wp2
      refine bodyPost_ret (results_tmp2 rfl _ _ _) rfl ?_
      exact AdvW.refused H.out Hc.out (by decide)
    · have hb : ¬ (9223372036854775807 : Int) < (now' : Int) := by omega
      have hb2 : ¬ (now' : Int) < (now : Int) := by omega
      have Hc := Lib.hid (show advC now now' = 0 by unfold advC; rw [if_neg hbig, if_neg hlt])
      have HT := Lib.hid (wtake_any ⟨o, V, mb, h1⟩ h2 h3 hl now' h4 (by omega) (by omega))
      have Hfire := Lib.hid (show ∀ w1 v R K, IsPl now now' K → RowW w0 X w d now T p v R (leftW now' K L) w1 → TakenW L (leftW now' K L) R →
          w1.cell? ⟨d, 0, none⟩ = some (.int .u64 (now : Int)) ∧ w1.frozen? ⟨d, 0, none⟩ = false ∧ ∃ pp n c, v = .slice pp n c ∧ Calls Try.prog 33 #[.pointer (some ⟨d, 0, none⟩), .slice pp n c] (w1.setCell ⟨d, 0, none⟩ (.int .u64 (now' : Int))) fun r w' => ∃ u, r = .returned u ∧ AdvW w0 X w d now now' T (.returned (.tuple #[u, .int .i64 0])) w' from fun w1 v R K hK hR hTk => by
        obtain ⟨o1, V1, mb1, hW⟩ := hR.wh
        obtain ⟨g1, g2, g3⟩ := hW.setNow now'
        obtain ⟨f1, f2, f3⟩ := left_good h2 h3 (by omega) hK (by omega) hTk
        obtain ⟨pp, c, rfl, hI⟩ := OwnL.items hR.row rfl
        have hrow2 : OwnL (w1.setCell ⟨d, 0, none⟩ (.int .u64 (now' : Int))) w.heap.size (.slice pp R.length c) R := OwnL.kept hR.row (fun b e => g2 b (.inr e))
        have hI2 : Items (w1.setCell ⟨d, 0, none⟩ (.int .u64 (now' : Int))) pp R.length c R := by
          obtain ⟨p2, c2, e2, hI2⟩ := OwnL.items hrow2 rfl
          rw [Value.slice.injEq] at e2
          obtain ⟨rfl, _, rfl⟩ := e2
          exact hI2
        refine ⟨hW.tick, hW.frozen 0, pp, R.length, c, rfl, (wfire_any ⟨o1, p, V1, mb1, g1⟩ f1 ⟨h3, hTk.nodup, f2, f3⟩ (by omega) hl pp R.length c hI2 (fun b oo e => .inr (by rw [e]; rfl))).mono ?_⟩
        rintro r w' ⟨u, D, rfl, hD, k1, k2, k3, k4⟩
        have hsz : w.heap.size ≤ (w1.setCell ⟨d, 0, none⟩ (.int .u64 (now' : Int))).heap.size := Nat.le_trans hR.below.size g3.size
        refine ⟨u, rfl, u, by rw [Hc.out], ?_, ?_, fun b hx => ((k3 b (.inl hx)).trans (g2 b (.inl hx))).trans (hR.keep b hx), (hR.below.trans g3).trans k4⟩
        · unfold advD
          rw [if_pos Hc.out, ← hD]
          exact Joins.ownsRow_le k1 hsz
        · unfold advT advN
          rw [if_pos Hc.out, if_pos Hc.out]
          exact k2.swap (Below.refl _ _) (fun b hb => ⟨.inl (hb.elim (fun e => .inl (.inl e)) .inr), k2.xb b (hb.elim (fun e => .inl (.inl e)) .inr)⟩))
      clear h1 h2 h3 h4 hbig hlt
      go_enter Try.func14, Try.ntmps14
      go_wp2_with fail
      refine HT.out.mono ?_
      rintro r w1 ⟨K, v, R, hK, rfl, hR, hTk⟩
      obtain ⟨c0, fz, pp, n, c, rfl, hcall⟩ := Hfire.out w1 v R K hK hR hTk
      have Hcall := Lib.hid hcall
      clear hK hR hTk hcall q0
      go_wp2_with fail
      refine Hcall.out.mono ?_
      rintro r w2 ⟨u, rfl, hA⟩
      have HA := Lib.hid hA
      clear hA
      go_wp2
      refine bodyPost_ret (results_tmp2 rfl _ _ _) rfl ?_
      exact HA.out
end Go.Proofs.Ythidinaflaogfaa
