/- The walk of a disk's carryOut, whatever the change does. -/
import Derived.Test.YtdnbjpfapfnpaaaDkF
import Derived.StillTailTactics
namespace Go.Proofs.Ytdnbjpfapfnpaaa
open Go.RowKit Go.Maps

set_option maxRecDepth 100000 in
set_option maxHeartbeats 3200000 in
theorem carry_any {S : Nat → Prop} {w : World} {d mb : Nat} {p : Int} {L : List FW} {M : DM} (h : DiskAt S w d mb p L M) (n : List UInt8) (hn : n.length ≤ 9223372036854775807)
    (k : Nat) (caps : Array Value) (hent : ∀ args w, (callFunc k args).run Try.prog w = .ok (.enter k args) w) (Q : Ending → World → Prop)
    (H10 : ∀ w', DiskIn S w' d (failM M) → Chg S w w' → (failM M).down = true → Q (.returned (.int .i64 10)) w')
    (H6 : ∀ w', DiskIn S w' d (failM M) → Chg S w w' → (failM M).down = false → named n = false → Q (.returned (.int .i64 6)) w')
    (HF : ∀ p' w', DiskAt S w' d mb p' L (failM M) → Chg S w w' → (failM M).down = false → named n = true → Calls Try.prog k (#[fileV (findN FW.n n L)] ++ caps) w' fun e w'' => (∃ v, e = .returned v) ∧ Q e w'') :
    Calls Try.prog 29 #[.pointer (some ⟨d, 0, none⟩), .agg #[encStr n, .func (.func k) #[] caps]] w Q := by
  have h1 := h.below ((Below.refl w.heap.size w).alloc (Nat.le_refl _) (.cells #[encStr n, .func (.func k) #[] caps] 74))
  have Hc1 := Lib.hid (Chg.alloc S w (.cells #[encStr n, .func (.func k) #[] caps] 74))
  have HFl := Lib.hid (fails_any h1)
  have HP := Lib.hid (fun w => possible_any n w)
  have hb : ¬ S w.heap.size := fun hs => absurd (h.bound _ hs) (Nat.lt_irrefl _)
  have Hb := Lib.hid hb
  have k0 : (w.alloc (.cells #[encStr n, .func (.func k) #[] caps] 74)).cell? ⟨w.heap.size, 0, none⟩ = some (encStr n) := cell_of_row _ _ _ _ _ (0, 0) (heap_alloc_new _ _)
  have k1 : (w.alloc (.cells #[encStr n, .func (.func k) #[] caps] 74)).cell? ⟨w.heap.size, 1, none⟩ = some (.func (.func k) #[] caps) := cell_of_row _ _ _ _ _ (0, 0) (heap_alloc_new _ _)
  have K0 := Lib.hid k0
  have K1 := Lib.hid k1
  have H10' := Lib.hid H10
  have H6' := Lib.hid H6
  have HF' := Lib.hid HF
  clear h h1 hb k0 k1 H10 H6 HF
  go_enter Try.func29, Try.ntmps29
  go_wp2_with fail
  refine HFl.out.mono ?_
  rintro e w1 ⟨rfl, ⟨p', hD⟩, hc, hsz⟩
  have HD := Lib.hid hD
  have Hc := Lib.hid (Hc1.out.same hc)
  have c0 := hc.cell K0.out Hb.out
  have c1 := hc.cell K1.out Hb.out
  obtain ⟨_, d1, _, _, _⟩ := hD.cells
  have hlk := hD.look n hn
  clear hD hc hsz
  cases hdn : (failM M).down with
  | true =>
    have Hdn := Lib.hid hdn
    clear hdn
    go_wp2
    exact H10'.out _ ⟨mb, p', L, HD.out⟩ Hc.out Hdn.out
  | false =>
    have Hdn := Lib.hid hdn
    clear hdn
    go_wp2_with fail
    refine (HP.out _).mono ?_
    rintro e w2 ⟨rfl, rfl⟩
    cases hnm : named n with
    | false =>
      have Hnm := Lib.hid hnm
      clear hnm
      go_wp2
      exact H6'.out _ ⟨mb, p', L, HD.out⟩ Hc.out Hdn.out Hnm.out
    | true =>
      have Hnm := Lib.hid hnm
      clear hnm
      go_wp2
      refine wp_region_still_tail 9 (by kernel_rfl) (by kernel_rfl) ?_
      simp only [List.take_succ_cons, List.take_zero, List.drop_succ_cons, List.drop_zero]
      have HD3 := Lib.hid (HD.out.below (Chg.below (S := fun _ => False) (Chg.drew _ w2) (fun _ h => h.elim) (Nat.le_refl _)))
      have Hc3 := Lib.hid (Hc.out.same (Chg.drew S w2))
      have c0 : w2.drew.cell? ⟨w.heap.size, 0, none⟩ = some (encStr n) := c0
      have c1 : w2.drew.cell? ⟨w.heap.size, 1, none⟩ = some (.func (.func k) #[] caps) := c1
      have d1 : w2.drew.cell? ⟨d, 1, none⟩ = some (.map (some mb)) := d1
      have hlk : (Instr.lookup 47 (.map (some mb)) (encStr n) false).run Try.prog w2.drew = .ok (fileV (findN FW.n n L)) w2.drew := HD3.out.look n hn
      change wpStill _ _ w2.drew (fun a' => wpList _ _ _ _ a' w2.drew) _ _
      have HF3 := Lib.hid (HF'.out p' w2.drew HD3.out Hc3.out Hdn.out Hnm.out)
      clear HD Hc HFl Hc1 HD3 Hc3 H10' H6' HF'
      generalize w2.drew = w3 at *
      repeat still_step
      refine wpStill_nil ?_
      go_wp2_with fail
      refine HF3.out.mono ?_
      rintro e w4 ⟨⟨v, rfl⟩, hq⟩
      have Hq := Lib.hid hq
      clear hq
      go_wp2
      exact Hq.out
end Go.Proofs.Ytdnbjpfapfnpaaa
