import Derived.Test.YtcapbaocchaenaaGreatDoorSG9
/- The walks of slices.CompareFunc over values, of the code's Compare and Same. -/
namespace Go.Proofs.YtcapbaocchaenaaGreatDoor
open Go.RowKit Fl

/-- Where a list of values lies. -/
def Lies (w : World) (l : List V) (a : Option Addr) : Prop := l = [] ∨ ∃ b o, a = some ⟨b, o, none⟩ ∧ VsIn w l b o

theorem Lies.below {w w' : World} {l : List V} {a : Option Addr} (h : Lies w l a) (hb : Below w.heap.size w w') : Lies w' l a :=
  h.imp id (fun ⟨b, o, e, hv⟩ => ⟨b, o, e, VsIn.keep (fun _ hp => hb.cell hp) l b o hv⟩)

set_option maxRecDepth 100000 in
set_option maxHeartbeats 3200000 in
theorem cmpfunc_any (l l' : List V) (a a' : Option Addr) (cap cap' : Nat) (w : World) (ha : Lies w l a) (ha' : Lies w l' a') (hcap : l.length ≤ cap) (hmax : cap ≤ 9223372036854775807)
    (ih : ∀ u ∈ l, ∀ (u' : V) (x x' : Array Value) (W : World), VIn W u x → VIn W u' x' → Calls Tryz.prog 121 #[.agg x, .agg x'] W fun e w' => e = .returned (.int .i64 (cmpC u u')) ∧ Below W.heap.size W w') :
    Calls Tryz.prog 162 #[.slice a l.length cap, .slice a' l'.length cap', .func (.func 121) #[] #[]] w fun e w' => e = .returned (.int .i64 (cmpK l l')) ∧ Below w.heap.size w w' := by
  have IH := Lib.hid ih
  have Ha := Lib.hid ha
  have Ha' := Lib.hid ha'
  clear ih ha ha'
  have hsf := fun (W : World) (A : Addr) (f : Nat) (m : Mode) => (run_store Tryz.prog W A (.float .f64 f) m rfl)
  go_enter Tryz.func162, Tryz.ntmps162
  go_wp2
  go_loopw [13] (fun i wr => ∃ j : Nat, j ≤ l.length ∧ i = .int .i64 (j : Int) ∧ (∀ (k : Nat) (u u' : V), k < j → l[k]? = some u → l'[k]? = some u' → cmpC u u' = 0) ∧ j ≤ l'.length ∧ Below w.heap.size w wr) (fun i _ => l.length - (intOf i).toNat)
  case atStart => exact ⟨0, Nat.zero_le _, rfl, fun k u u' hk _ _ => absurd hk (by omega), Nat.zero_le _, Below.refl _ _⟩
  case round =>
    obtain ⟨j, hj, rfl, hall, hj', hbr⟩ := hrel
    have Hall := Lib.hid hall
    have Hbr := Lib.hid hbr
    by_cases hlt : j < l.length
    · have hji : (j : Int) < (l.length : Int) := by omega
      by_cases hlt' : j < l'.length
      · have hji' : (j : Int) < (l'.length : Int) := by omega
        obtain ⟨b, o, rfl, hvs⟩ := (Ha.out.below hbr).resolve_left (by intro e; rw [e] at hlt; simp at hlt)
        obtain ⟨b', o', rfl, hvs'⟩ := (Ha'.out.below hbr).resolve_left (by intro e; rw [e] at hlt'; simp at hlt')
        obtain ⟨p, pc, hvy, c0, c1, c2, c3, c4⟩ := hvs.elem hlt
        obtain ⟨p', pc', hvy', c0', c1', c2', c3', c4'⟩ := hvs'.elem hlt'
        have HI := Lib.hid (fun W hb1 hb2 => IH.out _ (get_mem hlt).2 l'[j] _ _ W (hvy.below (w' := W) hb1) (hvy'.below (w' := W) hb2))
        have Hget := Lib.hid (get_mem hlt).1
        have Hget' := Lib.hid (get_mem hlt').1
        generalize l[j] = u at *
        generalize l'[j] = u' at *
        have Hlt := Lib.hid hlt
        have hO1 := (Below.refl wr.heap.size wr).alloc (Nat.le_refl _) (.cells (cells5 u.kind u.n u.f u.s p u.l.length pc) 43)
        have hO2 := hO1.alloc hO1.size (.cells (cells5 u'.kind u'.n u'.f u'.s p' u'.l.length pc') 43)
        have k0 := cell_below hO1 c0'
        have k1 := cell_below hO1 c1'
        have k2 := cell_below hO1 c2'
        have k3 := cell_below hO1 c3'
        have k4 := cell_below hO1 c4'
        have HO2 := Lib.hid hO2
        unfold cells5 at k0 k1 k2 k3 k4
        clear hall hbr hvs hvy hvs' hvy' hlt hlt' c0' c1' c2' c3' c4' hO1 hO2
        go_wp2_with fail
        refine (HI.out _ HO2.out HO2.out).mono ?_
        rintro e w2 ⟨rfl, hb2⟩
        have Hbw := Lib.hid (Hbr.out.trans ((HO2.out.trans (hb2.mono HO2.out.size)).mono Hbr.out.size))
        clear hb2
        by_cases h0 : cmpC u u' = 0
        · have Hall2 := Lib.hid (show ∀ (k : Nat) (v v' : V), k < j + 1 → l[k]? = some v → l'[k]? = some v' → cmpC v v' = 0 from fun k v v' hk hv hv' => by
            rcases Nat.lt_or_eq_of_le (Nat.le_of_lt_succ hk) with h1 | h1
            · exact Hall.out k v v' h1 hv hv'
            · rw [h1, Hget.out] at hv
              rw [h1, Hget'.out] at hv'
              cases hv
              cases hv'
              exact h0)
          rw [h0]
          clear h0
          go_wp2
          go_roundw
          case rel => exact ⟨j + 1, Hlt.out, by go_num, Hall2.out, by omega, Hbw.out⟩
          case measure => simp [intOf]; have := Hlt.out; omega
        · have Hf := Lib.hid (cmpK_differ Hget.out Hget'.out h0 Hall.out)
          generalize cmpC u u' = c at *
          have h0' : (c != 0) = true := bne_iff_ne.2 h0
          clear h0
          go_wp2
          go_ret
          exact ⟨ret_i64 Hf.out.symm, Hbw.out⟩
      · have Hf := Lib.hid (cmpK_left (l := l) (l' := l') (j := j) (by omega) hlt hall)
        obtain ⟨b, o, rfl, hvs⟩ := (Ha.out.below hbr).resolve_left (by intro e; rw [e] at hlt; simp at hlt)
        obtain ⟨p, pc, hvy, c0, c1, c2, c3, c4⟩ := hvs.elem hlt
        generalize l[j] = u at *
        have Hbw := Lib.hid (Hbr.out.trans (((Below.refl wr.heap.size wr).alloc (Nat.le_refl _) (.cells (cells5 u.kind u.n u.f u.s p u.l.length pc) 43)).mono Hbr.out.size))
        have hji' : ¬ ((j : Int) < (l'.length : Int)) := by omega
        clear hall hbr hvs hvy hlt hlt'
        go_wp2
        go_ret
        exact ⟨ret_i64 Hf.out.symm, Hbw.out⟩
    · obtain rfl : j = l.length := by omega
      have hji : ¬ ((l.length : Int) < (l.length : Int)) := by omega
      by_cases hlt' : l.length < l'.length
      · have Hf := Lib.hid (cmpK_right (l := l) (l' := l') rfl hlt' hall)
        have hji' : (l.length : Int) < (l'.length : Int) := by omega
        clear hall hbr hlt hlt'
        go_wp2
        go_ret
        exact ⟨ret_i64 Hf.out.symm, Hbr.out⟩
      · have Hf := Lib.hid (cmpK_both (l := l) (l' := l') rfl (by omega) hall)
        have hji' : ¬ ((l.length : Int) < (l'.length : Int)) := by omega
        clear hall hbr hlt hlt'
        go_wp2
        go_ret
        exact ⟨ret_i64 Hf.out.symm, Hbr.out⟩
end Go.Proofs.YtcapbaocchaenaaGreatDoor

