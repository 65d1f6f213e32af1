import Derived.Test.YtpnfnmeilhiebaaGreatDoorMP7
import Derived.Test.YtpnfnmeilhiebaaGreatDoorMP21
/- The walk of the reference's Count. -/
namespace Go.Proofs.YtpnfnmeilhiebaaGreatDoor
open Go.RowKit Fl

theorem countV_is (v : V) : countV v = 1 + countL v.l := by
  obtain ⟨k, n, f, s, l⟩ := v
  rw [countV]; rfl

theorem countL_append : ∀ (a b : List V), countL (a ++ b) = countL a + countL b
  | [], b => by simp [countL]
  | v :: r, b => by rw [List.cons_append, countL, countL, countL_append r b]; omega

theorem countL_take {l : List V} {j : Nat} (h : j < l.length) : countL (l.take (j + 1)) = countL (l.take j) + countV l[j] := by
  rw [List.take_succ_eq_append_getElem h, countL_append, countL, countL]
  omega

theorem countL_le (l : List V) (j : Nat) : countL (l.take j) ≤ countL l := by
  have e : countL l = countL (l.take j) + countL (l.drop j) := by rw [← countL_append, List.take_append_drop]
  omega

theorem count_at {l : List V} {j : Nat} (h : j < l.length) : countV l[j] ≤ countL l := by
  have h1 := countL_take h
  have h2 := countL_le l (j + 1)
  omega

set_option maxRecDepth 100000 in
set_option maxHeartbeats 1600000 in
theorem rcount_any (t : Nat) (ht : t ≤ 1000) : ∀ (v : V) (x : Array Value) (w : World), smallN t v = true → countV v ≤ 1000000 → VIn w v x →
    Calls Tryz.prog 11 #[.agg x] w fun e w' => e = .returned (.int .i64 ((countV v : Nat) : Int)) ∧ Below w.heap.size w w' := by
  induction t with
  | zero => intro v x w hs; simp [smallN] at hs
  | succ t ih =>
    intro v x w hs hcnt h
    have IH := Lib.hid (ih (by omega))
    have hs : v.l.all (smallN t) = true := hs
    rw [List.all_eq_true] at hs
    have HS := Lib.hid hs
    rw [countV_is] at hcnt ⊢
    obtain ⟨_, _, _, _, _, a, cap, rfl, hcap, hmax, _⟩ := h.parts
    have hb := (Below.refl w.heap.size w).alloc (Nat.le_refl _) (.cells (cells5 v.kind v.n v.f v.s a v.l.length cap) 25)
    have HV := Lib.hid (h.below hb)
    have hc4 := box_cell w (cells5 v.kind v.n v.f v.s a v.l.length cap) 25 4
    have Hb := Lib.hid hb
    have e4 : (cells5 v.kind v.n v.f v.s a v.l.length cap)[4]? = some (.slice a v.l.length cap) := rfl
    rw [e4] at hc4
    have Hcnt := Lib.hid hcnt
    clear hb h e4 hs hcnt
    unfold cells5 at *
    go_enter Tryz.func11, Tryz.ntmps11
    go_wp2
    have hsz : (w.alloc (.cells #[.int .i64 v.kind, .int .i64 v.n, .float .f64 v.f, .string (str v.s), .slice a v.l.length cap] 25)).heap.size = w.heap.size + 1 := by simp
    generalize w.alloc (.cells #[.int .i64 v.kind, .int .i64 v.n, .float .f64 v.f, .string (str v.s), .slice a v.l.length cap] 25) = w1 at *
    go_loopw [3, 4] (fun n i wr => ∃ j : Nat, j ≤ v.l.length ∧ i = .int .i64 (j : Int) ∧ n = .int .i64 ((1 + countL (v.l.take j) : Nat) : Int) ∧ Below w1.heap.size w1 wr) (fun _ i _ => v.l.length - (intOf i).toNat)
    case atStart => exact ⟨0, Nat.zero_le _, rfl, rfl, Below.refl _ _⟩
    case round =>
      obtain ⟨j, hj, rfl, rfl, hbr⟩ := hrel
      have hcr : wr.cell? ⟨w.heap.size, 4, none⟩ = some (.slice a v.l.length cap) := by
        rw [hbr.cell (show w.heap.size < w1.heap.size by omega)]
        exact hc4
      have Hbr := Lib.hid hbr
      by_cases hlt : j < v.l.length
      · obtain ⟨b, o, rfl, hvs⟩ := (HV.out.below hbr).list (by intro e; rw [e] at hlt; simp at hlt)
        obtain ⟨a', cap', hvy, c0, c1, c2, c3, c4⟩ := hvs.elem hlt
        have Hvy := Lib.hid hvy
        have Htk := Lib.hid (countL_take hlt)
        have h1 := countL_le v.l (j + 1)
        rw [countL_take hlt] at h1
        have HI := Lib.hid (IH.out v.l[j] _ wr (HS.out _ (List.getElem_mem hlt)) (by have := Hcnt.out; have := count_at hlt; omega) hvy)
        have hbd : countL (v.l.take j) + countV v.l[j] ≤ 1000000 := by have := Hcnt.out; omega
        clear hbr hvs hvy h1
        generalize v.l[j] = u at *
        have Hlt := Lib.hid hlt
        clear hlt
        have hji : (j : Int) < (v.l.length : Int) := by have := Hlt.out; omega
        generalize hC : countL (v.l.take j) = c at *
        generalize countV u = cu at *
        have HC := Lib.hid hC
        clear hC
        go_wp2_with fail
        refine HI.out.mono ?_
        rintro e w2 ⟨rfl, hb2⟩
        have Hb2 := Lib.hid hb2
        clear hb2 c0 c1 c2 c3 c4 hcr hc4
        have hbw : Below w1.heap.size w1 w2 := Hbr.out.trans (Hb2.out.mono Hbr.out.size)
        go_wp2
        go_roundw
        case rel => exact ⟨j + 1, Hlt.out, by go_num, by rw [Htk.out]; go_num, hbw⟩
        case measure => simp [intOf]; have := Hlt.out; omega
      · have hbw : Below w.heap.size w wr := Hb.out.trans (hbr.mono (by omega))
        have hji : ¬ ((j : Int) < (v.l.length : Int)) := by omega
        rw [List.take_of_length_le (by omega)]
        clear hbr hlt
        go_wp2
        go_ret
        exact ⟨rfl, hbw⟩
end Go.Proofs.YtpnfnmeilhiebaaGreatDoor

/- The example of the chapter holds. -/
namespace Go.Proofs.YtpnfnmeilhiebaaGreatDoor
open Go.RowKit Go.Shelf Fl

def exV : V := .mk 4 0 0 [] [.mk 1 (-5) 0 [] [], .mk 3 0 0 [97] []]

set_option maxRecDepth 100000 in
theorem ex_right : rightN 8 exV = true := by
  have hb : bitsB 0 = 0 := by decide
  simp [exV, rightN, FieldsOk, V.kind, V.n, V.f, V.s, V.l, hb]

theorem ex_text : textB exV = [91, 45, 53, 32, 34, 54, 49, 34, 93] := by
  unfold textB
  rw [if_pos ex_right]
  have h5 : decL (-5) = [45, 53] := by
    unfold decL
    rw [if_pos (by omega), show (-5 : Int).natAbs = 5 from rfl, decD_low (by omega)]
  have h6 : hex2 [97] = [54, 49] := by decide
  simp [exV, textV, textVs, joinS, h5, h6]

theorem ex_in (w : World) : VIn (w.alloc (.cells #[.int .i64 1, .int .i64 (-5), .float .f64 0, .string (str []), .slice none 0 0, .int .i64 3, .int .i64 0, .float .f64 0, .string (str [97]), .slice none 0 0] 25)) exV (cells5 4 0 0 [] (some ⟨w.heap.size, 0, none⟩) 2 2) := by
  have hc := fun j => cell_of_row (w.alloc (.cells #[.int .i64 1, .int .i64 (-5), .float .f64 0, .string (str []), .slice none 0 0, .int .i64 3, .int .i64 0, .float .f64 0, .string (str [97]), .slice none 0 0] 25)) w.heap.size j _ _ _ (heap_alloc_new w _)
  unfold exV
  rw [VIn]
  refine ⟨by omega, by omega, by omega, by simp, by simp, _, 2, rfl, by simp, by omega, .inr ⟨_, _, rfl, ?_⟩⟩
  rw [VsIn, VsIn, VsIn]
  refine ⟨⟨cells5 1 (-5) 0 [] none 0 0, rfl, fun j hj => ?_, ?_⟩, ⟨cells5 3 0 0 [97] none 0 0, rfl, fun j hj => ?_, ?_⟩, trivial⟩
  · rw [hc]
    match j, hj with
    | 0, _ => rfl
    | 1, _ => rfl
    | 2, _ => rfl
    | 3, _ => rfl
    | 4, _ => rfl
  · rw [VIn]
    exact ⟨by omega, by omega, by omega, by simp, by simp, none, 0, rfl, by simp, by omega, .inl rfl⟩
  · rw [hc]
    match j, hj with
    | 0, _ => rfl
    | 1, _ => rfl
    | 2, _ => rfl
    | 3, _ => rfl
    | 4, _ => rfl
  · rw [VIn]
    exact ⟨by omega, by omega, by omega, by simp, by simp, none, 0, rfl, by simp, by omega, .inl rfl⟩

set_option maxRecDepth 100000 in
theorem valive_any (w : World) (hp : Pow10 w) (ht : Tab16 w) :
    Calls Tryz.prog 5 #[] w fun e w' => e = .returned (.bool true) ∧ Below w.heap.size w w' := by
  have hal := (Below.refl w.heap.size w).alloc (Nat.le_refl _) (.cells #[.int .i64 1, .int .i64 (-5), .float .f64 0, .string (str []), .slice none 0 0, .int .i64 3, .int .i64 0, .float .f64 0, .string (str [97]), .slice none 0 0] 25)
  have HA := Lib.hid hal
  have HX := Lib.hid (vText_any 10 (by omega) exV _ _ (by decide) (ex_in w) (by rw [ex_text]; decide) (hp.below hal) (tab_below ht hal))
  rw [ex_text] at HX
  have hq : ((str [91, 45, 53, 32, 34, 54, 49, 34, 93]).toList == ([91, 45, 53, 32, 34, 54, 49, 34, 93] : List UInt8)) = true := by rw [str_list]; rfl
  have Hq := Lib.hid hq
  clear hp ht hal
  go_enter Tryz.func5, Tryz.ntmps5
  go_wp2_with fail
  refine HX.out.mono ?_
  rintro e w1 ⟨rfl, hb⟩
  have Hb := Lib.hid (HA.out.trans (hb.mono HA.out.size))
  generalize str [91, 45, 53, 32, 34, 54, 49, 34, 93] = S at *
  clear hb
  go_wp2
  go_ret
  exact ⟨rfl, Hb.out⟩
end Go.Proofs.YtpnfnmeilhiebaaGreatDoor

