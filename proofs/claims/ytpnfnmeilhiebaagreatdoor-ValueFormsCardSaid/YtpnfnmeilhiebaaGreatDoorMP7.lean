import Derived.Test.YtpnfnmeilhiebaaGreatDoorMP5
import Derived.Deep.RegionHeld
/- The walk of the reference's small. -/
namespace Go.Proofs.YtpnfnmeilhiebaaGreatDoor
open Go.RowKit Fl

def smallN : Nat → V → Bool
  | 0, _ => false
  | t + 1, v => v.l.all (smallN t)

set_option maxRecDepth 100000 in
theorem small_any (t : Nat) (ht : t ≤ 1000) : ∀ (v : V) (x : Array Value) (w : World), VIn w v x →
    Calls Tryz.prog 20 #[.agg x, .int .i64 (t : Int)] w fun e w' => e = .returned (.bool (smallN t v)) ∧ Below w.heap.size w w' := by
  induction t with
  | zero =>
    intro v x w h
    obtain ⟨_, _, _, _, _, a, cap, rfl, _, _, _⟩ := h.parts
    have hb := (Below.refl w.heap.size w).alloc (Nat.le_refl _) (.cells (cells5 v.kind v.n v.f v.s a v.l.length cap) 25)
    have hf : smallN 0 v = false := rfl
    rw [hf]
    unfold cells5 at *
    go_enter Tryz.func20, Tryz.ntmps20
    go_wp2
    go_ret
    exact ⟨rfl, hb⟩
  | succ t ih =>
    intro v x w h
    have IH := Lib.hid (ih (by omega))
    obtain ⟨T, hT⟩ : ∃ T : Int, T = ((t + 1 : Nat) : Int) := ⟨_, rfl⟩
    have hT0 : (T == 0) = false := beq_eq_false_iff_ne.2 (by omega)
    have hT1 : T - 1 = (t : Int) := by omega
    have hT2 : 0 < T ∧ T ≤ 1000 := by omega
    rw [← hT]
    clear hT
    obtain ⟨_, _, _, _, _, a, cap, rfl, hcap, hmax, _⟩ := h.parts
    have hb := (Below.refl w.heap.size w).alloc (Nat.le_refl _) (.cells (cells5 v.kind v.n v.f v.s a v.l.length cap) 25)
    have HV := Lib.hid (h.below hb)
    have hc4 := box_cell w (cells5 v.kind v.n v.f v.s a v.l.length cap) 25 4
    have Hb := Lib.hid hb
    have e4 : (cells5 v.kind v.n v.f v.s a v.l.length cap)[4]? = some (.slice a v.l.length cap) := rfl
    rw [e4] at hc4
    clear hb h e4
    unfold cells5 at *
    go_enter Tryz.func20, Tryz.ntmps20
    go_wp2
    have hsz : (w.alloc (.cells #[.int .i64 v.kind, .int .i64 v.n, .float .f64 v.f, .string (str v.s), .slice a v.l.length cap] 25)).heap.size = w.heap.size + 1 := by simp
    generalize w.alloc (.cells #[.int .i64 v.kind, .int .i64 v.n, .float .f64 v.f, .string (str v.s), .slice a v.l.length cap] 25) = w1 at *
    go_loopw [5] (fun i wr => ∃ j : Nat, j ≤ v.l.length ∧ i = .int .i64 (j : Int) ∧ (∀ k u, k < j → v.l[k]? = some u → smallN t u = true) ∧ Below w1.heap.size w1 wr) (fun i _ => v.l.length - (intOf i).toNat)
    case atStart => exact ⟨0, Nat.zero_le _, rfl, fun k u hk _ => absurd hk (by omega), Below.refl _ _⟩
    case round =>
      obtain ⟨j, hj, rfl, hall, hbr⟩ := hrel
      have hcr : wr.cell? ⟨w.heap.size, 4, none⟩ = some (.slice a v.l.length cap) := by
        rw [hbr.cell (show w.heap.size < w1.heap.size by omega)]
        exact hc4
      have Hall := Lib.hid hall
      have Hbr := Lib.hid hbr
      by_cases hlt : j < v.l.length
      · obtain ⟨b, o, rfl, hvs⟩ := (HV.out.below hbr).list (by intro e; rw [e] at hlt; simp at hlt)
        obtain ⟨a', cap', hvy, c0, c1, c2, c3, c4⟩ := hvs.elem hlt
        obtain ⟨hget, _⟩ := get_mem hlt
        have Hvy := Lib.hid hvy
        have Hget := Lib.hid hget
        clear hall hbr hvs hvy hget
        generalize v.l[j] = u at *
        have HI := Lib.hid (IH.out u _ wr Hvy.out)
        have Hlt := Lib.hid hlt
        clear hlt
        have hji : (j : Int) < (v.l.length : Int) := by have := Hlt.out; omega
        go_wp2_with fail
        refine HI.out.mono ?_
        rintro e w2 ⟨rfl, hb2⟩
        have Hb2 := Lib.hid hb2
        clear hb2 c0 c1 c2 c3 c4 hcr hc4
        cases hres : smallN t u with
        | false =>
          have Hres := Lib.hid hres
          have hbw : Below w.heap.size w w2 := (Hb.out.trans (Hbr.out.mono (by omega))).trans (Hb2.out.mono (by have := Hbr.out.size; omega))
          have hf : smallN (t + 1) v = false := by
            rw [smallN, List.all_eq_false]
            exact ⟨u, List.mem_of_getElem? Hget.out, by rw [Hres.out]; simp⟩
          have Hf := Lib.hid hf
          clear hres hf
          go_wp2
          go_ret
          exact ⟨ret_bool Hf.out.symm, hbw⟩
        | true =>
          have Hres := Lib.hid hres
          have hbw : Below w1.heap.size w1 w2 := Hbr.out.trans (Hb2.out.mono Hbr.out.size)
          clear hres
          go_wp2
          go_roundw
          case rel =>
            refine ⟨j + 1, Hlt.out, by go_num, fun k u' hk hu' => ?_, hbw⟩
            rcases Nat.lt_or_eq_of_le (Nat.le_of_lt_succ hk) with h1 | h1
            · exact Hall.out k u' h1 hu'
            · rw [h1, Hget.out] at hu'
              cases hu'
              exact Hres.out
          case measure => simp [intOf]; have := Hlt.out; omega
      · have hbw : Below w.heap.size w wr := Hb.out.trans (hbr.mono (by omega))
        have hf : smallN (t + 1) v = true := by
          rw [smallN, List.all_eq_true]
          intro u hu
          obtain ⟨k, hk, rfl⟩ := List.getElem_of_mem hu
          exact hall k _ (by omega) (List.getElem?_eq_getElem hk)
        have hji : ¬ ((j : Int) < (v.l.length : Int)) := by omega
        have Hf := Lib.hid hf
        clear hf hall hbr hlt
        go_wp2
        go_ret
        exact ⟨ret_bool Hf.out.symm, hbw⟩
end Go.Proofs.YtpnfnmeilhiebaaGreatDoor

/- The walks of the code's Compare, Add and Scale. -/
namespace Go.Proofs.YtpnfnmeilhiebaaGreatDoor
open Go.RowKit Fl

end Go.Proofs.YtpnfnmeilhiebaaGreatDoor

/- Which values are the same, as a plain function; the order of values; what is counted. -/
namespace Go.Proofs.YtpnfnmeilhiebaaGreatDoor
open Go.RowKit Fl

mutual
/-- Two values are the same. -/
def sameV : V → V → Bool
  | .mk k n f s l, .mk k' n' f' s' l' => decide (k = k' ∧ n = n' ∧ s = s' ∧ bitsB f = bitsB f') && sameL l l'
def sameL : List V → List V → Bool
  | [], [] => true
  | v :: r, v' :: r' => sameV v v' && sameL r r'
  | _, _ => false
end

theorem sameL_len : ∀ {l l' : List V}, sameL l l' = true → l.length = l'.length
  | [], [], _ => rfl
  | [], _ :: _, h => by simp [sameL] at h
  | _ :: _, [], h => by simp [sameL] at h
  | v :: r, v' :: r', h => by
    rw [sameL, Bool.and_eq_true] at h
    rw [List.length_cons, List.length_cons, sameL_len h.2]

theorem sameL_iff : ∀ {l l' : List V}, sameL l l' = true ↔ l.length = l'.length ∧ ∀ (i : Nat) (u u' : V), l[i]? = some u → l'[i]? = some u' → sameV u u' = true
  | [], [] => by simp [sameL]
  | [], _ :: _ => by simp [sameL]
  | _ :: _, [] => by simp [sameL]
  | v :: r, v' :: r' => by
    rw [sameL, Bool.and_eq_true, sameL_iff, List.length_cons, List.length_cons]
    constructor
    · rintro ⟨h1, h2, h3⟩
      refine ⟨by omega, fun i u u' hu hu' => ?_⟩
      cases i with
      | zero =>
        simp at hu hu'
        rw [← hu, ← hu']
        exact h1
      | succ i => exact h3 i u u' (by simpa using hu) (by simpa using hu')
    · rintro ⟨h1, h2⟩
      exact ⟨h2 0 v v' rfl rfl, by omega, fun i u u' hu hu' => h2 (i + 1) u u' (by simpa using hu) (by simpa using hu')⟩

mutual
theorem sameV_refl : ∀ v : V, sameV v v = true
  | .mk k n f s l => by rw [sameV, sameL_refl l]; simp
theorem sameL_refl : ∀ l : List V, sameL l l = true
  | [] => by rw [sameL]
  | v :: r => by rw [sameL, sameV_refl v, sameL_refl r]; rfl
end

mutual
theorem sameV_symm : ∀ v v' : V, sameV v v' = true → sameV v' v = true
  | .mk k n f s l, .mk k' n' f' s' l', h => by
    rw [sameV, Bool.and_eq_true, decide_eq_true_eq] at h ⊢
    obtain ⟨⟨h1, h2, h3, h4⟩, h5⟩ := h
    exact ⟨⟨h1.symm, h2.symm, h3.symm, h4.symm⟩, sameL_symm l l' h5⟩
theorem sameL_symm : ∀ l l' : List V, sameL l l' = true → sameL l' l = true
  | [], [], h => h
  | [], _ :: _, h => by simp [sameL] at h
  | _ :: _, [], h => by simp [sameL] at h
  | v :: r, v' :: r', h => by
    rw [sameL, Bool.and_eq_true] at h ⊢
    exact ⟨sameV_symm v v' h.1, sameL_symm r r' h.2⟩
end

mutual
theorem sameV_trans : ∀ u v w : V, sameV u v = true → sameV v w = true → sameV u w = true
  | .mk k n f s l, .mk k' n' f' s' l', .mk k'' n'' f'' s'' l'', h, h' => by
    rw [sameV, Bool.and_eq_true, decide_eq_true_eq] at h h' ⊢
    obtain ⟨⟨h1, h2, h3, h4⟩, h5⟩ := h
    obtain ⟨⟨g1, g2, g3, g4⟩, g5⟩ := h'
    exact ⟨⟨h1.trans g1, h2.trans g2, h3.trans g3, h4.trans g4⟩, sameL_trans l l' l'' h5 g5⟩
theorem sameL_trans : ∀ a b c : List V, sameL a b = true → sameL b c = true → sameL a c = true
  | [], [], c, _, h => h
  | [], _ :: _, _, h, _ => by simp [sameL] at h
  | _ :: _, [], _, h, _ => by simp [sameL] at h
  | _ :: _, _ :: _, [], _, h => by simp [sameL] at h
  | u :: r, v :: r', w :: r'', h, h' => by
    rw [sameL, Bool.and_eq_true] at h h' ⊢
    exact ⟨sameV_trans u v w h.1 h'.1, sameL_trans r r' r'' h.2 h'.2⟩
end

mutual
/-- How many values there are in a value. -/
def countV : V → Nat
  | .mk _ _ _ _ l => 1 + countL l
def countL : List V → Nat
  | [] => 0
  | v :: r => countV v + countL r
end

mutual
/-- How many values and bytes there are in a value. -/
def bulkV : V → Nat
  | .mk _ _ _ s l => 1 + min s.length 1000 + bulkL l
def bulkL : List V → Nat
  | [] => 0
  | v :: r => bulkV v + bulkL r
end
end Go.Proofs.YtpnfnmeilhiebaaGreatDoor

/- The walk of the reference's Same. -/
namespace Go.Proofs.YtpnfnmeilhiebaaGreatDoor
open Go.RowKit Fl

theorem cell_below {w w' : World} (hb : Below w.heap.size w w') {p : Addr} {v : Value} (h : w.cell? p = some v) : w'.cell? p = some v := by
  rw [hb.cell (World.block_lt_of_cell? _ _ h)]
  exact h

set_option maxRecDepth 100000 in
set_option maxHeartbeats 6400000 in
theorem vsame_any : ∀ (v v' : V) (x x' : Array Value) (w : World), VIn w v x → VIn w v' x' →
    Calls Tryz.prog 18 #[.agg x, .agg x'] w fun e w' => e = .returned (.bool (sameV v v')) ∧ Below w.heap.size w w' := by
  refine V.ind ?_
  intro v ih v' x x' w h h'
  obtain ⟨k, n, f, s, l⟩ := v
  obtain ⟨k', n', f', s', l'⟩ := v'
  obtain ⟨_, _, hf, hs, _, a, cap, rfl, hcap, hmax, _⟩ := h.parts
  obtain ⟨_, _, hf', hs', _, a', cap', rfl, hcap', hmax', _⟩ := h'.parts
  change VIn w (V.mk k n f s l) (cells5 k n f s a l.length cap) at h
  change VIn w (V.mk k' n' f' s' l') (cells5 k' n' f' s' a' l'.length cap') at h'
  change l.length ≤ cap at hcap
  change l'.length ≤ cap' at hcap'
  change f < 18446744073709551616 at hf
  change f' < 18446744073709551616 at hf'
  change ∀ c ∈ s, c < 256 at hs
  change ∀ c ∈ s', c < 256 at hs'
  change ∀ u ∈ l, _ at ih
  have IH := Lib.hid ih
  have HR := Lib.hid (fun w => rsame_any f f' w hf hf')
  have hb1 := (Below.refl w.heap.size w).alloc (Nat.le_refl _) (.cells (cells5 k n f s a l.length cap) 25)
  have hb2 := hb1.alloc hb1.size (.cells (cells5 k' n' f' s' a' l'.length cap') 25)
  have Hb := Lib.hid hb2
  have HV := Lib.hid (h.below hb2)
  have HV' := Lib.hid (h'.below hb2)
  have Hdef := Lib.hid (show sameV (V.mk k n f s l) (V.mk k' n' f' s' l') = (decide (k = k' ∧ n = n' ∧ s = s' ∧ bitsB f = bitsB f') && sameL l l') from by rw [sameV])
  have hc4 : ((w.alloc (.cells #[.int .i64 k, .int .i64 n, .float .f64 f, .string (str s), .slice a l.length cap] 25)).alloc (.cells #[.int .i64 k', .int .i64 n', .float .f64 f', .string (str s'), .slice a' l'.length cap'] 25)).cell? ⟨w.heap.size, 4, none⟩ = some (.slice a l.length cap) :=
    cell_below ((Below.refl _ _).alloc (Nat.le_refl _) _) (box_cell w (cells5 k n f s a l.length cap) 25 4)
  have hc4' : ((w.alloc (.cells #[.int .i64 k, .int .i64 n, .float .f64 f, .string (str s), .slice a l.length cap] 25)).alloc (.cells #[.int .i64 k', .int .i64 n', .float .f64 f', .string (str s'), .slice a' l'.length cap'] 25)).cell? ⟨w.heap.size + 1, 4, none⟩ = some (.slice a' l'.length cap') := by
    have h1 := box_cell (w.alloc (.cells (cells5 k n f s a l.length cap) 25)) (cells5 k' n' f' s' a' l'.length cap') 25 4
    rw [show (w.alloc (.cells (cells5 k n f s a l.length cap) 25)).heap.size = w.heap.size + 1 from by simp] at h1
    exact h1
  clear h h' hb1 hb2 ih hf hf'
  change Calls _ _ #[.agg #[.int .i64 k, .int .i64 n, .float .f64 f, .string (str s), .slice a l.length cap], .agg #[.int .i64 k', .int .i64 n', .float .f64 f', .string (str s'), .slice a' l'.length cap']] _ _
  by_cases q1 : k = k'
  · have d1 : (k != k') = false := by rw [q1]; exact bne_self_eq_false _
    by_cases q2 : n = n'
    · have d2 : (n != n') = false := by rw [q2]; exact bne_self_eq_false _
      by_cases q3 : s = s'
      · have d3 : ((str s).toList == (str s').toList) = true := by rw [q3]; exact str_eq s'
        by_cases q4 : bitsB f = bitsB f'
        · rw [decide_eq_true q4] at HR
          by_cases q5 : l.length = l'.length
          · have d5 : ((l.length : Int) != (l'.length : Int)) = false := by rw [q5]; exact bne_self_eq_false _
            have Hd := Lib.hid (show sameV (V.mk k n f s l) (V.mk k' n' f' s' l') = sameL l l' from by rw [Hdef.out, decide_eq_true ⟨q1, q2, q3, q4⟩, Bool.true_and])
            have Hlen := Lib.hid q5
            clear q1 q2 q3 q4 q5 hs hs' Hdef
            go_enter Tryz.func18, Tryz.ntmps18
            go_wp2_with ((with_reducible refine (HR.out _).mono ?_); rintro e w' ⟨rfl, rfl⟩)
            have hwz : ((w.alloc (.cells #[.int .i64 k, .int .i64 n, .float .f64 f, .string (str s), .slice a l.length cap] 25)).alloc (.cells #[.int .i64 k', .int .i64 n', .float .f64 f', .string (str s'), .slice a' l'.length cap'] 25)).heap.size = w.heap.size + 2 := by simp
            generalize (w.alloc (.cells #[.int .i64 k, .int .i64 n, .float .f64 f, .string (str s), .slice a l.length cap] 25)).alloc (.cells #[.int .i64 k', .int .i64 n', .float .f64 f', .string (str s'), .slice a' l'.length cap'] 25) = w1 at *
            go_loopw [5] (fun i wr => ∃ j : Nat, j ≤ l.length ∧ i = .int .i64 (j : Int) ∧ (∀ k u u', k < j → l[k]? = some u → l'[k]? = some u' → sameV u u' = true) ∧ Below w1.heap.size w1 wr) (fun i _ => l.length - (intOf i).toNat)
            case atStart => exact ⟨0, Nat.zero_le _, rfl, fun k u u' hk _ _ => absurd hk (by omega), Below.refl _ _⟩
            case round =>
              obtain ⟨j, hj, rfl, hall, hbr⟩ := hrel
              have hcr := cell_below hbr hc4
              have hcr' := cell_below hbr hc4'
              have Hall := Lib.hid hall
              have Hbr := Lib.hid hbr
              by_cases hlt : j < l.length
              · have hlt' : j < l'.length := by have := Hlen.out; omega
                obtain ⟨b, o, rfl, hvs⟩ := (HV.out.below hbr).list (by show l ≠ []; intro e; rw [e] at hlt; simp at hlt)
                obtain ⟨b', o', rfl, hvs'⟩ := (HV'.out.below hbr).list (by show l' ≠ []; intro e; rw [e] at hlt'; simp at hlt')
                change VsIn wr l b o at hvs
                change VsIn wr l' b' o' at hvs'
                obtain ⟨p, pc, hvy, c0, c1, c2, c3, c4⟩ := hvs.elem hlt
                obtain ⟨p', pc', hvy', c0', c1', c2', c3', c4'⟩ := hvs'.elem hlt'
                have hdr : Below wr.heap.size wr wr.drew := (Below.refl _ _).drew
                have HI := Lib.hid (IH.out _ (get_mem hlt).2 l'[j] _ _ wr.drew (hvy.below hdr) (hvy'.below hdr))
                have Hget := Lib.hid (get_mem hlt).1
                have Hget' := Lib.hid (get_mem hlt').1
                generalize l[j] = u at *
                generalize l'[j] = u' at *
                have Hlt := Lib.hid hlt
                have hji : (j : Int) < (l.length : Int) := by omega
                have hji' : (j : Int) < (l'.length : Int) := by omega
                clear hall hbr hvs hvy hvs' hvy' hlt hlt' hdr
                go_wp2
                go_region_held (fun w' => w'.cell? ⟨w.heap.size, 4, none⟩ = some (.slice (some ⟨b, o, none⟩) l.length cap) ∧ w'.cell? ⟨w.heap.size + 1, 4, none⟩ = some (.slice (some ⟨b', o', none⟩) l'.length cap') ∧ w'.cell? ⟨b, o + j * 5, none⟩ = some (.int .i64 u.kind) ∧ w'.cell? ⟨b, o + j * 5 + 1, none⟩ = some (.int .i64 u.n) ∧ w'.cell? ⟨b, o + j * 5 + 2, none⟩ = some (.float .f64 u.f) ∧ w'.cell? ⟨b, o + j * 5 + 3, none⟩ = some (.string (str u.s)) ∧ w'.cell? ⟨b, o + j * 5 + 4, none⟩ = some (.slice p u.l.length pc) ∧ w'.cell? ⟨b', o' + j * 5, none⟩ = some (.int .i64 u'.kind) ∧ w'.cell? ⟨b', o' + j * 5 + 1, none⟩ = some (.int .i64 u'.n) ∧ w'.cell? ⟨b', o' + j * 5 + 2, none⟩ = some (.float .f64 u'.f) ∧ w'.cell? ⟨b', o' + j * 5 + 3, none⟩ = some (.string (str u'.s)) ∧ w'.cell? ⟨b', o' + j * 5 + 4, none⟩ = some (.slice p' u'.l.length pc'))
                  (first | exact ⟨hcr, hcr', c0, c1, c2, c3, c4, c0', c1', c2', c3', c4'⟩ | exact ⟨cell_below hb2 hcr, cell_below hb2 hcr', cell_below hb2 c0, cell_below hb2 c1, cell_below hb2 c2, cell_below hb2 c3, cell_below hb2 c4, cell_below hb2 c0', cell_below hb2 c1', cell_below hb2 c2', cell_below hb2 c3', cell_below hb2 c4'⟩)
                  (first | (go_at_call 18; (with_reducible refine HI.out.mono ?_); rintro e w2 ⟨rfl, hb2⟩))
                have Hb2 := Lib.hid hb2
                clear hb2 c0 c1 c2 c3 c4 c0' c1' c2' c3' c4' hcr hcr' hc4 hc4'
                have hbw : Below w1.heap.size w1 w2 := Hbr.out.trans ((((Below.refl _ _).drew).trans (Hb2.out.mono (Nat.le_refl _))).mono Hbr.out.size)
                cases hres : sameV u u' with
                | false =>
                  have Hf := Lib.hid (show sameV (V.mk k n f s l) (V.mk k' n' f' s' l') = false from by
                    rw [Hd.out]
                    cases hsl : sameL l l' with
                    | false => rfl
                    | true => rw [(sameL_iff.1 hsl).2 j u u' Hget.out Hget'.out] at hres; cases hres)
                  have hbz : Below w.heap.size w w2 := Hb.out.trans (hbw.mono (by omega))
                  clear hres
                  go_wp2
                  go_ret
                  exact ⟨ret_bool Hf.out.symm, hbz⟩
                | true =>
                  have Hres := Lib.hid hres
                  clear hres
                  go_wp2
                  go_roundw
                  case rel =>
                    refine ⟨j + 1, Hlt.out, by go_num, fun k u1 u1' hk hu hu' => ?_, hbw⟩
                    rcases Nat.lt_or_eq_of_le (Nat.le_of_lt_succ hk) with h1 | h1
                    · exact Hall.out k u1 u1' h1 hu hu'
                    · rw [h1, Hget.out] at hu
                      rw [h1, Hget'.out] at hu'
                      cases hu
                      cases hu'
                      exact Hres.out
                  case measure => simp [intOf]; have := Hlt.out; omega
              · have hbw : Below w.heap.size w wr := Hb.out.trans (hbr.mono (by omega))
                have Hf := Lib.hid (show sameV (V.mk k n f s l) (V.mk k' n' f' s' l') = true from by
                  rw [Hd.out, sameL_iff]
                  refine ⟨Hlen.out, fun i u u' hu hu' => ?_⟩
                  have hi : i < l.length := (List.getElem?_eq_some_iff.1 hu).1
                  exact hall i u u' (by omega) hu hu')
                have hji : ¬ ((j : Int) < (l.length : Int)) := by omega
                clear hall hbr hlt
                go_wp2
                go_ret
                exact ⟨ret_bool Hf.out.symm, hbw⟩
          · have d5 : ((l.length : Int) != (l'.length : Int)) = true := by rw [bne_iff_ne]; omega
            have Hf := Lib.hid (show sameV (V.mk k n f s l) (V.mk k' n' f' s' l') = false from by
              rw [Hdef.out]
              cases hsl : sameL l l' with
              | false => rw [Bool.and_false]
              | true => exact absurd (sameL_len hsl) q5)
            clear q1 q2 q3 q4 q5 hs hs'
            go_enter Tryz.func18, Tryz.ntmps18
            go_wp2_with ((with_reducible refine (HR.out _).mono ?_); rintro e w' ⟨rfl, rfl⟩)
            go_ret
            exact ⟨ret_bool Hf.out.symm, Hb.out⟩
        · rw [decide_eq_false q4] at HR
          have Hf := Lib.hid (show sameV (V.mk k n f s l) (V.mk k' n' f' s' l') = false from by rw [Hdef.out, decide_eq_false (fun h => q4 h.2.2.2), Bool.false_and])
          clear q1 q2 q3 q4 hs hs'
          go_enter Tryz.func18, Tryz.ntmps18
          go_wp2_with ((with_reducible refine (HR.out _).mono ?_); rintro e w' ⟨rfl, rfl⟩)
          go_ret
          exact ⟨ret_bool Hf.out.symm, Hb.out⟩
      · have d3 : ((str s).toList == (str s').toList) = false := str_ne hs hs' q3
        have Hf := Lib.hid (show sameV (V.mk k n f s l) (V.mk k' n' f' s' l') = false from by rw [Hdef.out, decide_eq_false (fun h => q3 h.2.2.1), Bool.false_and])
        clear q1 q2 q3 hs hs'
        go_enter Tryz.func18, Tryz.ntmps18
        go_wp2
        go_ret
        exact ⟨ret_bool Hf.out.symm, Hb.out⟩
    · have d2 : (n != n') = true := bne_iff_ne.2 q2
      have Hf := Lib.hid (show sameV (V.mk k n f s l) (V.mk k' n' f' s' l') = false from by rw [Hdef.out, decide_eq_false (fun h => q2 h.2.1), Bool.false_and])
      clear q1 q2 hs hs'
      go_enter Tryz.func18, Tryz.ntmps18
      go_wp2
      go_ret
      exact ⟨ret_bool Hf.out.symm, Hb.out⟩
  · have d1 : (k != k') = true := bne_iff_ne.2 q1
    have Hf := Lib.hid (show sameV (V.mk k n f s l) (V.mk k' n' f' s' l') = false from by rw [Hdef.out, decide_eq_false (fun h => q1 h.1), Bool.false_and])
    clear q1 hs hs'
    go_enter Tryz.func18, Tryz.ntmps18
    go_wp2
    go_ret
    exact ⟨ret_bool Hf.out.symm, Hb.out⟩
end Go.Proofs.YtpnfnmeilhiebaaGreatDoor

