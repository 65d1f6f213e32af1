import Derived.Test.YtpmjjefnmgbifaaGreatDoorMB14
import Derived.Test.YtpmjjefnmgbifaaGreatDoorMB9
import Derived.Shelf.Abstract
/- The walk through a value and all values in it, whatever the function is that is called for each. -/
namespace Go.Proofs.YtpmjjefnmgbifaaGreatDoor
open Go.RowKit Go.Shelf Fl

/-- A value and all values in it, each in front of those in itself. -/
def preV : V → List V
  | .mk k n f s l => .mk k n f s l :: preL l
  where
  preL : List V → List V
  | [] => []
  | v :: r => preV v ++ preL r

/-- Whether a test holds for all of them, by the number of values around each. -/
def walkB (p : V → Nat → Bool) : Nat → V → Nat → Bool
  | 0, v, d => p v d
  | t + 1, v, d => p v d && v.l.all (fun u => walkB p t u (d + 1))

theorem preL_snoc : ∀ (a : List V) (u : V), preV.preL (a ++ [u]) = preV.preL a ++ preV u
  | [], u => by simp [preV.preL]
  | v :: r, u => by rw [List.cons_append, preV.preL, preL_snoc r u, preV.preL, List.append_assoc]

theorem preL_append : ∀ (a b : List V), preV.preL (a ++ b) = preV.preL a ++ preV.preL b
  | [], b => by simp [preV.preL]
  | v :: r, b => by rw [List.cons_append, preV.preL, preV.preL, preL_append r b, List.append_assoc]

theorem preL_split {l : List V} {j : Nat} (h : j < l.length) : preV.preL l = preV.preL (l.take j) ++ (preV l[j] ++ preV.preL (l.drop (j + 1))) := by
  have e : l = l.take j ++ (l[j] :: l.drop (j + 1)) := by rw [← List.drop_eq_getElem_cons h, List.take_append_drop]
  calc preV.preL l = preV.preL (l.take j ++ (l[j] :: l.drop (j + 1))) := by rw [← e]
    _ = _ := by rw [preL_append, preV.preL]

set_option maxRecDepth 100000 in
set_option maxHeartbeats 1600000 in
theorem walk_any (w0 : World) (G : Nat) (lb : Array Value) (eg : ∀ args w, (callFunc G args).run Tryz.prog w = .ok (.enter G args) w) (p : V → Nat → Bool) (J : List V → World → Prop) (Own : World → Nat → Prop) (Adm : List V → Prop) (hpre : ∀ a b, Adm (a ++ b) → Adm a)
    (hown : ∀ acc w b, J acc w → Own w b → w0.heap.size ≤ b ∧ b < w.heap.size)
    (hstay : ∀ acc w w', J acc w → Below w.heap.size w w' → J acc w' ∧ ∀ b, Own w' b → Own w b)
    (hvis : ∀ acc (x : V) xs (d : Nat) w, J acc w → Adm (acc ++ [x]) → Below w0.heap.size w0 w → VIn w x xs → d ≤ 1000 → Calls Tryz.prog G (#[.agg xs, .int .i64 (d : Int)] ++ lb) w fun e w' => e = .returned (.bool (p x d)) ∧ J (acc ++ [x]) w' ∧ Below w0.heap.size w w' ∧ ∀ b, b < w.heap.size → ¬ Own w b → w'.heap[b]? = w.heap[b]?) :
    ∀ (t : Nat) (v : V) (d : Nat) (acc : List V) (x : Array Value) (w : World), smallN t v = true → d + t ≤ 1000 → Adm (acc ++ preV v) → J acc w → Below w0.heap.size w0 w → VIn w0 v x →
      Calls Tryz.prog 143 #[.agg x, .int .i64 (d : Int), .func (.func G) #[] lb] w fun e w' => e = .returned (.bool (walkB p t v d)) ∧ (∃ acc', J acc' w' ∧ (walkB p t v d = true → acc' = acc ++ preV v)) ∧ Below w0.heap.size w0 w' := by
  intro t
  induction t with
  | zero => intro v d acc x w h; simp [smallN] at h
  | succ t ih =>
    intro v d acc x w hsm hd hadm hJ hb hv
    have hsm : v.l.all (smallN t) = true := hsm
    rw [List.all_eq_true] at hsm
    obtain ⟨k, n, f, s, l⟩ := v
    change ∀ u ∈ l, smallN t u = true at hsm
    obtain ⟨_, _, _, _, _, a, cap, rfl, hcap, hmax, _⟩ := hv.parts
    change VIn w0 (V.mk k n f s l) (cells5 k n f s a l.length cap) at hv
    change l.length ≤ cap at hcap
    change Calls _ _ #[.agg (cells5 k n f s a l.length cap), _, _] _ _
    have IH := Lib.hid ih
    have HAD := Lib.hid (show Adm (acc ++ [V.mk k n f s l] ++ preV.preL l) from by rw [List.append_assoc]; exact hadm)
    have HPR := Lib.hid hpre
    have HS := Lib.hid hsm
    have HO := Lib.hid hown
    have HT := Lib.hid hstay
    have HX := Lib.hid hvis
    have HV := Lib.hid hv
    have hal := (Below.refl w.heap.size w).alloc (Nat.le_refl _) (.cells (cells5 k n f s a l.length cap) 26)
    have HJ1 := Lib.hid (hstay _ _ _ hJ hal).1
    have hb1 := hb.trans (hal.mono hb.size)
    have HB1 := Lib.hid hb1
    have C0 := Lib.hid (new5 w (.int .i64 k) (.int .i64 n) (.float .f64 f) (.string (str s)) (.slice a l.length cap) 26)
    have hwz : (w.alloc (.cells #[.int .i64 k, .int .i64 n, .float .f64 f, .string (str s), .slice a l.length cap] 26)).heap.size = w.heap.size + 1 := by simp
    have HN := Lib.hid (show ¬ Own (w.alloc (.cells (cells5 k n f s a l.length cap) 26)) w.heap.size from fun h => absurd (hown _ _ _ hJ ((hstay _ _ _ hJ hal).2 _ h)).2 (Nat.lt_irrefl _))
    clear hJ hb hv hal ih hsm hown hstay hvis hadm hpre
    have hfl : ∀ (w : World) (a : Addr) (m : Mode) (b : Nat), (store a (.float .f64 b) m).run Tryz.prog w = stored Tryz.prog w a (.float .f64 b) m := fun w a m b => run_store Tryz.prog w a _ m rfl
    unfold cells5 at *
    go_enter Tryz.func143, Tryz.ntmps143
    go_wp2_with fail
    generalize w.alloc (.cells #[.int .i64 k, .int .i64 n, .float .f64 f, .string (str s), .slice a l.length cap] 26) = w1 at *
    refine (HX.out acc (V.mk k n f s l) _ d _ HJ1.out (HPR.out _ _ HAD.out) HB1.out (HV.out.below HB1.out) (by omega)).mono ?_
    rintro e w2 ⟨rfl, hJ2, hb2, hk2⟩
    have hbw : Below w0.heap.size w0 w2 := HB1.out.trans hb2
    have hbox : w2.heap[w.heap.size]? = w1.heap[w.heap.size]? := hk2 _ (by omega) HN.out
    have c4 : w2.cell? ⟨w.heap.size, 4, none⟩ = some (.slice a l.length cap) := by
      have h := C0.out.2.2.2.2
      unfold World.cell? at h ⊢
      rw [hbox]
      exact h
    have HJ2 := Lib.hid hJ2
    have HB2 := Lib.hid hbw
    have hd1 : (d : Int) ≤ 1000 := by omega
    have Hd := Lib.hid hd
    clear hJ2 hb2 hk2 hbw hbox hwz hd
    cases hp : p (V.mk k n f s l) d with
    | false =>
      have HF := Lib.hid (show walkB p (t + 1) (V.mk k n f s l) d = false from by rw [walkB, hp]; rfl)
      clear hp
      go_wp2
      go_ret
      exact ⟨ret_bool HF.out.symm, ⟨_, HJ2.out, fun h => absurd h (by rw [HF.out]; decide)⟩, HB2.out⟩
    | true =>
      have HP := Lib.hid hp
      clear hp
      go_wp2
      go_loopw [17] (fun i wr => ∃ (j : Nat) (acc' : List V), j ≤ l.length ∧ i = .int .i64 (j : Int) ∧ J acc' wr ∧ acc' = acc ++ [V.mk k n f s l] ++ preV.preL (l.take j) ∧ (∀ (i : Nat) (u : V), i < j → l[i]? = some u → walkB p t u (d + 1) = true) ∧ Below w0.heap.size w0 wr) (fun i _ => l.length - (intOf i).toNat)
      case atStart => exact ⟨0, _, Nat.zero_le _, rfl, HJ2.out, by rw [List.take_zero, preV.preL, List.append_nil], fun i u hi => absurd hi (by omega), HB2.out⟩
      case round =>
        obtain ⟨j, acc', hj, rfl, hJ3, hacc, hall, hbr⟩ := hrel
        have HJ3 := Lib.hid hJ3
        have Hacc := Lib.hid hacc
        have Hall := Lib.hid hall
        have Hbr := Lib.hid hbr
        by_cases hlt : j < l.length
        · have hji : (j : Int) < (l.length : Int) := by omega
          obtain ⟨b, o, rfl, hvs⟩ := HV.out.list (by show l ≠ []; intro e; rw [e] at hlt; simp at hlt)
          change VsIn w0 l b o at hvs
          obtain ⟨a', cap', hvy, c0, c1, c2, c3, c4⟩ := hvs.elem hlt
          have Hvy := Lib.hid hvy
          replace c0 := cell_below hbr c0
          replace c1 := cell_below hbr c1
          replace c2 := cell_below hbr c2
          replace c3 := cell_below hbr c3
          replace c4 := cell_below hbr c4
          obtain ⟨hget, hmem⟩ := get_mem hlt
          have htake := List.take_succ_eq_append_getElem hlt
          have Hget := Lib.hid hget
          have Htake := Lib.hid htake
          have hsu := HS.out _ hmem
          have Hlt := Lib.hid hlt
          have hadm2 : Adm (acc' ++ preV l[j]) := by
            have e : acc ++ [V.mk k n f s l] ++ preV.preL l = (acc' ++ preV l[j]) ++ preV.preL (l.drop (j + 1)) := by
              rw [hacc, preL_split hlt]
              simp only [List.append_assoc]
              rfl
            have h := HAD.out
            rw [e] at h
            exact HPR.out _ _ h
          generalize l[j] = u at *
          have hal := (Below.refl wr.heap.size wr).alloc (Nat.le_refl _) (.cells #[.int .i64 u.kind, .int .i64 u.n, .float .f64 u.f, .string (str u.s), .slice a' u.l.length cap'] 26)
          have HI := Lib.hid (IH.out u (d + 1) acc' _ _ hsu (by have := Hd.out; omega) hadm2 (HT.out _ _ _ hJ3 hal).1 (hbr.trans (hal.mono hbr.size)) hvy)
          obtain ⟨z0, z1, z2, z3, z4⟩ := new5 wr (.int .i64 u.kind) (.int .i64 u.n) (.float .f64 u.f) (.string (str u.s)) (.slice a' u.l.length cap') 26
          have hdr : -9223372036854775808 ≤ (d : Int) + 1 ∧ (d : Int) + 1 ≤ 9223372036854775807 := by have := Hd.out; omega
          rw [show ((d + 1 : Nat) : Int) = (d : Int) + 1 by omega] at HI
          clear hJ3 hacc hall hbr hvs hvy hget hmem htake hsu hal hlt hadm2
          go_wp2_with fail
          refine HI.out.mono ?_
          rintro e w4 ⟨rfl, ⟨acc4, hJ4, ha4⟩, hb4⟩
          have HJ4 := Lib.hid hJ4
          have Ha4 := Lib.hid ha4
          have Hb4 := Lib.hid hb4
          clear hJ4 ha4 hb4 hdr
          cases hp : walkB p t u (d + 1) with
          | false =>
            have HF := Lib.hid (show walkB p (t + 1) (V.mk k n f s l) d = false from by
              rw [walkB, Bool.and_eq_false_iff]
              refine .inr ?_
              rw [List.all_eq_false]
              exact ⟨u, List.mem_of_getElem? Hget.out, by rw [hp]; decide⟩)
            clear hp
            go_wp2
            go_ret
            exact ⟨ret_bool HF.out.symm, ⟨_, HJ4.out, fun h => absurd h (by rw [HF.out]; decide)⟩, Hb4.out⟩
          | true =>
            have HQ := Lib.hid hp
            clear hp
            go_wp2
            go_roundw
            case rel =>
              refine ⟨j + 1, acc4, Hlt.out, by go_num, HJ4.out, ?_, fun i u' hi hu' => ?_, Hb4.out⟩
              · rw [Ha4.out HQ.out, Hacc.out, Htake.out, preL_snoc, List.append_assoc]
              · rcases Nat.lt_or_eq_of_le (Nat.le_of_lt_succ hi) with h1 | h1
                · exact Hall.out i u' h1 hu'
                · rw [h1, Hget.out] at hu'
                  cases hu'
                  exact HQ.out
            case measure => simp [intOf]; have := Hlt.out; omega
        · have hji : ¬ ((j : Int) < (l.length : Int)) := by omega
          have HF := Lib.hid (show walkB p (t + 1) (V.mk k n f s l) d = true from by
            rw [walkB, HP.out, Bool.true_and, List.all_eq_true]
            intro u hu
            obtain ⟨i, hi, rfl⟩ := List.getElem_of_mem hu
            have hi' : i < l.length := hi
            exact hall i _ (by omega) (List.getElem?_eq_getElem hi))
          clear hJ3 hacc hall hbr
          go_wp2
          go_ret
          refine ⟨ret_bool HF.out.symm, ⟨_, HJ3.out, fun _ => ?_⟩, Hbr.out⟩
          rw [Hacc.out, List.take_of_length_le (by omega), List.append_assoc, preV]; rfl
end Go.Proofs.YtpmjjefnmgbifaaGreatDoor

/- Valid and Count of the code. -/
namespace Go.Proofs.YtpmjjefnmgbifaaGreatDoor
open Go.RowKit Go.Shelf Fl

theorem test_right : ∀ (t : Nat) (v : V) (d : Nat), smallN t v = true → d ≤ 8 → walkB testB t v d = rightN (8 - d) v
  | 0, v, d, h, _ => by simp [smallN] at h
  | t + 1, .mk k n f s l, d, h, hd => by
    have hl : ∀ u ∈ l, smallN t u = true := by
      have h' : l.all (smallN t) = true := h
      exact List.all_eq_true.1 h'
    rw [walkB]
    change (testB (.mk k n f s l) d && l.all (fun u => walkB testB t u (d + 1))) = _
    by_cases hF : FieldsOk (.mk k n f s l) ∧ 0 ≤ k ∧ k ≤ 4
    · have hb : bareB (.mk k n f s l) = true := decide_eq_true hF
      rw [show testB (.mk k n f s l) d = (decide (k ≠ 4) || decide (d < 8)) from by unfold testB; rw [hb, Bool.true_and]; rfl]
      by_cases h4 : k = 4
      · by_cases h8 : d < 8
        · have e : l.all (fun u => walkB testB t u (d + 1)) = l.all (rightN (8 - (d + 1))) := by
            rw [Bool.eq_iff_iff, List.all_eq_true, List.all_eq_true]
            constructor
            · intro g u hu
              rw [← test_right t u (d + 1) (hl u hu) (by omega)]
              exact g u hu
            · intro g u hu
              rw [test_right t u (d + 1) (hl u hu) (by omega)]
              exact g u hu
          rw [decide_eq_true h8, Bool.or_true, Bool.true_and, e, show 8 - d = (8 - (d + 1)) + 1 by omega]
          exact (rightN_list hF.1 h4).symm
        · have e : 8 - d = 0 := by omega
          rw [decide_eq_false h8, decide_eq_false (fun h => h h4), e]
          unfold rightN
          rw [decide_eq_false (show ¬ (V.mk k n f s l).kind ≠ 4 from fun h => h h4)]
          simp
      · have hnil : l = [] := hF.1.2.2.2.resolve_left h4
        subst hnil
        rw [decide_eq_true h4, rightN_plain hF.1 h4 hF.2]
        rfl
    · have hb : bareB (.mk k n f s l) = false := decide_eq_false hF
      rw [show testB (.mk k n f s l) d = false from by unfold testB; rw [hb, Bool.false_and], Bool.false_and]
      by_cases h1 : FieldsOk (.mk k n f s l)
      · exact (rightN_kind (v := .mk k n f s l) (fun h => hF ⟨h1, h⟩)).symm
      · exact (rightN_fields h1).symm

theorem valid_walk (t : Nat) (ht : t ≤ 1000) (v : V) (x : Array Value) (w : World) (hs : smallN t v = true) (hv : VIn w v x) :
    Calls Tryz.prog 143 #[.agg x, .int .i64 0, .func (.func 147) #[] #[]] w fun e w' => e = .returned (.bool (rightN 8 v)) ∧ Below w.heap.size w w' := by
  have h := walk_any w 147 #[] (enters_of Tryz.func147 (by kernel_rfl) rfl) testB (fun _ _ => True) (fun _ _ => False) (fun _ => True) (fun _ _ _ => trivial) (fun _ _ _ _ h => h.elim) (fun _ _ _ _ _ => ⟨trivial, fun _ h => h⟩)
    (fun acc u xs d w1 _ _ hw1 hu _ => by
      obtain ⟨k, n, f, s, l⟩ := u
      obtain ⟨_, _, hf, hs, _, a, cap, rfl, _⟩ := hu.parts
      refine (visit_valid k n f s a l cap d w1 hf hs).mono ?_
      rintro e w2 ⟨rfl, hb⟩
      exact ⟨rfl, trivial, hb.mono hw1.size, fun b hb' _ => hb.block b hb'⟩)
    t v 0 [] x w hs (by omega) trivial trivial (Below.refl _ _) hv
  rw [test_right t v 0 hs (by omega)] at h
  exact h.mono fun e w' h => ⟨h.1, h.2.2⟩

set_option maxRecDepth 100000 in
set_option maxHeartbeats 1600000 in
theorem valid_any (t : Nat) (ht : t ≤ 1000) (v : V) (x : Array Value) (w : World) (hs : smallN t v = true) (hv : VIn w v x) :
    Calls Tryz.prog 108 #[.agg x] w fun e w' => e = .returned (.bool (rightN 8 v)) ∧ Below w.heap.size w w' := by
  obtain ⟨_, _, _, _, _, a, cap, rfl, _⟩ := hv.parts
  have hal := (Below.refl w.heap.size w).alloc (Nat.le_refl _) (.cells (cells5 v.kind v.n v.f v.s a v.l.length cap) 26)
  have HA := Lib.hid hal
  have HW := Lib.hid (valid_walk t ht v _ _ hs (hv.below hal))
  have HM := Lib.hid hal.size
  clear hv hs ht hal
  unfold cells5 at *
  go_enter Tryz.func108, Tryz.ntmps108
  go_wp2_with fail
  refine HW.out.mono ?_
  rintro e w1 ⟨rfl, hb⟩
  have HB := Lib.hid (HA.out.trans (hb.mono HM.out))
  clear hb
  go_wp2
  go_ret
  exact ⟨rfl, HB.out⟩
end Go.Proofs.YtpmjjefnmgbifaaGreatDoor

