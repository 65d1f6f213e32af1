import Derived.Test.YtmcdfmhciinocaaGreatDoorMB40
import Derived.Test.YtmcdfmhciinocaaGreatDoorMB41
import Derived.Test.YtmcdfmhciinocaaGreatDoorMB26
import Derived.Test.YtmcdfmhciinocaaGreatDoorMB30
import Derived.Deep.DeepCutAuto
import Derived.Deep.CutBlock
/- The walks of the reference's Bytes and Text of an event. -/
namespace Go.Proofs.YtmcdfmhciinocaaGreatDoor
open Go.RowKit Go.Shelf Fl

set_option maxRecDepth 100000 in
theorem rbytes11_any (e : Ev) (x : Array Value) (w : World) (h : EvIn w e x) (hlen : okE e = true → (formV e.v).length ≤ 10000000) (hsl : okE e = true → ∀ u ∈ preV e.v, u.s.length ≤ 1000000) :
    Calls Tryz.prog 10 #[.agg x] w (EBytesEnd w e) := by
  obtain ⟨_, _, _, _, _, _, a, cap, hx, _⟩ := id h
  have hal := (Below.refl w.heap.size w).alloc (Nat.le_refl _) (.cells (evC e.k e.id e.n e.t e.nm e.tx e.v.kind e.v.n e.v.f e.v.s a e.v.l.length cap) 28)
  have HE0 := Lib.hid (heap_alloc_new w (.cells (evC e.k e.id e.n e.t e.nm e.tx e.v.kind e.v.n e.v.f e.v.s a e.v.l.length cap) 28))
  have HV := Lib.hid (fun W (hW : Below w.heap.size w W) => rvalid11_any e x W (h.below hW))
  have HF := Lib.hid (fun W (hW : Below w.heap.size w W) (ho : okE e = true) => rform11_any e x W (h.below hW) ho (hlen ho) (hsl ho))
  have Hal := Lib.hid hal
  subst hx
  clear h hlen hsl hal
  go_enter Tryz.func10, Tryz.ntmps10
  go_wp2_with fail
  refine (HV.out _ Hal.out).mono ?_
  rintro r w1 ⟨rfl, hb1⟩
  have HE1 := Lib.hid (blk HE0.out hb1)
  have Hb1 := Lib.hid (Hal.out.trans (hb1.mono Hal.out.size))
  obtain ⟨g0, g1, g2, g3, g4, g5, g6, g7, g8, g9, g10⟩ := box11 HE1.out
  clear hb1
  cases hok : okE e with
  | false =>
    have Hok := Lib.hid hok
    clear hok
    go_wp2
    refine bodyPost_ret (v := .tuple #[.slice none 0 0, .bool false]) (by simp [results, Tryz.results10, go_sem, *]) rfl (.inl ⟨Hok.out, rfl, Hb1.out⟩)
  | true =>
    have Hok := Lib.hid hok
    clear hok
    go_wp2_with fail
    refine (HF.out _ Hb1.out Hok.out).mono ?_
    rintro r w2 ⟨u, rfl, hu, hb2⟩
    have Hu := Lib.hid (own_base hu Hb1.out.size)
    have Hb2 := Lib.hid (Hb1.out.trans (hb2.mono Hb1.out.size))
    clear hu hb2
    go_wp2
    refine bodyPost_ret (v := .tuple #[u, .bool true]) (by simp [results, Tryz.results10, go_sem, *]) rfl (.inr ⟨Hok.out, u, rfl, Hu.out, Hb2.out⟩)

set_option maxRecDepth 100000 in
theorem runsigned11_any (N : Nat) (w : World) (hN : N < 18446744073709551616) :
    Calls Tryz.prog 45 #[.int .u64 (N : Int)] w fun e w' => e = .returned (.string (str (decD N))) ∧ w = w' := by
  have HD := Lib.hid (rdigits_any N w hN)
  generalize decD N = D at *
  clear hN
  go_enter Tryz.func45, Tryz.ntmps45
  go_wp2_with fail
  refine HD.out.mono ?_
  rintro r w1 ⟨rfl, rfl⟩
  go_wp2
  go_ret
  exact ⟨rfl, rfl⟩

set_option maxRecDepth 100000 in
theorem rquoted_any (s : List Nat) (w : World) (hb : ∀ c ∈ s, c < 256) (hl : s.length ≤ 9223372036854775807) (hlen : (quoteL s).length ≤ 1000000) :
    Calls Tryz.prog 46 #[.string (str s)] w fun e w' => e = .returned (.string (str (quoteL s))) ∧ Below w.heap.size w w' := by
  have HT := Lib.hid (rvtext_any (.mk 3 0 0 s []) _ w hlen (quote_in s w hb hl))
  unfold cells5 at HT
  unfold quoteL
  generalize textB (.mk 3 0 0 s []) = res at *
  clear hb hl hlen
  go_enter Tryz.func46, Tryz.ntmps46
  go_wp2_with fail
  refine HT.out.mono ?_
  rintro e w1 ⟨rfl, hb⟩
  have Hb := Lib.hid hb
  clear hb
  go_wp2
  go_ret
  exact ⟨rfl, Hb.out⟩

/-- The words of the fields before j. -/
def upT (e : Ev) (j : Nat) : List Nat := wordsT (wordE e) ((List.range j).filter (fun i => decide (i ∈ evFields e.k)))
theorem upT_succ (e : Ev) (j : Nat) : upT e (j + 1) = upT e j ++ (if j ∈ evFields e.k then 32 :: wordE e j else []) := by
  unfold upT wordsT
  rw [List.range_succ, List.filter_append, List.map_append, List.flatten_append]
  congr 1
  by_cases h : j ∈ evFields e.k
  · simp [h]
  · simp [h]
theorem upT_six (e : Ev) : upT e 6 = wordsT (wordE e) (evFields e.k) := by
  unfold upT
  rw [fields_filter]

set_option maxRecDepth 100000 in
set_option maxHeartbeats 12800000 in
theorem rtext11_any (e : Ev) (x : Array Value) (w : World) (h : EvIn w e x) (hlen : ∀ i, (wordE e i).length ≤ 1000000) :
    Calls Tryz.prog 14 #[.agg x] w fun r w' => r = .returned (.string (str (textE e))) ∧ Below w.heap.size w w' := by
  have HV := Lib.hid (fun W (hW : Below w.heap.size w W) => rvalid11_any e x W (h.below hW))
  cases hok : okE e with
  | false =>
    have ht : textE e = [] := by unfold textE; rw [hok]; rfl
    rw [ht]
    rw [hok] at HV
    obtain ⟨_, _, _, _, _, _, a, cap, hx, _⟩ := h
    have Hal := Lib.hid ((Below.refl w.heap.size w).alloc (Nat.le_refl _) (.cells (evC e.k e.id e.n e.t e.nm e.tx e.v.kind e.v.n e.v.f e.v.s a e.v.l.length cap) 28))
    subst hx
    clear hok ht hlen
    go_enter Tryz.func14, Tryz.ntmps14
    go_wp2_with fail
    refine (HV.out _ Hal.out).mono ?_
    rintro r w1 ⟨rfl, hb1⟩
    have Hb1 := Lib.hid (Hal.out.trans (hb1.mono Hal.out.size))
    clear hb1
    go_wp2
    go_ret
    exact ⟨rfl, Hb1.out⟩
  | true =>
    obtain ⟨G, hG⟩ : ∃ G : Nat → List Nat, G = fun j => evName e.k ++ upT e j := ⟨_, rfl⟩
    have ht : textE e = G 6 := by unfold textE; rw [hok, hG]; simp only [upT_six]; rfl
    have hG0 : G 0 = evName e.k := by rw [hG]; simp [upT, wordsT]
    have HGin := Lib.hid (show ∀ j, j ∈ evFields e.k → G (j + 1) = G j ++ 32 :: wordE e j from fun j h => by rw [hG]; simp only [upT_succ]; rw [if_pos h, ← List.append_assoc])
    have HGout := Lib.hid (show ∀ j, j ∉ evFields e.k → G (j + 1) = G j from fun j h => by rw [hG]; simp only [upT_succ]; rw [if_neg h, List.append_nil])
    have hGl : ∀ j, j ≤ 6 → (G j).length ≤ 20 + j * 1000001 := by
      intro j
      induction j with
      | zero => intro _; rw [hG0]; unfold evName; (repeat' split) <;> simp
      | succ j ih =>
        intro hj
        have h1 := ih (by omega)
        by_cases hm : j ∈ evFields e.k
        · rw [HGin.out j hm, List.length_append, List.length_cons]
          have := hlen j
          omega
        · rw [HGout.out j hm]
          exact Nat.le_trans h1 (Nat.add_le_add_left (Nat.mul_le_mul_right _ (Nat.le_succ j)) _)
    have HGl := Lib.hid hGl
    have Hrt := Lib.hid (fun i hi => okE_right hok (i := i) hi)
    rw [ht]
    rw [hok] at HV
    clear hok ht hG hGl
    obtain ⟨k, id, n, t, nm, tx, v⟩ := e
    obtain ⟨b1, b2, b3, b4, b5, b6, a, cap, rfl, hv⟩ := h
    change -9223372036854775808 ≤ k ∧ k ≤ 9223372036854775807 at b1
    change id < 18446744073709551616 at b2
    change -9223372036854775808 ≤ n ∧ n ≤ 9223372036854775807 at b3
    change t < 18446744073709551616 at b4
    change (∀ c ∈ nm, c < 256) ∧ nm.length ≤ 9223372036854775807 at b5
    change (∀ c ∈ tx, c < 256) ∧ tx.length ≤ 9223372036854775807 at b6
    change VIn w v (cells5 v.kind v.n v.f v.s a v.l.length cap) at hv
    have HV2 := Lib.hid (show ∀ W, Below w.heap.size w W → Calls Tryz.prog 38 #[.agg (evC k id n t nm tx v.kind v.n v.f v.s a v.l.length cap)] W fun r w' => r = .returned (.bool true) ∧ Below W.heap.size W w' from HV.out)
    have hal := (Below.refl w.heap.size w).alloc (Nat.le_refl _) (.cells (evC k id n t nm tx v.kind v.n v.f v.s a v.l.length cap) 28)
    have HE0 := Lib.hid (heap_alloc_new w (.cells (evC k id n t nm tx v.kind v.n v.f v.s a v.l.length cap) 28))
    have Hal := Lib.hid hal
    have HVv := Lib.hid hv
    have HB2 := Lib.hid b2
    have HB4 := Lib.hid b4
    have HB5 := Lib.hid b5
    have HB6 := Lib.hid b6
    obtain ⟨ee, hee⟩ : ∃ ee : Ev, ee = ⟨k, id, n, t, nm, tx, v⟩ := ⟨_, rfl⟩
    have hp0 : wordE ee 0 = decD id := by rw [hee]; rfl
    have hp1 : wordE ee 1 = decL n := by rw [hee]; rfl
    have hp2 : wordE ee 2 = decD t := by rw [hee]; rfl
    have hp3 : wordE ee 3 = quoteL nm := by rw [hee]; rfl
    have hp4 : wordE ee 4 = quoteL tx := by rw [hee]; rfl
    have hp5 : wordE ee 5 = textB v := by rw [hee]; rfl
    have hr1 : rightE ee 1 = true → 1 ≤ n ∧ n ≤ 2147483647 := fun h => by rw [hee] at h; simpa [rightE] using h
    have hke : ee.k = k := by rw [hee]
    rw [← hee] at HGin HGout Hrt hlen
    rw [hke] at HGin HGout Hrt
    have hG0' : G 0 = evName k := hG0
    have Hp := Lib.hid (And.intro hp0 (And.intro hp1 (And.intro hp2 (And.intro hp3 (And.intro hp4 hp5)))))
    have Hr1 := Lib.hid hr1
    have Hlen := Lib.hid hlen
    have HN := Lib.hid (fun W => rname11_any k W)
    rw [← hG0'] at HN
    have Hb3 := Lib.hid b3
    clear hee hp0 hp1 hp2 hp3 hp4 hp5 hr1 hke hal hv b1 b2 b3 b4 b5 b6 hG0 hG0' HV hlen
    have hs0 := fun j => str_size (G j)
    go_enter Tryz.func14, Tryz.ntmps14
    go_wp2_with fail
    refine (HV2.out _ Hal.out).mono ?_
    rintro r w1 ⟨rfl, hb1⟩
    have HE1 := Lib.hid (blk HE0.out hb1)
    have Hb1 := Lib.hid (Hal.out.trans (hb1.mono Hal.out.size))
    obtain ⟨g0, g1, g2, g3, g4, g5, g6, g7, g8, g9, g10⟩ := box11 HE1.out
    clear hb1
    go_wp2_with fail
    refine (HN.out _).mono ?_
    rintro r w2 ⟨rfl, hb2⟩
    have HE2 := Lib.hid (blk HE1.out hb2)
    have Hb2 := Lib.hid (Hb1.out.trans (hb2.mono Hb1.out.size))
    clear hb2 g0 g1 g2 g3 g4 g5 g6 g7 g8 g9 g10 HE0 HE1 Hb1 Hal HN HV2
    have HH0 := Lib.hid (has_any k 105 (by omega) w2)
    rw [show decide (105 ∈ evL k) = decide (0 ∈ evFields k) from decide_eq_decide.2 (lett_mem (i := 0) (by omega))] at HH0
    have HF0 := Lib.hid (show (decide (0 ∈ evFields k) = true → 0 ∈ evFields k) ∧ (decide (0 ∈ evFields k) = false → 0 ∉ evFields k) from ⟨of_decide_eq_true, of_decide_eq_false⟩)
    generalize decide (0 ∈ evFields k) = q0 at *
    have hg00 := (box11 HE2.out).1
    go_wp2_with fail
    refine HH0.out.mono ?_
    rintro r w10 ⟨rfl, hb3⟩
    have HE10 := Lib.hid (blk HE2.out hb3)
    have Hb10 := Lib.hid (Hb2.out.trans (hb3.mono Hb2.out.size))
    clear hb3 hg00 HH0
    go_upto_if 12 with fail
    go_cut [3] (fun t3 wx => t3 = .string (str (G (0 + 1))) ∧ wx.heap[w.heap.size]? = some (.cells (evC k id n t nm tx v.kind v.n v.f v.s a v.l.length cap) 28 (0, 0)) ∧ Below w.heap.size w wx)
    case first =>
      cases q0
      · have he := HGout.out 0 (HF0.out.2 rfl)
        have He := Lib.hid he
        clear he
        go_wp2
        go_meet
        exact ⟨by rw [He.out], HE10.out, Hb10.out⟩
      · have hm := HF0.out.1 rfl
        have he := HGin.out 0 hm
        have hwl := Hlen.out 0
        obtain ⟨g0, g1, g2, g3, g4, g5, g6, g7, g8, g9, g10⟩ := box11 HE10.out
        have HC := Lib.hid ((runsigned11_any id w10 HB2.out).mono (R' := fun r w' => r = .returned (.string (str (decD id))) ∧ Below w10.heap.size w10 w') (fun r w' h => ⟨h.1, by rw [← h.2]; exact Below.refl _ _⟩))
        rw [Hp.out.1] at he hwl
        have hgl := HGl.out 0 (by omega)
        have hz1 := hs0 0
        have hs1 : str (G 0) ++ (⟨#[32]⟩ : ByteArray) = str (G 0 ++ [32]) := str_append (G 0) [32]
        have hz2 := str_size (G 0 ++ [32])
        have hs2 : str (G 0 ++ [32]) ++ str (decD id) = str (G (0 + 1)) := by rw [he, str_append, List.append_assoc]; rfl
        have hz3 := str_size (decD id)
        have hl32 : (G 0 ++ [32]).length = (G 0).length + 1 := by rw [List.length_append]; rfl
        clear he hm
        generalize decD id = P at *
        go_wp2_with fail
        refine HC.out.mono ?_
        rintro r w9 ⟨rfl, hb9⟩
        have HE9 := Lib.hid (blk HE10.out hb9)
        have Hb9 := Lib.hid (Hb10.out.trans (hb9.mono Hb10.out.size))
        clear hb9 g0 g1 g2 g3 g4 g5 g6 g7 g8 g9 g10
        go_wp2
        go_meet
        exact ⟨rfl, HE9.out, Hb9.out⟩
    case rest =>
    obtain ⟨rfl, hE, hb⟩ := hcut
    have HE11 := Lib.hid hE
    have Hb11 := Lib.hid hb
    clear hE hb
    obtain ⟨w11, hwc⟩ : ∃ x, x = wc := ⟨_, rfl⟩
    rw [← hwc] at HE11 Hb11 ⊢
    clear hwc
    have HH1 := Lib.hid (has_any k 110 (by omega) w11)
    rw [show decide (110 ∈ evL k) = decide (1 ∈ evFields k) from decide_eq_decide.2 (lett_mem (i := 1) (by omega))] at HH1
    have HF1 := Lib.hid (show (decide (1 ∈ evFields k) = true → 1 ∈ evFields k) ∧ (decide (1 ∈ evFields k) = false → 1 ∉ evFields k) from ⟨of_decide_eq_true, of_decide_eq_false⟩)
    generalize decide (1 ∈ evFields k) = q1 at *
    have hg01 := (box11 HE11.out).1
    go_wp2_with fail
    refine HH1.out.mono ?_
    rintro r w13 ⟨rfl, hb3⟩
    have HE13 := Lib.hid (blk HE11.out hb3)
    have Hb13 := Lib.hid (Hb11.out.trans (hb3.mono Hb11.out.size))
    clear hb3 hg01 HH1
    go_upto_if 21 with fail
    go_cut [3] (fun t3 wx => t3 = .string (str (G (1 + 1))) ∧ wx.heap[w.heap.size]? = some (.cells (evC k id n t nm tx v.kind v.n v.f v.s a v.l.length cap) 28 (0, 0)) ∧ Below w.heap.size w wx)
    case first =>
      cases q1
      · have he := HGout.out 1 (HF1.out.2 rfl)
        have He := Lib.hid he
        clear he
        go_wp2
        go_meet
        exact ⟨by rw [He.out], HE13.out, Hb13.out⟩
      · have hm := HF1.out.1 rfl
        have he := HGin.out 1 hm
        have hwl := Hlen.out 1
        obtain ⟨g0, g1, g2, g3, g4, g5, g6, g7, g8, g9, g10⟩ := box11 HE13.out
        have h1 := Hr1.out (Hrt.out 1 hm)
        obtain ⟨m, hnm⟩ : ∃ m : Nat, n = (m : Int) := ⟨n.toNat, by omega⟩
        have hwm : IntKind.u64.wrap n = (m : Int) := by rw [hnm, IntKind.wrap_u64]; omega
        have hdm : decL n = decD m := by unfold decL; rw [hnm, if_neg (by omega), Int.natAbs_natCast]
        have HC := Lib.hid ((runsigned11_any m w13 (by omega)).mono (R' := fun r w' => r = .returned (.string (str (decL n))) ∧ Below w13.heap.size w13 w') (fun r w' h => ⟨by rw [hdm]; exact h.1, by rw [← h.2]; exact Below.refl _ _⟩))
        clear h1 hdm hnm
        rw [Hp.out.2.1] at he hwl
        have hgl := HGl.out 1 (by omega)
        have hz1 := hs0 1
        have hs1 : str (G 1) ++ (⟨#[32]⟩ : ByteArray) = str (G 1 ++ [32]) := str_append (G 1) [32]
        have hz2 := str_size (G 1 ++ [32])
        have hs2 : str (G 1 ++ [32]) ++ str (decL n) = str (G (1 + 1)) := by rw [he, str_append, List.append_assoc]; rfl
        have hz3 := str_size (decL n)
        have hl32 : (G 1 ++ [32]).length = (G 1).length + 1 := by rw [List.length_append]; rfl
        clear he hm
        generalize decL n = P at *
        go_wp2_with fail
        refine HC.out.mono ?_
        rintro r w9 ⟨rfl, hb9⟩
        have HE9 := Lib.hid (blk HE13.out hb9)
        have Hb9 := Lib.hid (Hb13.out.trans (hb9.mono Hb13.out.size))
        clear hb9 g0 g1 g2 g3 g4 g5 g6 g7 g8 g9 g10
        go_wp2
        go_meet
        exact ⟨rfl, HE9.out, Hb9.out⟩
    case rest =>
    obtain ⟨rfl, hE, hb⟩ := hcut
    have HE14 := Lib.hid hE
    have Hb14 := Lib.hid hb
    clear hE hb
    obtain ⟨w14, hwc⟩ : ∃ x, x = wc := ⟨_, rfl⟩
    rw [← hwc] at HE14 Hb14 ⊢
    clear hwc
    have HH2 := Lib.hid (has_any k 97 (by omega) w14)
    rw [show decide (97 ∈ evL k) = decide (2 ∈ evFields k) from decide_eq_decide.2 (lett_mem (i := 2) (by omega))] at HH2
    have HF2 := Lib.hid (show (decide (2 ∈ evFields k) = true → 2 ∈ evFields k) ∧ (decide (2 ∈ evFields k) = false → 2 ∉ evFields k) from ⟨of_decide_eq_true, of_decide_eq_false⟩)
    generalize decide (2 ∈ evFields k) = q2 at *
    have hg02 := (box11 HE14.out).1
    go_wp2_with fail
    refine HH2.out.mono ?_
    rintro r w16 ⟨rfl, hb3⟩
    have HE16 := Lib.hid (blk HE14.out hb3)
    have Hb16 := Lib.hid (Hb14.out.trans (hb3.mono Hb14.out.size))
    clear hb3 hg02 HH2
    go_upto_if 31 with fail
    go_cut [3] (fun t3 wx => t3 = .string (str (G (2 + 1))) ∧ wx.heap[w.heap.size]? = some (.cells (evC k id n t nm tx v.kind v.n v.f v.s a v.l.length cap) 28 (0, 0)) ∧ Below w.heap.size w wx)
    case first =>
      cases q2
      · have he := HGout.out 2 (HF2.out.2 rfl)
        have He := Lib.hid he
        clear he
        go_wp2
        go_meet
        exact ⟨by rw [He.out], HE16.out, Hb16.out⟩
      · have hm := HF2.out.1 rfl
        have he := HGin.out 2 hm
        have hwl := Hlen.out 2
        obtain ⟨g0, g1, g2, g3, g4, g5, g6, g7, g8, g9, g10⟩ := box11 HE16.out
        have HC := Lib.hid ((runsigned11_any t w16 HB4.out).mono (R' := fun r w' => r = .returned (.string (str (decD t))) ∧ Below w16.heap.size w16 w') (fun r w' h => ⟨h.1, by rw [← h.2]; exact Below.refl _ _⟩))
        rw [Hp.out.2.2.1] at he hwl
        have hgl := HGl.out 2 (by omega)
        have hz1 := hs0 2
        have hs1 : str (G 2) ++ (⟨#[32]⟩ : ByteArray) = str (G 2 ++ [32]) := str_append (G 2) [32]
        have hz2 := str_size (G 2 ++ [32])
        have hs2 : str (G 2 ++ [32]) ++ str (decD t) = str (G (2 + 1)) := by rw [he, str_append, List.append_assoc]; rfl
        have hz3 := str_size (decD t)
        have hl32 : (G 2 ++ [32]).length = (G 2).length + 1 := by rw [List.length_append]; rfl
        clear he hm
        generalize decD t = P at *
        go_wp2_with fail
        refine HC.out.mono ?_
        rintro r w9 ⟨rfl, hb9⟩
        have HE9 := Lib.hid (blk HE16.out hb9)
        have Hb9 := Lib.hid (Hb16.out.trans (hb9.mono Hb16.out.size))
        clear hb9 g0 g1 g2 g3 g4 g5 g6 g7 g8 g9 g10
        go_wp2
        go_meet
        exact ⟨rfl, HE9.out, Hb9.out⟩
    case rest =>
    obtain ⟨rfl, hE, hb⟩ := hcut
    have HE17 := Lib.hid hE
    have Hb17 := Lib.hid hb
    clear hE hb
    obtain ⟨w17, hwc⟩ : ∃ x, x = wc := ⟨_, rfl⟩
    rw [← hwc] at HE17 Hb17 ⊢
    clear hwc
    have HH3 := Lib.hid (has_any k 115 (by omega) w17)
    rw [show decide (115 ∈ evL k) = decide (3 ∈ evFields k) from decide_eq_decide.2 (lett_mem (i := 3) (by omega))] at HH3
    have HF3 := Lib.hid (show (decide (3 ∈ evFields k) = true → 3 ∈ evFields k) ∧ (decide (3 ∈ evFields k) = false → 3 ∉ evFields k) from ⟨of_decide_eq_true, of_decide_eq_false⟩)
    generalize decide (3 ∈ evFields k) = q3 at *
    have hg03 := (box11 HE17.out).1
    go_wp2_with fail
    refine HH3.out.mono ?_
    rintro r w19 ⟨rfl, hb3⟩
    have HE19 := Lib.hid (blk HE17.out hb3)
    have Hb19 := Lib.hid (Hb17.out.trans (hb3.mono Hb17.out.size))
    clear hb3 hg03 HH3
    go_upto_if 40 with fail
    go_cut [3] (fun t3 wx => t3 = .string (str (G (3 + 1))) ∧ wx.heap[w.heap.size]? = some (.cells (evC k id n t nm tx v.kind v.n v.f v.s a v.l.length cap) 28 (0, 0)) ∧ Below w.heap.size w wx)
    case first =>
      cases q3
      · have he := HGout.out 3 (HF3.out.2 rfl)
        have He := Lib.hid he
        clear he
        go_wp2
        go_meet
        exact ⟨by rw [He.out], HE19.out, Hb19.out⟩
      · have hm := HF3.out.1 rfl
        have he := HGin.out 3 hm
        have hwl := Hlen.out 3
        obtain ⟨g0, g1, g2, g3, g4, g5, g6, g7, g8, g9, g10⟩ := box11 HE19.out
        have HC := Lib.hid (rquoted_any nm w19 HB5.out.1 HB5.out.2 (by rw [← Hp.out.2.2.2.1]; exact hwl))
        rw [Hp.out.2.2.2.1] at he hwl
        have hgl := HGl.out 3 (by omega)
        have hz1 := hs0 3
        have hs1 : str (G 3) ++ (⟨#[32]⟩ : ByteArray) = str (G 3 ++ [32]) := str_append (G 3) [32]
        have hz2 := str_size (G 3 ++ [32])
        have hs2 : str (G 3 ++ [32]) ++ str (quoteL nm) = str (G (3 + 1)) := by rw [he, str_append, List.append_assoc]; rfl
        have hz3 := str_size (quoteL nm)
        have hl32 : (G 3 ++ [32]).length = (G 3).length + 1 := by rw [List.length_append]; rfl
        clear he hm
        generalize quoteL nm = P at *
        go_wp2_with fail
        refine HC.out.mono ?_
        rintro r w9 ⟨rfl, hb9⟩
        have HE9 := Lib.hid (blk HE19.out hb9)
        have Hb9 := Lib.hid (Hb19.out.trans (hb9.mono Hb19.out.size))
        clear hb9 g0 g1 g2 g3 g4 g5 g6 g7 g8 g9 g10
        go_wp2
        go_meet
        exact ⟨rfl, HE9.out, Hb9.out⟩
    case rest =>
    obtain ⟨rfl, hE, hb⟩ := hcut
    have HE20 := Lib.hid hE
    have Hb20 := Lib.hid hb
    clear hE hb
    obtain ⟨w20, hwc⟩ : ∃ x, x = wc := ⟨_, rfl⟩
    rw [← hwc] at HE20 Hb20 ⊢
    clear hwc
    have HH4 := Lib.hid (has_any k 116 (by omega) w20)
    rw [show decide (116 ∈ evL k) = decide (4 ∈ evFields k) from decide_eq_decide.2 (lett_mem (i := 4) (by omega))] at HH4
    have HF4 := Lib.hid (show (decide (4 ∈ evFields k) = true → 4 ∈ evFields k) ∧ (decide (4 ∈ evFields k) = false → 4 ∉ evFields k) from ⟨of_decide_eq_true, of_decide_eq_false⟩)
    generalize decide (4 ∈ evFields k) = q4 at *
    have hg04 := (box11 HE20.out).1
    go_wp2_with fail
    refine HH4.out.mono ?_
    rintro r w22 ⟨rfl, hb3⟩
    have HE22 := Lib.hid (blk HE20.out hb3)
    have Hb22 := Lib.hid (Hb20.out.trans (hb3.mono Hb20.out.size))
    clear hb3 hg04 HH4
    go_upto_if 49 with fail
    go_cut [3] (fun t3 wx => t3 = .string (str (G (4 + 1))) ∧ wx.heap[w.heap.size]? = some (.cells (evC k id n t nm tx v.kind v.n v.f v.s a v.l.length cap) 28 (0, 0)) ∧ Below w.heap.size w wx)
    case first =>
      cases q4
      · have he := HGout.out 4 (HF4.out.2 rfl)
        have He := Lib.hid he
        clear he
        go_wp2
        go_meet
        exact ⟨by rw [He.out], HE22.out, Hb22.out⟩
      · have hm := HF4.out.1 rfl
        have he := HGin.out 4 hm
        have hwl := Hlen.out 4
        obtain ⟨g0, g1, g2, g3, g4, g5, g6, g7, g8, g9, g10⟩ := box11 HE22.out
        have HC := Lib.hid (rquoted_any tx w22 HB6.out.1 HB6.out.2 (by rw [← Hp.out.2.2.2.2.1]; exact hwl))
        rw [Hp.out.2.2.2.2.1] at he hwl
        have hgl := HGl.out 4 (by omega)
        have hz1 := hs0 4
        have hs1 : str (G 4) ++ (⟨#[32]⟩ : ByteArray) = str (G 4 ++ [32]) := str_append (G 4) [32]
        have hz2 := str_size (G 4 ++ [32])
        have hs2 : str (G 4 ++ [32]) ++ str (quoteL tx) = str (G (4 + 1)) := by rw [he, str_append, List.append_assoc]; rfl
        have hz3 := str_size (quoteL tx)
        have hl32 : (G 4 ++ [32]).length = (G 4).length + 1 := by rw [List.length_append]; rfl
        clear he hm
        generalize quoteL tx = P at *
        go_wp2_with fail
        refine HC.out.mono ?_
        rintro r w9 ⟨rfl, hb9⟩
        have HE9 := Lib.hid (blk HE22.out hb9)
        have Hb9 := Lib.hid (Hb22.out.trans (hb9.mono Hb22.out.size))
        clear hb9 g0 g1 g2 g3 g4 g5 g6 g7 g8 g9 g10
        go_wp2
        go_meet
        exact ⟨rfl, HE9.out, Hb9.out⟩
    case rest =>
    obtain ⟨rfl, hE, hb⟩ := hcut
    have HE23 := Lib.hid hE
    have Hb23 := Lib.hid hb
    clear hE hb
    obtain ⟨w23, hwc⟩ : ∃ x, x = wc := ⟨_, rfl⟩
    rw [← hwc] at HE23 Hb23 ⊢
    clear hwc
    have HH5 := Lib.hid (has_any k 118 (by omega) w23)
    rw [show decide (118 ∈ evL k) = decide (5 ∈ evFields k) from decide_eq_decide.2 (lett_mem (i := 5) (by omega))] at HH5
    have HF5 := Lib.hid (show (decide (5 ∈ evFields k) = true → 5 ∈ evFields k) ∧ (decide (5 ∈ evFields k) = false → 5 ∉ evFields k) from ⟨of_decide_eq_true, of_decide_eq_false⟩)
    generalize decide (5 ∈ evFields k) = q5 at *
    have hg05 := (box11 HE23.out).1
    go_wp2_with fail
    refine HH5.out.mono ?_
    rintro r w25 ⟨rfl, hb3⟩
    have HE25 := Lib.hid (blk HE23.out hb3)
    have Hb25 := Lib.hid (Hb23.out.trans (hb3.mono Hb23.out.size))
    clear hb3 hg05 HH5
    go_upto_if 58 with fail
    go_cut [3] (fun t3 wx => t3 = .string (str (G (5 + 1))) ∧ wx.heap[w.heap.size]? = some (.cells (evC k id n t nm tx v.kind v.n v.f v.s a v.l.length cap) 28 (0, 0)) ∧ Below w.heap.size w wx)
    case first =>
      cases q5
      · have he := HGout.out 5 (HF5.out.2 rfl)
        have He := Lib.hid he
        clear he
        go_wp2
        go_meet
        exact ⟨by rw [He.out], HE25.out, Hb25.out⟩
      · have hm := HF5.out.1 rfl
        have he := HGin.out 5 hm
        have hwl := Hlen.out 5
        obtain ⟨g0, g1, g2, g3, g4, g5, g6, g7, g8, g9, g10⟩ := box11 HE25.out
        have HC := Lib.hid (rvtext_any v _ w25 (by rw [← Hp.out.2.2.2.2.2]; exact hwl) (HVv.out.below Hb25.out))
        unfold cells5 at HC
        rw [Hp.out.2.2.2.2.2] at he hwl
        have hgl := HGl.out 5 (by omega)
        have hz1 := hs0 5
        have hs1 : str (G 5) ++ (⟨#[32]⟩ : ByteArray) = str (G 5 ++ [32]) := str_append (G 5) [32]
        have hz2 := str_size (G 5 ++ [32])
        have hs2 : str (G 5 ++ [32]) ++ str (textB v) = str (G (5 + 1)) := by rw [he, str_append, List.append_assoc]; rfl
        have hz3 := str_size (textB v)
        have hl32 : (G 5 ++ [32]).length = (G 5).length + 1 := by rw [List.length_append]; rfl
        clear he hm
        generalize textB v = P at *
        go_wp2_with fail
        refine HC.out.mono ?_
        rintro r w9 ⟨rfl, hb9⟩
        have HE9 := Lib.hid (blk HE25.out hb9)
        have Hb9 := Lib.hid (Hb25.out.trans (hb9.mono Hb25.out.size))
        clear hb9 g0 g1 g2 g3 g4 g5 g6 g7 g8 g9 g10
        go_wp2
        go_meet
        exact ⟨rfl, HE9.out, Hb9.out⟩
    case rest =>
    obtain ⟨rfl, hE, hb⟩ := hcut
    have HE26 := Lib.hid hE
    have Hb26 := Lib.hid hb
    clear hE hb
    obtain ⟨w26, hwc⟩ : ∃ x, x = wc := ⟨_, rfl⟩
    rw [← hwc] at HE26 Hb26 ⊢
    clear hwc
    go_wp2
    go_ret
    exact ⟨rfl, Hb26.out⟩
end Go.Proofs.YtmcdfmhciinocaaGreatDoor

