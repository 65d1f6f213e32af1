/- The statement DiskRoom answers true. -/
import Derived.Test.YtdnbjpfapfnpaaaAcOwn
import Derived.Test.YtdnbjpfapfnpaaaDkAlive
namespace Go.Proofs.Ytdnbjpfapfnpaaa
open Go.RowKit Go.Maps Go.Shelf

set_option maxRecDepth 100000 in
set_option maxHeartbeats 12800000 in
theorem droom_any (x : Nat) (a : Option Addr) (n c : Nat) (l : List AM) (w : World) (hx : x < 256) (hl : Acts w a n c l) :
    Calls Try.prog 4 #[.int .u8 (x : Int), .slice a n c] w fun e w' => e = .returned (.bool true) ∧ Below w.heap.size w w' := by
  have HN := Lib.hid (own_new (x : Int) w (by omega))
  have HA := Lib.hid (fun w1 => dalive_any w1)
  have hcv : wrap64 (x : Int) = (x : Int) := wrap64_ok _ ⟨by omega, by omega⟩
  have hx1 : (0 : Int) ≤ (x : Int) := by omega
  have hx2 : (x : Int) < 256 := by omega
  have hls := Lib.hid hl.len
  have hnb : n ≤ 9223372036854775807 := Nat.le_trans hl.le hl.max
  have HL := Lib.hid hl
  clear hl
  go_enter Try.func4, Try.ntmps4
  go_wp2_with fail
  refine HN.out.mono ?_
  rintro e w1 ⟨d, rfl, ho1, hb1⟩
  have HF := Lib.hid (fewA_any a n c l w1 (HL.out.grow hb1))
  have Ho1 := Lib.hid ho1
  have Hb1 := Lib.hid hb1
  clear hb1 ho1
  go_wp2_with fail
  refine HF.out.mono ?_
  rintro e w2 ⟨hE, hb2⟩
  have Hb2 := Lib.hid (Hb1.out.trans (hb2.mono Hb1.out.size))
  have Ho2 := Lib.hid (Ho1.out.below hb2)
  clear hb2
  rcases hE with rfl | ⟨rfl, hfew⟩
  · go_wp2_with fail
    refine (HA.out _).mono ?_
    rintro e w3 ⟨rfl, hb3⟩
    have Hb3 := Lib.hid (Hb2.out.trans (hb3.mono Hb2.out.size))
    clear hb3
    go_wp2
    go_ret
    exact ⟨rfl, Hb3.out⟩
  · obtain ⟨hf1, hf2⟩ := hfew
    have Hf1 := Lib.hid hf1
    have Hf2 := Lib.hid (fun j => Nat.le_trans (sumB_le l j) hf2)
    have Hbs := Lib.hid (fun j (hj : j < l.length) => (show l[j].bs.length ≤ 1500 from by
      have h1 := sumB_next hj
      have h2 := sumB_le l (j + 1)
      omega))
    clear hf1 hf2 HF
    go_wp2
    go_loopw [28] (fun i wr => ∃ j : Nat, j ≤ n ∧ i = .int .i64 (j : Int) ∧ Own w (fun _ => False) wr d (runA l (newM (x : Int)) j) ∧ (∀ i, i ≤ j → Good l (newM (x : Int)) i)) (fun i _ => n - (intOf i).toNat)
    case atStart => exact ⟨0, Nat.zero_le _, rfl, Ho2.out, fun i hi => by obtain rfl : i = 0 := by omega
                                                                          exact good_zero⟩
    case round =>
      obtain ⟨j, hj, rfl, ho, hg⟩ := hrel
      have Hg := Lib.hid hg
      by_cases hlt : j < n
      · obtain ⟨b, o, rfl, hc⟩ := HL.out.cell (by omega)
        have hjl : j < l.length := by rw [hls.out]; exact hlt
        obtain ⟨pb, cb, pk, ck, hx0⟩ := hc j hjl
        have hxr := hx0.grow ho.base
        have k0 := hxr.k0
        have k1 := hxr.k1
        have k2 := hxr.k2
        have k3 := hxr.k3
        have k4 := hxr.k4
        have k5 := hxr.k5
        have hgj := hg j (Nat.le_refl _)
        have hal := (Below.refl wr.heap.size wr).alloc (Nat.le_refl _) (.cells #[.int .i64 l[j].k, .string ⟨l[j].nm.toArray⟩, .string ⟨l[j].to.toArray⟩, .slice pb l[j].bs.length cb, .int .i64 l[j].n, .slice pk l[j].ks.length ck] 35)
        have HD := Lib.hid (ldo_any (ho.below hal) l[j] pb cb pk ck hx0.bytes hx0.nums hx0.wn hx0.w1 hx0.w2 (by have := hgj.small.files; have := Hf1.out; omega) (by have := hgj.small.used; have := Hf2.out j; have := Hbs.out j hjl; omega))
        have Hnx := Lib.hid (fun (w' : World) (h : Own w (fun _ => False) w' d (stepA l[j] (runA l (newM (x : Int)) j)).1) => hgj.next hjl h)
        have Hru := Lib.hid (runA_next (M := newM (x : Int)) hjl)
        have Hrm := Lib.hid (show (stepA l[j] (runA l (newM (x : Int)) j)).1.room = x from by
          rw [stepA_room, runA_room l _ j (by omega)]
          show (x : Int).toNat = x
          omega)
        unfold actV at HD
        generalize stepA l[j] (runA l (newM (x : Int)) j) = r at *
        generalize l[j] = y at *
        obtain ⟨k, nm, to, bs, ny, ks⟩ := y
        simp only at *
        have Hlt := Lib.hid hlt
        clear hx0 hxr hc ho hg hgj hal hjl hlt
        go_wp2_with fail
        refine HD.out.mono ?_
        rintro e w3 ⟨p, cp, rfl, hB3, ho3, _, _, _⟩
        have HU := Lib.hid (own_used ho3)
        have hu3 := (own_facts ho3).2.2
        rw [Hrm.out] at hu3
        have Ho3 := Lib.hid ho3
        generalize usedF r.1.fs = u at *
        have hu4 : ¬ (x : Int) < (u : Int) := by omega
        clear hB3 ho3 HD
        go_wp2_with fail
        refine HU.out.mono ?_
        rintro e w4 ⟨rfl, hb4⟩
        have Ho4 := Lib.hid (Ho3.out.below hb4)
        clear hb4
        go_wp2
        go_roundw
        case rel => exact ⟨j + 1, Hlt.out, by go_num, by rw [Hru.out]; exact Ho4.out, fun i hi => by
          rcases Nat.lt_or_ge j i with h | h
          · obtain rfl : i = j + 1 := by omega
            exact Hnx.out _ Ho4.out
          · exact Hg.out i h⟩
        case measure => simp [intOf]; have := Hlt.out; omega
      · obtain rfl : j = n := by omega
        have Ho := Lib.hid ho
        clear ho hg hlt
        go_wp2
        obtain ⟨wq, rfl⟩ : ∃ wq, wq = wr := ⟨_, rfl⟩
        go_loopw [46] (fun i wr => ∃ (k : Nat) (a' : Option Addr) (n' c' : Nat) (R : List FR), k ≤ j ∧ i = .int .i64 (k : Int) ∧ wr.heap[wq.heap.size]? = some (.cells #[.int .i64 (x : Int), .slice a' n' c', .int .i64 ((runA l (newM (x : Int)) k).plan : Int), .bool (runA l (newM (x : Int)) k).down] 29 (0, 0)) ∧
          RowF (fun b => wq.heap.size < b ∧ b < wr.heap.size) wr a' n' c' R ∧ R.map FR.f = (runA l (newM (x : Int)) k).fs ∧ Below wq.heap.size wq wr) (fun i _ => j - (intOf i).toNat)
        case atStart => exact ⟨0, none, 0, 0, [], Nat.zero_le _, rfl, heap_alloc_new _ _, rowF_nil _ _, rfl, (Below.refl _ _).alloc (Nat.le_refl _) _⟩
        case round =>
          obtain ⟨k, a', n', c', R, hk, rfl, hbx, hR, hRf, hbw⟩ := hrel
          have hgk := Hg.out k hk
          have hsz := (Array.getElem?_eq_some_iff.1 hbx).1
          have hroom : (runA l (newM (x : Int)) k).room = x := by
            rw [runA_room l _ k (by rw [hls.out]; exact hk)]
            show (x : Int).toNat = x
            omega
          have e0 : wr.cell? ⟨wq.heap.size, 0, none⟩ = some (.int .i64 (x : Int)) := by rw [cell_of_row _ _ _ _ _ (0, 0) hbx]; rfl
          have e1 : wr.cell? ⟨wq.heap.size, 1, none⟩ = some (.slice a' n' c') := by rw [cell_of_row _ _ _ _ _ (0, 0) hbx]; rfl
          have e2 : wr.cell? ⟨wq.heap.size, 2, none⟩ = some (.int .i64 ((runA l (newM (x : Int)) k).plan : Int)) := by rw [cell_of_row _ _ _ _ _ (0, 0) hbx]; rfl
          have e3 : wr.cell? ⟨wq.heap.size, 3, none⟩ = some (.bool (runA l (newM (x : Int)) k).down) := by rw [cell_of_row _ _ _ _ _ (0, 0) hbx]; rfl
          by_cases hlt : k < j
          · obtain ⟨b, o, rfl, hc⟩ := HL.out.cell (by omega)
            have hkl : k < l.length := by rw [hls.out]; exact hlt
            obtain ⟨pb, cb, pk, ck, hx0⟩ := hc k hkl
            have hbww := Ho.out.base.trans (hbw.mono Ho.out.base.size)
            have hxr := hx0.grow hbww
            have k0 := hxr.k0
            have k1 := hxr.k1
            have k2 := hxr.k2
            have k3 := hxr.k3
            have k4 := hxr.k4
            have k5 := hxr.k5
            have hal := (Below.refl wr.heap.size wr).alloc (Nat.le_refl _) (.cells #[.int .i64 l[k].k, .string ⟨l[k].nm.toArray⟩, .string ⟨l[k].to.toArray⟩, .slice pb l[k].bs.length cb, .int .i64 l[k].n, .slice pk l[k].ks.length ck] 35)
            have hXw : ∀ b, wq.heap.size < b ∧ b < wr.heap.size → b < (wr.alloc (.cells #[.int .i64 l[k].k, .string ⟨l[k].nm.toArray⟩, .string ⟨l[k].to.toArray⟩, .slice pb l[k].bs.length cb, .int .i64 l[k].n, .slice pk l[k].ks.length ck] 35)).heap.size := fun b hb => Nat.lt_of_lt_of_le hb.2 hal.size
            have HM := Lib.hid (lmodel_any (X := fun b => wq.heap.size < b ∧ b < wr.heap.size) (M := runA l (newM (x : Int)) k) (v := refV (x : Int) a' n' c' ((runA l (newM (x : Int)) k).plan : Int) (runA l (newM (x : Int)) k).down)
              ⟨a', n', c', R, by rw [hroom], hR.below (fun b hb => hb.2) hal, hRf, by rw [← hR.len, ← List.length_map (f := FR.f), hRf]; have := hgk.small.files; have := Hf1.out; omega⟩
              hXw hgk.plan hgk.sorted l[k] pb cb pk ck (hxr.grow hal).bytes (hxr.grow hal).nums hx0.wn hx0.w1 hx0.w2 (by have := hgk.small.used; have := Hf2.out k; omega) (by have := Hbs.out k hkl; omega))
            have Hru := Lib.hid (runA_next (M := newM (x : Int)) hkl)
            have Hrm := Lib.hid (show (stepA l[k] (runA l (newM (x : Int)) k)).1.room = x from by rw [stepA_room]; exact hroom)
            have Hal := Lib.hid hal
            unfold actV refV at HM
            generalize stepA l[k] (runA l (newM (x : Int)) k) = r at *
            generalize runA l (newM (x : Int)) k = M at *
            generalize l[k] = y at *
            obtain ⟨ky, nm, to, bs, ny, ks⟩ := y
            simp only at *
            generalize (M.plan : Int) = pl at *
            generalize M.down = dn at *
            have Hlt := Lib.hid hlt
            have Hbx := Lib.hid hbx
            have Hbw := Lib.hid hbw
            clear hx0 hxr hc hgk hal hkl hlt hR hRf hroom hXw hbww hbx hbw
            go_wp2_with fail
            refine HM.out.mono ?_
            rintro e w6 ⟨a6, n6, c6, R6, p, cp, rfl, hR6, hRf6, _, hb6⟩
            have hb6w := Hal.out.trans (hb6.mono Hal.out.size)
            have hbx6 := (hb6w.block _ hsz).trans Hbx.out
            have z0 : w6.cell? ⟨wq.heap.size, 0, none⟩ = some (.int .i64 (x : Int)) := by rw [cell_of_row _ _ _ _ _ (0, 0) hbx6]; rfl
            have z1 : w6.cell? ⟨wq.heap.size, 1, none⟩ = some (.slice a' n' c') := by rw [cell_of_row _ _ _ _ _ (0, 0) hbx6]; rfl
            have z2 : w6.cell? ⟨wq.heap.size, 2, none⟩ = some (.int .i64 pl) := by rw [cell_of_row _ _ _ _ _ (0, 0) hbx6]; rfl
            have z3 : w6.cell? ⟨wq.heap.size, 3, none⟩ = some (.bool dn) := by rw [cell_of_row _ _ _ _ _ (0, 0) hbx6]; rfl
            have fz : ∀ i, w6.frozen? ⟨wq.heap.size, i, none⟩ = false := fun i => by simp [World.frozen?, hbx6]
            have Hbx6 := Lib.hid hbx6
            have Hb6 := Lib.hid (Hbw.out.trans (hb6w.mono Hbw.out.size))
            have HR6 := Lib.hid (show RowF (fun b => wq.heap.size < b ∧ b < w6.heap.size) w6 a6 n6 c6 R6 from hR6.mono (fun _ _ => rfl) (fun b hb => ⟨by
              have h1 := Hal.out.size
              rcases hb.1 with h | h
              · exact h.1
              · omega, hb.2⟩))
            have HRf6 := Lib.hid hRf6
            clear hbx6 hb6w hb6 hR6 hRf6 HM e0 e1 e2 e3
            unfold refV
            rw [Hrm.out]
            generalize hp6 : (r.1.plan : Int) = pl6 at *
            generalize hd6 : r.1.down = dn6 at *
            have Hp6 := Lib.hid hp6
            have Hd6 := Lib.hid hd6
            clear hp6 hd6
            go_wp2
            go_roundw
            case rel => exact ⟨k + 1, a6, n6, c6, R6, Hlt.out, by go_num, by rw [Hru.out, Hp6.out, Hd6.out]; exact box_set Hbx6.out _ _ _ _, HR6.out.mono (fun b hb => by
              repeat rw [Below.heap_setCell _ _ _ _ (by simp; omega)]) (fun b hb => ⟨hb.1, by simp; exact hb.2⟩), by rw [Hru.out]; exact HRf6.out, by
              repeat (first | exact Hb6.out | refine Below.setCell ?_ (by simp) _)⟩
            case measure => simp [intOf]; have := Hlt.out; omega
          · obtain rfl : k = j := by omega
            have HO5 := Lib.hid (Ho.out.below hbw)
            have hub : usedF (R.map FR.f) < 9223372036854775808 := by
              rw [hRf]
              have := hgk.small.used
              have := Hf2.out k
              omega
            have HV := Lib.hid (fun W (hW : Below wr.heap.size wr W) => rused_any (hR.below (fun b hb => hb.2) hW) (fun b hb => Nat.lt_of_lt_of_le hb.2 hW.size) (x : Int) ((runA l (newM (x : Int)) k).plan : Int) (runA l (newM (x : Int)) k).down hub)
            have HU := Lib.hid (fun W (hW : Below wr.heap.size wr W) => own_used (HO5.out.below hW))
            have HK := Lib.hid (fun W (hW : Below wr.heap.size wr W) => (show W.cell? ⟨wq.heap.size, 0, none⟩ = some (.int .i64 (x : Int)) ∧ W.cell? ⟨wq.heap.size, 1, none⟩ = some (.slice a' n' c') ∧ W.cell? ⟨wq.heap.size, 2, none⟩ = some (.int .i64 ((runA l (newM (x : Int)) k).plan : Int)) ∧ W.cell? ⟨wq.heap.size, 3, none⟩ = some (.bool (runA l (newM (x : Int)) k).down) from
              ⟨cell_keep hW e0, cell_keep hW e1, cell_keep hW e2, cell_keep hW e3⟩))
            rw [hRf] at HV
            unfold refV at HV
            generalize runA l (newM (x : Int)) k = M at *
            have Hbw := Lib.hid (Ho.out.base.trans (hbw.mono Ho.out.base.size))
            generalize (M.plan : Int) = pl at *
            generalize M.down = dn at *
            generalize (usedF M.fs) = u at *
            clear hR hRf hbx hgk hroom hub hlt hbw
            go_wp2_with fail
            go_region_held (fun w' => w'.cell? ⟨wq.heap.size, 0, none⟩ = some (.int .i64 (x : Int)) ∧ w'.cell? ⟨wq.heap.size, 1, none⟩ = some (.slice a' n' c') ∧ w'.cell? ⟨wq.heap.size, 2, none⟩ = some (.int .i64 pl) ∧ w'.cell? ⟨wq.heap.size, 3, none⟩ = some (.bool dn))
              (first | exact HK.out _ hb10 | exact HK.out _ hb9 | exact HK.out _ hb8 | exact HK.out _ ((Below.refl _ _).drew))
              (first
                | (go_at_call 7; (with_reducible refine (HA.out _).mono ?_); rintro e w8 ⟨rfl, hb0⟩; have hb8 : Below wr.heap.size wr w8 := ((Below.refl _ _).drew).trans hb0; clear hb0)
                | (go_at_call 12; (with_reducible refine (HU.out _ hb8).mono ?_); rintro e w9 ⟨rfl, hb0⟩; have hb9 : Below wr.heap.size wr w9 := hb8.trans (hb0.mono hb8.size); clear hb0)
                | (go_at_call 13; (with_reducible refine (HV.out _ hb9).mono ?_); rintro e w10 ⟨rfl, hb0⟩; have hb10 : Below wr.heap.size wr w10 := hb9.trans (hb0.mono hb9.size); clear hb0))
            all_goals go_wp2
            all_goals go_ret
            all_goals exact ⟨rfl, Hbw.out.trans (hb10.mono Hbw.out.size)⟩
end Go.Proofs.Ytdnbjpfapfnpaaa
