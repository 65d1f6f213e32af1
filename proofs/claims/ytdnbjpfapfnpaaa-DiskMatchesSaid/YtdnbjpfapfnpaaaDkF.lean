/- The walks of a disk's fails and possible. -/
import Derived.Test.YtdnbjpfapfnpaaaDkW
import Derived.Outline
namespace Go.Proofs.Ytdnbjpfapfnpaaa
open Go.RowKit Go.Maps

theorem chg_d (w : World) (d i : Nat) (v : Value) : Chg (fun b => b = d) w (w.setCell ⟨d, i, none⟩ v) := Chg.set (fun b => b = d) w rfl v

set_option maxRecDepth 100000 in
set_option maxHeartbeats 1600000 in
theorem fails_any {S : Nat → Prop} {w : World} {d mb : Nat} {p : Int} {L : List FW} {M : DM} (h : DiskAt S w d mb p L M) :
    Calls Try.prog 45 #[.pointer (some ⟨d, 0, none⟩)] w fun e w' => e = .returned (.bool (failM M).down) ∧ (∃ p', DiskAt S w' d mb p' L (failM M)) ∧ Chg S w w' ∧ w'.heap.size = w.heap.size := by
  obtain ⟨c0, c1, c2, c3, fr⟩ := h.cells
  have f2 := fr 2
  have f3 := fr 3
  have H := Lib.hid h
  have hp := h.plan
  have hlo := h.lo
  have hhi := h.hi
  have hSd := Lib.hid (h.sub d (by simp))
  clear h fr
  cases hdn : M.down with
  | true =>
    have hf : failM M = M := by unfold failM; rw [if_pos hdn]
    rw [hf]
    have Hdn := Lib.hid hdn
    rw [hdn] at c2
    clear hf hp hdn
    go_enter Try.func45, Try.ntmps45
    go_wp2
    go_ret
    exact ⟨by rw [Hdn.out]; rfl, ⟨p, H.out⟩, Chg.refl _ _, rfl⟩
  | false =>
    have Hdn := Lib.hid hdn
    have Hp := Lib.hid hp
    rw [hdn] at c2
    clear hp hdn
    by_cases hp0 : 0 < p
    · obtain ⟨q, rfl⟩ : ∃ q : Nat, p = (q : Int) + 1 := ⟨(p - 1).toNat, by omega⟩
      have hq : (q : Int) + 1 - 1 = (q : Int) := by omega
      have hplan : M.plan = q + 1 := by rw [Hp.out]; omega
      by_cases hq0 : q = 0
      · have Hf := Lib.hid (show failM M = { M with plan := 0, down := true } from by unfold failM; rw [if_neg (by rw [Hdn.out]; decide), if_pos (by omega)])
        have HE := Lib.hid (H.out.head_set (M' := { M with plan := 0, down := true }) (p' := 0) (w' := ((w.setCell ⟨d, 3, none⟩ (.int .i64 0)).setCell ⟨d, 2, none⟩ (.bool true)))
          ((chg_d w d 3 _).same (chg_d _ d 2 _)) rfl rfl (by have := set_head (i := 2) (set_head (i := 3) H.out.head (.int .i64 0)) (.bool true); simpa using this) rfl (by decide) (by decide))
        have HC := Lib.hid (((Chg.set S w (i := 3) hSd.out (.int .i64 0))).same (Chg.set S (w.setCell ⟨d, 3, none⟩ (.int .i64 0)) (i := 2) hSd.out (.bool true)))
        subst hq0
        clear hplan hlo hhi
        go_enter Try.func45, Try.ntmps45
        go_wp2
        go_ret
        rw [Hf.out]
        exact ⟨rfl, ⟨0, HE.out⟩, HC.out, by simp⟩
      · have Hf := Lib.hid (show failM M = { M with plan := q, down := false } from by
          unfold failM
          rw [if_neg (by rw [Hdn.out]; decide), if_neg (by omega), hplan, ← Hdn.out]
          rfl)
        have HE := Lib.hid (H.out.head_set (M' := { M with plan := q, down := false }) (p' := (q : Int)) (w' := ((w.setCell ⟨d, 3, none⟩ (.int .i64 (q : Int))).setCell ⟨d, 2, none⟩ (.bool false)))
          ((chg_d w d 3 _).same (chg_d _ d 2 _)) rfl rfl (by have := set_head (i := 2) (set_head (i := 3) H.out.head (.int .i64 (q : Int))) (.bool false); simpa using this) (by simp) (by omega) (by omega))
        have HC := Lib.hid (((Chg.set S w (i := 3) hSd.out (.int .i64 (q : Int)))).same (Chg.set S (w.setCell ⟨d, 3, none⟩ (.int .i64 (q : Int))) (i := 2) hSd.out (.bool false)))
        have hz : ((q : Int) == 0) = false := beq_eq_false_iff_ne.2 (by omega)
        have hp1 : (0 : Int) < (q : Int) + 1 := by omega
        clear hplan hq0
        go_enter Try.func45, Try.ntmps45
        go_wp2
        go_ret
        rw [Hf.out]
        exact ⟨rfl, ⟨(q : Int), HE.out⟩, HC.out, by simp⟩
    · have Hf := Lib.hid (show failM M = M from by
        have h0 : M.plan = 0 := by rw [Hp.out]; omega
        unfold failM
        rw [if_neg (by rw [Hdn.out]; decide), if_neg (by omega), h0]
        cases M
        cases h0
        rfl)
      have hz : decide (0 < p) = false := decide_eq_false hp0
      clear hp0 hlo hhi
      rw [Hf.out]
      go_enter Try.func45, Try.ntmps45
      go_wp2
      go_ret
      exact ⟨by rw [Hdn.out]; rfl, ⟨p, H.out⟩, Chg.refl _ _, rfl⟩

theorem encStr_size (n : List UInt8) : (⟨n.toArray⟩ : ByteArray).size = n.length := by show (n.toArray).size = _; simp

theorem byte_at (n : List UInt8) (k : Nat) (hk : k < n.length) : (⟨n.toArray⟩ : ByteArray)[k]'(by rw [encStr_size]; exact hk) = n[k] := by
  show n.toArray[k]'(by simpa using hk) = _
  simp

theorem all_next {n : List UInt8} {k : Nat} (hk : k < n.length) (h : (n.take k).all okByte = true) (hx : okByte n[k] = true) : (n.take (k + 1)).all okByte = true := by
  rw [List.take_succ_eq_append_getElem hk, List.all_append, h]
  simpa using hx

theorem all_bad {n : List UInt8} {k : Nat} (hk : k < n.length) (hx : okByte n[k] = false) : n.all okByte = false := by
  rw [List.all_eq_false]
  exact ⟨n[k], List.getElem_mem _, by rw [hx]; decide⟩

theorem okByte_cases (c : UInt8) : (okByte c = true ∧ ((97 ≤ c.toNat ∧ c.toNat ≤ 122) ∨ (48 ≤ c.toNat ∧ c.toNat ≤ 57) ∨ c.toNat = 45 ∨ c.toNat = 46)) ∨
    (okByte c = false ∧ (c.toNat < 45 ∨ c.toNat = 47 ∨ (58 ≤ c.toNat ∧ c.toNat < 97) ∨ 122 < c.toNat)) := by
  unfold okByte
  simp only [Bool.or_eq_true, Bool.and_eq_true, decide_eq_true_eq, beq_iff_eq, Bool.or_eq_false_iff, Bool.and_eq_false_iff, decide_eq_false_iff_not, beq_eq_false_iff_ne]
  omega

set_option maxRecDepth 100000 in
set_option maxHeartbeats 6400000 in
theorem possible_any (n : List UInt8) (w : World) :
    Calls Try.prog 37 #[encStr n] w fun e w' => e = .returned (.bool (named n)) ∧ w' = w := by
  have hsz := encStr_size n
  change Calls _ _ #[.string ⟨n.toArray⟩] _ _
  by_cases h0 : n.length < 1
  · have hr := Lib.hid (show named n = false from by unfold named; rw [decide_eq_false (by omega)]; rfl)
    have h0' : ((n.length : Nat) : Int) < 1 := by omega
    generalize (⟨n.toArray⟩ : ByteArray) = s at *
    go_enter Try.func37, Try.ntmps37
    go_wp2
    go_ret
    exact ⟨ret_bool hr.out.symm, rfl⟩
  · by_cases h1 : 100 < n.length
    · have hr := Lib.hid (show named n = false from by unfold named; rw [decide_eq_false (show ¬ n.length ≤ 100 by omega), Bool.and_false]; rfl)
      have h0' : ¬ ((n.length : Nat) : Int) < 1 := by omega
      have h1' : (100 : Int) < ((n.length : Nat) : Int) := by omega
      generalize (⟨n.toArray⟩ : ByteArray) = s at *
      go_enter Try.func37, Try.ntmps37
      go_wp2
      go_ret
      exact ⟨ret_bool hr.out.symm, rfl⟩
    · have hr := Lib.hid (show named n = n.all okByte from by unfold named; rw [decide_eq_true (show 1 ≤ n.length by omega), decide_eq_true (show n.length ≤ 100 by omega)]; rfl)
      have h0' : ¬ ((n.length : Nat) : Int) < 1 := by omega
      have h1' : ¬ (100 : Int) < ((n.length : Nat) : Int) := by omega
      have hlen : n.length ≤ 100 := by omega
      have hget := Lib.hid (show ∀ k (h : k < (⟨n.toArray⟩ : ByteArray).size) (hk : k < n.length), (⟨n.toArray⟩ : ByteArray)[k]'h = n[k] from fun k _ hk => byte_at n k hk)
      have hsz' := Lib.hid hsz
      clear h0 h1
      generalize hs : (⟨n.toArray⟩ : ByteArray) = s at *
      clear hs
      go_enter Try.func37, Try.ntmps37
      go_wp2
      go_loopw [3] (fun i wr => ∃ k : Nat, k ≤ n.length ∧ i = .int .i64 (k : Int) ∧ (n.take k).all okByte = true ∧ wr = w) (fun i _ => n.length - (intOf i).toNat)
      case atStart => exact ⟨0, Nat.zero_le _, rfl, by simp, rfl⟩
      case round =>
        obtain ⟨k, hk, rfl, hall, rfl⟩ := hrel
        have Hall := Lib.hid hall
        clear hall
        by_cases hlt : k < n.length
        · have hlt' : (k : Int) < ((n.length : Nat) : Int) := by omega
          have hks : k < s.size := by rw [hsz'.out]; exact hlt
          obtain ⟨c, hc⟩ : ∃ c : UInt8, n[k] = c := ⟨_, rfl⟩
          have hx : s[k]'hks = c := by rw [hget.out k hks hlt, hc]
          have Hc := Lib.hid hc
          clear hc
          rcases okByte_cases c with ⟨hok, hcase⟩ | ⟨hok, hcase⟩
          · have Hok := Lib.hid hok
            clear hok
            rcases hcase with hcase | hcase | hcase | hcase
            · have a1 : (97 : Int) ≤ (c.toNat : Int) := by omega
              have a2 : (c.toNat : Int) ≤ 122 := by omega
              have a3 : (48 : Int) ≤ (c.toNat : Int) := by omega
              have a4 : ¬ (c.toNat : Int) ≤ 57 := by omega
              clear hcase
              go_wp2
              go_roundw
              case rel => exact ⟨k + 1, by omega, by go_num, all_next hlt Hall.out (by rw [Hc.out]; exact Hok.out), by first | rfl | trivial⟩
              case measure => simp [intOf]; omega
            · have a1 : ¬ (97 : Int) ≤ (c.toNat : Int) := by omega
              have a3 : (48 : Int) ≤ (c.toNat : Int) := by omega
              have a4 : (c.toNat : Int) ≤ 57 := by omega
              clear hcase
              go_wp2
              go_roundw
              case rel => exact ⟨k + 1, by omega, by go_num, all_next hlt Hall.out (by rw [Hc.out]; exact Hok.out), by first | rfl | trivial⟩
              case measure => simp [intOf]; omega
            · have a1 : ¬ (97 : Int) ≤ (c.toNat : Int) := by omega
              have a3 : ¬ (48 : Int) ≤ (c.toNat : Int) := by omega
              have b1 : ((c.toNat : Int) != 45) = false := by rw [bne_eq_false_iff_eq]; omega
              clear hcase
              go_wp2
              go_roundw
              case rel => exact ⟨k + 1, by omega, by go_num, all_next hlt Hall.out (by rw [Hc.out]; exact Hok.out), by first | rfl | trivial⟩
              case measure => simp [intOf]; omega
            · have a1 : ¬ (97 : Int) ≤ (c.toNat : Int) := by omega
              have a3 : ¬ (48 : Int) ≤ (c.toNat : Int) := by omega
              have b1 : ((c.toNat : Int) != 45) = true := bne_iff_ne.2 (by omega)
              have b2 : ((c.toNat : Int) != 46) = false := by rw [bne_eq_false_iff_eq]; omega
              clear hcase
              go_wp2
              go_roundw
              case rel => exact ⟨k + 1, by omega, by go_num, all_next hlt Hall.out (by rw [Hc.out]; exact Hok.out), by first | rfl | trivial⟩
              case measure => simp [intOf]; omega
          · have Hok := Lib.hid hok
            clear hok
            rcases hcase with hcase | hcase | hcase | hcase
            · have a1 : ¬ (97 : Int) ≤ (c.toNat : Int) := by omega
              have a3 : ¬ (48 : Int) ≤ (c.toNat : Int) := by omega
              have b1 : ((c.toNat : Int) != 45) = true := bne_iff_ne.2 (by omega)
              have b2 : ((c.toNat : Int) != 46) = true := bne_iff_ne.2 (by omega)
              clear hcase
              go_wp2
              go_ret
              exact ⟨ret_bool (by rw [hr.out, all_bad hlt (by rw [Hc.out]; exact Hok.out)]), rfl⟩
            · have a1 : ¬ (97 : Int) ≤ (c.toNat : Int) := by omega
              have a3 : ¬ (48 : Int) ≤ (c.toNat : Int) := by omega
              have b1 : ((c.toNat : Int) != 45) = true := bne_iff_ne.2 (by omega)
              have b2 : ((c.toNat : Int) != 46) = true := bne_iff_ne.2 (by omega)
              clear hcase
              go_wp2
              go_ret
              exact ⟨ret_bool (by rw [hr.out, all_bad hlt (by rw [Hc.out]; exact Hok.out)]), rfl⟩
            · have a1 : ¬ (97 : Int) ≤ (c.toNat : Int) := by omega
              have a3 : (48 : Int) ≤ (c.toNat : Int) := by omega
              have a4 : ¬ (c.toNat : Int) ≤ 57 := by omega
              have b1 : ((c.toNat : Int) != 45) = true := bne_iff_ne.2 (by omega)
              have b2 : ((c.toNat : Int) != 46) = true := bne_iff_ne.2 (by omega)
              clear hcase
              go_wp2
              go_ret
              exact ⟨ret_bool (by rw [hr.out, all_bad hlt (by rw [Hc.out]; exact Hok.out)]), rfl⟩
            · have a1 : (97 : Int) ≤ (c.toNat : Int) := by omega
              have a2 : ¬ (c.toNat : Int) ≤ 122 := by omega
              have a3 : (48 : Int) ≤ (c.toNat : Int) := by omega
              have a4 : ¬ (c.toNat : Int) ≤ 57 := by omega
              have b1 : ((c.toNat : Int) != 45) = true := bne_iff_ne.2 (by omega)
              have b2 : ((c.toNat : Int) != 46) = true := bne_iff_ne.2 (by omega)
              clear hcase
              go_wp2
              go_ret
              exact ⟨ret_bool (by rw [hr.out, all_bad hlt (by rw [Hc.out]; exact Hok.out)]), rfl⟩
        · have hlt' : ¬ (k : Int) < ((n.length : Nat) : Int) := by omega
          have hk2 : k = n.length := by omega
          have hr2 := Lib.hid (show named n = true from by rw [hr.out]; have := Hall.out; rwa [hk2, List.take_length] at this)
          clear hk2
          go_wp2
          go_ret
          exact ⟨ret_bool hr2.out.symm, rfl⟩
end Go.Proofs.Ytdnbjpfapfnpaaa
