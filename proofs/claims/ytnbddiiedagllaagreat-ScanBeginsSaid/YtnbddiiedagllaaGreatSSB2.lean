import Derived.Test.YtnbddiiedagllaaGreatSSB1
import Derived.Outline
import Derived.StillTailTactics
import Derived.Shelf.Abstract
import Derived.Laws.Entries
/- The walks of a disk's fails and possible. -/
namespace Go.Proofs.YtnbddiiedagllaaGreat
open Go.RowKit Go.Maps

theorem chg_d (w : World) (d i : Nat) (v : Value) : Chg (fun b => b = d) w (w.setCell ⟨d, i, none⟩ v) := Chg.set (fun b => b = d) w rfl v

set_option maxRecDepth 100000 in
set_option maxHeartbeats 1600000 in
theorem fails_any {S : Nat → Prop} {w : World} {d mb : Nat} {p : Int} {L : List FW} {M : DM} (h : DiskAt S w d mb p L M) :
  Calls Tryz.prog 126 #[.pointer (some ⟨d, 0, none⟩)] w fun e w' => e = .returned (.bool (failM M).down) ∧ (∃ p', DiskAt S w' d mb p' L (failM M)) ∧ Chg S w w' ∧ w'.heap.size = w.heap.size := by
 obtain ⟨c0, c1, c2, c3, fr⟩ := h.cells
 have f2 := fr 2
 have f3 := fr 3
 have H := Lib.hid h
 have hp := h.plan
 have hlo := h.lo
 have hhi := h.hi
 have hSd := Lib.hid (h.sub d (by simp))
 clear h fr
 cases hdn : M.down with
 | true =>
  have hf : failM M = M := by unfold failM; rw [if_pos hdn]
  rw [hf]
  have Hdn := Lib.hid hdn
  rw [hdn] at c2
  clear hf hp hdn
  go_enter Tryz.func126, Tryz.ntmps126
  go_wp2
  go_ret
  exact ⟨by rw [Hdn.out]; rfl, ⟨p, H.out⟩, Chg.refl _ _, rfl⟩
 | false =>
  have Hdn := Lib.hid hdn
  have Hp := Lib.hid hp
  rw [hdn] at c2
  clear hp hdn
  by_cases hp0 : 0 < p
  ·obtain ⟨q, rfl⟩ : ∃ q : Nat, p = (q : Int) + 1 := ⟨(p - 1).toNat, by omega⟩
   have hq : (q : Int) + 1 - 1 = (q : Int) := by omega
   have hplan : M.plan = q + 1 := by rw [Hp.out]; omega
   by_cases hq0 : q = 0
   ·have Hf := Lib.hid (show failM M = { M with plan := 0, down := true } from by unfold failM; rw [if_neg (by rw [Hdn.out]; decide), if_pos (by omega)])
    have HE := Lib.hid (H.out.head_set (M' := { M with plan := 0, down := true }) (p' := 0) (w' := ((w.setCell ⟨d, 3, none⟩ (.int .i64 0)).setCell ⟨d, 2, none⟩ (.bool true)))
     ((chg_d w d 3 _).same (chg_d _ d 2 _)) rfl rfl (by have := set_head (i := 2) (set_head (i := 3) H.out.head (.int .i64 0)) (.bool true); simpa using this) rfl (by decide) (by decide))
    have HC := Lib.hid (((Chg.set S w (i := 3) hSd.out (.int .i64 0))).same (Chg.set S (w.setCell ⟨d, 3, none⟩ (.int .i64 0)) (i := 2) hSd.out (.bool true)))
    subst hq0
    clear hplan hlo hhi
    go_enter Tryz.func126, Tryz.ntmps126
    go_wp2
    go_ret
    rw [Hf.out]
    exact ⟨rfl, ⟨0, HE.out⟩, HC.out, by simp⟩
   ·have Hf := Lib.hid (show failM M = { M with plan := q, down := false } from by
     unfold failM
     rw [if_neg (by rw [Hdn.out]; decide), if_neg (by omega), hplan, ← Hdn.out]
     rfl)
    have HE := Lib.hid (H.out.head_set (M' := { M with plan := q, down := false }) (p' := (q : Int)) (w' := ((w.setCell ⟨d, 3, none⟩ (.int .i64 (q : Int))).setCell ⟨d, 2, none⟩ (.bool false)))
     ((chg_d w d 3 _).same (chg_d _ d 2 _)) rfl rfl (by have := set_head (i := 2) (set_head (i := 3) H.out.head (.int .i64 (q : Int))) (.bool false); simpa using this) (by simp) (by omega) (by omega))
    have HC := Lib.hid (((Chg.set S w (i := 3) hSd.out (.int .i64 (q : Int)))).same (Chg.set S (w.setCell ⟨d, 3, none⟩ (.int .i64 (q : Int))) (i := 2) hSd.out (.bool false)))
    have hz : ((q : Int) == 0) = false := beq_eq_false_iff_ne.2 (by omega)
    have hp1 : (0 : Int) < (q : Int) + 1 := by omega
    clear hplan hq0
    go_enter Tryz.func126, Tryz.ntmps126
    go_wp2
    go_ret
    rw [Hf.out]
    exact ⟨rfl, ⟨(q : Int), HE.out⟩, HC.out, by simp⟩
  ·have Hf := Lib.hid (show failM M = M from by
    have h0 : M.plan = 0 := by rw [Hp.out]; omega
    unfold failM
    rw [if_neg (by rw [Hdn.out]; decide), if_neg (by omega), h0]
    cases M
    cases h0
    rfl)
   have hz : decide (0 < p) = false := decide_eq_false hp0
   clear hp0 hlo hhi
   rw [Hf.out]
   go_enter Tryz.func126, Tryz.ntmps126
   go_wp2
   go_ret
   exact ⟨by rw [Hdn.out]; rfl, ⟨p, H.out⟩, Chg.refl _ _, rfl⟩

theorem encStr_size (n : List UInt8) : (⟨n.toArray⟩ : ByteArray).size = n.length := by show (n.toArray).size = _; simp

theorem byte_at (n : List UInt8) (k : Nat) (hk : k < n.length) : (⟨n.toArray⟩ : ByteArray)[k]'(by rw [encStr_size]; exact hk) = n[k] := by
 show n.toArray[k]'(by simpa using hk) = _
 simp

theorem all_next {n : List UInt8} {k : Nat} (hk : k < n.length) (h : (n.take k).all okByte = true) (hx : okByte n[k] = true) : (n.take (k + 1)).all okByte = true := by
 rw [List.take_succ_eq_append_getElem hk, List.all_append, h]
 simpa using hx

theorem all_bad {n : List UInt8} {k : Nat} (hk : k < n.length) (hx : okByte n[k] = false) : n.all okByte = false := by
 rw [List.all_eq_false]
 exact ⟨n[k], List.getElem_mem _, by rw [hx]; decide⟩

theorem okByte_cases (c : UInt8) : (okByte c = true ∧ ((97 ≤ c.toNat ∧ c.toNat ≤ 122) ∨ (48 ≤ c.toNat ∧ c.toNat ≤ 57) ∨ c.toNat = 45 ∨ c.toNat = 46)) ∨
  (okByte c = false ∧ (c.toNat < 45 ∨ c.toNat = 47 ∨ (58 ≤ c.toNat ∧ c.toNat < 97) ∨ 122 < c.toNat)) := by
 unfold okByte
 simp only [Bool.or_eq_true, Bool.and_eq_true, decide_eq_true_eq, beq_iff_eq, Bool.or_eq_false_iff, Bool.and_eq_false_iff, decide_eq_false_iff_not, beq_eq_false_iff_ne]
 omega

set_option maxRecDepth 100000 in
set_option maxHeartbeats 6400000 in
theorem possible_any (n : List UInt8) (w : World) :
  Calls Tryz.prog 127 #[encStr n] w fun e w' => e = .returned (.bool (named n)) ∧ w' = w := by
 have hsz := encStr_size n
 change Calls _ _ #[.string ⟨n.toArray⟩] _ _
 by_cases h0 : n.length < 1
 ·have hr := Lib.hid (show named n = false from by unfold named; rw [decide_eq_false (by omega)]; rfl)
  have h0' : ((n.length : Nat) : Int) < 1 := by omega
  generalize (⟨n.toArray⟩ : ByteArray) = s at *
  go_enter Tryz.func127, Tryz.ntmps127
  go_wp2
  go_ret
  exact ⟨ret_bool hr.out.symm, rfl⟩
 ·by_cases h1 : 100 < n.length
  ·have hr := Lib.hid (show named n = false from by unfold named; rw [decide_eq_false (show ¬ n.length ≤ 100 by omega), Bool.and_false]; rfl)
   have h0' : ¬ ((n.length : Nat) : Int) < 1 := by omega
   have h1' : (100 : Int) < ((n.length : Nat) : Int) := by omega
   generalize (⟨n.toArray⟩ : ByteArray) = s at *
   go_enter Tryz.func127, Tryz.ntmps127
   go_wp2
   go_ret
   exact ⟨ret_bool hr.out.symm, rfl⟩
  ·have hr := Lib.hid (show named n = n.all okByte from by unfold named; rw [decide_eq_true (show 1 ≤ n.length by omega), decide_eq_true (show n.length ≤ 100 by omega)]; rfl)
   have h0' : ¬ ((n.length : Nat) : Int) < 1 := by omega
   have h1' : ¬ (100 : Int) < ((n.length : Nat) : Int) := by omega
   have hlen : n.length ≤ 100 := by omega
   have hget := Lib.hid (show ∀ k (h : k < (⟨n.toArray⟩ : ByteArray).size) (hk : k < n.length), (⟨n.toArray⟩ : ByteArray)[k]'h = n[k] from fun k _ hk => byte_at n k hk)
   have hsz' := Lib.hid hsz
   clear h0 h1
   generalize hs : (⟨n.toArray⟩ : ByteArray) = s at *
   clear hs
   go_enter Tryz.func127, Tryz.ntmps127
   go_wp2
   go_loopw [3] (fun i wr => ∃ k : Nat, k ≤ n.length ∧ i = .int .i64 (k : Int) ∧ (n.take k).all okByte = true ∧ wr = w) (fun i _ => n.length - (intOf i).toNat)
   case atStart => exact ⟨0, Nat.zero_le _, rfl, by simp, rfl⟩
   case round =>
    obtain ⟨k, hk, rfl, hall, rfl⟩ := hrel
    have Hall := Lib.hid hall
    clear hall
    by_cases hlt : k < n.length
    ·have hlt' : (k : Int) < ((n.length : Nat) : Int) := by omega
     have hks : k < s.size := by rw [hsz'.out]; exact hlt
     obtain ⟨c, hc⟩ : ∃ c : UInt8, n[k] = c := ⟨_, rfl⟩
     have hx : s[k]'hks = c := by rw [hget.out k hks hlt, hc]
     have Hc := Lib.hid hc
     clear hc
     rcases okByte_cases c with ⟨hok, hcase⟩ | ⟨hok, hcase⟩
     ·have Hok := Lib.hid hok
      clear hok
      rcases hcase with hcase | hcase | hcase | hcase
      ·have a1 : (97 : Int) ≤ (c.toNat : Int) := by omega
       have a2 : (c.toNat : Int) ≤ 122 := by omega
       have a3 : (48 : Int) ≤ (c.toNat : Int) := by omega
       have a4 : ¬ (c.toNat : Int) ≤ 57 := by omega
       clear hcase
       go_wp2
       go_roundw
       case rel => exact ⟨k + 1, by omega, by go_num, all_next hlt Hall.out (by rw [Hc.out]; exact Hok.out), by first | rfl | trivial⟩
       case measure => simp [intOf]; omega
      ·have a1 : ¬ (97 : Int) ≤ (c.toNat : Int) := by omega
       have a3 : (48 : Int) ≤ (c.toNat : Int) := by omega
       have a4 : (c.toNat : Int) ≤ 57 := by omega
       clear hcase
       go_wp2
       go_roundw
       case rel => exact ⟨k + 1, by omega, by go_num, all_next hlt Hall.out (by rw [Hc.out]; exact Hok.out), by first | rfl | trivial⟩
       case measure => simp [intOf]; omega
      ·have a1 : ¬ (97 : Int) ≤ (c.toNat : Int) := by omega
       have a3 : ¬ (48 : Int) ≤ (c.toNat : Int) := by omega
       have b1 : ((c.toNat : Int) != 45) = false := by rw [bne_eq_false_iff_eq]; omega
       clear hcase
       go_wp2
       go_roundw
       case rel => exact ⟨k + 1, by omega, by go_num, all_next hlt Hall.out (by rw [Hc.out]; exact Hok.out), by first | rfl | trivial⟩
       case measure => simp [intOf]; omega
      ·have a1 : ¬ (97 : Int) ≤ (c.toNat : Int) := by omega
       have a3 : ¬ (48 : Int) ≤ (c.toNat : Int) := by omega
       have b1 : ((c.toNat : Int) != 45) = true := bne_iff_ne.2 (by omega)
       have b2 : ((c.toNat : Int) != 46) = false := by rw [bne_eq_false_iff_eq]; omega
       clear hcase
       go_wp2
       go_roundw
       case rel => exact ⟨k + 1, by omega, by go_num, all_next hlt Hall.out (by rw [Hc.out]; exact Hok.out), by first | rfl | trivial⟩
       case measure => simp [intOf]; omega
     ·have Hok := Lib.hid hok
      clear hok
      rcases hcase with hcase | hcase | hcase | hcase
      ·have a1 : ¬ (97 : Int) ≤ (c.toNat : Int) := by omega
       have a3 : ¬ (48 : Int) ≤ (c.toNat : Int) := by omega
       have b1 : ((c.toNat : Int) != 45) = true := bne_iff_ne.2 (by omega)
       have b2 : ((c.toNat : Int) != 46) = true := bne_iff_ne.2 (by omega)
       clear hcase
       go_wp2
       go_ret
       exact ⟨ret_bool (by rw [hr.out, all_bad hlt (by rw [Hc.out]; exact Hok.out)]), rfl⟩
      ·have a1 : ¬ (97 : Int) ≤ (c.toNat : Int) := by omega
       have a3 : ¬ (48 : Int) ≤ (c.toNat : Int) := by omega
       have b1 : ((c.toNat : Int) != 45) = true := bne_iff_ne.2 (by omega)
       have b2 : ((c.toNat : Int) != 46) = true := bne_iff_ne.2 (by omega)
       clear hcase
       go_wp2
       go_ret
       exact ⟨ret_bool (by rw [hr.out, all_bad hlt (by rw [Hc.out]; exact Hok.out)]), rfl⟩
      ·have a1 : ¬ (97 : Int) ≤ (c.toNat : Int) := by omega
       have a3 : (48 : Int) ≤ (c.toNat : Int) := by omega
       have a4 : ¬ (c.toNat : Int) ≤ 57 := by omega
       have b1 : ((c.toNat : Int) != 45) = true := bne_iff_ne.2 (by omega)
       have b2 : ((c.toNat : Int) != 46) = true := bne_iff_ne.2 (by omega)
       clear hcase
       go_wp2
       go_ret
       exact ⟨ret_bool (by rw [hr.out, all_bad hlt (by rw [Hc.out]; exact Hok.out)]), rfl⟩
      ·have a1 : (97 : Int) ≤ (c.toNat : Int) := by omega
       have a2 : ¬ (c.toNat : Int) ≤ 122 := by omega
       have a3 : (48 : Int) ≤ (c.toNat : Int) := by omega
       have a4 : ¬ (c.toNat : Int) ≤ 57 := by omega
       have b1 : ((c.toNat : Int) != 45) = true := bne_iff_ne.2 (by omega)
       have b2 : ((c.toNat : Int) != 46) = true := bne_iff_ne.2 (by omega)
       clear hcase
       go_wp2
       go_ret
       exact ⟨ret_bool (by rw [hr.out, all_bad hlt (by rw [Hc.out]; exact Hok.out)]), rfl⟩
    ·have hlt' : ¬ (k : Int) < ((n.length : Nat) : Int) := by omega
     have hk2 : k = n.length := by omega
     have hr2 := Lib.hid (show named n = true from by rw [hr.out]; have := Hall.out; rwa [hk2, List.take_length] at this)
     clear hk2
     go_wp2
     go_ret
     exact ⟨ret_bool hr2.out.symm, rfl⟩
end Go.Proofs.YtnbddiiedagllaaGreat

/- The walk of a disk's carryOut, whatever the change does. -/
namespace Go.Proofs.YtnbddiiedagllaaGreat
open Go.RowKit Go.Maps

set_option maxRecDepth 100000 in
set_option maxHeartbeats 3200000 in
theorem carry_any {S : Nat → Prop} {w : World} {d mb : Nat} {p : Int} {L : List FW} {M : DM} (h : DiskAt S w d mb p L M) (n : List UInt8) (hn : n.length ≤ 9223372036854775807)
  (k : Nat) (caps : Array Value) (hent : ∀ args w, (callFunc k args).run Tryz.prog w = .ok (.enter k args) w) (Q : Ending → World → Prop)
  (H10 : ∀ w', DiskIn S w' d (failM M) → Chg S w w' → (failM M).down = true → Q (.returned (.int .i64 10)) w')
  (H6 : ∀ w', DiskIn S w' d (failM M) → Chg S w w' → (failM M).down = false → named n = false → Q (.returned (.int .i64 6)) w')
  (HF : ∀ p' w', DiskAt S w' d mb p' L (failM M) → Chg S w w' → (failM M).down = false → named n = true → Calls Tryz.prog k (#[fileV (findN FW.n n L)] ++ caps) w' fun e w'' => (∃ v, e = .returned v) ∧ Q e w'') :
  Calls Tryz.prog 81 #[.pointer (some ⟨d, 0, none⟩), .agg #[encStr n, .func (.func k) #[] caps]] w Q := by
 have h1 := h.below ((Below.refl w.heap.size w).alloc (Nat.le_refl _) (.cells #[encStr n, .func (.func k) #[] caps] 143))
 have Hc1 := Lib.hid (Chg.alloc S w (.cells #[encStr n, .func (.func k) #[] caps] 143))
 have HFl := Lib.hid (fails_any h1)
 have HP := Lib.hid (fun w => possible_any n w)
 have hb : ¬ S w.heap.size := fun hs => absurd (h.bound _ hs) (Nat.lt_irrefl _)
 have Hb := Lib.hid hb
 have k0 : (w.alloc (.cells #[encStr n, .func (.func k) #[] caps] 143)).cell? ⟨w.heap.size, 0, none⟩ = some (encStr n) := cell_of_row _ _ _ _ _ (0, 0) (heap_alloc_new _ _)
 have k1 : (w.alloc (.cells #[encStr n, .func (.func k) #[] caps] 143)).cell? ⟨w.heap.size, 1, none⟩ = some (.func (.func k) #[] caps) := cell_of_row _ _ _ _ _ (0, 0) (heap_alloc_new _ _)
 have K0 := Lib.hid k0
 have K1 := Lib.hid k1
 have H10' := Lib.hid H10
 have H6' := Lib.hid H6
 have HF' := Lib.hid HF
 clear h h1 hb k0 k1 H10 H6 HF
 go_enter Tryz.func81, Tryz.ntmps81
 go_wp2_with fail
 refine HFl.out.mono ?_
 rintro e w1 ⟨rfl, ⟨p', hD⟩, hc, hsz⟩
 have HD := Lib.hid hD
 have Hc := Lib.hid (Hc1.out.same hc)
 have c0 := hc.cell K0.out Hb.out
 have c1 := hc.cell K1.out Hb.out
 obtain ⟨_, d1, _, _, _⟩ := hD.cells
 have hlk := hD.look n hn
 clear hD hc hsz
 cases hdn : (failM M).down with
 | true =>
  have Hdn := Lib.hid hdn
  clear hdn
  go_wp2
  exact H10'.out _ ⟨mb, p', L, HD.out⟩ Hc.out Hdn.out
 | false =>
  have Hdn := Lib.hid hdn
  clear hdn
  go_wp2_with fail
  refine (HP.out _).mono ?_
  rintro e w2 ⟨rfl, rfl⟩
  cases hnm : named n with
  | false =>
   have Hnm := Lib.hid hnm
   clear hnm
   go_wp2
   exact H6'.out _ ⟨mb, p', L, HD.out⟩ Hc.out Hdn.out Hnm.out
  | true =>
   have Hnm := Lib.hid hnm
   clear hnm
   go_wp2
   refine wp_region_still_tail 9 (by kernel_rfl) (by kernel_rfl) ?_
   simp only [List.take_succ_cons, List.take_zero, List.drop_succ_cons, List.drop_zero]
   have HD3 := Lib.hid (HD.out.below (Chg.below (S := fun _ => False) (Chg.drew _ w2) (fun _ h => h.elim) (Nat.le_refl _)))
   have Hc3 := Lib.hid (Hc.out.same (Chg.drew S w2))
   have c0 : w2.drew.cell? ⟨w.heap.size, 0, none⟩ = some (encStr n) := c0
   have c1 : w2.drew.cell? ⟨w.heap.size, 1, none⟩ = some (.func (.func k) #[] caps) := c1
   have d1 : w2.drew.cell? ⟨d, 1, none⟩ = some (.map (some mb)) := d1
   have hlk : (Instr.lookup 116 (.map (some mb)) (encStr n) false).run Tryz.prog w2.drew = .ok (fileV (findN FW.n n L)) w2.drew := HD3.out.look n hn
   change wpStill _ _ w2.drew (fun a' => wpList _ _ _ _ a' w2.drew) _ _
   have HF3 := Lib.hid (HF'.out p' w2.drew HD3.out Hc3.out Hdn.out Hnm.out)
   clear HD Hc HFl Hc1 HD3 Hc3 H10' H6' HF'
   generalize w2.drew = w3 at *
   repeat still_step
   refine wpStill_nil ?_
   go_wp2_with fail
   refine HF3.out.mono ?_
   rintro e w4 ⟨⟨v, rfl⟩, hq⟩
   have Hq := Lib.hid hq
   clear hq
   go_wp2
   exact Hq.out
end Go.Proofs.YtnbddiiedagllaaGreat

/- A disk's directory changes: a file is put in, taken out, or has another content. -/
namespace Go.Proofs.YtnbddiiedagllaaGreat
open Go.RowKit Go.Maps

theorem usedF_cons (x : F) (l : List F) : usedF (x :: l) = x.b.length + usedF l := by simp [usedF]
theorem usedF_perm {l l' : List F} (h : l.Perm l') : usedF l = usedF l' := (h.map _).sum_nat
theorem usedF_ins (x : F) (l : List F) : usedF (insN F.n x l) = x.b.length + usedF l := by rw [usedF_perm (perm_insN F.n x l), usedF_cons]
theorem usedF_del (n : List UInt8) : ∀ l : List F, usedF (delN F.n n l) ≤ usedF l
 | [] => Nat.le_refl _
 | y :: r => by
  have ih := usedF_del n r
  unfold delN at *
  rw [List.filter_cons]
  split
  ·rw [usedF_cons, usedF_cons]; omega
  ·rw [usedF_cons]; omega
theorem usedF_del_find {n : List UInt8} : ∀ {l : List F} {x : F}, findN F.n n l = some x → usedF (delN F.n n l) + x.b.length ≤ usedF l
 | [], x, h => by cases h
 | y :: r, x, h => by
  unfold findN at h
  rw [List.find?_cons] at h
  unfold delN
  rw [List.filter_cons]
  cases hy : y.n == n with
  | true =>
   rw [hy] at h
   simp only [Option.some.injEq] at h
   subst h
   rw [if_neg (by simp), usedF_cons]
   have := usedF_del n r
   unfold delN at this
   omega
  | false =>
   rw [hy] at h
   have ih := usedF_del_find (l := r) (n := n) (x := x) h
   unfold delN at ih
   rw [if_pos (by simp), usedF_cons, usedF_cons]
   omega

theorem fpOf_perm {L L' : List FW} (h : L.Perm L') : (fpOf L).Perm (fpOf L') := h.flatMap_right _
theorem fpOf_ins (x : FW) (L : List FW) : (fpOf (insN FW.n x L)).Perm (fpOne x ++ fpOf L) := by
 have := fpOf_perm (perm_insN FW.n x L)
 rwa [show fpOf (x :: L) = fpOne x ++ fpOf L from List.flatMap_cons ..] at this
theorem fpOf_sub {L L' : List FW} (h : L'.Sublist L) : (fpOf L').Sublist (fpOf L) := by
 unfold fpOf
 induction h with
 | slnil => exact List.Sublist.refl _
 | cons a h ih => rw [List.flatMap_cons]; exact List.Sublist.trans ih (List.sublist_append_right _ _)
 | cons_cons a h ih => rw [List.flatMap_cons, List.flatMap_cons]; exact List.Sublist.append (List.Sublist.refl _) ih
theorem fpOf_del (n : List UInt8) (L : List FW) : (fpOf (delN FW.n n L)).Sublist (fpOf L) := fpOf_sub (List.filter_sublist ..)

theorem DiskAt.dir_set {S S' : Nat → Prop} {w w' : World} {d mb : Nat} {p : Int} {L L' : List FW} {M : DM} {fs : List F} (h : DiskAt S w d mb p L M) (hf : fs = L'.map FW.f) (hdir : w'.ownsMap Tryz.prog 9 ptrR mb L'.length (dirD L'))
  (hc : Chg (fun b => b = mb) w w') (hok : ∀ x ∈ L', FileOk w' x ∨ x ∈ L) (hap : (d :: mb :: fpOf L').Nodup) (hsub : ∀ b ∈ fpOf L', S' b) (hs : ∀ b, S b → S' b) (hb : ∀ b, S' b → b < w'.heap.size) (hu : usedF fs ≤ M.room) :
  DiskAt S' w' d mb p L' { M with fs := fs } := by
 have hnd := List.nodup_cons.1 h.apart
 have hnm := (List.nodup_cons.1 hnd.2).1
 have hdm : d ≠ mb := fun e => hnd.1 (by simp [e])
 refine ⟨hf, (hc.block d (h.bound d (h.sub d (by simp))) hdm).trans h.head, h.plan, h.lo, h.hi, hdir, fun x hx => ?_, hap, fun b hb' => ?_, hb, hu, h.room⟩
 ·rcases hok x hx with h1 | h1
  ·exact h1
  ·exact (h.ok x h1).keep (fun b hb' => hc.block b (h.bound b (h.sub b (by simp [mem_fpOf h1 hb']))) (fun e => hnm (e ▸ mem_fpOf h1 hb')))
 ·rcases List.mem_cons.1 hb' with e | e
  ·rw [e]; exact hs d (h.sub d (by simp))
  ·rcases List.mem_cons.1 e with e | e
   ·rw [e]; exact hs mb (h.sub mb (by simp))
   ·exact hsub b e

theorem DiskAt.put {S S' : Nat → Prop} {w w' : World} {d mb : Nat} {p : Int} {L : List FW} {M : DM} (h : DiskAt S w d mb p L M) (x : FW) (hdir : w'.ownsMap Tryz.prog 9 ptrR mb (L.length + 1) (dirD (putN FW.n x L)))
  (hc : Chg (fun b => b = mb) w w') (hx : FileOk w' x) (hfr : ∀ b ∈ fpOne x, b ∉ d :: mb :: fpOf (delN FW.n x.n L)) (hnd : (fpOne x).Nodup) (hsx : ∀ b ∈ fpOne x, S' b) (hs : ∀ b, S b → S' b) (hb : ∀ b, S' b → b < w'.heap.size)
  (hu : x.f.b.length + usedF (delN F.n x.n M.fs) ≤ M.room) : DiskAt S' w' d mb p (putN FW.n x L) { M with fs := putN F.n x.f M.fs } := by
 have hperm : (fpOf (putN FW.n x L)).Perm (fpOne x ++ fpOf (delN FW.n x.n L)) := fpOf_ins x _
 have hmem : ∀ y ∈ putN FW.n x L, y = x ∨ y ∈ L := fun y hy => ((mem_insN FW.n x _ y).1 hy).imp id (fun h => (List.mem_filter.1 h).1)
 have hdel : (d :: mb :: fpOf (delN FW.n x.n L)).Nodup := h.apart.sublist (((fpOf_del x.n L).cons_cons mb).cons_cons d)
 have hsz : w'.ownsMap Tryz.prog 9 ptrR mb (putN FW.n x L).length (dirD (putN FW.n x L)) := by
  obtain ⟨es, clock, hb0, F0, hs0, hD⟩ := hdir
  refine ⟨es, clock, hb0, F0, ?_, hD⟩
  have e1 := congrArg Maps.size hD
  rw [dirD_size] at e1
  rw [e1]
  show es.size ≤ List.length _
  rw [length_sorted]
  simp
 refine h.dir_set ?_ hsz hc (fun y hy => (hmem y hy).elim (fun e => .inl (e ▸ hx)) .inr) ?_ (fun b hb' => ?_) hs hb ?_
 ·rw [h.files, putN_map FW.n F.n FW.f (fun _ => rfl)]
 ·have e : (d :: mb :: fpOf (putN FW.n x L)).Perm (fpOne x ++ (d :: mb :: fpOf (delN FW.n x.n L))) := by
   refine ((hperm.cons mb).cons d).trans ?_
   refine List.Perm.trans (List.Perm.cons d (List.perm_middle.symm)) ?_
   exact List.perm_middle.symm
  rw [e.nodup_iff, List.nodup_append]
  exact ⟨hnd, hdel, fun a ha b hb' e => hfr a ha (e ▸ hb')⟩
 ·rcases List.mem_append.1 (hperm.mem_iff.1 hb') with h1 | h1
  ·exact hsx b h1
  ·exact hs b (h.sub b (by simp [(fpOf_del x.n L).subset h1]))
 ·show usedF (insN F.n x.f (delN F.n x.n M.fs)) ≤ M.room
  rw [usedF_ins]
  exact hu

theorem DiskAt.out {S : Nat → Prop} {w w' : World} {d mb : Nat} {p : Int} {L : List FW} {M : DM} (h : DiskAt S w d mb p L M) (n : List UInt8) (hdir : w'.ownsMap Tryz.prog 9 ptrR mb L.length (dirD (delN FW.n n L)))
  (hc : Chg (fun b => b = mb) w w') : DiskAt S w' d mb p (delN FW.n n L) { M with fs := delN F.n n M.fs } := by
 have hsz : w'.ownsMap Tryz.prog 9 ptrR mb (delN FW.n n L).length (dirD (delN FW.n n L)) := by
  obtain ⟨es, clock, hb0, F0, hs0, hD⟩ := hdir
  refine ⟨es, clock, hb0, F0, ?_, hD⟩
  have e1 := congrArg Maps.size hD
  rw [dirD_size] at e1
  rw [e1]
  show es.size ≤ List.length _
  rw [length_sorted]
  simp
 refine h.dir_set ?_ hsz hc (fun y hy => .inr (List.mem_filter.1 hy).1) (h.apart.sublist (((fpOf_del n L).cons_cons mb).cons_cons d)) (fun b hb' => h.sub b (by simp [(fpOf_del n L).subset hb'])) (fun _ h => h)
  (fun b hb' => Nat.lt_of_lt_of_le (h.bound b hb') hc.size) (Nat.le_trans (usedF_del n _) h.used)
 rw [h.files, delN_map FW.n F.n FW.f (fun _ => rfl)]
end Go.Proofs.YtnbddiiedagllaaGreat

/- The walk of a disk's Create. -/
namespace Go.Proofs.YtnbddiiedagllaaGreat
open Go.RowKit Go.Maps Go.Shelf

def ActEnd (S : Nat → Prop) (w : World) (d : Nat) (r : DM × Int) (e : Ending) (w' : World) : Prop := e = .returned (.int .i64 r.2) ∧ Step S w d r.1 w'

theorem Step.after {S : Nat → Prop} {w w1 w2 : World} {d : Nat} {M : DM} (hc : Chg S w w1) (h : Step S w1 d M w2) : Step S w d M w2 := by
 obtain ⟨S', hD, hs, hc2⟩ := h
 exact ⟨S', hD, fun b hb => (hs b hb).imp id (fun h => Nat.le_trans hc.size h), hc.same hc2⟩

theorem Step.behind {S : Nat → Prop} {w w1 w2 : World} {d : Nat} {M : DM} (hb : Below w.heap.size w w1) (h : Step S w1 d M w2) : Step S w d M w2 := h.after (Chg.of_below hb)

theorem own_nil (w : World) : w.ownsRow 0 5 1 (.slice none 0 0) 0 (u8s []) := World.ownsRow_nil w 0 _ 1

theorem fileOk_new (w : World) (n : List UInt8) : FileOk (w.alloc (.cells #[.slice none 0 0, .int .i64 0] 140)) ⟨⟨n, [], 0⟩, w.heap.size, .slice none 0 0⟩ :=
 ⟨heap_alloc_new _ _, own_nil _, (fun _ h => by cases h), Nat.le_refl _⟩

set_option maxRecDepth 100000 in
set_option maxHeartbeats 3200000 in
theorem create1_any {S : Nat → Prop} {w : World} {d mb : Nat} {p : Int} {L : List FW} {M : DM} (h : DiskAt S w d mb p L M) (n : List UInt8) (hn : n.length ≤ 9223372036854775807) (hL : M.fs.length < 1000000) (bd bn : Nat)
  (hbd : w.cell? ⟨bd, 0, none⟩ = some (.pointer (some ⟨d, 0, none⟩))) (hbn : w.cell? ⟨bn, 0, none⟩ = some (encStr n)) :
  Calls Tryz.prog 82 #[fileV (findN FW.n n L), .pointer (some ⟨bd, 0, none⟩), .pointer (some ⟨bn, 0, none⟩)] w
   (ActEnd S w d (match findN F.n n M.fs with | some _ => (M, 7) | none => ({ M with fs := putN F.n ⟨n, [], 0⟩ M.fs }, 0))) := by
 have hfd : findN F.n n M.fs = (findN FW.n n L).map FW.f := by rw [h.files]; exact findN_map FW.n F.n FW.f (fun _ => rfl) n L
 have hlen : L.length < 1000000 := by have := congrArg List.length h.files; rw [List.length_map] at this; omega
 rw [hfd]
 cases hf : findN FW.n n L with
 | some x =>
  have H := Lib.hid h
  clear h hfd hf hL hlen
  unfold fileV
  go_enter Tryz.func82, Tryz.ntmps82
  go_wp2
  go_ret
  exact ⟨rfl, Step.same ⟨mb, p, L, H.out⟩ (Chg.refl _ _)⟩
 | none =>
  obtain ⟨c0, c1, c2, c3, fr⟩ := h.cells
  have hok := fileOk_new w n
  have hd1 := (h.dir.alloc (.cells #[.slice none 0 0, .int .i64 0] 140)).drew
  obtain ⟨w2, hrun, hown, hg⟩ := hd1.update mapKey Tryz.underlying116 (by rw [maxLen_nat]; omega) (keyN n hn) (val := .pointer (some ⟨w.heap.size, 0, none⟩)) (d := .lit (.int .i64 (w.heap.size : Int))) (ps := []) rfl
  rw [show (dirD L).put (.string n) (.lit (.int .i64 (w.heap.size : Int))) = dirD (putN FW.n ⟨⟨n, [], 0⟩, w.heap.size, .slice none 0 0⟩ L) from dirD_put ⟨⟨n, [], 0⟩, w.heap.size, .slice none 0 0⟩ L] at hown
  have hc1 : Chg (fun b => b = mb) w w2 := ((Chg.alloc _ w _).same (Chg.drew _ _)).same (Chg.grown hg (fun k hk => by cases hk; exact .inl rfl))
  have hmbS : S mb := h.sub mb (by simp)
  have hlt : w.heap.size < w2.heap.size := Nat.lt_of_lt_of_le (by show w.heap.size < (w.alloc _).heap.size; simp) hg.size
  have hnS : ∀ b, S b → b < w.heap.size := h.bound
  have hfin : DiskAt (fun b => S b ∨ b = w.heap.size) w2 d mb p (putN FW.n ⟨⟨n, [], 0⟩, w.heap.size, .slice none 0 0⟩ L) { M with fs := putN F.n ⟨n, [], 0⟩ M.fs } := by
   refine h.put ⟨⟨n, [], 0⟩, w.heap.size, .slice none 0 0⟩ hown hc1 ?_ ?_ (List.nodup_cons.2 ⟨by simp [Value.ownBlock], List.nodup_nil⟩) ?_ (fun b hb => .inl hb) ?_ ?_
   ·refine hok.keep (fun b hb => hg.block b ?_ ?_)
    ·have e : b = w.heap.size := by simpa [fpOne, Value.ownBlock] using hb
     rw [e]; show w.heap.size < (w.alloc _).heap.size; simp
    ·have e : b = w.heap.size := by simpa [fpOne, Value.ownBlock] using hb
     intro e2
     cases e2
     exact absurd (hnS _ hmbS) (by omega)
   ·intro b hb hb2
    have e : b = w.heap.size := by simpa [fpOne, Value.ownBlock] using hb
    have : S b := h.sub b (((fpOf_del n L).cons_cons mb).cons_cons d |>.subset hb2)
    exact absurd (hnS _ this) (by omega)
   ·intro b hb
    have e : b = w.heap.size := by simpa [fpOne, Value.ownBlock] using hb
    exact .inr e
   ·rintro b (hb | rfl)
    ·exact Nat.lt_trans (hnS b hb) hlt
    ·exact hlt
   ·show 0 + usedF (delN F.n n M.fs) ≤ M.room
    have := usedF_del n M.fs
    have := h.used
    omega
  have Hend := Lib.hid (show Step S w d { M with fs := putN F.n ⟨n, [], 0⟩ M.fs } w2 from ⟨_, ⟨mb, p, _, hfin⟩, fun b hb => hb.imp id (fun e => Nat.le_of_eq e.symm), ⟨hc1.os, hc1.tape, hc1.output, hc1.size, fun b hb hns => hc1.block b hb (fun e => hns (e ▸ hmbS))⟩⟩)
  have k1 := (Chg.alloc (fun _ => False) w (.cells #[.slice none 0 0, .int .i64 0] 140)).cell hbd (fun h => h)
  have k2 := (Chg.alloc (fun _ => False) w (.cells #[.slice none 0 0, .int .i64 0] 140)).cell hbn (fun h => h)
  have k3 := (Chg.alloc (fun _ => False) w (.cells #[.slice none 0 0, .int .i64 0] 140)).cell c1 (fun h => h)
  clear h hfd hf hL hlen hd1 hown hg hc1 hmbS hlt hnS hfin hok fr c0 c2 c3
  unfold fileV
  go_enter Tryz.func82, Tryz.ntmps82
  go_wp2
  go_region
  go_wp2
  go_ret
  exact ⟨rfl, Hend.out⟩

set_option maxRecDepth 100000 in
set_option maxHeartbeats 3200000 in
theorem create_any {S : Nat → Prop} {w : World} {d : Nat} {M : DM} (h : DiskIn S w d M) (n : List UInt8) (hn : n.length ≤ 9223372036854775807) (hL : M.fs.length < 1000000) :
  Calls Tryz.prog 35 #[.pointer (some ⟨d, 0, none⟩), encStr n] w (ActEnd S w d (createM n M)) := by
 obtain ⟨mb, p, L, h⟩ := h
 have hb := ((Below.refl w.heap.size w).alloc (Nat.le_refl _) (.cells #[.pointer (some ⟨d, 0, none⟩)] 23)).alloc (o := .cells #[encStr n] 9) (by simp)
 have h2 := h.below hb
 have hbd : ((w.alloc (.cells #[.pointer (some ⟨d, 0, none⟩)] 23)).alloc (.cells #[encStr n] 9)).cell? ⟨w.heap.size, 0, none⟩ = some (.pointer (some ⟨d, 0, none⟩)) := by
  refine (Chg.alloc (fun _ => False) _ _).cell (cell_of_row _ _ _ _ _ (0, 0) (heap_alloc_new _ _)) (fun h => h)
 have hbn : ((w.alloc (.cells #[.pointer (some ⟨d, 0, none⟩)] 23)).alloc (.cells #[encStr n] 9)).cell? ⟨w.heap.size + 1, 0, none⟩ = some (encStr n) := by
  have := cell_of_row ((w.alloc (.cells #[.pointer (some ⟨d, 0, none⟩)] 23)).alloc (.cells #[encStr n] 9)) (w.heap.size + 1) 0 #[encStr n] 9 (0, 0) (by have := heap_alloc_new (w.alloc (.cells #[.pointer (some ⟨d, 0, none⟩)] 23)) (.cells #[encStr n] 9); simpa using this)
  exact this
 have hS0 : ∀ b, w.heap.size ≤ b → ¬ S b := fun b hb hs => absurd (h.bound b hs) (by omega)
 have HC := Lib.hid (carry_any h2 n hn 82 #[.pointer (some ⟨w.heap.size, 0, none⟩), .pointer (some ⟨w.heap.size + 1, 0, none⟩)] (by exact enters_of Tryz.func82 (by kernel_rfl) rfl) (ActEnd S w d (createM n M))
  (fun w' hD hc hdn => ⟨by unfold createM chgM; rw [if_pos hdn], by unfold createM chgM; rw [if_pos hdn]; exact Step.behind hb (Step.same hD hc)⟩)
  (fun w' hD hc hdn hnm => ⟨by unfold createM chgM; rw [if_neg (by rw [hdn]; decide), if_neg (by rw [hnm]; decide)], by unfold createM chgM; rw [if_neg (by rw [hdn]; decide), if_neg (by rw [hnm]; decide)]; exact Step.behind hb (Step.same hD hc)⟩)
  (fun p' w' hD hc hdn hnm => by
   have hl : (failM M).fs.length < 1000000 := by
    have e : (failM M).fs = M.fs := by unfold failM; split <;> (try split) <;> rfl
    rw [e]; exact hL
   refine (create1_any hD n hn hl _ _ (hc.cell hbd (hS0 _ (Nat.le_refl _))) (hc.cell hbn (hS0 _ (Nat.le_succ _)))).mono ?_
   rintro e w'' ⟨he, hst⟩
   refine ⟨⟨_, he⟩, ?_⟩
   unfold createM chgM
   rw [if_neg (by rw [hdn]; decide), if_pos hnm]
   exact ⟨he, Step.behind hb (Step.after hc hst)⟩))
 clear h h2 hb hbd hbn hS0
 go_enter Tryz.func35, Tryz.ntmps35
 go_wp2_with fail
 refine HC.out.mono ?_
 rintro e w' hq
 have Hq := Lib.hid hq
 obtain ⟨rfl, _⟩ := hq
 go_wp2
 go_ret
 exact Hq.out
end Go.Proofs.YtnbddiiedagllaaGreat

/- The walk of a disk's Used. -/
namespace Go.Proofs.YtnbddiiedagllaaGreat
open Go.RowKit Go.Maps

theorem DiskAt.names {S : Nat → Prop} {w : World} {d mb : Nat} {p : Int} {L : List FW} {M : DM} (h : DiskAt S w d mb p L M) : L.Pairwise fun x y => x.n ≠ y.n := by
 obtain ⟨es, he, hp, _⟩ := h.dir.entries mapKey
 have e : es = L.map ent := (DataW.map.inj he).symm
 rw [e, List.pairwise_map] at hp
 exact hp.imp (fun hne e => hne (congrArg Lit.string e))

def metW (left : Lit → Bool) (L : List FW) : Nat := ((L.filter fun x => !left (.string x.n)).map fun x => x.f.b.length).sum

theorem metW_cons (left : Lit → Bool) (x : FW) (L : List FW) : metW left (x :: L) = (if left (.string x.n) = true then 0 else x.f.b.length) + metW left L := by
 unfold metW
 rw [List.filter_cons]
 cases left (.string x.n) <;> simp

theorem metW_le (left : Lit → Bool) : ∀ L : List FW, metW left L ≤ usedF (L.map FW.f)
 | [] => Nat.le_refl _
 | x :: L => by
  have ih := metW_le left L
  rw [metW_cons, List.map_cons]
  show _ ≤ ((x.f :: L.map FW.f).map fun f => f.b.length).sum
  rw [List.map_cons, List.sum_cons]
  unfold usedF at ih
  split <;> omega

theorem metW_none {left : Lit → Bool} : ∀ {L : List FW}, (∀ x ∈ L, left (.string x.n) = true) → metW left L = 0
 | [], _ => rfl
 | x :: L, h => by rw [metW_cons, if_pos (h x (by simp)), metW_none (fun y hy => h y (by simp [hy]))]

theorem metW_all {left : Lit → Bool} : ∀ {L : List FW}, (∀ kl, left kl = false) → metW left L = usedF (L.map FW.f)
 | [], _ => rfl
 | x :: L, h => by
  rw [metW_cons, if_neg (by rw [h]; decide), metW_all h, List.map_cons]
  show _ = ((x.f :: L.map FW.f).map fun f => f.b.length).sum
  rw [List.map_cons, List.sum_cons]
  rfl

theorem metW_skip {left : Lit → Bool} {n : List UInt8} : ∀ {L : List FW}, (∀ x ∈ L, x.n ≠ n) → metW (fun z => left z && !z.sameKey (.string n)) L = metW left L
 | [], _ => rfl
 | x :: L, h => by
  rw [metW_cons, metW_cons, metW_skip (fun y hy => h y (by simp [hy]))]
  have e : (Lit.string x.n).sameKey (.string n) = false := by
   show (x.n == n) = false
   exact beq_eq_false_iff_ne.2 (h x (by simp))
  rw [e, Bool.not_false, Bool.and_true]

theorem metW_step {left : Lit → Bool} {x0 : FW} : ∀ {L : List FW}, (L.Pairwise fun x y => x.n ≠ y.n) → x0 ∈ L → left (.string x0.n) = true → metW (fun z => left z && !z.sameKey (.string x0.n)) L = metW left L + x0.f.b.length
 | [], _, h, _ => by cases h
 | x :: L, hp, hx, hl => by
  obtain ⟨hp1, hp2⟩ := List.pairwise_cons.1 hp
  rw [metW_cons, metW_cons]
  rcases List.mem_cons.1 hx with e | hx
  ·rw [← e, metW_skip (fun y hy => fun e2 => hp1 y hy (by rw [← e]; exact e2.symm)), if_pos hl]
   have e3 : (Lit.string x0.n).sameKey (.string x0.n) = true := by show (x0.n == x0.n) = true; exact beq_self_eq_true _
   rw [if_neg (by rw [e3]; simp)]
   omega
  ·have e3 : (Lit.string x.n).sameKey (.string x0.n) = false := by
    show (x.n == x0.n) = false
    exact beq_eq_false_iff_ne.2 (hp1 x0 hx)
   rw [metW_step hp2 hx hl, e3, Bool.not_false, Bool.and_true]
   omega

def ptrV : Option Nat → Value
 | none => .pointer none
 | some b => .pointer (some ⟨b, 0, none⟩)

theorem ptrR_inv {v : Value} {y : DataW Unit × List MemPlace} (h : ptrR v = some y) : ∃ c, v = ptrV c := by
 unfold ptrR at h
 split at h
 ·exact ⟨none, rfl⟩
 ·exact ⟨some _, rfl⟩
 ·cases h

theorem found_of_at {n : List UInt8} {L : List FW} {y : DataW Unit} (h : ∀ z, (dirD L).atKey (.string n) z = y) : ∃ x ∈ L, x.n = n ∧ y = .lit (.int .i64 (x.blk : Int)) := by
 have h1 := h .nil
 have h2 := h (.lit (.bool true))
 rw [dirD_at] at h1 h2
 cases hf : findN FW.n n L with
 | none =>
  rw [hf] at h1 h2
  rw [← h1] at h2
  cases h2
 | some x =>
  rw [hf] at h1
  exact ⟨x, (findN_some hf).1, (findN_some hf).2, h1.symm⟩

theorem ptr_found {c : Option Nat} {x : FW} {ps : List MemPlace} (h : ptrR (ptrV c) = some (.lit (.int .i64 (x.blk : Int)), ps)) : c = some x.blk := by
 cases c with
 | none => cases h
 | some b =>
  have h1 : (DataW.lit (.int .i64 (b : Int)) : DataW Unit) = .lit (.int .i64 (x.blk : Int)) := by
   have := Option.some.inj h
   exact congrArg Prod.fst this
  have h2 := Lit.int.inj (DataW.lit.inj h1)
  have : b = x.blk := by omega
  rw [this]

theorem own_len {w : World} {base n : Nat} {e : TypeId} {v : Value} {xs : List Value} (h : w.ownsRow base e 1 v n xs) : ∃ a c, v = .slice a n c ∧ n ≤ c ∧ c ≤ 9223372036854775807 := by
 rcases h.2 with ⟨rfl, rfl⟩ | ⟨g, cap, cur, rfl, _, _, h1, h2, _⟩
 ·exact ⟨none, 0, rfl, Nat.le_refl _, by omega⟩
 ·exact ⟨_, cap, rfl, h1, by rw [maxLen_nat] at h2; exact h2⟩

set_option maxRecDepth 100000 in
set_option maxHeartbeats 3200000 in
theorem used_any {S : Nat → Prop} {w : World} {d : Nat} {M : DM} (h : DiskIn S w d M) :
  Calls Tryz.prog 43 #[.pointer (some ⟨d, 0, none⟩)] w fun e w' => e = .returned (.int .i64 (usedF M.fs : Int)) ∧ Below w.heap.size w w' := by
 obtain ⟨mb, p, L, h⟩ := h
 obtain ⟨c0, c1, c2, c3, fr⟩ := h.cells
 have H := Lib.hid h
 have hown := h.dir
 have Hu := Lib.hid (show usedF M.fs < 9223372036854775808 from Nat.lt_of_le_of_lt h.used h.room)
 have Hf := Lib.hid h.files
 have Hmb := Lib.hid (h.bound mb (h.sub mb (by simp)))
 clear h fr c0 c2 c3
 go_enter Tryz.func43, Tryz.ntmps43
 go_wp2_with (first
  | (at_range; refine wpList_range_own _ rfl _ 116 rfl 9 125 mapKey Tryz.underlying116 _ mb L.length _ rfl hown ?_; intro w0 hrg0 hg0 hs0)
  | go_in)
 go_frame
 go_loopw [3, 5] (fun i _ wr => ∃ (left : Lit → Bool) (cnt : Nat), i = .int .i64 (metW left L : Int) ∧ wr.ranges Tryz.prog 9 ptrR mb w.heap.size L.length (dirD L) left cnt ∧ Below w.heap.size w wr)
  (fun _ _ wr => wr.rangeLeft mb w.heap.size)
 case atStart =>
  refine ⟨_, _, ?_, hrg0, (Below.refl _ _).grown (hg0.but none) (Nat.le_refl _) (fun j hj => by cases hj)⟩
  rw [metW_none (fun x hx => ?_)]
  ·rfl
  ·show (L.map ent).any _ = true
   rw [List.any_eq_true]
   exact ⟨ent x, List.mem_map.2 ⟨x, hx, rfl⟩, by show (x.n == x.n) = true; exact beq_self_eq_true _⟩
 case round =>
  obtain ⟨left, cnt, rfl, hrg, hbw⟩ := hrel
  have Hbw := Lib.hid hbw
  clear hbw
  have hml := metW_le left L
  rw [← Hf.out] at hml
  have hml2 := Hu.out
  go_wp2_with (first
   | (at_next; refine wpList_next_ranges _ rfl _ rfl 9 mapKey ptrR encStr ptrV (fun key kl hk => by obtain ⟨x, hx, _⟩ := Maps.keyOf_str Tryz.underlying9 hk; exact ⟨x, hx⟩) (fun v y hv => ptrR_inv hv) mb w.heap.size L.length _ _ _ rfl hrg ?_ ?_)
   | go_in)
  ·intro _ hl0
   have Hend := Lib.hid (show metW left L = usedF M.fs from by rw [metW_all hl0, Hf.out])
   clear hl0
   go_wp2
   go_ret
   exact ⟨by rw [← Hend.out]; rfl, Hbw.out⟩
  ·intro x c kl yd yp w2 cnt2 hkey hlk hv hat hrg2 hlt hg2 hs2 hen
   obtain ⟨x', ex, rfl, _⟩ := Maps.keyOf_str Tryz.underlying9 hkey
   obtain rfl : x = x' := encStr_inj ex
   clear ex
   obtain ⟨x0, hx0, rfl, rfl⟩ := found_of_at hat
   obtain rfl := ptr_found hv
   have hb2 := Hbw.out.grown hg2 Hbw.out.size (fun j hj => by cases hj; exact Nat.le_refl _)
   have Hb2 := Lib.hid hb2
   have hok2 := (H.out.below hb2).ok x0 hx0
   obtain ⟨f0, _, _⟩ := hok2.cells
   obtain ⟨a, cp, hv0, _, _⟩ := own_len hok2.row
   rw [hv0] at f0
   have Hst := Lib.hid (metW_step H.out.names hx0 hlk)
   have hle : metW (fun z => left z && !z.sameKey (.string x0.n)) L ≤ usedF M.fs := by rw [Hf.out]; exact metW_le _ _
   rw [metW_step H.out.names hx0 hlk] at hle
   have hsum : (metW left L : Int) + (x0.f.b.length : Int) < 9223372036854775808 := by omega
   have hsum0 : (0 : Int) ≤ (metW left L : Int) + (x0.f.b.length : Int) := by omega
   clear hs2 hkey hlk hv hat hx0 hb2 hok2 hv0 hle hml hml2 hg2
   unfold ptrV at hen ⊢
   go_wp2
   go_roundw
   case rel => exact ⟨_, cnt2, by rw [Hst.out]; go_num, hrg2, Hb2.out⟩
   case measure => rw [hrg2.left_eq, hrg.left_eq]; exact hlt
end Go.Proofs.YtnbddiiedagllaaGreat

