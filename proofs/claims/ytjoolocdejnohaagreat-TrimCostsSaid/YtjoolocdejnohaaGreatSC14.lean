import Derived.Test.YtjoolocdejnohaaGreatSC12
import Derived.Test.YtjoolocdejnohaaGreatSC13
import Derived.Test.YtjoolocdejnohaaGreatSC5
import Derived.Test.YtjoolocdejnohaaGreatSC11
/- The walks of what a log's steps do: a change of its disk. -/
namespace Go.Proofs.YtjoolocdejnohaaGreat
open Go.RowKit Go.Maps Go.Shelf

theorem OwnEnd.behind {w0 : World} {X : Nat → Prop} {w w1 : World} {d : Nat} {M : DM} {w' : World} (hb : Below w.heap.size w w1) (h0 : w0.heap.size ≤ w.heap.size) (hX : ∀ b, X b → b < w.heap.size) (h : OwnEnd w0 X w1 d M w') : OwnEnd w0 X w d M w' := by
  obtain ⟨h1, h2, h3, h4⟩ := h
  exact ⟨h1, fun b hb' => (h2 b hb').trans (hb.block b (hX b hb')), (hb.mono h0).trans h3, Nat.le_trans hb.size h4⟩

theorem Own.blocks {w0 : World} {X : Nat → Prop} {w : World} {d : Nat} {M : DM} (h : Own w0 X w d M) : ∀ b, X b → b < w.heap.size := by obtain ⟨_, _, _, h, _⟩ := h; exact h

theorem nmB_len (N : Nat) : (nmB N).length ≤ 9223372036854775807 := by
  unfold nmB
  rw [List.length_map, nameL_len]
  decide

set_option maxRecDepth 100000 in
set_option maxHeartbeats 3200000 in
theorem do_append {w0 : World} {X : Nat → Prop} {w : World} {d : Nat} {M : DM} (h : Own w0 X w d M) (g N b1 b2 b3 : Nat) (p : Option Addr) (m c : Nat) (l : List Nat) (k1 : w.cell? ⟨b1, 0, none⟩ = some (.pointer (some ⟨g, 0, none⟩))) (k2 : w.cell? ⟨b2, 0, none⟩ = some (encStr (nmB N)))
    (k3 : w.cell? ⟨b3, 0, none⟩ = some (.slice p m c)) (g3 : w.cell? ⟨g, 3, none⟩ = some (.pointer (some ⟨d, 0, none⟩))) (hB : Bytes w p m c l) (hap : 0 < m → ∀ a, p = some a → X a.block ∨ a.block < w0.heap.size) (hlim : usedF M.fs + l.length ≤ 140737488355328) :
    Calls Tryz.prog 124 #[.pointer (some ⟨b1, 0, none⟩), .pointer (some ⟨b2, 0, none⟩), .pointer (some ⟨b3, 0, none⟩)] w (OwnAct w0 X w d (appendM (nmB N) l M)) := by
  have hbd : Below w.heap.size w w.drew := (Below.refl _ _).drew
  have hO := h.below hbd
  have HA := Lib.hid (own_append hO (nmB N) (nmB_len N) p m c l (hB.grow hbd) hap hlim)
  have Hend := Lib.hid (fun w' (hq : OwnEnd w0 X w.drew d (appendM (nmB N) l M).1 w') => OwnEnd.behind hbd h.base.size h.blocks hq)
  have k1 : w.drew.cell? ⟨b1, 0, none⟩ = some (.pointer (some ⟨g, 0, none⟩)) := k1
  have k2 : w.drew.cell? ⟨b2, 0, none⟩ = some (encStr (nmB N)) := k2
  have k3 : w.drew.cell? ⟨b3, 0, none⟩ = some (.slice p m c) := k3
  have g3 : w.drew.cell? ⟨g, 3, none⟩ = some (.pointer (some ⟨d, 0, none⟩)) := g3
  clear hB hap hlim h hO hbd
  go_enter Tryz.func124, Tryz.ntmps124
  go_wp2
  refine wp_region_still_tail 6 (by kernel_rfl) (by kernel_rfl) ?_
  simp only [List.take_succ_cons, List.take_zero, List.drop_succ_cons, List.drop_zero]
  change wpStill _ _ w.drew (fun a' => wpList _ _ _ _ a' w.drew) _ _
  generalize w.drew = w4 at *
  repeat still_step
  refine wpStill_nil ?_
  go_wp2_with fail
  refine HA.out.mono ?_
  rintro e w5 ⟨rfl, hq⟩
  have Hq := Lib.hid (Hend.out _ hq)
  clear hq
  go_wp2
  go_ret
  exact ⟨rfl, Hq.out⟩

set_option maxRecDepth 100000 in
set_option maxHeartbeats 3200000 in
theorem do_sync {w0 : World} {X : Nat → Prop} {w : World} {d : Nat} {M : DM} (h : Own w0 X w d M) (g N b1 b2 : Nat) (k1 : w.cell? ⟨b1, 0, none⟩ = some (.pointer (some ⟨g, 0, none⟩))) (k2 : w.cell? ⟨b2, 0, none⟩ = some (encStr (nmB N)))
    (g3 : w.cell? ⟨g, 3, none⟩ = some (.pointer (some ⟨d, 0, none⟩))) :
    Calls Tryz.prog 125 #[.pointer (some ⟨b1, 0, none⟩), .pointer (some ⟨b2, 0, none⟩)] w (OwnAct w0 X w d (syncM (nmB N) M)) := by
  have hbd : Below w.heap.size w w.drew := (Below.refl _ _).drew
  have hO := h.below hbd
  have HA := Lib.hid (own_sync hO (nmB N) (nmB_len N))
  have Hend := Lib.hid (fun w' (hq : OwnEnd w0 X w.drew d (syncM (nmB N) M).1 w') => OwnEnd.behind hbd h.base.size h.blocks hq)
  have k1 : w.drew.cell? ⟨b1, 0, none⟩ = some (.pointer (some ⟨g, 0, none⟩)) := k1
  have k2 : w.drew.cell? ⟨b2, 0, none⟩ = some (encStr (nmB N)) := k2
  have g3 : w.drew.cell? ⟨g, 3, none⟩ = some (.pointer (some ⟨d, 0, none⟩)) := g3
  clear h hO hbd
  go_enter Tryz.func125, Tryz.ntmps125
  go_wp2
  refine wp_region_still_tail 5 (by kernel_rfl) (by kernel_rfl) ?_
  simp only [List.take_succ_cons, List.take_zero, List.drop_succ_cons, List.drop_zero]
  change wpStill _ _ w.drew (fun a' => wpList _ _ _ _ a' w.drew) _ _
  generalize w.drew = w4 at *
  repeat still_step
  refine wpStill_nil ?_
  go_wp2_with fail
  refine HA.out.mono ?_
  rintro e w5 ⟨rfl, hq⟩
  have Hq := Lib.hid (Hend.out _ hq)
  clear hq
  go_wp2
  go_ret
  exact ⟨rfl, Hq.out⟩

set_option maxRecDepth 100000 in
set_option maxHeartbeats 3200000 in
theorem do_create {w0 : World} {X : Nat → Prop} {w : World} {d : Nat} {M : DM} (h : Own w0 X w d M) (g N b1 b2 : Nat) (k1 : w.cell? ⟨b1, 0, none⟩ = some (.pointer (some ⟨g, 0, none⟩))) (k2 : w.cell? ⟨b2, 0, none⟩ = some (encStr (nmB N)))
    (g3 : w.cell? ⟨g, 3, none⟩ = some (.pointer (some ⟨d, 0, none⟩))) (hL : M.fs.length < 1000000) :
    Calls Tryz.prog 160 #[.pointer (some ⟨b1, 0, none⟩), .pointer (some ⟨b2, 0, none⟩)] w (OwnAct w0 X w d (createM (nmB N) M)) := by
  have hbd : Below w.heap.size w w.drew := (Below.refl _ _).drew
  have hO := h.below hbd
  have HA := Lib.hid (own_create hO (nmB N) (nmB_len N) hL)
  have Hend := Lib.hid (fun w' (hq : OwnEnd w0 X w.drew d (createM (nmB N) M).1 w') => OwnEnd.behind hbd h.base.size h.blocks hq)
  have k1 : w.drew.cell? ⟨b1, 0, none⟩ = some (.pointer (some ⟨g, 0, none⟩)) := k1
  have k2 : w.drew.cell? ⟨b2, 0, none⟩ = some (encStr (nmB N)) := k2
  have g3 : w.drew.cell? ⟨g, 3, none⟩ = some (.pointer (some ⟨d, 0, none⟩)) := g3
  clear h hO hbd
  go_enter Tryz.func160, Tryz.ntmps160
  go_wp2
  refine wp_region_still_tail 5 (by kernel_rfl) (by kernel_rfl) ?_
  simp only [List.take_succ_cons, List.take_zero, List.drop_succ_cons, List.drop_zero]
  change wpStill _ _ w.drew (fun a' => wpList _ _ _ _ a' w.drew) _ _
  generalize w.drew = w4 at *
  repeat still_step
  refine wpStill_nil ?_
  go_wp2_with fail
  refine HA.out.mono ?_
  rintro e w5 ⟨rfl, hq⟩
  have Hq := Lib.hid (Hend.out _ hq)
  clear hq
  go_wp2
  go_ret
  exact ⟨rfl, Hq.out⟩
end Go.Proofs.YtjoolocdejnohaaGreat

/- The walks of scan's take, whatever its steps do, and of the name of a segment's file. -/
namespace Go.Proofs.YtjoolocdejnohaaGreat
open Go.RowKit Go.Maps Go.Shelf

theorem sfile_any (N : Nat) (w : World) (h1 : 1 ≤ N) (hN : N ≤ 99999999) :
    Calls Tryz.prog 111 #[.int .i64 (N : Int)] w fun e w' => e = .returned (encStr (nmB N)) ∧ Below w.heap.size w w' := by
  have HI := Lib.hid (fun w1 => segname_yes N w1 h1 hN)
  clear h1 hN
  go_enter Tryz.func111, Tryz.ntmps111
  go_wp2_with fail
  refine (HI.out _).mono ?_
  rintro e w' ⟨rfl, hb⟩
  have Hb := Lib.hid hb
  clear hb
  go_wp2
  go_ret
  exact ⟨rfl, Hb.out⟩

/-- A step: the function that it runs, and what this has captured. -/
structure SK where
  k : Nat
  caps : Array Value

def skV (x : SK) : Value := .func (.func x.k) #[] x.caps

/-- What a step leaves. -/
def SkEnd (Q : Int → World → Prop) (J : World → Prop) (e : Ending) (w : World) : Prop :=
  ∃ z : Int, e = .returned (.int .i64 z) ∧ (z = 0 → J w) ∧ (z ≠ 0 → Q z w)

set_option maxRecDepth 100000 in
set_option maxHeartbeats 3200000 in
theorem stake_any (a : Option Addr) (n cap : Nat) (L : List SK) (hn : L.length = n) (hm : n ≤ 1000) (J : Nat → World → Prop) (Q : Int → World → Prop) (w : World)
    (hent : ∀ (j : Nat) (hj : j < L.length) args w, (callFunc L[j].k args).run Tryz.prog w = .ok (.enter L[j].k args) w) (h0 : J 0 w)
    (hrow : 0 < n → ∃ b o, a = some ⟨b, o, none⟩ ∧ ∀ (j : Nat) (hj : j < L.length) w', J j w' → w'.cell? ⟨b, o + j, none⟩ = some (skV L[j]))
    (hstep : ∀ (j : Nat) (hj : j < L.length) w', J j w' → Calls Tryz.prog L[j].k L[j].caps w' (SkEnd Q (J (j + 1)))) :
    Calls Tryz.prog 65 #[.slice a n cap] w (SkEnd Q (J n)) := by
  have HN := Lib.hid hn
  have HEnt := Lib.hid hent
  have H0 := Lib.hid h0
  have HRow := Lib.hid hrow
  have HStep := Lib.hid hstep
  clear hn hent h0 hrow hstep
  go_enter Tryz.func65, Tryz.ntmps65
  go_wp2
  go_loopw [8] (fun i wr => ∃ j : Nat, j ≤ n ∧ i = .int .i64 (j : Int) ∧ J j wr) (fun i _ => n - (intOf i).toNat)
  case atStart => exact ⟨0, Nat.zero_le _, rfl, H0.out⟩
  case round =>
    obtain ⟨j, hj, rfl, hJ⟩ := hrel
    by_cases hlt : j < n
    · have hjl : j < L.length := by rw [HN.out]; exact hlt
      obtain ⟨b, o, rfl, hr⟩ := HRow.out (by omega)
      have r0 := hr j hjl wr hJ
      unfold skV at r0
      have he := HEnt.out j hjl
      have HS := Lib.hid (HStep.out j hjl wr hJ)
      have Hlt := Lib.hid hlt
      have hji : (j : Int) < (n : Int) := by omega
      clear hJ hr
      generalize hLj : L[j] = x at *
      obtain ⟨k, caps⟩ := x
      simp only at *
      clear hLj
      go_wp2_with fail
      refine HS.out.mono ?_
      rintro e w2 ⟨code, rfl, h1, h2⟩
      by_cases hc : code = 0
      · subst hc
        have HJ2 := Lib.hid (h1 rfl)
        clear h1 h2
        go_wp2
        go_roundw
        case rel => exact ⟨j + 1, Hlt.out, by go_num, HJ2.out⟩
        case measure => simp [intOf]; omega
      · have HQ := Lib.hid (h2 hc)
        have hc1 : (code == 0) = false := by simpa using hc
        have hc2 : (code != 0) = true := by simpa using hc
        have hc3 := Lib.hid hc
        clear h1 h2 hc
        go_wp2
        go_ret
        exact ⟨code, rfl, fun h => absurd h hc3.out, fun _ => HQ.out⟩
    · obtain rfl : n = j := by omega
      have HJ := Lib.hid hJ
      have hji : ¬ (n : Int) < (n : Int) := by omega
      clear hJ
      go_wp2
      go_ret
      exact ⟨0, rfl, fun _ => HJ.out, fun h => absurd rfl h⟩
end Go.Proofs.YtjoolocdejnohaaGreat

/- The walks of the steps of scan's Open: what each closure does on a disk of the call's own. -/
namespace Go.Proofs.YtjoolocdejnohaaGreat
open Go.RowKit Go.Maps Go.Shelf

def cutB : List UInt8 := [99, 117, 116]
def newB : List UInt8 := [110, 101, 119]

section
variable {w0 : World} {X : Nat → Prop} {w : World} {d : Nat} {M : DM}

set_option maxRecDepth 100000 in
set_option maxHeartbeats 1600000 in
theorem do_removing (h : Own w0 X w d M) (b1 b2 : Nat) (nm : List UInt8) (hn : nm.length ≤ 9223372036854775807) (k2 : w.cell? ⟨b2, 0, none⟩ = some (encStr nm)) (k1 : w.cell? ⟨b1, 0, none⟩ = some (.pointer (some ⟨d, 0, none⟩))) :
    Calls Tryz.prog 151 #[.pointer (some ⟨b1, 0, none⟩), .pointer (some ⟨b2, 0, none⟩)] w (OwnAct w0 X w d (removeM nm M)) := by
  have HA := Lib.hid (own_remove h nm hn)
  clear h
  go_enter Tryz.func151, Tryz.ntmps151
  go_wp2_with fail
  refine HA.out.mono ?_
  rintro e w5 ⟨rfl, hq⟩
  have Hq := Lib.hid hq
  clear hq
  go_wp2
  go_ret
  exact ⟨rfl, Hq.out⟩

set_option maxRecDepth 100000 in
set_option maxHeartbeats 1600000 in
theorem do_creating (h : Own w0 X w d M) (b1 b2 : Nat) (nm : List UInt8) (hn : nm.length ≤ 9223372036854775807) (hL : M.fs.length < 1000000) (k2 : w.cell? ⟨b2, 0, none⟩ = some (encStr nm)) (k1 : w.cell? ⟨b1, 0, none⟩ = some (.pointer (some ⟨d, 0, none⟩))) :
    Calls Tryz.prog 112 #[.pointer (some ⟨b1, 0, none⟩), .pointer (some ⟨b2, 0, none⟩)] w (OwnAct w0 X w d (createM nm M)) := by
  have HA := Lib.hid (own_create h nm hn hL)
  clear h
  go_enter Tryz.func112, Tryz.ntmps112
  go_wp2_with fail
  refine HA.out.mono ?_
  rintro e w5 ⟨rfl, hq⟩
  have Hq := Lib.hid hq
  clear hq
  go_wp2
  go_ret
  exact ⟨rfl, Hq.out⟩

set_option maxRecDepth 100000 in
set_option maxHeartbeats 1600000 in
theorem do_syncing (h : Own w0 X w d M) (b1 b2 : Nat) (nm : List UInt8) (hn : nm.length ≤ 9223372036854775807) (k2 : w.cell? ⟨b2, 0, none⟩ = some (encStr nm)) (k1 : w.cell? ⟨b1, 0, none⟩ = some (.pointer (some ⟨d, 0, none⟩))) :
    Calls Tryz.prog 114 #[.pointer (some ⟨b1, 0, none⟩), .pointer (some ⟨b2, 0, none⟩)] w (OwnAct w0 X w d (syncM nm M)) := by
  have HA := Lib.hid (own_sync h nm hn)
  clear h
  go_enter Tryz.func114, Tryz.ntmps114
  go_wp2_with fail
  refine HA.out.mono ?_
  rintro e w5 ⟨rfl, hq⟩
  have Hq := Lib.hid hq
  clear hq
  go_wp2
  go_ret
  exact ⟨rfl, Hq.out⟩

set_option maxRecDepth 100000 in
set_option maxHeartbeats 1600000 in
theorem do_cut1 (h : Own w0 X w d M) (b1 : Nat) (hL : M.fs.length < 1000000) (k1 : w.cell? ⟨b1, 0, none⟩ = some (.pointer (some ⟨d, 0, none⟩))) :
    Calls Tryz.prog 153 #[.pointer (some ⟨b1, 0, none⟩)] w (OwnAct w0 X w d (createM cutB M)) := by
  have HA := Lib.hid (own_create h cutB (by decide) hL)
  clear h
  go_enter Tryz.func153, Tryz.ntmps153
  go_wp2_with fail
  refine HA.out.mono ?_
  rintro e w5 ⟨rfl, hq⟩
  have Hq := Lib.hid hq
  clear hq
  go_wp2
  go_ret
  exact ⟨rfl, Hq.out⟩

set_option maxRecDepth 100000 in
set_option maxHeartbeats 1600000 in
theorem do_cut2 (h : Own w0 X w d M) (b1 b2 : Nat) (p : Option Addr) (m c : Nat) (l : List Nat) (hB : Bytes w p m c l) (hap : 0 < m → ∀ a, p = some a → X a.block ∨ a.block < w0.heap.size) (hlim : usedF M.fs + l.length ≤ 140737488355328) (k2 : w.cell? ⟨b2, 0, none⟩ = some (.slice p m c)) (k1 : w.cell? ⟨b1, 0, none⟩ = some (.pointer (some ⟨d, 0, none⟩))) :
    Calls Tryz.prog 154 #[.pointer (some ⟨b1, 0, none⟩), .pointer (some ⟨b2, 0, none⟩)] w (OwnAct w0 X w d (appendM cutB l M)) := by
  have HA := Lib.hid (own_append h cutB (by decide) p m c l hB hap hlim)
  clear h
  go_enter Tryz.func154, Tryz.ntmps154
  go_wp2_with fail
  refine HA.out.mono ?_
  rintro e w5 ⟨rfl, hq⟩
  have Hq := Lib.hid hq
  clear hq
  go_wp2
  go_ret
  exact ⟨rfl, Hq.out⟩

set_option maxRecDepth 100000 in
set_option maxHeartbeats 1600000 in
theorem do_cut3 (h : Own w0 X w d M) (b1 : Nat) (k1 : w.cell? ⟨b1, 0, none⟩ = some (.pointer (some ⟨d, 0, none⟩))) :
    Calls Tryz.prog 155 #[.pointer (some ⟨b1, 0, none⟩)] w (OwnAct w0 X w d (syncM cutB M)) := by
  have HA := Lib.hid (own_sync h cutB (by decide))
  clear h
  go_enter Tryz.func155, Tryz.ntmps155
  go_wp2_with fail
  refine HA.out.mono ?_
  rintro e w5 ⟨rfl, hq⟩
  have Hq := Lib.hid hq
  clear hq
  go_wp2
  go_ret
  exact ⟨rfl, Hq.out⟩

set_option maxRecDepth 100000 in
set_option maxHeartbeats 1600000 in
theorem do_cut4 (h : Own w0 X w d M) (b1 b2 : Nat) (nm : List UInt8) (hn : nm.length ≤ 9223372036854775807) (hL : M.fs.length < 1000000) (k2 : w.cell? ⟨b2, 0, none⟩ = some (encStr nm)) (k1 : w.cell? ⟨b1, 0, none⟩ = some (.pointer (some ⟨d, 0, none⟩))) :
    Calls Tryz.prog 156 #[.pointer (some ⟨b1, 0, none⟩), .pointer (some ⟨b2, 0, none⟩)] w (OwnAct w0 X w d (renameM cutB nm M)) := by
  have HA := Lib.hid (own_rename h cutB nm (by decide) hn hL)
  clear h
  go_enter Tryz.func156, Tryz.ntmps156
  go_wp2_with fail
  refine HA.out.mono ?_
  rintro e w5 ⟨rfl, hq⟩
  have Hq := Lib.hid hq
  clear hq
  go_wp2
  go_ret
  exact ⟨rfl, Hq.out⟩
end
end Go.Proofs.YtjoolocdejnohaaGreat

/- The reference's files in memory: a slice of structs of three cells. -/
namespace Go.Proofs.YtjoolocdejnohaaGreat
open Go.RowKit Go.Maps Go.Shelf

/-- A file of the reference: what it is, and where its bytes lie. -/
structure FR where
  f : F
  pa : Option Addr
  k : Nat

def cells3 (x : FR) : List Value := [encStr x.f.n, .slice x.pa x.f.b.length x.k, .int .i64 (x.f.d : Int)]
def flatF (R : List FR) : List Value := R.flatMap cells3
def FR.n (x : FR) : List UInt8 := x.f.n

theorem flatF_append (A B : List FR) : flatF (A ++ B) = flatF A ++ flatF B := List.flatMap_append ..
theorem flatF_cons (x : FR) (R : List FR) : flatF (x :: R) = cells3 x ++ flatF R := List.flatMap_cons ..
theorem flatF_length : ∀ R : List FR, (flatF R).length = R.length * 3
  | [] => rfl
  | x :: R => by rw [flatF_cons, List.length_append, flatF_length R, List.length_cons]; show 3 + _ = _; omega

theorem flatF_get : ∀ (R : List FR) (i : Nat) (hi : i < R.length) (j : Nat), j < 3 → (flatF R)[i * 3 + j]? = (cells3 R[i])[j]?
  | x :: R, 0, _, j, hj => by
    rw [flatF_cons, Nat.zero_mul, Nat.zero_add, List.getElem?_append_left (by show j < 3; exact hj)]
    rfl
  | x :: R, i + 1, hi, j, hj => by
    rw [flatF_cons, List.getElem?_append_right (by show 3 ≤ _; omega)]
    have := flatF_get R i (by simpa using hi) j hj
    rw [show (i + 1) * 3 + j - (cells3 x).length = i * 3 + j by show (i + 1) * 3 + j - 3 = _; omega, this]
    rfl

theorem flatF_one (R : List FR) : ∀ u ∈ flatF R, u.oneCell' = true := by
  intro u hu
  obtain ⟨x, _, hx⟩ := List.mem_flatMap.1 hu
  simp only [cells3, List.mem_cons, List.not_mem_nil, or_false] at hx
  rcases hx with rfl | rfl | rfl <;> rfl

/-- The bytes of a file, in blocks of X. -/
structure FileB (X : Nat → Prop) (w : World) (x : FR) : Prop where
  bytes : Bytes w x.pa x.f.b.length x.k x.f.b
  form : Formed x.pa x.k
  blk : 0 < x.f.b.length → ∀ a, x.pa = some a → X a.block
  dur : x.f.d ≤ x.f.b.length
  name : x.f.n.length ≤ 9223372036854775807

/-- The files R lie at the start of a slice's value. -/
structure RowF (X : Nat → Prop) (w : World) (a : Option Addr) (n c : Nat) (R : List FR) : Prop where
  len : R.length = n
  le : n ≤ c
  max : c ≤ 9223372036854775807
  form : Formed a c
  cell : 0 < n → ∃ b o, a = some ⟨b, o, none⟩ ∧ X b ∧ ∀ j u, (flatF R)[j]? = some u → w.cell? ⟨b, o + j, none⟩ = some u
  files : ∀ x ∈ R, FileB X w x

theorem FileB.mono {X Y : Nat → Prop} {w w' : World} {x : FR} (h : FileB X w x) (hk : ∀ b, X b → w'.heap[b]? = w.heap[b]?) (hXY : ∀ b, X b → Y b) : FileB Y w' x :=
  ⟨by
    rcases Nat.eq_zero_or_pos x.f.b.length with e | hn
    · have hb := h.bytes
      exact ⟨hb.len, hb.le, hb.capmax, hb.byte, hb.nil, fun h => absurd h (by omega)⟩
    · refine h.bytes.keep fun p _ hpa => ?_
      obtain ⟨b, o, e, _⟩ := h.bytes.cell hn
      have e2 := hpa _ e
      exact World.cell?_of_block (hk p.block (by rw [e2]; exact h.blk hn _ e)), h.form, fun hn a ha => hXY _ (h.blk hn a ha), h.dur, h.name⟩

theorem RowF.mono {X Y : Nat → Prop} {w w' : World} {a : Option Addr} {n c : Nat} {R : List FR} (h : RowF X w a n c R) (hk : ∀ b, X b → w'.heap[b]? = w.heap[b]?) (hXY : ∀ b, X b → Y b) : RowF Y w' a n c R := by
  refine ⟨h.len, h.le, h.max, h.form, fun hn => ?_, fun x hx => (h.files x hx).mono hk hXY⟩
  obtain ⟨b, o, e, hX, hc⟩ := h.cell hn
  exact ⟨b, o, e, hXY b hX, fun j u hu => by rw [World.cell?_of_block (hk b hX)]; exact hc j u hu⟩

theorem RowF.below {X : Nat → Prop} {w w' : World} {a : Option Addr} {n c : Nat} {R : List FR} (h : RowF X w a n c R) (hX : ∀ b, X b → b < w.heap.size) (hb : Below w.heap.size w w') : RowF X w' a n c R :=
  h.mono (fun b hx => hb.block b (hX b hx)) (fun _ h => h)

/-- The cells of the i-th file. -/
theorem RowF.at {X : Nat → Prop} {w : World} {b o n c : Nat} {R : List FR} (h : RowF X w (some ⟨b, o, none⟩) n c R) (i : Nat) (hi : i < R.length) :
    w.cell? ⟨b, o + i * 3, none⟩ = some (encStr R[i].f.n) ∧ w.cell? ⟨b, o + i * 3 + 1, none⟩ = some (.slice R[i].pa R[i].f.b.length R[i].k) ∧ w.cell? ⟨b, o + i * 3 + 2, none⟩ = some (.int .i64 (R[i].f.d : Int)) := by
  obtain ⟨b', o', e, _, hc⟩ := h.cell (by rw [← h.len]; omega)
  cases e
  refine ⟨?_, ?_, ?_⟩
  · have := hc (i * 3 + 0) (encStr R[i].f.n) (by rw [flatF_get R i hi 0 (by decide)]; rfl)
    exact this
  · have := hc (i * 3 + 1) (.slice R[i].pa R[i].f.b.length R[i].k) (by rw [flatF_get R i hi 1 (by decide)]; rfl)
    rw [← Nat.add_assoc] at this
    exact this
  · have := hc (i * 3 + 2) (.int .i64 (R[i].f.d : Int)) (by rw [flatF_get R i hi 2 (by decide)]; rfl)
    rw [← Nat.add_assoc] at this
    exact this

theorem rowF_nil (X : Nat → Prop) (w : World) : RowF X w none 0 0 [] := ⟨rfl, Nat.le_refl _, by omega, formed_none 0 rfl, fun h => absurd h (Nat.lt_irrefl _), fun _ h => by cases h⟩

/-- A row of the call's own. -/
theorem rowF_own {X Y : Nat → Prop} {w : World} {base n : Nat} {v : Value} {R : List FR} (h : w.ownsRow base 97 3 v n (flatF R)) (hF : ∀ x ∈ R, FileB X w x) (hXY : ∀ b, X b → Y b) (hY : ∀ b, base ≤ b → b < w.heap.size → Y b) :
    ∃ a c, v = .slice a n c ∧ RowF Y w a n c R := by
  have hlen : R.length = n := by have := h.1; rw [flatF_length] at this; omega
  have hF' : ∀ x ∈ R, FileB Y w x := fun x hx => (hF x hx).mono (fun _ _ => rfl) hXY
  rcases h.2 with ⟨rfl, h0⟩ | ⟨g, cap, cur, rfl, hb, hg, h1, h2, h3, h4⟩
  · have e : R = [] := List.length_eq_zero_iff.1 (by omega)
    subst e
    subst h0
    exact ⟨none, 0, rfl, rowF_nil Y w⟩
  · refine ⟨_, cap, rfl, hlen, h1, by rw [maxLen_nat] at h2; exact h2, formed_at _ _ _, fun hn => ⟨g, 0, rfl, hY g hb (Array.getElem?_eq_some_iff.1 hg).1, fun j u hu => ?_⟩, hF'⟩
    have := h.cells (g := g) rfl j u hu
    rw [addr_add] at this
    exact this
end Go.Proofs.YtjoolocdejnohaaGreat

/- The walks of the reference's Find, Used and Named. -/
namespace Go.Proofs.YtjoolocdejnohaaGreat
open Go.RowKit Go.Maps Go.Shelf

/-- A disk of the reference as a value. -/
def refV (room : Int) (a : Option Addr) (n c : Nat) (plan : Int) (down : Bool) : Value := .agg #[.int .i64 room, .slice a n c, .int .i64 plan, .bool down]

theorem findN_at : ∀ {R : List FR} {nm : List UInt8} {i : Nat} (hi : i < R.length), (∀ j (hj : j < R.length), j < i → R[j].f.n ≠ nm) → R[i].f.n = nm → findN FR.n nm R = some R[i]
  | x :: R, nm, 0, _, _, h => by
    unfold findN
    rw [List.find?_cons, show (x.n == nm) = true from by rw [beq_iff_eq]; exact h]
    rfl
  | x :: R, nm, i + 1, hi, hno, h => by
    unfold findN
    rw [List.find?_cons, show (x.n == nm) = false from beq_eq_false_iff_ne.2 (hno 0 (by simp) (Nat.zero_lt_succ _))]
    exact findN_at (R := R) (by simpa using hi) (fun j hj hji => hno (j + 1) (by simpa using hj) (by omega)) h

theorem findN_no : ∀ {R : List FR} {nm : List UInt8}, (∀ j (hj : j < R.length), R[j].f.n ≠ nm) → findN FR.n nm R = none
  | [], _, _ => rfl
  | x :: R, nm, hno => by
    unfold findN
    rw [List.find?_cons, show (x.n == nm) = false from beq_eq_false_iff_ne.2 (hno 0 (by simp))]
    exact findN_no (fun j hj => hno (j + 1) (by simpa using hj))

/-- What Find answers. -/
def FindEnd (w : World) (R : List FR) (nm : List UInt8) (e : Ending) (w' : World) : Prop := Below w.heap.size w w' ∧
  ((∃ (i : Nat) (hi : i < R.length), e = .returned (.int .i64 (i : Int)) ∧ findN FR.n nm R = some R[i]) ∨ (e = .returned (.int .i64 (-1)) ∧ findN FR.n nm R = none))

set_option maxRecDepth 100000 in
set_option maxHeartbeats 6400000 in
theorem rfind_any {X : Nat → Prop} {w : World} {a : Option Addr} {n c : Nat} {R : List FR} (h : RowF X w a n c R) (hX : ∀ b, X b → b < w.heap.size) (nm : List UInt8) (room plan : Int) (down : Bool) :
    Calls Tryz.prog 108 #[refV room a n c plan down, .string ⟨nm.toArray⟩] w (FindEnd w R nm) := by
  have hb := (Below.refl w.heap.size w).alloc (Nat.le_refl _) (.cells #[.int .i64 room, .slice a n c, .int .i64 plan, .bool down] 25)
  have hc1 : (w.alloc (.cells #[.int .i64 room, .slice a n c, .int .i64 plan, .bool down] 25)).cell? ⟨w.heap.size, 1, none⟩ = some (.slice a n c) := by
    rw [cell_of_row _ _ _ _ _ (0, 0) (heap_alloc_new _ _)]; rfl
  have HR := Lib.hid (h.below hX hb)
  have Hb := Lib.hid hb
  have hlen := h.len
  have hmax : n ≤ 9223372036854775807 := Nat.le_trans h.le h.max
  clear h hb hX
  unfold refV
  go_enter Tryz.func108, Tryz.ntmps108
  go_wp2
  generalize w.alloc (.cells #[.int .i64 room, .slice a n c, .int .i64 plan, .bool down] 25) = w1 at *
  go_loopw [5] (fun i wr => ∃ j : Nat, j ≤ n ∧ i = .int .i64 (j : Int) ∧ (∀ k (hk : k < R.length), k < j → R[k].f.n ≠ nm) ∧ wr = w1) (fun i _ => n - (intOf i).toNat)
  case atStart => exact ⟨0, Nat.zero_le _, rfl, fun k _ h => absurd h (Nat.not_lt_zero _), rfl⟩
  case round =>
    obtain ⟨j, hj, rfl, hno, rfl⟩ := hrel
    have HN := Lib.hid hno
    clear hno
    by_cases hlt : j < n
    · obtain ⟨b, o, rfl, _, _⟩ := HR.out.cell (by omega)
      have hjR : j < R.length := by omega
      have hcell := (HR.out.at j hjR).1
      change wr.cell? ⟨b, o + j * 3, none⟩ = some (.string ⟨(R[j].f.n).toArray⟩) at hcell
      have hji : (j : Int) < (n : Int) := by omega
      by_cases he : R[j].f.n = nm
      · have Hf := Lib.hid (show ∃ hi : j < R.length, findN FR.n nm R = some R[j] from ⟨hjR, findN_at hjR (fun k hk hkj => HN.out k hk hkj) he⟩)
        rw [he] at hcell
        have hq : (nm == nm) = true := beq_self_eq_true _
        clear he hjR hlen
        go_wp2
        go_ret
        obtain ⟨hi, hf⟩ := Hf.out
        exact ⟨Hb.out, .inl ⟨j, hi, rfl, hf⟩⟩
      · have hq : (R[j].f.n == nm) = false := beq_eq_false_iff_ne.2 he
        have HN2 := Lib.hid (show ∀ k (hk : k < R.length), k < j + 1 → R[k].f.n ≠ nm from fun k hk hkj => by
          rcases Nat.lt_or_eq_of_le (Nat.le_of_lt_succ hkj) with h1 | h1
          · exact HN.out k hk h1
          · subst h1; exact he)
        generalize R[j].f.n = xn at *
        clear he hjR
        go_wp2
        go_roundw
        case rel => exact ⟨j + 1, hlt, by go_num, HN2.out, by first | rfl | trivial⟩
        case measure => simp [intOf]; omega
    · have hji : ¬ (j : Int) < (n : Int) := by omega
      have Hf := Lib.hid (findN_no (R := R) (nm := nm) (fun k hk => HN.out k hk (by omega)))
      go_wp2
      go_ret
      exact ⟨Hb.out, .inr ⟨rfl, Hf.out⟩⟩
end Go.Proofs.YtjoolocdejnohaaGreat

