import Derived.Test.YtmiepigieajpcaaGreatMB10
import Derived.Test.YtmiepigieajpcaaGreatMB37
import Derived.Test.YtmiepigieajpcaaGreatMB38
import Derived.Test.YtmiepigieajpcaaGreatMB40
import Derived.Test.YtmiepigieajpcaaGreatMB23
import Derived.Deep.RegionHeld3
import Derived.Test.YtmiepigieajpcaaGreatMB30
import Derived.Test.YtmiepigieajpcaaGreatMB33
import Derived.Test.YtmiepigieajpcaaGreatShelf
import Derived.Test.YtmiepigieajpcaaGreatMB28
import Derived.Maps.AppendAt
import Derived.Deep.DeepCutAuto
import Derived.Deep.CutBlock
/- The walks of a log's recovery where there is none: a nil disk, one that is down, one without segments. -/
namespace Go.Proofs.YtmiepigieajpcaaGreat
open Go.RowKit Go.Maps Go.Shelf

attribute [local go_sem ↓] Go.wp_at_zero Go.wp_at_succ

/-- What is found. -/
structure FD where
  ra : Option Addr
  rn : Nat
  rc : Nat
  oa : Option Addr
  on : Nat
  oc : Nat
  n : Int
  mark : Bool
  pa : Option Addr
  pn : Nat
  pc : Nat
  wa : Option Addr
  wn : Nat
  wc : Nat
  tn : Int
  no : Bool

def foundV (x : FD) : Value := .agg #[.slice x.ra x.rn x.rc, .slice x.oa x.on x.oc, .int .i64 x.n, .bool x.mark, .slice x.pa x.pn x.pc, .slice x.wa x.wn x.wc, .int .i64 x.tn, .bool x.no]

def fd0 : FD := ⟨none, 0, 0, none, 0, 0, 0, false, none, 0, 0, none, 0, 0, 0, false⟩
def fd1 : FD := ⟨none, 0, 0, none, 0, 0, 1, false, none, 0, 0, none, 0, 0, 0, true⟩
def found0 : Value := foundV fd0
def found1 : Value := foundV fd1

set_option maxRecDepth 100000 in
theorem find_nil (w : World) : Calls Tryz.prog 57 #[.pointer none] w fun e w' => e = .returned (.tuple #[found0, .int .i64 1]) ∧ Below w.heap.size w w' := by
  have Hb := Lib.hid ((Below.refl w.heap.size w).alloc (Nat.le_refl _) (.cells #[.slice none 0 0, .slice none 0 0, .int .i64 0, .bool false, .slice none 0 0, .slice none 0 0, .int .i64 0, .bool false] 107))
  go_enter Tryz.func57, Tryz.ntmps57
  go_wp2
  refine bodyPost_ret (v := .tuple #[found0, .int .i64 1]) ?_ rfl ⟨rfl, Hb.out⟩
  rw [results_cell_tmp rfl]
  go_simp
  rfl

set_option maxRecDepth 100000 in
theorem find_down {w0 : World} {X : Nat → Prop} {w : World} {d : Nat} {M : DM} (hO : Own w0 X w d M) (hd : M.down = true) : Calls Tryz.prog 57 #[.pointer (some ⟨d, 0, none⟩)] w fun e w' => e = .returned (.tuple #[found0, .int .i64 10]) ∧ Below w.heap.size w w' := by
  have Hb := Lib.hid ((Below.refl w.heap.size w).alloc (Nat.le_refl _) (.cells #[.slice none 0 0, .slice none 0 0, .int .i64 0, .bool false, .slice none 0 0, .slice none 0 0, .int .i64 0, .bool false] 107))
  have HD := Lib.hid (own_down (hO.below ((Below.refl w.heap.size w).alloc (Nat.le_refl _) (.cells #[.slice none 0 0, .slice none 0 0, .int .i64 0, .bool false, .slice none 0 0, .slice none 0 0, .int .i64 0, .bool false] 107))))
  rw [hd] at HD
  clear hO hd
  go_enter Tryz.func57, Tryz.ntmps57
  go_wp2_with fail
  refine HD.out.mono ?_
  rintro e w1 ⟨rfl, rfl⟩
  go_wp2
  refine bodyPost_ret (v := .tuple #[found0, .int .i64 10]) ?_ rfl ⟨rfl, Hb.out⟩
  rw [results_cell_tmp rfl]
  go_simp
  rfl

set_option maxRecDepth 100000 in
set_option maxHeartbeats 3200000 in
theorem find_none {w0 : World} {X : Nat → Prop} {w : World} {d : Nat} {M : DM} (hO : Own w0 X w d M) (hd : M.down = false) (hl : M.fs.length ≤ 1000) (hnm : ∀ f ∈ M.fs, f.n.length ≤ 9223372036854775807) (hs : SegsOf M []) : Calls Tryz.prog 57 #[.pointer (some ⟨d, 0, none⟩)] w fun e w' => e = .returned (.tuple #[found1, .int .i64 0]) ∧ Below w.heap.size w w' := by
  obtain ⟨w1, hw1⟩ : ∃ w1, w1 = w.alloc (.cells #[.slice none 0 0, .slice none 0 0, .int .i64 0, .bool false, .slice none 0 0, .slice none 0 0, .int .i64 0, .bool false] 107) := ⟨_, rfl⟩
  have hb1 : Below w.heap.size w w1 := by rw [hw1]; exact (Below.refl _ _).alloc (Nat.le_refl _) _
  have hB1 : w1.heap[w.heap.size]? = some (.cells #[.slice none 0 0, .slice none 0 0, .int .i64 0, .bool false, .slice none 0 0, .slice none 0 0, .int .i64 0, .bool false] 107 (0, 0)) := by rw [hw1]; exact heap_alloc_new _ _
  have HD := Lib.hid (own_down (hO.below hb1))
  rw [hd] at HD
  have HLi := Lib.hid (own_list (hO.below hb1) (by omega))
  have Hnm := Lib.hid hnm
  have Hs := Lib.hid hs
  have Hb1 := Lib.hid hb1
  have HB1 := Lib.hid hB1
  have Hw1 := Lib.hid hw1
  clear hO hd hnm hs hb1 hB1 hw1
  go_enter Tryz.func57, Tryz.ntmps57
  go_wp2_with fail
  rw [← Hw1.out]
  refine HD.out.mono ?_
  rintro e w2 ⟨rfl, rfl⟩
  go_wp2_with fail
  refine HLi.out.mono ?_
  rintro e w3 ⟨v3, rfl, hown, hb3⟩
  obtain ⟨p3, k3, rfl, hS3⟩ := strs_row hown (fun n hn => by obtain ⟨f, hf, rfl⟩ := List.mem_map.1 hn; exact Hnm.out f hf)
  have HSl := Lib.hid (seglist_any p3 M.fs.length k3 _ w3 hS3 hl)
  have Hb3 := Lib.hid hb3
  clear hown hS3 hb3
  go_wp2_with fail
  refine HSl.out.mono ?_
  rintro e w4 ⟨v4, out, rfl, hasc, hmem, hol, hown4, hb4⟩
  have hmap : (M.fs.map F.n).map nmL = M.fs.map fun f => nmL f.n := by rw [List.map_map]; rfl
  rw [hmap] at hmem
  obtain rfl : out = [] := segsOf_uniq ⟨hasc, hmem⟩ Hs.out
  obtain ⟨p4, k4, rfl, _⟩ := own_ints hown4
  have Hb4 := Lib.hid (Hb3.out.trans (hb4.mono Hb3.out.size))
  have hB4 := (Hb4.out.block _ (Array.getElem?_eq_some_iff.1 HB1.out).1).trans HB1.out
  obtain ⟨c0, c1, c2, c3, c4, c5, c6, c7, cf⟩ := box8 hB4
  clear hasc hmem hol hmap hown4 hb4 hB4
  go_wp2
  refine bodyPost_ret (v := .tuple #[found1, .int .i64 0]) ?_ rfl ⟨rfl, ?_⟩
  · rw [results_cell_tmp rfl]
    go_simp
    rfl
  · have hb := Hb1.out.trans (Hb4.out.mono Hb1.out.size)
    exact (((((((hb.setCell (Nat.le_refl _) _).setCell (Nat.le_refl _) _).setCell (Nat.le_refl _) _).setCell (Nat.le_refl _) _).setCell (Nat.le_refl _) _).setCell (Nat.le_refl _) _).setCell (Nat.le_refl _) _).setCell (Nat.le_refl _) _

/-- What find answers, and what is said of it. -/
def FoundEnd (Q : FD → Int → World → Prop) (w : World) (e : Ending) (w' : World) : Prop :=
  ∃ x z, e = .returned (.tuple #[foundV x, .int .i64 z]) ∧ Q x z w' ∧ Below w.heap.size w w'

set_option maxRecDepth 100000 in
theorem look_of {Q : FD → Int → World → Prop} (hQ : ∀ x z (w1 w2 : World), Q x z w1 → Below w1.heap.size w1 w2 → Q x z w2) {v : Value} {w : World} (h : Calls Tryz.prog 57 #[v] w (FoundEnd Q w)) :
    Calls Tryz.prog 15 #[v] w fun e w' => ∃ x z, e = .returned (.tuple #[.slice x.ra x.rn x.rc, .int .i64 z]) ∧ Q x z w' ∧ Below w.heap.size w w' := by
  have H := Lib.hid h
  have HQ := Lib.hid hQ
  clear h hQ
  go_enter Tryz.func15, Tryz.ntmps15
  go_wp2_with fail
  refine H.out.mono ?_
  rintro e w1 ⟨x, z, rfl, hq, hb⟩
  unfold foundV
  have Hq := Lib.hid (HQ.out _ _ w1 (w1.alloc (.cells #[.slice x.ra x.rn x.rc, .slice x.oa x.on x.oc, .int .i64 x.n, .bool x.mark, .slice x.pa x.pn x.pc, .slice x.wa x.wn x.wc, .int .i64 x.tn, .bool x.no] 107)) hq ((Below.refl _ _).alloc (Nat.le_refl _) _))
  have Hb := Lib.hid (hb.alloc hb.size (.cells #[.slice x.ra x.rn x.rc, .slice x.oa x.on x.oc, .int .i64 x.n, .bool x.mark, .slice x.pa x.pn x.pc, .slice x.wa x.wn x.wc, .int .i64 x.tn, .bool x.no] 107))
  clear hq hb
  go_wp2
  go_ret2
  exact ⟨x, z, rfl, Hq.out, Hb.out⟩

set_option maxRecDepth 100000 in
theorem torn_of {Q : FD → Int → World → Prop} {v : Value} {w : World} (h : Calls Tryz.prog 57 #[v] w (FoundEnd Q w)) :
    Calls Tryz.prog 18 #[v] w fun e w' => ∃ x z w1, e = .returned (.int .i64 x.tn) ∧ Q x z w1 ∧ Below w.heap.size w w' := by
  have H := Lib.hid h
  clear h
  go_enter Tryz.func18, Tryz.ntmps18
  go_wp2_with fail
  refine H.out.mono ?_
  rintro e w1 ⟨x, z, rfl, hq, hb⟩
  unfold foundV
  have Hq := Lib.hid hq
  have Hb := Lib.hid (hb.alloc hb.size (.cells #[.slice x.ra x.rn x.rc, .slice x.oa x.on x.oc, .int .i64 x.n, .bool x.mark, .slice x.pa x.pn x.pc, .slice x.wa x.wn x.wc, .int .i64 x.tn, .bool x.no] 107))
  clear hq hb
  go_wp2
  go_ret
  exact ⟨x, z, w1, rfl, Hq.out, Hb.out⟩

set_option maxRecDepth 100000 in
/-- Open, where find answers a code other than OK. -/
theorem sopen_code {Q : FD → Int → World → Prop} {v : Value} {w : World} {most z0 : Int} (hz : z0 ≠ 0) (hQ : ∀ x z w1, Q x z w1 → z = z0) (h : Calls Tryz.prog 57 #[v] w (FoundEnd Q w)) :
    Calls Tryz.prog 21 #[v, .int .i64 most] w fun e w' => e = .returned (.tuple #[.pointer none, .slice none 0 0, .int .i64 z0]) ∧ Below w.heap.size w w' := by
  have H := Lib.hid h
  have HQ := Lib.hid hQ
  have hz0 : (z0 == 0) = false := by rw [beq_eq_false_iff_ne]; exact hz
  have hz1 : (z0 != 0) = true := by simp [hz]
  clear h hQ hz
  go_enter Tryz.func21, Tryz.ntmps21
  go_wp2_with fail
  refine H.out.mono ?_
  rintro e w1 ⟨x, z, rfl, hq, hb⟩
  obtain rfl := HQ.out _ _ _ hq
  unfold foundV
  have Hb := Lib.hid (hb.alloc hb.size (.cells #[.slice x.ra x.rn x.rc, .slice x.oa x.on x.oc, .int .i64 x.n, .bool x.mark, .slice x.pa x.pn x.pc, .slice x.wa x.wn x.wc, .int .i64 x.tn, .bool x.no] 107))
  clear hq hb
  go_wp2
  refine bodyPost_ret (results_tmp3 rfl _ _ _) rfl ⟨rfl, Hb.out⟩
end Go.Proofs.YtmiepigieajpcaaGreat

/- The walks of scan's take, whatever its steps do, and of the name of a segment's file. -/
namespace Go.Proofs.YtmiepigieajpcaaGreat
open Go.RowKit Go.Maps Go.Shelf

theorem sfile_any (N : Nat) (w : World) (h1 : 1 ≤ N) (hN : N ≤ 99999999) :
    Calls Tryz.prog 111 #[.int .i64 (N : Int)] w fun e w' => e = .returned (encStr (nmB N)) ∧ Below w.heap.size w w' := by
  have HI := Lib.hid (fun w1 => segname_yes N w1 h1 hN)
  clear h1 hN
  go_enter Tryz.func111, Tryz.ntmps111
  go_wp2_with fail
  refine (HI.out _).mono ?_
  rintro e w' ⟨rfl, hb⟩
  have Hb := Lib.hid hb
  clear hb
  go_wp2
  go_ret
  exact ⟨rfl, Hb.out⟩

/-- A step: the function that it runs, and what this has captured. -/
structure SK where
  k : Nat
  caps : Array Value

def skV (x : SK) : Value := .func (.func x.k) #[] x.caps

/-- What a step leaves. -/
def SkEnd (Q : Int → World → Prop) (J : World → Prop) (e : Ending) (w : World) : Prop :=
  ∃ z : Int, e = .returned (.int .i64 z) ∧ (z = 0 → J w) ∧ (z ≠ 0 → Q z w)

set_option maxRecDepth 100000 in
set_option maxHeartbeats 3200000 in
theorem stake_any (a : Option Addr) (n cap : Nat) (L : List SK) (hn : L.length = n) (hm : n ≤ 1000) (J : Nat → World → Prop) (Q : Int → World → Prop) (w : World)
    (hent : ∀ (j : Nat) (hj : j < L.length) args w, (callFunc L[j].k args).run Tryz.prog w = .ok (.enter L[j].k args) w) (h0 : J 0 w)
    (hrow : 0 < n → ∃ b o, a = some ⟨b, o, none⟩ ∧ ∀ (j : Nat) (hj : j < L.length) w', J j w' → w'.cell? ⟨b, o + j, none⟩ = some (skV L[j]))
    (hstep : ∀ (j : Nat) (hj : j < L.length) w', J j w' → Calls Tryz.prog L[j].k L[j].caps w' (SkEnd Q (J (j + 1)))) :
    Calls Tryz.prog 65 #[.slice a n cap] w (SkEnd Q (J n)) := by
  have HN := Lib.hid hn
  have HEnt := Lib.hid hent
  have H0 := Lib.hid h0
  have HRow := Lib.hid hrow
  have HStep := Lib.hid hstep
  clear hn hent h0 hrow hstep
  go_enter Tryz.func65, Tryz.ntmps65
  go_wp2
  go_loopw [8] (fun i wr => ∃ j : Nat, j ≤ n ∧ i = .int .i64 (j : Int) ∧ J j wr) (fun i _ => n - (intOf i).toNat)
  case atStart => exact ⟨0, Nat.zero_le _, rfl, H0.out⟩
  case round =>
    obtain ⟨j, hj, rfl, hJ⟩ := hrel
    by_cases hlt : j < n
    · have hjl : j < L.length := by rw [HN.out]; exact hlt
      obtain ⟨b, o, rfl, hr⟩ := HRow.out (by omega)
      have r0 := hr j hjl wr hJ
      unfold skV at r0
      have he := HEnt.out j hjl
      have HS := Lib.hid (HStep.out j hjl wr hJ)
      have Hlt := Lib.hid hlt
      have hji : (j : Int) < (n : Int) := by omega
      clear hJ hr
      generalize hLj : L[j] = x at *
      obtain ⟨k, caps⟩ := x
      simp only at *
      clear hLj
      go_wp2_with fail
      refine HS.out.mono ?_
      rintro e w2 ⟨code, rfl, h1, h2⟩
      by_cases hc : code = 0
      · subst hc
        have HJ2 := Lib.hid (h1 rfl)
        clear h1 h2
        go_wp2
        go_roundw
        case rel => exact ⟨j + 1, Hlt.out, by go_num, HJ2.out⟩
        case measure => simp [intOf]; omega
      · have HQ := Lib.hid (h2 hc)
        have hc1 : (code == 0) = false := by simpa using hc
        have hc2 : (code != 0) = true := by simpa using hc
        have hc3 := Lib.hid hc
        clear h1 h2 hc
        go_wp2
        go_ret
        exact ⟨code, rfl, fun h => absurd h hc3.out, fun _ => HQ.out⟩
    · obtain rfl : n = j := by omega
      have HJ := Lib.hid hJ
      have hji : ¬ (n : Int) < (n : Int) := by omega
      clear hJ
      go_wp2
      go_ret
      exact ⟨0, rfl, fun _ => HJ.out, fun h => absurd rfl h⟩
end Go.Proofs.YtmiepigieajpcaaGreat

/- The walks of the steps of scan's Open: what each closure does on a disk of the call's own. -/
namespace Go.Proofs.YtmiepigieajpcaaGreat
open Go.RowKit Go.Maps Go.Shelf

def cutB : List UInt8 := [99, 117, 116]
def newB : List UInt8 := [110, 101, 119]

section
variable {w0 : World} {X : Nat → Prop} {w : World} {d : Nat} {M : DM}

set_option maxRecDepth 100000 in
set_option maxHeartbeats 1600000 in
theorem do_removing (h : Own w0 X w d M) (b1 b2 : Nat) (nm : List UInt8) (hn : nm.length ≤ 9223372036854775807) (k2 : w.cell? ⟨b2, 0, none⟩ = some (encStr nm)) (k1 : w.cell? ⟨b1, 0, none⟩ = some (.pointer (some ⟨d, 0, none⟩))) :
    Calls Tryz.prog 151 #[.pointer (some ⟨b1, 0, none⟩), .pointer (some ⟨b2, 0, none⟩)] w (OwnAct w0 X w d (removeM nm M)) := by
  have HA := Lib.hid (own_remove h nm hn)
  clear h
  go_enter Tryz.func151, Tryz.ntmps151
  go_wp2_with fail
  refine HA.out.mono ?_
  rintro e w5 ⟨rfl, hq⟩
  have Hq := Lib.hid hq
  clear hq
  go_wp2
  go_ret
  exact ⟨rfl, Hq.out⟩

set_option maxRecDepth 100000 in
set_option maxHeartbeats 1600000 in
theorem do_creating (h : Own w0 X w d M) (b1 b2 : Nat) (nm : List UInt8) (hn : nm.length ≤ 9223372036854775807) (hL : M.fs.length < 1000000) (k2 : w.cell? ⟨b2, 0, none⟩ = some (encStr nm)) (k1 : w.cell? ⟨b1, 0, none⟩ = some (.pointer (some ⟨d, 0, none⟩))) :
    Calls Tryz.prog 112 #[.pointer (some ⟨b1, 0, none⟩), .pointer (some ⟨b2, 0, none⟩)] w (OwnAct w0 X w d (createM nm M)) := by
  have HA := Lib.hid (own_create h nm hn hL)
  clear h
  go_enter Tryz.func112, Tryz.ntmps112
  go_wp2_with fail
  refine HA.out.mono ?_
  rintro e w5 ⟨rfl, hq⟩
  have Hq := Lib.hid hq
  clear hq
  go_wp2
  go_ret
  exact ⟨rfl, Hq.out⟩

set_option maxRecDepth 100000 in
set_option maxHeartbeats 1600000 in
theorem do_syncing (h : Own w0 X w d M) (b1 b2 : Nat) (nm : List UInt8) (hn : nm.length ≤ 9223372036854775807) (k2 : w.cell? ⟨b2, 0, none⟩ = some (encStr nm)) (k1 : w.cell? ⟨b1, 0, none⟩ = some (.pointer (some ⟨d, 0, none⟩))) :
    Calls Tryz.prog 114 #[.pointer (some ⟨b1, 0, none⟩), .pointer (some ⟨b2, 0, none⟩)] w (OwnAct w0 X w d (syncM nm M)) := by
  have HA := Lib.hid (own_sync h nm hn)
  clear h
  go_enter Tryz.func114, Tryz.ntmps114
  go_wp2_with fail
  refine HA.out.mono ?_
  rintro e w5 ⟨rfl, hq⟩
  have Hq := Lib.hid hq
  clear hq
  go_wp2
  go_ret
  exact ⟨rfl, Hq.out⟩

set_option maxRecDepth 100000 in
set_option maxHeartbeats 1600000 in
theorem do_cut1 (h : Own w0 X w d M) (b1 : Nat) (hL : M.fs.length < 1000000) (k1 : w.cell? ⟨b1, 0, none⟩ = some (.pointer (some ⟨d, 0, none⟩))) :
    Calls Tryz.prog 153 #[.pointer (some ⟨b1, 0, none⟩)] w (OwnAct w0 X w d (createM cutB M)) := by
  have HA := Lib.hid (own_create h cutB (by decide) hL)
  clear h
  go_enter Tryz.func153, Tryz.ntmps153
  go_wp2_with fail
  refine HA.out.mono ?_
  rintro e w5 ⟨rfl, hq⟩
  have Hq := Lib.hid hq
  clear hq
  go_wp2
  go_ret
  exact ⟨rfl, Hq.out⟩

set_option maxRecDepth 100000 in
set_option maxHeartbeats 1600000 in
theorem do_cut2 (h : Own w0 X w d M) (b1 b2 : Nat) (p : Option Addr) (m c : Nat) (l : List Nat) (hB : Bytes w p m c l) (hap : 0 < m → ∀ a, p = some a → X a.block ∨ a.block < w0.heap.size) (hlim : usedF M.fs + l.length ≤ 140737488355328) (k2 : w.cell? ⟨b2, 0, none⟩ = some (.slice p m c)) (k1 : w.cell? ⟨b1, 0, none⟩ = some (.pointer (some ⟨d, 0, none⟩))) :
    Calls Tryz.prog 154 #[.pointer (some ⟨b1, 0, none⟩), .pointer (some ⟨b2, 0, none⟩)] w (OwnAct w0 X w d (appendM cutB l M)) := by
  have HA := Lib.hid (own_append h cutB (by decide) p m c l hB hap hlim)
  clear h
  go_enter Tryz.func154, Tryz.ntmps154
  go_wp2_with fail
  refine HA.out.mono ?_
  rintro e w5 ⟨rfl, hq⟩
  have Hq := Lib.hid hq
  clear hq
  go_wp2
  go_ret
  exact ⟨rfl, Hq.out⟩

set_option maxRecDepth 100000 in
set_option maxHeartbeats 1600000 in
theorem do_cut3 (h : Own w0 X w d M) (b1 : Nat) (k1 : w.cell? ⟨b1, 0, none⟩ = some (.pointer (some ⟨d, 0, none⟩))) :
    Calls Tryz.prog 155 #[.pointer (some ⟨b1, 0, none⟩)] w (OwnAct w0 X w d (syncM cutB M)) := by
  have HA := Lib.hid (own_sync h cutB (by decide))
  clear h
  go_enter Tryz.func155, Tryz.ntmps155
  go_wp2_with fail
  refine HA.out.mono ?_
  rintro e w5 ⟨rfl, hq⟩
  have Hq := Lib.hid hq
  clear hq
  go_wp2
  go_ret
  exact ⟨rfl, Hq.out⟩

set_option maxRecDepth 100000 in
set_option maxHeartbeats 1600000 in
theorem do_cut4 (h : Own w0 X w d M) (b1 b2 : Nat) (nm : List UInt8) (hn : nm.length ≤ 9223372036854775807) (hL : M.fs.length < 1000000) (k2 : w.cell? ⟨b2, 0, none⟩ = some (encStr nm)) (k1 : w.cell? ⟨b1, 0, none⟩ = some (.pointer (some ⟨d, 0, none⟩))) :
    Calls Tryz.prog 156 #[.pointer (some ⟨b1, 0, none⟩), .pointer (some ⟨b2, 0, none⟩)] w (OwnAct w0 X w d (renameM cutB nm M)) := by
  have HA := Lib.hid (own_rename h cutB nm (by decide) hn hL)
  clear h
  go_enter Tryz.func156, Tryz.ntmps156
  go_wp2_with fail
  refine HA.out.mono ?_
  rintro e w5 ⟨rfl, hq⟩
  have Hq := Lib.hid hq
  clear hq
  go_wp2
  go_ret
  exact ⟨rfl, Hq.out⟩
end
end Go.Proofs.YtmiepigieajpcaaGreat

/- The walk of scan's Open on a disk without files, and of the statements' example. -/
namespace Go.Proofs.YtmiepigieajpcaaGreat
open Go.RowKit Go.Maps Go.Shelf

theorem info_step : (Tryz.prog.info? 172).map (fun i => (i.zero, i.size, i.bytes)) = some (some .nilFunc, 1, 8) := by kernel_rfl

theorem new_cell {w : World} {b i : Nat} {cs : Array Value} {t : TypeId} {v : Value} (hb : b = w.heap.size) (hv : cs[i]? = some v) : (w.alloc (.cells cs t)).drew.cell? ⟨b, i, none⟩ = some v := by
  subst hb
  show (w.alloc (.cells cs t)).cell? _ = _
  rw [cell_of_row _ _ _ _ _ (0, 0) (heap_alloc_new _ _)]
  exact hv

set_option maxRecDepth 100000 in
set_option maxHeartbeats 3200000 in
theorem repairs_empty {w0 : World} {X : Nat → Prop} {w : World} {d : Nat} {M : DM} (hO : Own w0 X w d M) (hf : M.fs = []) :
    Calls Tryz.prog 66 #[found1, .pointer (some ⟨d, 0, none⟩)] w fun e w' => ∃ r c b1 b2, e = .returned (.slice (some ⟨r, 0, none⟩) 1 c) ∧ w.heap.size ≤ r ∧ w.heap.size ≤ b1 ∧ w.heap.size ≤ b2 ∧
      w'.cell? ⟨r, 0, none⟩ = some (skV ⟨112, #[.pointer (some ⟨b1, 0, none⟩), .pointer (some ⟨b2, 0, none⟩)]⟩) ∧ w'.cell? ⟨b1, 0, none⟩ = some (.pointer (some ⟨d, 0, none⟩)) ∧ w'.cell? ⟨b2, 0, none⟩ = some (encStr (nmB 1)) ∧ Below w.heap.size w w' := by
  have HO := Lib.hid (fun W (hW : Below w.heap.size w W) => own_list (hO.below hW) (by rw [hf]; decide))
  rw [hf] at HO
  clear hO hf
  unfold found1 fd1 foundV
  go_enter Tryz.func66, Tryz.ntmps66
  go_wp2_with fail
  obtain ⟨w1, hw1⟩ : ∃ w1, w1 = (w.alloc (.cells #[.slice none 0 0, .slice none 0 0, .int .i64 1, .bool false, .slice none 0 0, .slice none 0 0, .int .i64 0, .bool true] 107)).alloc (.cells #[.pointer (some ⟨d, 0, none⟩)] 23) := ⟨_, rfl⟩
  rw [← hw1]
  have hb1 : Below w.heap.size w w1 := by rw [hw1]; exact ((Below.refl _ _).alloc (Nat.le_refl _) _).alloc (by simp) _
  have hz1 : w1.heap.size = w.heap.size + 2 := by rw [hw1]; simp
  have hB1 : w1.heap[w.heap.size]? = some (.cells #[.slice none 0 0, .slice none 0 0, .int .i64 1, .bool false, .slice none 0 0, .slice none 0 0, .int .i64 0, .bool true] 107 (0, 0)) := by rw [hw1]; exact (Below.heap_alloc _ _ _ (by simp)).trans (heap_alloc_new _ _)
  have hB2 : w1.heap[w.heap.size + 1]? = some (.cells #[.pointer (some ⟨d, 0, none⟩)] 23 (0, 0)) := by
    have := heap_alloc_new (w.alloc (.cells #[.slice none 0 0, .slice none 0 0, .int .i64 1, .bool false, .slice none 0 0, .slice none 0 0, .int .i64 0, .bool true] 107)) (.cells #[.pointer (some ⟨d, 0, none⟩)] 23)
    rw [World.size_alloc] at this
    rw [hw1]; exact this
  have Hb1 := Lib.hid hb1
  have HB1 := Lib.hid hB1
  have HB2 := Lib.hid hB2
  have Hz1 := Lib.hid hz1
  have HL := Lib.hid (HO.out w1 hb1)
  clear hw1 hb1 hz1 hB1 hB2 HO
  refine HL.out.mono ?_
  rintro e w2 ⟨v2, rfl, hown2, hb2⟩
  obtain ⟨p2, k2, rfl, _⟩ := strs_row (ns := []) hown2 (fun n hn => by cases hn)
  have Hb2 := Lib.hid hb2
  have HCn := Lib.hid (fun x W => Tryz.slices_Contains_string_empty p2 k2 x W)
  clear hown2 hb2
  go_wp2_with fail
  obtain ⟨w3, hw3⟩ : ∃ w3, w3 = w2.alloc (.cells #[.string ⟨#[99, 117, 116]⟩, .string ⟨#[110, 101, 119]⟩] 9) := ⟨_, rfl⟩
  rw [← hw3]
  have hb3 : Below w2.heap.size w2 w3 := by rw [hw3]; exact (Below.refl _ _).alloc (Nat.le_refl _) _
  have hR3 : w3.heap[w2.heap.size]? = some (.cells #[.string ⟨#[99, 117, 116]⟩, .string ⟨#[110, 101, 119]⟩] 9 (0, 0)) := by rw [hw3]; exact heap_alloc_new _ _
  have r0 : w3.cell? ⟨w2.heap.size, 0, none⟩ = some (.string ⟨#[99, 117, 116]⟩) := by rw [cell_of_row _ _ _ _ _ (0, 0) hR3]; rfl
  have r1 : w3.cell? ⟨w2.heap.size, 1, none⟩ = some (.string ⟨#[110, 101, 119]⟩) := by rw [cell_of_row _ _ _ _ _ (0, 0) hR3]; rfl
  have Hb3 := Lib.hid (Hb1.out.trans ((Hb2.out.trans (hb3.mono Hb2.out.size)).mono Hb1.out.size))
  have Hb13 := Lib.hid (Hb2.out.trans (hb3.mono Hb2.out.size))
  clear hw3 hb3 hR3
  go_loopw [6, 16] (fun s i wr => s = .slice none 0 0 ∧ ∃ j : Nat, j ≤ 2 ∧ i = .int .i64 (j : Int) ∧ wr = w3) (fun _ i _ => 2 - (intOf i).toNat)
  case atStart => exact ⟨rfl, 0, Nat.zero_le _, rfl, rfl⟩
  case round =>
    obtain ⟨rfl, j, hj, rfl, rfl⟩ := hrel
    rcases (show j = 0 ∨ j = 1 ∨ j = 2 by omega) with rfl | rfl | rfl
    · go_wp2_with fail
      refine (HCn.out _ _).mono ?_
      rintro e w4 ⟨rfl, rfl⟩
      go_wp2
      go_roundw
      case rel => exact ⟨rfl, 1, by omega, rfl, trivial⟩
      case measure => simp [intOf]
    · go_wp2_with fail
      refine (HCn.out _ _).mono ?_
      rintro e w4 ⟨rfl, rfl⟩
      go_wp2
      go_roundw
      case rel => exact ⟨rfl, 2, by omega, rfl, trivial⟩
      case measure => simp [intOf]
    · obtain ⟨c0, c1, c2, c3, c4, c5, c6, c7, cf⟩ := box8 ((Hb13.out.block _ (Array.getElem?_eq_some_iff.1 HB1.out).1).trans HB1.out)
      have HF := Lib.hid (fun W => sfile_any 1 W (by omega) (by omega))
      go_wp2_with fail
      refine (HF.out _).mono ?_
      rintro e w4 ⟨rfl, hb4⟩
      have Hb4 := Lib.hid (Hb3.out.trans (hb4.mono Hb3.out.size))
      have hq1 := (((Hb13.out.trans (hb4.mono Hb13.out.size)).block _ (Array.getElem?_eq_some_iff.1 HB1.out).1).trans HB1.out)
      have e7 := fun o => row_alloc' hq1 o 7
      simp only [List.getElem?_toArray, List.getElem?_cons_zero, List.getElem?_cons_succ] at e7
      have hB2 := ((Hb13.out.trans (hb4.mono Hb13.out.size)).block _ (Array.getElem?_eq_some_iff.1 HB2.out).1).trans HB2.out
      have HB2' := Lib.hid hB2
      clear hb4 hB2 hq1
      go_wp2_with fail
      go_ret
      have hs4 := Hb4.out.size
      refine ⟨w4.heap.size + 1 + 1, _, w.heap.size + 1, w4.heap.size, rfl, by omega, by omega, hs4, ?_, ?_, ?_, ?_⟩
      · exact new_cell (by simp) (by rw [Array.getElem?_append_left (by simp)]; rfl)
      · refine cell_keep ((((Below.refl w4.heap.size w4).alloc (Nat.le_refl _) _).alloc (by simp) _).alloc (by simp; omega) _).drew ?_
        rw [cell_of_row _ _ _ _ _ (0, 0) HB2'.out]
        rfl
      · refine cell_keep (w := w4.alloc (.cells #[.string ⟨(nmB 1).toArray⟩] 9)) (((Below.refl _ _).alloc (Nat.le_refl _) _).alloc (by simp) _).drew ?_
        rw [cell_of_row _ _ _ _ _ (0, 0) (heap_alloc_new _ _)]
        rfl
      · exact (((Hb4.out.alloc hs4 _).alloc (by simp; omega) _).alloc (by simp; omega) _).drew
end Go.Proofs.YtmiepigieajpcaaGreat

/- The walk of scan's Open on a disk without files. -/
namespace Go.Proofs.YtmiepigieajpcaaGreat
open Go.RowKit Go.Maps Go.Shelf

attribute [local go_sem ↓] Go.wp_at_zero Go.wp_at_succ

theorem segs_none {M : DM} (hf : M.fs = []) : SegsOf M [] := by
  unfold SegsOf
  rw [hf]
  refine ⟨List.Pairwise.nil, fun x => ⟨fun h => by simp at h, fun h => ?_⟩⟩
  obtain ⟨a, b⟩ := h
  simp at b

def repK (b1 b2 : Nat) : SK := ⟨112, #[.pointer (some ⟨b1, 0, none⟩), .pointer (some ⟨b2, 0, none⟩)]⟩

theorem repK_ent (b1 b2 : Nat) (args : Array Value) (w : World) : (callFunc (repK b1 b2).k args).run Tryz.prog w = .ok (.enter (repK b1 b2).k args) w := by
  kernel_rfl

theorem take_rep {w0 : World} {X : Nat → Prop} {w : World} {d : Nat} {M : DM} (hO : Own w0 X w d M) (hf : M.fs = []) (hc : (createM (nmB 1) M).2 = 0) (r c b1 b2 : Nat)
    (k0 : w.cell? ⟨r, 0, none⟩ = some (skV (repK b1 b2))) (k1 : w.cell? ⟨b1, 0, none⟩ = some (.pointer (some ⟨d, 0, none⟩))) (k2 : w.cell? ⟨b2, 0, none⟩ = some (encStr (nmB 1))) :
    Calls Tryz.prog 65 #[.slice (some ⟨r, 0, none⟩) 1 c] w fun e w' => e = .returned (.int .i64 0) ∧ OwnEnd w0 X w d (createM (nmB 1) M).1 w' := by
  refine (stake_any (some ⟨r, 0, none⟩) 1 c [repK b1 b2] rfl (by decide) (fun j w' => (j = 0 ∧ w' = w) ∨ (j = 1 ∧ OwnEnd w0 X w d (createM (nmB 1) M).1 w')) (fun _ _ => False) w ?_ (.inl ⟨rfl, rfl⟩) ?_ ?_).mono ?_
  · intro j hj args w'
    obtain rfl : j = 0 := by simpa using hj
    exact repK_ent b1 b2 args w'
  · intro _
    refine ⟨r, 0, rfl, fun j hj w' hJ => ?_⟩
    obtain rfl : j = 0 := by simpa using hj
    rcases hJ with ⟨_, rfl⟩ | ⟨h, _⟩
    · exact k0
    · cases h
  · intro j hj w' hJ
    obtain rfl : j = 0 := by simpa using hj
    rcases hJ with ⟨_, rfl⟩ | ⟨h, _⟩
    · refine (do_creating hO b1 b2 (nmB 1) (nmB_len 1) (by rw [hf]; decide) k2 k1).mono ?_
      rintro e w2 ⟨rfl, hq⟩
      exact ⟨_, rfl, fun _ => .inr ⟨rfl, hq⟩, fun h => absurd hc h⟩
    · cases h
  · rintro e w' ⟨z, rfl, hz, hn⟩
    by_cases h : z = 0
    · subst h
      rcases hz rfl with ⟨h, _⟩ | ⟨_, h⟩
      · cases h
      · exact ⟨rfl, h⟩
    · exact (hn h).elim

set_option maxRecDepth 100000 in
set_option maxHeartbeats 3200000 in
theorem sopen_empty {w0 : World} {X : Nat → Prop} {w : World} {d : Nat} {M : DM} (hO : Own w0 X w d M) (hd : M.down = false) (hf : M.fs = []) (hc : (createM (nmB 1) M).2 = 0) (most : Int) :
    Calls Tryz.prog 21 #[.pointer (some ⟨d, 0, none⟩), .int .i64 most] w fun e w' => ∃ g, e = .returned (.tuple #[.pointer (some ⟨g, 0, none⟩), .slice none 0 0, .int .i64 0]) ∧ LogAt w0 (fun b => X b ∨ b = g) w' g d ⟨(createM (nmB 1) M).1, most, 1, 0, 0⟩ ∧ (∀ b, X b → w'.heap[b]? = w.heap[b]?) := by
  have HF := Lib.hid (find_none hO hd (by rw [hf]; decide) (by rw [hf]; intro _ h; cases h) (segs_none hf))
  have HR := Lib.hid (fun w1 (hb : Below w.heap.size w w1) => repairs_empty (hO.below hb) hf)
  have HT := Lib.hid (fun w1 (hb : Below w.heap.size w w1) => take_rep (hO.more hb (Y := fun b => X b ∨ (w.heap.size ≤ b ∧ b < w1.heap.size)) (fun _ h => h)) hf hc)
  have hw0 := fun W => wnew_any d 1 0 most W
  simp only [Int.natCast_one, Int.natCast_zero] at hw0
  have HW := Lib.hid hw0
  clear hw0
  have Hsz := Lib.hid hO.base.size
  have HX := Lib.hid (show ∀ b, X b → b < w.heap.size by obtain ⟨_, _, _, h, _⟩ := hO; exact h)
  clear hO hd hf hc
  go_enter Tryz.func21, Tryz.ntmps21
  go_wp2_with fail
  refine HF.out.mono ?_
  rintro e w1 ⟨rfl, hb⟩
  unfold found1 fd1 foundV
  obtain ⟨w2, hw2⟩ : ∃ w2, w2 = w1.alloc (.cells #[.slice none 0 0, .slice none 0 0, .int .i64 1, .bool false, .slice none 0 0, .slice none 0 0, .int .i64 0, .bool true] 107) := ⟨_, rfl⟩
  have hb2 : Below w.heap.size w w2 := by rw [hw2]; exact hb.alloc hb.size _
  have hB2 : w2.heap[w1.heap.size]? = some (.cells #[.slice none 0 0, .slice none 0 0, .int .i64 1, .bool false, .slice none 0 0, .slice none 0 0, .int .i64 0, .bool true] 107 (0, 0)) := by rw [hw2]; exact heap_alloc_new _ _
  have Hb2 := Lib.hid hb2
  have HB2 := Lib.hid hB2
  have hz := hb.size
  have HR2 := Lib.hid (HR.out w2 hb2)
  unfold found1 fd1 foundV at HR2
  clear hb hb2 hB2
  go_wp2_with fail
  rw [← hw2]
  refine HR2.out.mono ?_
  rintro e w3 ⟨r, c, p1, p2, rfl, gr, g1, g2, k0, k1, k2, hb3⟩
  have Hb3 := Lib.hid (Hb2.out.trans (hb3.mono Hb2.out.size))
  have HT3 := Lib.hid (HT.out w3 Hb3.out r c p1 p2 k0 k1 k2)
  have hB3 := (hb3.block _ (Array.getElem?_eq_some_iff.1 HB2.out).1).trans HB2.out
  have HB3 := Lib.hid hB3
  clear hb3 hB3 gr g1 g2 k0 k1 k2 hw2
  go_wp2_with fail
  refine HT3.out.mono ?_
  rintro e w4 ⟨rfl, ho4, hx4, hb4, hz4⟩
  have hB4 := (hx4 w1.heap.size (.inr ⟨hz, (Array.getElem?_eq_some_iff.1 HB3.out).1⟩)).trans HB3.out
  obtain ⟨c0, c1, c2, c3, c4, c5, c6, c7, cf⟩ := box8 hB4
  have Ho4 := Lib.hid ho4
  have Hx4 := Lib.hid hx4
  have hlt4 := (Array.getElem?_eq_some_iff.1 hB4).1
  have HK := Lib.hid (fun W (h : Below w4.heap.size w4 W) => And.intro ((h.cell (p := ⟨w1.heap.size, 0, none⟩) hlt4).trans c0) (And.intro ((h.cell (p := ⟨w1.heap.size, 2, none⟩) hlt4).trans c2) ((h.cell (p := ⟨w1.heap.size, 5, none⟩) hlt4).trans c5)))
  clear ho4 hx4 hb4 hB4
  go_upto_region 6 with fail
  go_cut [4, 5, 6] (fun p q z wx => ∃ g, p = .pointer (some ⟨g, 0, none⟩) ∧ q = .slice none 0 0 ∧ z = .int .i64 0 ∧ w4.heap.size ≤ g ∧ wx.heap[g]? = some (.cells #[.int .i64 1, .int .i64 0, .int .i64 0, .pointer (some ⟨d, 0, none⟩), .int .i64 most] 129 (0, 0)) ∧ Below w4.heap.size w4 wx)
  case first =>
    go_region_held3 (fun w' => w'.cell? ⟨w1.heap.size, 0, none⟩ = some (.slice none 0 0) ∧ w'.cell? ⟨w1.heap.size, 2, none⟩ = some (.int .i64 1) ∧ w'.cell? ⟨w1.heap.size, 5, none⟩ = some (.slice none 0 0))
      (first | exact HK.out _ (by (repeat (first | assumption | exact Below.refl _ _ | refine Below.drew ?_ | refine Below.alloc ?_ (by (first | exact Nat.le_refl _ | (simp; done) | (simp; omega) | omega)) _))))
      (first
        | (go_at_call 67; (with_reducible refine (HW.out _).mono ?_); rintro e w5 ⟨rfl, rfl⟩))
    all_goals go_wp2_with fail
    all_goals go_meet
    all_goals exact ⟨_, rfl, rfl, rfl, Nat.le_refl _, heap_alloc_new _ _, by (repeat (first | assumption | exact Below.refl _ _ | refine Below.drew ?_ | refine Below.alloc ?_ (by (first | exact Nat.le_refl _ | (simp; done) | (simp; omega) | omega)) _))⟩
  case rest =>
    obtain ⟨g, rfl, rfl, rfl, hg, hG, hb5⟩ := hcut
    have Hb5 := Lib.hid hb5
    have HG := Lib.hid hG
    clear hb5 hG
    go_wp2
    refine bodyPost_ret (results_tmp3 rfl _ _ _) rfl ?_
    refine ⟨g, rfl, ⟨?_, .inr rfl, ?_, ?_⟩, ?_⟩
    · exact (Ho4.out.sub (fun b hb => Or.inl hb)).more Hb5.out (fun b hb => hb.elim .inl (fun h => .inr ⟨by omega, by have := (Array.getElem?_eq_some_iff.1 HG.out).1; omega⟩))
    · have := Hsz.out
      omega
    · exact HG.out
    · intro b hb
      have h1 := HX.out b hb
      exact (Hb5.out.block b (by omega)).trans ((Hx4.out b (.inl hb)).trans (Hb3.out.block b h1))
end Go.Proofs.YtmiepigieajpcaaGreat

/- The example of the chapter on scan. -/
namespace Go.Proofs.YtmiepigieajpcaaGreat
open Go.RowKit Go.Maps Go.Shelf

attribute [local go_sem ↓] Go.wp_at_zero Go.wp_at_succ

theorem create100 : (createM (nmB 1) (newM 100)).2 = 0 := by decide +kernel

set_option maxRecDepth 100000 in
set_option maxHeartbeats 3200000 in
theorem salive_any (w : World) : Calls Tryz.prog 14 #[] w fun e w' => e = .returned (.bool true) ∧ Below w.heap.size w w' := by
  have HN := Lib.hid (own_new 100 w (by decide))
  go_enter Tryz.func14, Tryz.ntmps14
  go_wp2_with fail
  refine HN.out.mono ?_
  rintro e w1 ⟨d, rfl, ho1, _⟩
  have HO := Lib.hid (sopen_empty ho1 rfl rfl create100 50)
  clear ho1
  go_wp2_with fail
  refine HO.out.mono ?_
  rintro e w2 ⟨g, rfl, hL, _⟩
  obtain ⟨g0, g1, g2, g3, g4⟩ := hL.cell
  have Hb := Lib.hid hL.own.base
  clear hL g3 g4
  have H1 := Lib.hid (segment_any g0)
  have H2 := Lib.hid (wsize_any g1)
  clear g0 g1 g2
  go_wp2_with (first
    | (go_at_call 25; refine H1.out.mono ?_; rintro e w' ⟨rfl, rfl⟩)
    | (go_at_call 26; refine H2.out.mono ?_; rintro e w' ⟨rfl, rfl⟩))
  go_ret
  exact ⟨rfl, Hb.out⟩
end Go.Proofs.YtmiepigieajpcaaGreat

/- The walks of removing and cutting, which make steps, and of the statements' opened. -/
namespace Go.Proofs.YtmiepigieajpcaaGreat
open Go.RowKit Go.Maps Go.Shelf

attribute [local go_sem ↓] Go.wp_at_zero Go.wp_at_succ

set_option maxRecDepth 100000 in
theorem removing_any (d : Nat) (nm : List UInt8) (w : World) :
    Calls Tryz.prog 110 #[.pointer (some ⟨d, 0, none⟩), encStr nm] w fun e w' => ∃ b1 b2, e = .returned (skV ⟨151, #[.pointer (some ⟨b1, 0, none⟩), .pointer (some ⟨b2, 0, none⟩)]⟩) ∧ w.heap.size ≤ b1 ∧ w.heap.size ≤ b2 ∧
      w'.cell? ⟨b1, 0, none⟩ = some (.pointer (some ⟨d, 0, none⟩)) ∧ w'.cell? ⟨b2, 0, none⟩ = some (encStr nm) ∧ Below w.heap.size w w' := by
  unfold encStr
  go_enter Tryz.func110, Tryz.ntmps110
  go_wp2
  go_ret
  refine ⟨w.heap.size, w.heap.size + 1, rfl, Nat.le_refl _, Nat.le_succ _, ?_, ?_, ((Below.refl _ _).alloc (Nat.le_refl _) _).alloc (by simp) _⟩
  · rw [cell_of_row _ _ _ _ _ (0, 0) ((Below.heap_alloc _ _ _ (by simp)).trans (heap_alloc_new w (.cells #[.pointer (some ⟨d, 0, none⟩)] 23)))]
    rfl
  · have h2 := heap_alloc_new (w.alloc (.cells #[.pointer (some ⟨d, 0, none⟩)] 23)) (.cells #[.string ⟨nm.toArray⟩] 9)
    rw [World.size_alloc] at h2
    rw [cell_of_row _ _ _ _ _ (0, 0) h2]
    rfl

set_option maxRecDepth 100000 in
theorem cutting_any (d : Nat) (nm : List UInt8) (p : Option Addr) (n c : Nat) (w : World) :
    Calls Tryz.prog 113 #[.pointer (some ⟨d, 0, none⟩), encStr nm, .slice p n c] w fun e w' => ∃ r b1 b2 b3, e = .returned (.slice (some ⟨r, 0, none⟩) 4 4) ∧ w.heap.size ≤ r ∧ w.heap.size ≤ b1 ∧ w.heap.size ≤ b2 ∧ w.heap.size ≤ b3 ∧
      w'.cell? ⟨b1, 0, none⟩ = some (.pointer (some ⟨d, 0, none⟩)) ∧ w'.cell? ⟨b2, 0, none⟩ = some (encStr nm) ∧ w'.cell? ⟨b3, 0, none⟩ = some (.slice p n c) ∧
      w'.cell? ⟨r, 0, none⟩ = some (skV ⟨153, #[.pointer (some ⟨b1, 0, none⟩)]⟩) ∧ w'.cell? ⟨r, 1, none⟩ = some (skV ⟨154, #[.pointer (some ⟨b1, 0, none⟩), .pointer (some ⟨b3, 0, none⟩)]⟩) ∧
      w'.cell? ⟨r, 2, none⟩ = some (skV ⟨155, #[.pointer (some ⟨b1, 0, none⟩)]⟩) ∧ w'.cell? ⟨r, 3, none⟩ = some (skV ⟨156, #[.pointer (some ⟨b1, 0, none⟩), .pointer (some ⟨b2, 0, none⟩)]⟩) ∧ Below w.heap.size w w' := by
  unfold encStr
  go_enter Tryz.func113, Tryz.ntmps113
  go_wp2
  go_ret
  generalize hf : (#[.func (.func 153) #[] #[.pointer (some ⟨w.heap.size, 0, none⟩)], .func (.func 154) #[] #[.pointer (some ⟨w.heap.size, 0, none⟩), .pointer (some ⟨w.heap.size + 1 + 1, 0, none⟩)], .func (.func 155) #[] #[.pointer (some ⟨w.heap.size, 0, none⟩)], .func (.func 156) #[] #[.pointer (some ⟨w.heap.size, 0, none⟩), .pointer (some ⟨w.heap.size + 1, 0, none⟩)]] : Array Value) = fs
  have e1 := heap_alloc_new w (.cells #[.pointer (some ⟨d, 0, none⟩)] 23)
  generalize hw1 : w.alloc (.cells #[.pointer (some ⟨d, 0, none⟩)] 23) = w1 at *
  have s1 : w1.heap.size = w.heap.size + 1 := by rw [← hw1, World.size_alloc]
  have e2 := heap_alloc_new w1 (.cells #[.string ⟨nm.toArray⟩] 9)
  have t1 := (Below.heap_alloc w1 (.cells #[.string ⟨nm.toArray⟩] 9) w.heap.size (by omega)).trans e1
  generalize hw2 : w1.alloc (.cells #[.string ⟨nm.toArray⟩] 9) = w2 at *
  have s2 : w2.heap.size = w.heap.size + 2 := by rw [← hw2, World.size_alloc]; omega
  have e3 := heap_alloc_new w2 (.cells #[.slice p n c] 58)
  have t2 := (Below.heap_alloc w2 (.cells #[.slice p n c] 58) w.heap.size (by omega)).trans t1
  have u2 := (Below.heap_alloc w2 (.cells #[.slice p n c] 58) w1.heap.size (by omega)).trans e2
  generalize hw3 : w2.alloc (.cells #[.slice p n c] 58) = w3 at *
  have s3 : w3.heap.size = w.heap.size + 3 := by rw [← hw3, World.size_alloc]; omega
  have e4 := heap_alloc_new w3 (.cells fs 172)
  have t3 := (Below.heap_alloc w3 (.cells fs 172) w.heap.size (by omega)).trans t2
  have u3 := (Below.heap_alloc w3 (.cells fs 172) w1.heap.size (by omega)).trans u2
  have v3 := (Below.heap_alloc w3 (.cells fs 172) w2.heap.size (by omega)).trans e3
  rw [s1] at u3
  rw [s2] at v3
  rw [s3] at e4
  have hb : Below w.heap.size w (w3.alloc (.cells fs 172)) := by
    rw [← hw3, ← hw2, ← hw1]
    exact ((((Below.refl _ _).alloc (Nat.le_refl _) _).alloc (by simp) _).alloc (by simp; omega) _).alloc (by simp; omega) _
  refine ⟨w.heap.size + 3, w.heap.size, w.heap.size + 1, w.heap.size + 2, rfl, by omega, Nat.le_refl _, by omega, by omega, ?_, ?_, ?_, ?_, ?_, ?_, ?_, hb⟩
  · rw [cell_of_row _ _ _ _ _ (0, 0) t3]; rfl
  · rw [cell_of_row _ _ _ _ _ (0, 0) u3]; rfl
  · rw [cell_of_row _ _ _ _ _ (0, 0) v3]; rfl
  · rw [cell_of_row _ _ _ _ _ (0, 0) e4, ← hf]; rfl
  · rw [cell_of_row _ _ _ _ _ (0, 0) e4, ← hf]; rfl
  · rw [cell_of_row _ _ _ _ _ (0, 0) e4, ← hf]; rfl
  · rw [cell_of_row _ _ _ _ _ (0, 0) e4, ← hf]; rfl
end Go.Proofs.YtmiepigieajpcaaGreat

