import Derived.Test.YtnbddiiedagllaaGreatSSL28
import Derived.Test.YtnbddiiedagllaaGreatSSL24
import Derived.Test.YtnbddiiedagllaaGreatSSL9
import Derived.Test.YtnbddiiedagllaaGreatSSL7
import Derived.Test.YtnbddiiedagllaaGreatSSL5
import Derived.IntWalk
import Derived.Test.YtnbddiiedagllaaGreatSSL12
import Derived.Test.YtnbddiiedagllaaGreatSSL21
import Derived.Test.YtnbddiiedagllaaGreatSSL20
import Derived.Deep.RegionHeld3
import Derived.Deep.DeepCutAuto
import Derived.Deep.CutBlock
/- The walks of the steps of scan's Open: what each closure does on a disk of the call's own. -/
namespace Go.Proofs.YtnbddiiedagllaaGreat
open Go.RowKit Go.Maps Go.Shelf

def cutB : List UInt8 := [99, 117, 116]
def newB : List UInt8 := [110, 101, 119]

section
variable {w0 : World} {X : Nat → Prop} {w : World} {d : Nat} {M : DM}

set_option maxRecDepth 100000 in
set_option maxHeartbeats 1600000 in
theorem do_removing (h : Own w0 X w d M) (b1 b2 : Nat) (nm : List UInt8) (hn : nm.length ≤ 9223372036854775807) (k2 : w.cell? ⟨b2, 0, none⟩ = some (encStr nm)) (k1 : w.cell? ⟨b1, 0, none⟩ = some (.pointer (some ⟨d, 0, none⟩))) :
  Calls Tryz.prog 151 #[.pointer (some ⟨b1, 0, none⟩), .pointer (some ⟨b2, 0, none⟩)] w (OwnAct w0 X w d (removeM nm M)) := by
 have HA := Lib.hid (own_remove h nm hn)
 clear h
 go_enter Tryz.func151, Tryz.ntmps151
 go_wp2_with fail
 refine HA.out.mono ?_
 rintro e w5 ⟨rfl, hq⟩
 have Hq := Lib.hid hq
 clear hq
 go_wp2
 go_ret
 exact ⟨rfl, Hq.out⟩

set_option maxRecDepth 100000 in
set_option maxHeartbeats 1600000 in
theorem do_creating (h : Own w0 X w d M) (b1 b2 : Nat) (nm : List UInt8) (hn : nm.length ≤ 9223372036854775807) (hL : M.fs.length < 1000000) (k2 : w.cell? ⟨b2, 0, none⟩ = some (encStr nm)) (k1 : w.cell? ⟨b1, 0, none⟩ = some (.pointer (some ⟨d, 0, none⟩))) :
  Calls Tryz.prog 112 #[.pointer (some ⟨b1, 0, none⟩), .pointer (some ⟨b2, 0, none⟩)] w (OwnAct w0 X w d (createM nm M)) := by
 have HA := Lib.hid (own_create h nm hn hL)
 clear h
 go_enter Tryz.func112, Tryz.ntmps112
 go_wp2_with fail
 refine HA.out.mono ?_
 rintro e w5 ⟨rfl, hq⟩
 have Hq := Lib.hid hq
 clear hq
 go_wp2
 go_ret
 exact ⟨rfl, Hq.out⟩

set_option maxRecDepth 100000 in
set_option maxHeartbeats 1600000 in
theorem do_syncing (h : Own w0 X w d M) (b1 b2 : Nat) (nm : List UInt8) (hn : nm.length ≤ 9223372036854775807) (k2 : w.cell? ⟨b2, 0, none⟩ = some (encStr nm)) (k1 : w.cell? ⟨b1, 0, none⟩ = some (.pointer (some ⟨d, 0, none⟩))) :
  Calls Tryz.prog 114 #[.pointer (some ⟨b1, 0, none⟩), .pointer (some ⟨b2, 0, none⟩)] w (OwnAct w0 X w d (syncM nm M)) := by
 have HA := Lib.hid (own_sync h nm hn)
 clear h
 go_enter Tryz.func114, Tryz.ntmps114
 go_wp2_with fail
 refine HA.out.mono ?_
 rintro e w5 ⟨rfl, hq⟩
 have Hq := Lib.hid hq
 clear hq
 go_wp2
 go_ret
 exact ⟨rfl, Hq.out⟩

set_option maxRecDepth 100000 in
set_option maxHeartbeats 1600000 in
theorem do_cut1 (h : Own w0 X w d M) (b1 : Nat) (hL : M.fs.length < 1000000) (k1 : w.cell? ⟨b1, 0, none⟩ = some (.pointer (some ⟨d, 0, none⟩))) :
  Calls Tryz.prog 153 #[.pointer (some ⟨b1, 0, none⟩)] w (OwnAct w0 X w d (createM cutB M)) := by
 have HA := Lib.hid (own_create h cutB (by decide) hL)
 clear h
 go_enter Tryz.func153, Tryz.ntmps153
 go_wp2_with fail
 refine HA.out.mono ?_
 rintro e w5 ⟨rfl, hq⟩
 have Hq := Lib.hid hq
 clear hq
 go_wp2
 go_ret
 exact ⟨rfl, Hq.out⟩

set_option maxRecDepth 100000 in
set_option maxHeartbeats 1600000 in
theorem do_cut2 (h : Own w0 X w d M) (b1 b2 : Nat) (p : Option Addr) (m c : Nat) (l : List Nat) (hB : Bytes w p m c l) (hap : 0 < m → ∀ a, p = some a → X a.block ∨ a.block < w0.heap.size) (hlim : usedF M.fs + l.length ≤ 140737488355328) (k2 : w.cell? ⟨b2, 0, none⟩ = some (.slice p m c)) (k1 : w.cell? ⟨b1, 0, none⟩ = some (.pointer (some ⟨d, 0, none⟩))) :
  Calls Tryz.prog 154 #[.pointer (some ⟨b1, 0, none⟩), .pointer (some ⟨b2, 0, none⟩)] w (OwnAct w0 X w d (appendM cutB l M)) := by
 have HA := Lib.hid (own_append h cutB (by decide) p m c l hB hap hlim)
 clear h
 go_enter Tryz.func154, Tryz.ntmps154
 go_wp2_with fail
 refine HA.out.mono ?_
 rintro e w5 ⟨rfl, hq⟩
 have Hq := Lib.hid hq
 clear hq
 go_wp2
 go_ret
 exact ⟨rfl, Hq.out⟩

set_option maxRecDepth 100000 in
set_option maxHeartbeats 1600000 in
theorem do_cut3 (h : Own w0 X w d M) (b1 : Nat) (k1 : w.cell? ⟨b1, 0, none⟩ = some (.pointer (some ⟨d, 0, none⟩))) :
  Calls Tryz.prog 155 #[.pointer (some ⟨b1, 0, none⟩)] w (OwnAct w0 X w d (syncM cutB M)) := by
 have HA := Lib.hid (own_sync h cutB (by decide))
 clear h
 go_enter Tryz.func155, Tryz.ntmps155
 go_wp2_with fail
 refine HA.out.mono ?_
 rintro e w5 ⟨rfl, hq⟩
 have Hq := Lib.hid hq
 clear hq
 go_wp2
 go_ret
 exact ⟨rfl, Hq.out⟩

set_option maxRecDepth 100000 in
set_option maxHeartbeats 1600000 in
theorem do_cut4 (h : Own w0 X w d M) (b1 b2 : Nat) (nm : List UInt8) (hn : nm.length ≤ 9223372036854775807) (hL : M.fs.length < 1000000) (k2 : w.cell? ⟨b2, 0, none⟩ = some (encStr nm)) (k1 : w.cell? ⟨b1, 0, none⟩ = some (.pointer (some ⟨d, 0, none⟩))) :
  Calls Tryz.prog 156 #[.pointer (some ⟨b1, 0, none⟩), .pointer (some ⟨b2, 0, none⟩)] w (OwnAct w0 X w d (renameM cutB nm M)) := by
 have HA := Lib.hid (own_rename h cutB nm (by decide) hn hL)
 clear h
 go_enter Tryz.func156, Tryz.ntmps156
 go_wp2_with fail
 refine HA.out.mono ?_
 rintro e w5 ⟨rfl, hq⟩
 have Hq := Lib.hid hq
 clear hq
 go_wp2
 go_ret
 exact ⟨rfl, Hq.out⟩
end
end Go.Proofs.YtnbddiiedagllaaGreat

/- The walk of the reference's Crash. -/
namespace Go.Proofs.YtnbddiiedagllaaGreat
open Go.RowKit Go.Maps Go.Shelf

theorem own_belowF {w w' : World} {base n size : Nat} {e : TypeId} {v : Value} {xs : List Value} (h : w.ownsRow base e size v n xs) (hb : Below w.heap.size w w') : w'.ownsRow base e size v n xs := by
 refine ⟨h.1, ?_⟩
 rcases h.2 with hn | ⟨g, cap, cur, rfl, hbg, hg, rest⟩
 ·exact .inl hn
 ·exact .inr ⟨g, cap, cur, rfl, hbg, (hb.block g (Array.getElem?_eq_some_iff.1 hg).1).trans hg, rest⟩

end Go.Proofs.YtnbddiiedagllaaGreat

/- The statements' operations as plain data: what each does to a plain disk; bounds on what a few of them can do. -/
namespace Go.Proofs.YtnbddiiedagllaaGreat
open Go.RowKit Go.Maps Go.Shelf

theorem usedF_insN (x : F) : ∀ l : List F, usedF (insN F.n x l) = x.b.length + usedF l
 | [] => by simp [insN, usedF]
 | y :: r => by
  unfold insN
  split
  ·rw [usedF_cons, usedF_cons]
  ·rw [usedF_cons, usedF_insN x r, usedF_cons]
   omega
theorem usedF_delN (n : List UInt8) : ∀ l : List F, usedF (delN F.n n l) ≤ usedF l
 | [] => Nat.le_refl _
 | y :: r => by
  have ih := usedF_delN n r
  unfold delN at ih ⊢
  rw [List.filter_cons, usedF_cons]
  split
  ·rw [usedF_cons]
   omega
  ·omega
theorem usedF_delN_mem {n : List UInt8} : ∀ {l : List F} {f : F}, f ∈ l → f.n = n → usedF (delN F.n n l) + f.b.length ≤ usedF l
 | y :: r, f, h, hn => by
  have ih := usedF_delN n r
  unfold delN at ih ⊢
  rw [List.filter_cons, usedF_cons]
  rcases List.mem_cons.1 h with rfl | h
  ·rw [if_neg (by simp [hn])]
   omega
  ·have ih2 := usedF_delN_mem h hn
   unfold delN at ih2
   split
   ·rw [usedF_cons]
    omega
   ·omega
theorem length_insN (x : F) (l : List F) : (insN F.n x l).length = l.length + 1 := by rw [(perm_insN F.n x l).length_eq, List.length_cons]
theorem length_delN (n : List UInt8) (l : List F) : (delN F.n n l).length ≤ l.length := List.length_filter_le _ _
structure Small (M : DM) (N U : Nat) : Prop where
 files : M.fs.length ≤ N
 used : usedF M.fs ≤ U

theorem failM_small {M : DM} {N U : Nat} (h : Small M N U) : Small (failM M) N U := by
 refine ⟨?_, ?_⟩ <;> rw [failM_fs' M]
 ·exact h.files
 ·exact h.used

theorem chgM_small {M : DM} {N U N' U' : Nat} (h : Small M N U) (hN : N ≤ N') (hU : U ≤ U') {nm : List UInt8} {act : DM → DM × Int} (ha : ∀ M', M'.fs = M.fs → Small (act M').1 N' U') : Small (chgM M nm act).1 N' U' := by
 unfold chgM
 have h2 := failM_small h
 split
 ·exact ⟨Nat.le_trans h2.files hN, Nat.le_trans h2.used hU⟩
 ·split
  ·exact ha _ (failM_fs' M)
  ·exact ⟨Nat.le_trans h2.files hN, Nat.le_trans h2.used hU⟩

theorem onM_small {M' : DM} {N' U' : Nat} (h : Small M' N' U') {nm : List UInt8} {act : F → DM → DM × Int} (ha : ∀ f, f ∈ M'.fs → f.n = nm → Small (act f M').1 N' U') : Small (onM nm act M').1 N' U' := by
 unfold onM
 cases hf : findN F.n nm M'.fs with
 | none => exact h
 | some f => exact ha f (findN_some hf).1 (findN_some hf).2

theorem put_small {fs : List F} {N U : Nat} {f : F} {x : F} (hf : f ∈ fs) (hn : f.n = x.n) (h1 : fs.length ≤ N) (h2 : usedF fs ≤ U) : (putN F.n x fs).length ≤ N + 1 ∧ usedF (putN F.n x fs) + f.b.length ≤ U + x.b.length := by
 unfold putN
 rw [length_insN, usedF_insN]
 have h3 := length_delN x.n fs
 have h4 := usedF_delN_mem hf hn
 exact ⟨by omega, by omega⟩

theorem stepM_small {M : DM} {N U : Nat} (h : Small M N U) (hs : Sorted M.fs) (k : Int) (nm «to» : List UInt8) (bs : List Nat) : Small (stepM k nm «to» bs M).1 (N + 1) (U + bs.length) := by
 unfold stepM
 have same : ∀ M', M'.fs = M.fs → Small M' (N + 1) (U + bs.length) := fun M' e => ⟨by rw [e]; have := h.files; omega, by rw [e]; have := h.used; omega⟩
 have hset : ∀ (M' : DM) (f x : F), M'.fs = M.fs → f ∈ M'.fs → f.n = x.n → x.b.length ≤ f.b.length + bs.length → Small { M' with fs := setN F.n x M'.fs } (N + 1) (U + bs.length) := by
  intro M' f x e hf hn hx
  have h1 : setN F.n x M'.fs = putN F.n x M'.fs := setN_putN x _ (by rw [e]; exact hs) (fun hnone => findN_none hnone f hf hn)
  rw [h1]
  have h2 := put_small (x := x) hf hn (N := N) (U := U) (by rw [e]; exact h.files) (by rw [e]; exact h.used)
  exact ⟨h2.1, by have := h2.2; show usedF (putN F.n x M'.fs) ≤ _; omega⟩
 split
 ·refine chgM_small h (by omega) (by omega) fun M' e => ?_
  cases findN F.n nm M'.fs with
  | some f => exact same M' e
  | none =>
   refine ⟨?_, ?_⟩
   ·show (putN F.n _ M'.fs).length ≤ _
    unfold putN
    rw [length_insN]
    have := length_delN nm M'.fs
    have h1 := h.files
    rw [← e] at h1
    simp only
    omega
   ·show usedF (putN F.n _ M'.fs) ≤ _
    unfold putN
    rw [usedF_insN]
    have := usedF_delN nm M'.fs
    have h1 := h.used
    rw [← e] at h1
    simp only [List.length_nil]
    omega
 ·split
  ·refine chgM_small h (by omega) (by omega) fun M' e => onM_small (same M' e) fun f hf hn => ?_
   split
   ·exact hset M' f _ e hf (by simpa using hn) (by simp)
   ·exact same M' e
  ·split
   ·exact chgM_small h (by omega) (by omega) fun M' e => onM_small (same M' e) fun f hf hn => hset M' f _ e hf (by simpa using hn) (by simp)
   ·split
    ·refine chgM_small h (by omega) (by omega) fun M' e => onM_small (same M' e) fun f hf hn => ?_
     split
     ·refine ⟨?_, ?_⟩
      ·show (putN F.n _ (delN F.n nm M'.fs)).length ≤ _
       unfold putN
       rw [length_insN]
       have h1 := length_delN «to» (delN F.n nm M'.fs)
       have h2 := length_delN nm M'.fs
       have h3 := h.files
       rw [← e] at h3
       simp only
       omega
      ·show usedF (putN F.n _ (delN F.n nm M'.fs)) ≤ _
       unfold putN
       rw [usedF_insN]
       have h1 := usedF_delN «to» (delN F.n nm M'.fs)
       have h2 := usedF_delN_mem hf hn
       have h3 := h.used
       rw [← e] at h3
       simp only
       omega
     ·exact same M' e
    ·refine chgM_small h (by omega) (by omega) fun M' e => onM_small (same M' e) fun f hf hn => ⟨?_, ?_⟩
     ·have h2 := length_delN nm M'.fs
      have h3 := h.files
      rw [← e] at h3
      show (delN F.n nm M'.fs).length ≤ _
      omega
     ·have h2 := usedF_delN nm M'.fs
      have h3 := h.used
      rw [← e] at h3
      show usedF (delN F.n nm M'.fs) ≤ _
      omega

end Go.Proofs.YtnbddiiedagllaaGreat

/- The walk of the reference's Steps: changes up to the first that fails. -/
namespace Go.Proofs.YtnbddiiedagllaaGreat
open Go.RowKit Go.Maps Go.Shelf

attribute [local go_sem ↓] Go.wp_at_zero Go.wp_at_succ

theorem del_sorted (n : List UInt8) {l : List F} (h : Sorted l) : Sorted (delN F.n n l) := List.Pairwise.filter _ h

theorem put_sorted (x : F) {l : List F} (h : Sorted l) : Sorted (putN F.n x l) := by
 unfold putN
 refine insN_sorted x _ (del_sorted _ h) fun y hy => ?_
 unfold delN at hy
 have := (List.mem_filter.1 hy).2
 simpa using this

theorem setN_sorted (x : F) {l : List F} (h : Sorted l) : Sorted (setN F.n x l) := by
 have hn : ∀ y : F, (if F.n y == F.n x then x else y).n = y.n := fun y => by
  by_cases e : F.n y = F.n x
  ·simp [e]
  ·simp [e]
 unfold Sorted setN
 rw [List.pairwise_map]
 refine h.imp ?_
 intro a b hab
 show (if F.n a == F.n x then x else a).n < (if F.n b == F.n x then x else b).n
 rw [hn a, hn b]
 exact hab

structure Neat (M : DM) (N U : Nat) : Prop where
 plan : M.plan ≤ 9223372036854775807
 sorted : Sorted M.fs
 small : Small M N U

theorem chgM_neat {M : DM} (hp : M.plan ≤ 9223372036854775807) (hs : Sorted M.fs) {nm : List UInt8} {act : DM → DM × Int} (ha : ∀ M', M'.fs = M.fs → M'.plan ≤ 9223372036854775807 → (act M').1.plan ≤ 9223372036854775807 ∧ Sorted (act M').1.fs) :
  (chgM M nm act).1.plan ≤ 9223372036854775807 ∧ Sorted (chgM M nm act).1.fs := by
 have h1 : (failM M).plan ≤ 9223372036854775807 := Nat.le_trans (failM_pl M) hp
 have h2 : Sorted (failM M).fs := by rw [failM_fs' M]; exact hs
 unfold chgM
 split
 ·exact ⟨h1, h2⟩
 ·split
  ·exact ha _ (failM_fs' M) h1
  ·exact ⟨h1, h2⟩

theorem onM_neat {M' : DM} (hp : M'.plan ≤ 9223372036854775807) (hs : Sorted M'.fs) {nm : List UInt8} {act : F → DM → DM × Int} (ha : ∀ f, (act f M').1.plan ≤ 9223372036854775807 ∧ Sorted (act f M').1.fs) : (onM nm act M').1.plan ≤ 9223372036854775807 ∧ Sorted (onM nm act M').1.fs := by
 unfold onM
 cases findN F.n nm M'.fs with
 | none => exact ⟨hp, hs⟩
 | some f => exact ha f

theorem stepM_neat {M : DM} {N U : Nat} (h : Neat M N U) (k : Int) (nm tt : List UInt8) (bs : List Nat) : Neat (stepM k nm tt bs M).1 (N + 1) (U + bs.length) := by
 refine ⟨?_, ?_, stepM_small h.small h.sorted k nm tt bs⟩ <;>
 ·have key : (stepM k nm tt bs M).1.plan ≤ 9223372036854775807 ∧ Sorted (stepM k nm tt bs M).1.fs := by
   unfold stepM
   split
   ·refine chgM_neat h.plan h.sorted fun M' e hp => ?_
    have hs : Sorted M'.fs := by rw [e]; exact h.sorted
    cases findN F.n nm M'.fs with
    | some f => exact ⟨hp, hs⟩
    | none => exact ⟨hp, put_sorted _ hs⟩
   ·split
    ·refine chgM_neat h.plan h.sorted fun M' e hp => onM_neat hp (by rw [e]; exact h.sorted) fun f => ?_
     have hs : Sorted M'.fs := by rw [e]; exact h.sorted
     split
     ·exact ⟨hp, setN_sorted _ hs⟩
     ·exact ⟨hp, hs⟩
    ·split
     ·refine chgM_neat h.plan h.sorted fun M' e hp => onM_neat hp (by rw [e]; exact h.sorted) fun f => ?_
      have hs : Sorted M'.fs := by rw [e]; exact h.sorted
      exact ⟨hp, setN_sorted _ hs⟩
     ·split
      ·refine chgM_neat h.plan h.sorted fun M' e hp => onM_neat hp (by rw [e]; exact h.sorted) fun f => ?_
       have hs : Sorted M'.fs := by rw [e]; exact h.sorted
       split
       ·exact ⟨hp, put_sorted _ (del_sorted _ hs)⟩
       ·exact ⟨hp, hs⟩
      ·refine chgM_neat h.plan h.sorted fun M' e hp => onM_neat hp (by rw [e]; exact h.sorted) fun f => ?_
       have hs : Sorted M'.fs := by rw [e]; exact h.sorted
       exact ⟨hp, del_sorted _ hs⟩
  first | exact key.1 | exact key.2

theorem Neat.mono {M : DM} {N U N' U' : Nat} (h : Neat M N U) (h1 : N ≤ N') (h2 : U ≤ U') : Neat M N' U' := ⟨h.plan, h.sorted, ⟨Nat.le_trans h.small.files h1, Nat.le_trans h.small.used h2⟩⟩

structure SO where
 k : Int
 nm : List UInt8
 tt : List UInt8
 bs : List Nat

def stepsM : List SO → DM → DM × Int
 | [], M => (M, 0)
 | x :: l, M => if (stepM x.k x.nm x.tt x.bs M).2 = 0 then stepsM l (stepM x.k x.nm x.tt x.bs M).1 else stepM x.k x.nm x.tt x.bs M

structure SOAt (w : World) (b o : Nat) (x : SO) (pb : Option Addr) (cb : Nat) : Prop where
 k0 : w.cell? ⟨b, o, none⟩ = some (.int .i64 x.k)
 k1 : w.cell? ⟨b, o + 1, none⟩ = some (.string ⟨x.nm.toArray⟩)
 k2 : w.cell? ⟨b, o + 2, none⟩ = some (.string ⟨x.tt.toArray⟩)
 k3 : w.cell? ⟨b, o + 3, none⟩ = some (.slice pb x.bs.length cb)
 bytes : Bytes w pb x.bs.length cb x.bs
 kk : 1 ≤ x.k ∧ x.k ≤ 5
 w1 : x.nm.length ≤ 9223372036854775807
 w2 : x.tt.length ≤ 9223372036854775807

structure SOs (w : World) (a : Option Addr) (n c : Nat) (l : List SO) : Prop where
 len : l.length = n
 max : n ≤ 1000000
 cell : 0 < n → ∃ b o, a = some ⟨b, o, none⟩ ∧ ∀ i (hi : i < l.length), ∃ pb cb, SOAt w b (o + i * 4) l[i] pb cb

theorem SOAt.grow {w w' : World} {b o : Nat} {x : SO} {pb : Option Addr} {cb : Nat} (h : SOAt w b o x pb cb) (hb : Below w.heap.size w w') : SOAt w' b o x pb cb :=
 ⟨cell_keep hb h.k0, cell_keep hb h.k1, cell_keep hb h.k2, cell_keep hb h.k3, h.bytes.grow hb, h.kk, h.w1, h.w2⟩

theorem SOs.grow {w w' : World} {a : Option Addr} {n c : Nat} {l : List SO} (h : SOs w a n c l) (hb : Below w.heap.size w w') : SOs w' a n c l := by
 refine ⟨h.len, h.max, fun hn => ?_⟩
 obtain ⟨b, o, e, hc⟩ := h.cell hn
 exact ⟨b, o, e, fun i hi => by obtain ⟨pb, cb, hx⟩ := hc i hi; exact ⟨pb, cb, hx.grow hb⟩⟩

theorem boxD_set {w : World} {d : Nat} {a b c e : Value} {t : TypeId} {m : Nat × Nat} (h : w.heap[d]? = some (.cells #[a, b, c, e] t m)) (a' b' c' e' : Value) :
  ((((w.setCell ⟨d, 0, none⟩ a').setCell ⟨d, 1, none⟩ b').setCell ⟨d, 2, none⟩ c').setCell ⟨d, 3, none⟩ e').heap[d]? = some (.cells #[a', b', c', e'] t m) := by
 have h1 := set_head (i := 0) h a'
 have h2 := set_head (i := 1) h1 b'
 have h3 := set_head (i := 2) h2 c'
 have h4 := set_head (i := 3) h3 e'
 simpa using h4

structure BoxAt (X : Nat → Prop) (w wr : World) (M : DM) (a : Option Addr) (n c : Nat) (R : List FR) : Prop where
 box : wr.heap[w.heap.size]? = some (.cells #[.int .i64 (M.room : Int), .slice a n c, .int .i64 (M.plan : Int), .bool M.down] 25 (0, 0))
 res : wr.heap[w.heap.size + 1]? = some (.cells #[.int .i64 0, .slice none 0 0, .int .i64 0, .bool false] 25 (0, 0))
 row : RowF (fun b => (X b ∨ w.heap.size + 1 < b) ∧ b < wr.heap.size) wr a n c R
 fs : R.map FR.f = M.fs
 base : Below w.heap.size w wr

theorem BoxAt.lt {X : Nat → Prop} {w wr : World} {M : DM} {a : Option Addr} {n c : Nat} {R : List FR} (h : BoxAt X w wr M a n c R) : w.heap.size + 1 < wr.heap.size := (Array.getElem?_eq_some_iff.1 h.res).1

theorem BoxAt.store {X : Nat → Prop} {w wr wc : World} {M : DM} {a a1 : Option Addr} {n c n1 c1 : Nat} {R R1 : List FR} (h : BoxAt X w wr M a n c R) (hX : ∀ b, X b → b < w.heap.size) {r : DM} {B : Nat}
  (hR : RowF (fun b => (((X b ∨ w.heap.size + 1 < b) ∧ b < wr.heap.size) ∨ wr.heap.size ≤ b) ∧ b ≠ B ∧ b < wc.heap.size) wc a1 n1 c1 R1) (hf : R1.map FR.f = r.fs) (hb : Below wr.heap.size wr wc) :
  BoxAt X w ((((wc.setCell ⟨w.heap.size, 0, none⟩ (.int .i64 (r.room : Int))).setCell ⟨w.heap.size, 1, none⟩ (.slice a1 n1 c1)).setCell ⟨w.heap.size, 2, none⟩ (.int .i64 (r.plan : Int))).setCell ⟨w.heap.size, 3, none⟩ (.bool r.down)) r a1 n1 c1 R1 := by
 have hlt := h.lt
 refine ⟨boxD_set ((hb.block _ (by omega)).trans h.box) _ _ _ _, ?_, hR.mono (fun b h => ?_) (fun b h => ?_), hf, ?_⟩
 ·have hne : w.heap.size + 1 ≠ w.heap.size := by omega
  repeat rw [Below.heap_setCell _ _ _ _ hne]
  exact (hb.block _ hlt).trans h.res
 ·have hne : b ≠ w.heap.size := by
   rcases h.1 with ⟨h1 | h1, _⟩ | h1
   ·have := hX b h1; omega
   ·omega
   ·omega
  repeat rw [Below.heap_setCell _ _ _ _ hne]
 ·refine ⟨?_, by simp only [World.size_setCell]; exact h.2.2⟩
  rcases h.1 with ⟨h1, _⟩ | h1
  ·exact h1
  ·exact .inr (by omega)
 ·have h1 := h.base.trans (hb.mono h.base.size)
  exact (((h1.setCell (Nat.le_refl _) _).setCell (Nat.le_refl _) _).setCell (Nat.le_refl _) _).setCell (Nat.le_refl _) _

theorem BoxAt.ended {X : Nat → Prop} {w wr : World} {M : DM} {a : Option Addr} {n c : Nat} {R : List FR} (h : BoxAt X w wr M a n c R) (hX : ∀ b, X b → b < w.heap.size) (z : Int) (v0 v1 v2 v3 : Value) :
  DoEnd X w (M, z) (.returned (.tuple #[refV (M.room : Int) a n c (M.plan : Int) M.down, .int .i64 z])) ((((wr.setCell ⟨w.heap.size + 1, 0, none⟩ v0).setCell ⟨w.heap.size + 1, 1, none⟩ v1).setCell ⟨w.heap.size + 1, 2, none⟩ v2).setCell ⟨w.heap.size + 1, 3, none⟩ v3) := by
 refine ⟨a, n, c, R, rfl, h.row.mono (fun b hb => ?_) (fun b hb => ⟨hb.1.imp id (fun h1 => by omega), by simp only [World.size_setCell]; exact hb.2⟩), h.fs, ?_⟩
 ·have hne : b ≠ w.heap.size + 1 := by
   rcases hb.1 with h1 | h1
   ·have := hX b h1; omega
   ·omega
  repeat rw [Below.heap_setCell _ _ _ _ hne]
 ·exact (((h.base.setCell (Nat.le_succ _) _).setCell (Nat.le_succ _) _).setCell (Nat.le_succ _) _).setCell (Nat.le_succ _) _

set_option maxRecDepth 100000 in
set_option maxHeartbeats 6400000 in
theorem rsteps_any {X : Nat → Prop} {w : World} {v : Value} {M : DM} (h : RefAt X w v M) (hX : ∀ b, X b → b < w.heap.size) (p : Option Addr) (n c : Nat) (l : List SO) (hl : SOs w p n c l) {N U T : Nat} (hnt : Neat M N U) (hN : N + n ≤ 1000000) (hT : ∀ x ∈ l, x.bs.length ≤ T) (hub : U + n * T ≤ 10000000) :
  Calls Tryz.prog 54 #[v, .slice p n c] w (DoEnd X w (stepsM l M)) := by
 obtain ⟨a, m, c0, R, rfl, hR, hfs, hn⟩ := h
 unfold refV
 have hst : BoxAt X w ((w.alloc (.cells #[.int .i64 (M.room : Int), .slice a m c0, .int .i64 (M.plan : Int), .bool M.down] 25)).alloc (.cells #[.int .i64 0, .slice none 0 0, .int .i64 0, .bool false] 25)) M a m c0 R := by
  have hb := ((Below.refl w.heap.size w).alloc (Nat.le_refl _) (.cells #[.int .i64 (M.room : Int), .slice a m c0, .int .i64 (M.plan : Int), .bool M.down] 25)).alloc (by simp) (.cells #[.int .i64 0, .slice none 0 0, .int .i64 0, .bool false] 25)
  refine ⟨(Below.heap_alloc _ _ _ (by simp)).trans (heap_alloc_new _ _), ?_, (hR.below hX hb).mono (fun _ _ => rfl) (fun b h => ⟨.inl h, by simp only [World.size_alloc]; have := hX b h; omega⟩), hfs, hb⟩
  have h2 := heap_alloc_new (w.alloc (.cells #[.int .i64 (M.room : Int), .slice a m c0, .int .i64 (M.plan : Int), .bool M.down] 25)) (.cells #[.int .i64 0, .slice none 0 0, .int .i64 0, .bool false] 25)
  rw [World.size_alloc] at h2
  exact h2
 have Hst := Lib.hid hst
 have HL := Lib.hid hl
 have HX := Lib.hid hX
 have Hnt := Lib.hid hnt
 have HT := Lib.hid hT
 have hls := Lib.hid hl.len
 clear hR hfs hn hst hl hX hnt hT
 go_enter Tryz.func54, Tryz.ntmps54
 go_wp2
 go_loopw [6] (fun i wr => ∃ (j : Nat) (M' : DM) (a' : Option Addr) (n' c' : Nat) (R' : List FR), j ≤ n ∧ i = .int .i64 (j : Int) ∧ BoxAt X w wr M' a' n' c' R' ∧ stepsM l M = stepsM (l.drop j) M' ∧ Neat M' (N + j) (U + j * T)) (fun i _ => n - (intOf i).toNat)
 case atStart => exact ⟨0, M, a, m, c0, R, Nat.zero_le _, rfl, Hst.out, rfl, by simpa using Hnt.out⟩
 case round =>
  obtain ⟨j, M', a', n', c', R', hj, rfl, hB, hE, hN'⟩ := hrel
  by_cases hlt : j < n
  ·have hjl : j < l.length := by rw [hls.out]; exact hlt
   obtain ⟨b, o, rfl, hc⟩ := HL.out.cell (by omega)
   obtain ⟨pb, cb, hx0⟩ := hc j hjl
   have hx := hx0.grow hB.base
   have hXr : ∀ b, (X b ∨ w.heap.size + 1 < b) ∧ b < wr.heap.size → b < wr.heap.size := fun b h => h.2
   have hjT : j * T + T ≤ n * T := by
    have h1 : (j + 1) * T ≤ n * T := Nat.mul_le_mul_right T (by omega)
    rw [Nat.succ_mul] at h1
    exact h1
   have hbl := HT.out l[j] (List.getElem_mem hjl)
   have hus := hN'.small.used
   have hfl := hN'.small.files
   have hln : n' ≤ 1000000 := by rw [← hB.row.len, ← List.length_map (f := FR.f), hB.fs]; omega
   have HDo := Lib.hid (fun W1 (hb1 : Below wr.heap.size wr W1) => rdo_all (X := fun b => (X b ∨ w.heap.size + 1 < b) ∧ b < wr.heap.size) (w := W1) (M := M') ⟨a', n', c', R', rfl, hB.row.below hXr hb1, hB.fs, hln⟩ (fun b h => Nat.lt_of_lt_of_le h.2 hb1.size) hN'.plan hN'.sorted l[j].k hx.kk l[j].nm l[j].tt hx.w1 hx.w2 pb l[j].bs.length cb l[j].bs (fun W2 hW2 => hx.bytes.grow (hb1.trans (hW2.mono hb1.size))) (by omega) (by omega))
   have HS := Lib.hid (fun W1 (hb1 : Below wr.heap.size wr W1) => (show W1.cell? ⟨w.heap.size, 0, none⟩ = some (.int .i64 (M'.room : Int)) ∧ W1.cell? ⟨w.heap.size, 1, none⟩ = some (.slice a' n' c') ∧ W1.cell? ⟨w.heap.size, 2, none⟩ = some (.int .i64 (M'.plan : Int)) ∧ W1.cell? ⟨w.heap.size, 3, none⟩ = some (.bool M'.down) ∧ W1.cell? ⟨b, o + j * 4, none⟩ = some (.int .i64 l[j].k) ∧ W1.cell? ⟨b, o + j * 4 + 1, none⟩ = some (.string ⟨l[j].nm.toArray⟩) ∧ W1.cell? ⟨b, o + j * 4 + 2, none⟩ = some (.string ⟨l[j].tt.toArray⟩) ∧ W1.cell? ⟨b, o + j * 4 + 3, none⟩ = some (.slice pb l[j].bs.length cb) from by
    obtain ⟨c0, c1, c2, c3, _⟩ := box4c ((hb1.block _ (by have := hB.lt; omega)).trans hB.box)
    exact ⟨c0, c1, c2, c3, cell_keep hb1 hx.k0, cell_keep hb1 hx.k1, cell_keep hb1 hx.k2, cell_keep hb1 hx.k3⟩))
   have hnx := stepM_neat hN' l[j].k l[j].nm l[j].tt l[j].bs
   have hE2 : stepsM (l.drop j) M' = if (stepM l[j].k l[j].nm l[j].tt l[j].bs M').2 = 0 then stepsM (l.drop (j + 1)) (stepM l[j].k l[j].nm l[j].tt l[j].bs M').1 else stepM l[j].k l[j].nm l[j].tt l[j].bs M' := by
    rw [List.drop_eq_getElem_cons hjl]
    rfl
   rw [hE2] at hE
   have HE := Lib.hid hE
   have Hnx := Lib.hid (hnx.mono (N' := N + (j + 1)) (U' := U + (j + 1) * T) (by omega) (by rw [Nat.succ_mul]; omega))
   have HB := Lib.hid hB
   have HXr := Lib.hid hXr
   unfold opV refV at HDo
   have hlt2 := hB.lt
   have Hlt := Lib.hid hlt
   have hji : (j : Int) < (n : Int) := by omega
   clear hE hE2 hnx hXr hx hx0 hc hN' hus hfl hln hbl hjT hB hlt
   generalize stepM l[j].k l[j].nm l[j].tt l[j].bs M' = r at *
   generalize l[j] = z at *
   obtain ⟨k, nm, tt, bs⟩ := z
   simp only at *
   go_upto_region 4 with fail
   go_cut [7, 8] (fun t4 t5 wx => DoCut (fun b => (X b ∨ w.heap.size + 1 < b) ∧ b < wr.heap.size) wr r t4 t5 wx)
   case first =>
    go_region_held3 (fun w' => w'.cell? ⟨w.heap.size, 0, none⟩ = some (.int .i64 (M'.room : Int)) ∧ w'.cell? ⟨w.heap.size, 1, none⟩ = some (.slice a' n' c') ∧ w'.cell? ⟨w.heap.size, 2, none⟩ = some (.int .i64 (M'.plan : Int)) ∧ w'.cell? ⟨w.heap.size, 3, none⟩ = some (.bool M'.down) ∧ w'.cell? ⟨b, o + j * 4, none⟩ = some (.int .i64 k) ∧ w'.cell? ⟨b, o + j * 4 + 1, none⟩ = some (.string ⟨nm.toArray⟩) ∧ w'.cell? ⟨b, o + j * 4 + 2, none⟩ = some (.string ⟨tt.toArray⟩) ∧ w'.cell? ⟨b, o + j * 4 + 3, none⟩ = some (.slice pb bs.length cb))
     (first | exact HS.out _ (by (repeat (first | assumption | exact Below.refl _ _ | refine Below.drew ?_ | refine Below.alloc ?_ (by (first | exact Nat.le_refl _ | (simp; done) | (simp; omega) | omega)) _ | refine Below.setCell ?_ (by (first | exact Nat.le_refl _ | (show _ ≤ _; omega) | (simp; done) | (simp; omega))) _))))
     (first
      | (go_at_call 74; (with_reducible refine (HDo.out _ (by (repeat (first | assumption | exact Below.refl _ _ | refine Below.drew ?_ | refine Below.alloc ?_ (by (first | exact Nat.le_refl _ | (simp; done) | (simp; omega) | omega)) _ | refine Below.setCell ?_ (by (first | exact Nat.le_refl _ | (show _ ≤ _; omega) | (simp; done) | (simp; omega))) _)))).mono ?_); rintro e w4 ⟨a4, n4, c4, R4, rfl, hR4, hf4, hb4⟩; unfold refV; have hb4w : Below wr.heap.size wr w4 := Below.trans (by (repeat (first | assumption | exact Below.refl _ _ | refine Below.drew ?_ | refine Below.alloc ?_ (by (first | exact Nat.le_refl _ | (simp; done) | (simp; omega) | omega)) _ | refine Below.setCell ?_ (by (first | exact Nat.le_refl _ | (show _ ≤ _; omega) | (simp; done) | (simp; omega))) _))) (hb4.mono (by (first | exact Nat.le_refl _ | (simp; done) | (simp; omega) | omega))); have hb4z := hb4w.size; (try have hq4 := (hb4.block wr.heap.size (by simp)).trans (heap_alloc_new wr (.cells #[.int .i64 0, .slice none 0 0, .int .i64 0, .bool false] 25))); (first | (have hq5 := box4c hq4; obtain ⟨q0, q1, q2, q3, qf⟩ := hq5) | skip)))
    all_goals go_wp2_with fail
    all_goals go_meet
    ·exact doCut_new hb4w (Nat.le_refl _) hR4 hf4
    ·exact doCut_set hb4w (Nat.le_succ _) HXr.out (hR4.mono (fun _ _ => rfl) (fun b h => ⟨h.1.imp id (fun h1 => by have h2 : (wr.alloc (.cells #[.int .i64 0, .slice none 0 0, .int .i64 0, .bool false] 25)).heap.size ≤ b := h1; rw [World.size_alloc] at h2; exact h2), h.2⟩)) hf4 (Nat.le_refl _) (Nat.lt_succ_self _) hq4
   case rest =>
    obtain ⟨B, a4, n4, c4, R4, rfl, rfl, hBx, hBle, hR4, hf4, hb4⟩ := hcut
    obtain ⟨x0, x1, x2, x3, xf⟩ := box4c hBx
    obtain ⟨y0, y1, y2, y3, yf⟩ := box4c ((hb4.block _ (by omega)).trans HB.out.box)
    have HBS := Lib.hid (HB.out.store HX.out (r := r.1) hR4 hf4 hb4)
    have hne : B ≠ w.heap.size := by omega
    clear hBx hR4 hf4 hb4
    by_cases hr : r.2 = 0
    ·have hb0 : (r.2 != 0) = false := by simp [hr]
     have HE2 := Lib.hid (HE.out.trans (if_pos hr))
     go_wp2
     go_roundw
     case rel => exact ⟨j + 1, r.1, a4, n4, c4, R4, Hlt.out, by go_num, HBS.out, HE2.out, Hnx.out⟩
     case measure => simp [intOf]; omega
    ·have hb0 : (r.2 != 0) = true := by simp [hr]
     have HE2 := Lib.hid (HE.out.trans (if_neg hr))
     generalize hwS : ((((wc.setCell ⟨w.heap.size, 0, none⟩ (.int .i64 (r.1.room : Int))).setCell ⟨w.heap.size, 1, none⟩ (.slice a4 n4 c4)).setCell ⟨w.heap.size, 2, none⟩ (.int .i64 (r.1.plan : Int))).setCell ⟨w.heap.size, 3, none⟩ (.bool r.1.down)) = wS at HBS
     obtain ⟨z0, z1, z2, z3, zf⟩ := box4c HBS.out.res
     obtain ⟨u0, u1, u2, u3, uf⟩ := box4c HBS.out.box
     go_wp2
     refine bodyPost_ret (v := .tuple #[refV (r.1.room : Int) a4 n4 c4 (r.1.plan : Int) r.1.down, .int .i64 r.2]) ?_ rfl ?_
     ·rw [results_cell_tmp rfl]
      go_simp
      rfl
     ·rw [HE2.out]
      exact HBS.out.ended HX.out r.2 _ _ _ _
  ·obtain rfl : n = j := by omega
   have hji : ¬ (n : Int) < (n : Int) := by omega
   have hdr : l.drop n = [] := List.drop_eq_nil_of_le (Nat.le_of_eq hls.out)
   rw [hdr] at hE
   have HE := Lib.hid (show stepsM l M = (M', 0) from hE)
   have HB := Lib.hid hB
   obtain ⟨x0, x1, x2, x3, xf⟩ := box4c hB.box
   obtain ⟨z0, z1, z2, z3, zf⟩ := box4c hB.res
   clear hB hE hN' hdr
   go_wp2
   refine bodyPost_ret (v := .tuple #[refV (M'.room : Int) a' n' c' (M'.plan : Int) M'.down, .int .i64 0]) ?_ rfl ?_
   ·rw [results_cell_tmp rfl]
    go_simp
    rfl
   ·rw [HE.out]
    exact HB.out.ended HX.out 0 _ _ _ _
end Go.Proofs.YtnbddiiedagllaaGreat

/- The walks of New, of what tells a log's state, of a nil log, and of the statements' start. -/
namespace Go.Proofs.YtnbddiiedagllaaGreat
open Go.RowKit Go.Maps Go.Shelf

theorem wnew_any (d N S : Nat) (most : Int) (w : World) :
  Calls Tryz.prog 67 #[.pointer (some ⟨d, 0, none⟩), .int .i64 most, .int .i64 (N : Int), .int .i64 (S : Int)] w fun e w' => e = .returned (.pointer (some ⟨w.heap.size, 0, none⟩)) ∧
   w' = w.alloc (.cells #[.int .i64 (N : Int), .int .i64 (S : Int), .int .i64 0, .pointer (some ⟨d, 0, none⟩), .int .i64 most] 129) := by
 go_enter Tryz.func67, Tryz.ntmps67
 go_wp2
 go_ret
 exact ⟨rfl, rfl⟩

theorem segment_any {g : Nat} {z : Int} {w : World} (h : w.cell? ⟨g, 0, none⟩ = some (.int .i64 z)) :
  Calls Tryz.prog 25 #[.pointer (some ⟨g, 0, none⟩)] w fun e w' => e = .returned (.int .i64 z) ∧ w' = w := by
 go_enter Tryz.func25, Tryz.ntmps25
 go_wp2
 go_ret
 exact ⟨rfl, rfl⟩

theorem wsize_any {g : Nat} {z : Int} {w : World} (h : w.cell? ⟨g, 1, none⟩ = some (.int .i64 z)) :
  Calls Tryz.prog 26 #[.pointer (some ⟨g, 0, none⟩)] w fun e w' => e = .returned (.int .i64 z) ∧ w' = w := by
 go_enter Tryz.func26, Tryz.ntmps26
 go_wp2
 go_ret
 exact ⟨rfl, rfl⟩

end Go.Proofs.YtnbddiiedagllaaGreat

