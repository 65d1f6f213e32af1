import Derived.Test.YtnbddiiedagllaaGreatSSB21
import Derived.Test.YtnbddiiedagllaaGreatSSB20
import Derived.Test.YtnbddiiedagllaaGreatSSB29
import Derived.Deep.RegionHeld3
import Derived.Deep.DeepCutAuto
import Derived.Deep.CutBlock
import Derived.Test.YtnbddiiedagllaaGreatSSB28
import Derived.Test.YtnbddiiedagllaaGreatSSB7
import Derived.Test.YtnbddiiedagllaaGreatSSB16
import Derived.Test.YtnbddiiedagllaaGreatSSB27
/- The walk of the reference's Steps: changes up to the first that fails. -/
namespace Go.Proofs.YtnbddiiedagllaaGreat
open Go.RowKit Go.Maps Go.Shelf

attribute [local go_sem ↓] Go.wp_at_zero Go.wp_at_succ

theorem del_sorted (n : List UInt8) {l : List F} (h : Sorted l) : Sorted (delN F.n n l) := List.Pairwise.filter _ h

theorem put_sorted (x : F) {l : List F} (h : Sorted l) : Sorted (putN F.n x l) := by
 unfold putN
 refine insN_sorted x _ (del_sorted _ h) fun y hy => ?_
 unfold delN at hy
 have := (List.mem_filter.1 hy).2
 simpa using this

theorem setN_sorted (x : F) {l : List F} (h : Sorted l) : Sorted (setN F.n x l) := by
 have hn : ∀ y : F, (if F.n y == F.n x then x else y).n = y.n := fun y => by
  by_cases e : F.n y = F.n x
  ·simp [e]
  ·simp [e]
 unfold Sorted setN
 rw [List.pairwise_map]
 refine h.imp ?_
 intro a b hab
 show (if F.n a == F.n x then x else a).n < (if F.n b == F.n x then x else b).n
 rw [hn a, hn b]
 exact hab

structure Neat (M : DM) (N U : Nat) : Prop where
 plan : M.plan ≤ 9223372036854775807
 sorted : Sorted M.fs
 small : Small M N U

theorem chgM_neat {M : DM} (hp : M.plan ≤ 9223372036854775807) (hs : Sorted M.fs) {nm : List UInt8} {act : DM → DM × Int} (ha : ∀ M', M'.fs = M.fs → M'.plan ≤ 9223372036854775807 → (act M').1.plan ≤ 9223372036854775807 ∧ Sorted (act M').1.fs) :
  (chgM M nm act).1.plan ≤ 9223372036854775807 ∧ Sorted (chgM M nm act).1.fs := by
 have h1 : (failM M).plan ≤ 9223372036854775807 := Nat.le_trans (failM_pl M) hp
 have h2 : Sorted (failM M).fs := by rw [failM_fs' M]; exact hs
 unfold chgM
 split
 ·exact ⟨h1, h2⟩
 ·split
  ·exact ha _ (failM_fs' M) h1
  ·exact ⟨h1, h2⟩

theorem onM_neat {M' : DM} (hp : M'.plan ≤ 9223372036854775807) (hs : Sorted M'.fs) {nm : List UInt8} {act : F → DM → DM × Int} (ha : ∀ f, (act f M').1.plan ≤ 9223372036854775807 ∧ Sorted (act f M').1.fs) : (onM nm act M').1.plan ≤ 9223372036854775807 ∧ Sorted (onM nm act M').1.fs := by
 unfold onM
 cases findN F.n nm M'.fs with
 | none => exact ⟨hp, hs⟩
 | some f => exact ha f

theorem stepM_neat {M : DM} {N U : Nat} (h : Neat M N U) (k : Int) (nm tt : List UInt8) (bs : List Nat) : Neat (stepM k nm tt bs M).1 (N + 1) (U + bs.length) := by
 refine ⟨?_, ?_, stepM_small h.small h.sorted k nm tt bs⟩ <;>
 ·have key : (stepM k nm tt bs M).1.plan ≤ 9223372036854775807 ∧ Sorted (stepM k nm tt bs M).1.fs := by
   unfold stepM
   split
   ·refine chgM_neat h.plan h.sorted fun M' e hp => ?_
    have hs : Sorted M'.fs := by rw [e]; exact h.sorted
    cases findN F.n nm M'.fs with
    | some f => exact ⟨hp, hs⟩
    | none => exact ⟨hp, put_sorted _ hs⟩
   ·split
    ·refine chgM_neat h.plan h.sorted fun M' e hp => onM_neat hp (by rw [e]; exact h.sorted) fun f => ?_
     have hs : Sorted M'.fs := by rw [e]; exact h.sorted
     split
     ·exact ⟨hp, setN_sorted _ hs⟩
     ·exact ⟨hp, hs⟩
    ·split
     ·refine chgM_neat h.plan h.sorted fun M' e hp => onM_neat hp (by rw [e]; exact h.sorted) fun f => ?_
      have hs : Sorted M'.fs := by rw [e]; exact h.sorted
      exact ⟨hp, setN_sorted _ hs⟩
     ·split
      ·refine chgM_neat h.plan h.sorted fun M' e hp => onM_neat hp (by rw [e]; exact h.sorted) fun f => ?_
       have hs : Sorted M'.fs := by rw [e]; exact h.sorted
       split
       ·exact ⟨hp, put_sorted _ (del_sorted _ hs)⟩
       ·exact ⟨hp, hs⟩
      ·refine chgM_neat h.plan h.sorted fun M' e hp => onM_neat hp (by rw [e]; exact h.sorted) fun f => ?_
       have hs : Sorted M'.fs := by rw [e]; exact h.sorted
       exact ⟨hp, del_sorted _ hs⟩
  first | exact key.1 | exact key.2

theorem Neat.mono {M : DM} {N U N' U' : Nat} (h : Neat M N U) (h1 : N ≤ N') (h2 : U ≤ U') : Neat M N' U' := ⟨h.plan, h.sorted, ⟨Nat.le_trans h.small.files h1, Nat.le_trans h.small.used h2⟩⟩

structure SO where
 k : Int
 nm : List UInt8
 tt : List UInt8
 bs : List Nat

def stepsM : List SO → DM → DM × Int
 | [], M => (M, 0)
 | x :: l, M => if (stepM x.k x.nm x.tt x.bs M).2 = 0 then stepsM l (stepM x.k x.nm x.tt x.bs M).1 else stepM x.k x.nm x.tt x.bs M

structure SOAt (w : World) (b o : Nat) (x : SO) (pb : Option Addr) (cb : Nat) : Prop where
 k0 : w.cell? ⟨b, o, none⟩ = some (.int .i64 x.k)
 k1 : w.cell? ⟨b, o + 1, none⟩ = some (.string ⟨x.nm.toArray⟩)
 k2 : w.cell? ⟨b, o + 2, none⟩ = some (.string ⟨x.tt.toArray⟩)
 k3 : w.cell? ⟨b, o + 3, none⟩ = some (.slice pb x.bs.length cb)
 bytes : Bytes w pb x.bs.length cb x.bs
 kk : 1 ≤ x.k ∧ x.k ≤ 5
 w1 : x.nm.length ≤ 9223372036854775807
 w2 : x.tt.length ≤ 9223372036854775807

structure SOs (w : World) (a : Option Addr) (n c : Nat) (l : List SO) : Prop where
 len : l.length = n
 max : n ≤ 1000000
 cell : 0 < n → ∃ b o, a = some ⟨b, o, none⟩ ∧ ∀ i (hi : i < l.length), ∃ pb cb, SOAt w b (o + i * 4) l[i] pb cb

theorem SOAt.grow {w w' : World} {b o : Nat} {x : SO} {pb : Option Addr} {cb : Nat} (h : SOAt w b o x pb cb) (hb : Below w.heap.size w w') : SOAt w' b o x pb cb :=
 ⟨cell_keep hb h.k0, cell_keep hb h.k1, cell_keep hb h.k2, cell_keep hb h.k3, h.bytes.grow hb, h.kk, h.w1, h.w2⟩

theorem SOs.grow {w w' : World} {a : Option Addr} {n c : Nat} {l : List SO} (h : SOs w a n c l) (hb : Below w.heap.size w w') : SOs w' a n c l := by
 refine ⟨h.len, h.max, fun hn => ?_⟩
 obtain ⟨b, o, e, hc⟩ := h.cell hn
 exact ⟨b, o, e, fun i hi => by obtain ⟨pb, cb, hx⟩ := hc i hi; exact ⟨pb, cb, hx.grow hb⟩⟩

theorem boxD_set {w : World} {d : Nat} {a b c e : Value} {t : TypeId} {m : Nat × Nat} (h : w.heap[d]? = some (.cells #[a, b, c, e] t m)) (a' b' c' e' : Value) :
  ((((w.setCell ⟨d, 0, none⟩ a').setCell ⟨d, 1, none⟩ b').setCell ⟨d, 2, none⟩ c').setCell ⟨d, 3, none⟩ e').heap[d]? = some (.cells #[a', b', c', e'] t m) := by
 have h1 := set_head (i := 0) h a'
 have h2 := set_head (i := 1) h1 b'
 have h3 := set_head (i := 2) h2 c'
 have h4 := set_head (i := 3) h3 e'
 simpa using h4

structure BoxAt (X : Nat → Prop) (w wr : World) (M : DM) (a : Option Addr) (n c : Nat) (R : List FR) : Prop where
 box : wr.heap[w.heap.size]? = some (.cells #[.int .i64 (M.room : Int), .slice a n c, .int .i64 (M.plan : Int), .bool M.down] 25 (0, 0))
 res : wr.heap[w.heap.size + 1]? = some (.cells #[.int .i64 0, .slice none 0 0, .int .i64 0, .bool false] 25 (0, 0))
 row : RowF (fun b => (X b ∨ w.heap.size + 1 < b) ∧ b < wr.heap.size) wr a n c R
 fs : R.map FR.f = M.fs
 base : Below w.heap.size w wr

theorem BoxAt.lt {X : Nat → Prop} {w wr : World} {M : DM} {a : Option Addr} {n c : Nat} {R : List FR} (h : BoxAt X w wr M a n c R) : w.heap.size + 1 < wr.heap.size := (Array.getElem?_eq_some_iff.1 h.res).1

theorem BoxAt.store {X : Nat → Prop} {w wr wc : World} {M : DM} {a a1 : Option Addr} {n c n1 c1 : Nat} {R R1 : List FR} (h : BoxAt X w wr M a n c R) (hX : ∀ b, X b → b < w.heap.size) {r : DM} {B : Nat}
  (hR : RowF (fun b => (((X b ∨ w.heap.size + 1 < b) ∧ b < wr.heap.size) ∨ wr.heap.size ≤ b) ∧ b ≠ B ∧ b < wc.heap.size) wc a1 n1 c1 R1) (hf : R1.map FR.f = r.fs) (hb : Below wr.heap.size wr wc) :
  BoxAt X w ((((wc.setCell ⟨w.heap.size, 0, none⟩ (.int .i64 (r.room : Int))).setCell ⟨w.heap.size, 1, none⟩ (.slice a1 n1 c1)).setCell ⟨w.heap.size, 2, none⟩ (.int .i64 (r.plan : Int))).setCell ⟨w.heap.size, 3, none⟩ (.bool r.down)) r a1 n1 c1 R1 := by
 have hlt := h.lt
 refine ⟨boxD_set ((hb.block _ (by omega)).trans h.box) _ _ _ _, ?_, hR.mono (fun b h => ?_) (fun b h => ?_), hf, ?_⟩
 ·have hne : w.heap.size + 1 ≠ w.heap.size := by omega
  repeat rw [Below.heap_setCell _ _ _ _ hne]
  exact (hb.block _ hlt).trans h.res
 ·have hne : b ≠ w.heap.size := by
   rcases h.1 with ⟨h1 | h1, _⟩ | h1
   ·have := hX b h1; omega
   ·omega
   ·omega
  repeat rw [Below.heap_setCell _ _ _ _ hne]
 ·refine ⟨?_, by simp only [World.size_setCell]; exact h.2.2⟩
  rcases h.1 with ⟨h1, _⟩ | h1
  ·exact h1
  ·exact .inr (by omega)
 ·have h1 := h.base.trans (hb.mono h.base.size)
  exact (((h1.setCell (Nat.le_refl _) _).setCell (Nat.le_refl _) _).setCell (Nat.le_refl _) _).setCell (Nat.le_refl _) _

theorem BoxAt.ended {X : Nat → Prop} {w wr : World} {M : DM} {a : Option Addr} {n c : Nat} {R : List FR} (h : BoxAt X w wr M a n c R) (hX : ∀ b, X b → b < w.heap.size) (z : Int) (v0 v1 v2 v3 : Value) :
  DoEnd X w (M, z) (.returned (.tuple #[refV (M.room : Int) a n c (M.plan : Int) M.down, .int .i64 z])) ((((wr.setCell ⟨w.heap.size + 1, 0, none⟩ v0).setCell ⟨w.heap.size + 1, 1, none⟩ v1).setCell ⟨w.heap.size + 1, 2, none⟩ v2).setCell ⟨w.heap.size + 1, 3, none⟩ v3) := by
 refine ⟨a, n, c, R, rfl, h.row.mono (fun b hb => ?_) (fun b hb => ⟨hb.1.imp id (fun h1 => by omega), by simp only [World.size_setCell]; exact hb.2⟩), h.fs, ?_⟩
 ·have hne : b ≠ w.heap.size + 1 := by
   rcases hb.1 with h1 | h1
   ·have := hX b h1; omega
   ·omega
  repeat rw [Below.heap_setCell _ _ _ _ hne]
 ·exact (((h.base.setCell (Nat.le_succ _) _).setCell (Nat.le_succ _) _).setCell (Nat.le_succ _) _).setCell (Nat.le_succ _) _

set_option maxRecDepth 100000 in
set_option maxHeartbeats 6400000 in
theorem rsteps_any {X : Nat → Prop} {w : World} {v : Value} {M : DM} (h : RefAt X w v M) (hX : ∀ b, X b → b < w.heap.size) (p : Option Addr) (n c : Nat) (l : List SO) (hl : SOs w p n c l) {N U T : Nat} (hnt : Neat M N U) (hN : N + n ≤ 1000000) (hT : ∀ x ∈ l, x.bs.length ≤ T) (hub : U + n * T ≤ 10000000) :
  Calls Tryz.prog 54 #[v, .slice p n c] w (DoEnd X w (stepsM l M)) := by
 obtain ⟨a, m, c0, R, rfl, hR, hfs, hn⟩ := h
 unfold refV
 have hst : BoxAt X w ((w.alloc (.cells #[.int .i64 (M.room : Int), .slice a m c0, .int .i64 (M.plan : Int), .bool M.down] 25)).alloc (.cells #[.int .i64 0, .slice none 0 0, .int .i64 0, .bool false] 25)) M a m c0 R := by
  have hb := ((Below.refl w.heap.size w).alloc (Nat.le_refl _) (.cells #[.int .i64 (M.room : Int), .slice a m c0, .int .i64 (M.plan : Int), .bool M.down] 25)).alloc (by simp) (.cells #[.int .i64 0, .slice none 0 0, .int .i64 0, .bool false] 25)
  refine ⟨(Below.heap_alloc _ _ _ (by simp)).trans (heap_alloc_new _ _), ?_, (hR.below hX hb).mono (fun _ _ => rfl) (fun b h => ⟨.inl h, by simp only [World.size_alloc]; have := hX b h; omega⟩), hfs, hb⟩
  have h2 := heap_alloc_new (w.alloc (.cells #[.int .i64 (M.room : Int), .slice a m c0, .int .i64 (M.plan : Int), .bool M.down] 25)) (.cells #[.int .i64 0, .slice none 0 0, .int .i64 0, .bool false] 25)
  rw [World.size_alloc] at h2
  exact h2
 have Hst := Lib.hid hst
 have HL := Lib.hid hl
 have HX := Lib.hid hX
 have Hnt := Lib.hid hnt
 have HT := Lib.hid hT
 have hls := Lib.hid hl.len
 clear hR hfs hn hst hl hX hnt hT
 go_enter Tryz.func54, Tryz.ntmps54
 go_wp2
 go_loopw [6] (fun i wr => ∃ (j : Nat) (M' : DM) (a' : Option Addr) (n' c' : Nat) (R' : List FR), j ≤ n ∧ i = .int .i64 (j : Int) ∧ BoxAt X w wr M' a' n' c' R' ∧ stepsM l M = stepsM (l.drop j) M' ∧ Neat M' (N + j) (U + j * T)) (fun i _ => n - (intOf i).toNat)
 case atStart => exact ⟨0, M, a, m, c0, R, Nat.zero_le _, rfl, Hst.out, rfl, by simpa using Hnt.out⟩
 case round =>
  obtain ⟨j, M', a', n', c', R', hj, rfl, hB, hE, hN'⟩ := hrel
  by_cases hlt : j < n
  ·have hjl : j < l.length := by rw [hls.out]; exact hlt
   obtain ⟨b, o, rfl, hc⟩ := HL.out.cell (by omega)
   obtain ⟨pb, cb, hx0⟩ := hc j hjl
   have hx := hx0.grow hB.base
   have hXr : ∀ b, (X b ∨ w.heap.size + 1 < b) ∧ b < wr.heap.size → b < wr.heap.size := fun b h => h.2
   have hjT : j * T + T ≤ n * T := by
    have h1 : (j + 1) * T ≤ n * T := Nat.mul_le_mul_right T (by omega)
    rw [Nat.succ_mul] at h1
    exact h1
   have hbl := HT.out l[j] (List.getElem_mem hjl)
   have hus := hN'.small.used
   have hfl := hN'.small.files
   have hln : n' ≤ 1000000 := by rw [← hB.row.len, ← List.length_map (f := FR.f), hB.fs]; omega
   have HDo := Lib.hid (fun W1 (hb1 : Below wr.heap.size wr W1) => rdo_all (X := fun b => (X b ∨ w.heap.size + 1 < b) ∧ b < wr.heap.size) (w := W1) (M := M') ⟨a', n', c', R', rfl, hB.row.below hXr hb1, hB.fs, hln⟩ (fun b h => Nat.lt_of_lt_of_le h.2 hb1.size) hN'.plan hN'.sorted l[j].k hx.kk l[j].nm l[j].tt hx.w1 hx.w2 pb l[j].bs.length cb l[j].bs (fun W2 hW2 => hx.bytes.grow (hb1.trans (hW2.mono hb1.size))) (by omega) (by omega))
   have HS := Lib.hid (fun W1 (hb1 : Below wr.heap.size wr W1) => (show W1.cell? ⟨w.heap.size, 0, none⟩ = some (.int .i64 (M'.room : Int)) ∧ W1.cell? ⟨w.heap.size, 1, none⟩ = some (.slice a' n' c') ∧ W1.cell? ⟨w.heap.size, 2, none⟩ = some (.int .i64 (M'.plan : Int)) ∧ W1.cell? ⟨w.heap.size, 3, none⟩ = some (.bool M'.down) ∧ W1.cell? ⟨b, o + j * 4, none⟩ = some (.int .i64 l[j].k) ∧ W1.cell? ⟨b, o + j * 4 + 1, none⟩ = some (.string ⟨l[j].nm.toArray⟩) ∧ W1.cell? ⟨b, o + j * 4 + 2, none⟩ = some (.string ⟨l[j].tt.toArray⟩) ∧ W1.cell? ⟨b, o + j * 4 + 3, none⟩ = some (.slice pb l[j].bs.length cb) from by
    obtain ⟨c0, c1, c2, c3, _⟩ := box4c ((hb1.block _ (by have := hB.lt; omega)).trans hB.box)
    exact ⟨c0, c1, c2, c3, cell_keep hb1 hx.k0, cell_keep hb1 hx.k1, cell_keep hb1 hx.k2, cell_keep hb1 hx.k3⟩))
   have hnx := stepM_neat hN' l[j].k l[j].nm l[j].tt l[j].bs
   have hE2 : stepsM (l.drop j) M' = if (stepM l[j].k l[j].nm l[j].tt l[j].bs M').2 = 0 then stepsM (l.drop (j + 1)) (stepM l[j].k l[j].nm l[j].tt l[j].bs M').1 else stepM l[j].k l[j].nm l[j].tt l[j].bs M' := by
    rw [List.drop_eq_getElem_cons hjl]
    rfl
   rw [hE2] at hE
   have HE := Lib.hid hE
   have Hnx := Lib.hid (hnx.mono (N' := N + (j + 1)) (U' := U + (j + 1) * T) (by omega) (by rw [Nat.succ_mul]; omega))
   have HB := Lib.hid hB
   have HXr := Lib.hid hXr
   unfold opV refV at HDo
   have hlt2 := hB.lt
   have Hlt := Lib.hid hlt
   have hji : (j : Int) < (n : Int) := by omega
   clear hE hE2 hnx hXr hx hx0 hc hN' hus hfl hln hbl hjT hB hlt
   generalize stepM l[j].k l[j].nm l[j].tt l[j].bs M' = r at *
   generalize l[j] = z at *
   obtain ⟨k, nm, tt, bs⟩ := z
   simp only at *
   go_upto_region 4 with fail
   go_cut [7, 8] (fun t4 t5 wx => DoCut (fun b => (X b ∨ w.heap.size + 1 < b) ∧ b < wr.heap.size) wr r t4 t5 wx)
   case first =>
    go_region_held3 (fun w' => w'.cell? ⟨w.heap.size, 0, none⟩ = some (.int .i64 (M'.room : Int)) ∧ w'.cell? ⟨w.heap.size, 1, none⟩ = some (.slice a' n' c') ∧ w'.cell? ⟨w.heap.size, 2, none⟩ = some (.int .i64 (M'.plan : Int)) ∧ w'.cell? ⟨w.heap.size, 3, none⟩ = some (.bool M'.down) ∧ w'.cell? ⟨b, o + j * 4, none⟩ = some (.int .i64 k) ∧ w'.cell? ⟨b, o + j * 4 + 1, none⟩ = some (.string ⟨nm.toArray⟩) ∧ w'.cell? ⟨b, o + j * 4 + 2, none⟩ = some (.string ⟨tt.toArray⟩) ∧ w'.cell? ⟨b, o + j * 4 + 3, none⟩ = some (.slice pb bs.length cb))
     (first | exact HS.out _ (by (repeat (first | assumption | exact Below.refl _ _ | refine Below.drew ?_ | refine Below.alloc ?_ (by (first | exact Nat.le_refl _ | (simp; done) | (simp; omega) | omega)) _ | refine Below.setCell ?_ (by (first | exact Nat.le_refl _ | (show _ ≤ _; omega) | (simp; done) | (simp; omega))) _))))
     (first
      | (go_at_call 74; (with_reducible refine (HDo.out _ (by (repeat (first | assumption | exact Below.refl _ _ | refine Below.drew ?_ | refine Below.alloc ?_ (by (first | exact Nat.le_refl _ | (simp; done) | (simp; omega) | omega)) _ | refine Below.setCell ?_ (by (first | exact Nat.le_refl _ | (show _ ≤ _; omega) | (simp; done) | (simp; omega))) _)))).mono ?_); rintro e w4 ⟨a4, n4, c4, R4, rfl, hR4, hf4, hb4⟩; unfold refV; have hb4w : Below wr.heap.size wr w4 := Below.trans (by (repeat (first | assumption | exact Below.refl _ _ | refine Below.drew ?_ | refine Below.alloc ?_ (by (first | exact Nat.le_refl _ | (simp; done) | (simp; omega) | omega)) _ | refine Below.setCell ?_ (by (first | exact Nat.le_refl _ | (show _ ≤ _; omega) | (simp; done) | (simp; omega))) _))) (hb4.mono (by (first | exact Nat.le_refl _ | (simp; done) | (simp; omega) | omega))); have hb4z := hb4w.size; (try have hq4 := (hb4.block wr.heap.size (by simp)).trans (heap_alloc_new wr (.cells #[.int .i64 0, .slice none 0 0, .int .i64 0, .bool false] 25))); (first | (have hq5 := box4c hq4; obtain ⟨q0, q1, q2, q3, qf⟩ := hq5) | skip)))
    all_goals go_wp2_with fail
    all_goals go_meet
    ·exact doCut_new hb4w (Nat.le_refl _) hR4 hf4
    ·exact doCut_set hb4w (Nat.le_succ _) HXr.out (hR4.mono (fun _ _ => rfl) (fun b h => ⟨h.1.imp id (fun h1 => by have h2 : (wr.alloc (.cells #[.int .i64 0, .slice none 0 0, .int .i64 0, .bool false] 25)).heap.size ≤ b := h1; rw [World.size_alloc] at h2; exact h2), h.2⟩)) hf4 (Nat.le_refl _) (Nat.lt_succ_self _) hq4
   case rest =>
    obtain ⟨B, a4, n4, c4, R4, rfl, rfl, hBx, hBle, hR4, hf4, hb4⟩ := hcut
    obtain ⟨x0, x1, x2, x3, xf⟩ := box4c hBx
    obtain ⟨y0, y1, y2, y3, yf⟩ := box4c ((hb4.block _ (by omega)).trans HB.out.box)
    have HBS := Lib.hid (HB.out.store HX.out (r := r.1) hR4 hf4 hb4)
    have hne : B ≠ w.heap.size := by omega
    clear hBx hR4 hf4 hb4
    by_cases hr : r.2 = 0
    ·have hb0 : (r.2 != 0) = false := by simp [hr]
     have HE2 := Lib.hid (HE.out.trans (if_pos hr))
     go_wp2
     go_roundw
     case rel => exact ⟨j + 1, r.1, a4, n4, c4, R4, Hlt.out, by go_num, HBS.out, HE2.out, Hnx.out⟩
     case measure => simp [intOf]; omega
    ·have hb0 : (r.2 != 0) = true := by simp [hr]
     have HE2 := Lib.hid (HE.out.trans (if_neg hr))
     generalize hwS : ((((wc.setCell ⟨w.heap.size, 0, none⟩ (.int .i64 (r.1.room : Int))).setCell ⟨w.heap.size, 1, none⟩ (.slice a4 n4 c4)).setCell ⟨w.heap.size, 2, none⟩ (.int .i64 (r.1.plan : Int))).setCell ⟨w.heap.size, 3, none⟩ (.bool r.1.down)) = wS at HBS
     obtain ⟨z0, z1, z2, z3, zf⟩ := box4c HBS.out.res
     obtain ⟨u0, u1, u2, u3, uf⟩ := box4c HBS.out.box
     go_wp2
     refine bodyPost_ret (v := .tuple #[refV (r.1.room : Int) a4 n4 c4 (r.1.plan : Int) r.1.down, .int .i64 r.2]) ?_ rfl ?_
     ·rw [results_cell_tmp rfl]
      go_simp
      rfl
     ·rw [HE2.out]
      exact HBS.out.ended HX.out r.2 _ _ _ _
  ·obtain rfl : n = j := by omega
   have hji : ¬ (n : Int) < (n : Int) := by omega
   have hdr : l.drop n = [] := List.drop_eq_nil_of_le (Nat.le_of_eq hls.out)
   rw [hdr] at hE
   have HE := Lib.hid (show stepsM l M = (M', 0) from hE)
   have HB := Lib.hid hB
   obtain ⟨x0, x1, x2, x3, xf⟩ := box4c hB.box
   obtain ⟨z0, z1, z2, z3, zf⟩ := box4c hB.res
   clear hB hE hN' hdr
   go_wp2
   refine bodyPost_ret (v := .tuple #[refV (M'.room : Int) a' n' c' (M'.plan : Int) M'.down, .int .i64 0]) ?_ rfl ?_
   ·rw [results_cell_tmp rfl]
    go_simp
    rfl
   ·rw [HE.out]
    exact HB.out.ended HX.out 0 _ _ _ _
end Go.Proofs.YtnbddiiedagllaaGreat

/- The walks of New, of what tells a log's state, of a nil log, and of the statements' start. -/
namespace Go.Proofs.YtnbddiiedagllaaGreat
open Go.RowKit Go.Maps Go.Shelf

theorem wnew_any (d N S : Nat) (most : Int) (w : World) :
  Calls Tryz.prog 67 #[.pointer (some ⟨d, 0, none⟩), .int .i64 most, .int .i64 (N : Int), .int .i64 (S : Int)] w fun e w' => e = .returned (.pointer (some ⟨w.heap.size, 0, none⟩)) ∧
   w' = w.alloc (.cells #[.int .i64 (N : Int), .int .i64 (S : Int), .int .i64 0, .pointer (some ⟨d, 0, none⟩), .int .i64 most] 129) := by
 go_enter Tryz.func67, Tryz.ntmps67
 go_wp2
 go_ret
 exact ⟨rfl, rfl⟩

theorem segment_any {g : Nat} {z : Int} {w : World} (h : w.cell? ⟨g, 0, none⟩ = some (.int .i64 z)) :
  Calls Tryz.prog 25 #[.pointer (some ⟨g, 0, none⟩)] w fun e w' => e = .returned (.int .i64 z) ∧ w' = w := by
 go_enter Tryz.func25, Tryz.ntmps25
 go_wp2
 go_ret
 exact ⟨rfl, rfl⟩

theorem wsize_any {g : Nat} {z : Int} {w : World} (h : w.cell? ⟨g, 1, none⟩ = some (.int .i64 z)) :
  Calls Tryz.prog 26 #[.pointer (some ⟨g, 0, none⟩)] w fun e w' => e = .returned (.int .i64 z) ∧ w' = w := by
 go_enter Tryz.func26, Tryz.ntmps26
 go_wp2
 go_ret
 exact ⟨rfl, rfl⟩

end Go.Proofs.YtnbddiiedagllaaGreat

/- The walks of a log's recovery where there is none: a nil disk, one that is down, one without segments. -/
namespace Go.Proofs.YtnbddiiedagllaaGreat
open Go.RowKit Go.Maps Go.Shelf

attribute [local go_sem ↓] Go.wp_at_zero Go.wp_at_succ

structure FD where
 ra : Option Addr
 rn : Nat
 rc : Nat
 oa : Option Addr
 on : Nat
 oc : Nat
 n : Int
 mark : Bool
 pa : Option Addr
 pn : Nat
 pc : Nat
 wa : Option Addr
 wn : Nat
 wc : Nat
 tn : Int
 no : Bool

def foundV (x : FD) : Value := .agg #[.slice x.ra x.rn x.rc, .slice x.oa x.on x.oc, .int .i64 x.n, .bool x.mark, .slice x.pa x.pn x.pc, .slice x.wa x.wn x.wc, .int .i64 x.tn, .bool x.no]

def fd0 : FD := ⟨none, 0, 0, none, 0, 0, 0, false, none, 0, 0, none, 0, 0, 0, false⟩
def fd1 : FD := ⟨none, 0, 0, none, 0, 0, 1, false, none, 0, 0, none, 0, 0, 0, true⟩
def found0 : Value := foundV fd0
def found1 : Value := foundV fd1

set_option maxRecDepth 100000 in
set_option maxHeartbeats 3200000 in
theorem find_none {w0 : World} {X : Nat → Prop} {w : World} {d : Nat} {M : DM} (hO : Own w0 X w d M) (hd : M.down = false) (hl : M.fs.length ≤ 1000) (hnm : ∀ f ∈ M.fs, f.n.length ≤ 9223372036854775807) (hs : SegsOf M []) : Calls Tryz.prog 57 #[.pointer (some ⟨d, 0, none⟩)] w fun e w' => e = .returned (.tuple #[found1, .int .i64 0]) ∧ Below w.heap.size w w' := by
 obtain ⟨w1, hw1⟩ : ∃ w1, w1 = w.alloc (.cells #[.slice none 0 0, .slice none 0 0, .int .i64 0, .bool false, .slice none 0 0, .slice none 0 0, .int .i64 0, .bool false] 107) := ⟨_, rfl⟩
 have hb1 : Below w.heap.size w w1 := by rw [hw1]; exact (Below.refl _ _).alloc (Nat.le_refl _) _
 have hB1 : w1.heap[w.heap.size]? = some (.cells #[.slice none 0 0, .slice none 0 0, .int .i64 0, .bool false, .slice none 0 0, .slice none 0 0, .int .i64 0, .bool false] 107 (0, 0)) := by rw [hw1]; exact heap_alloc_new _ _
 have HD := Lib.hid (own_down (hO.below hb1))
 rw [hd] at HD
 have HLi := Lib.hid (own_list (hO.below hb1) (by omega))
 have Hnm := Lib.hid hnm
 have Hs := Lib.hid hs
 have Hb1 := Lib.hid hb1
 have HB1 := Lib.hid hB1
 have Hw1 := Lib.hid hw1
 clear hO hd hnm hs hb1 hB1 hw1
 go_enter Tryz.func57, Tryz.ntmps57
 go_wp2_with fail
 rw [← Hw1.out]
 refine HD.out.mono ?_
 rintro e w2 ⟨rfl, rfl⟩
 go_wp2_with fail
 refine HLi.out.mono ?_
 rintro e w3 ⟨v3, rfl, hown, hb3⟩
 obtain ⟨p3, k3, rfl, hS3⟩ := strs_row hown (fun n hn => by obtain ⟨f, hf, rfl⟩ := List.mem_map.1 hn; exact Hnm.out f hf)
 have HSl := Lib.hid (seglist_any p3 M.fs.length k3 _ w3 hS3 hl)
 have Hb3 := Lib.hid hb3
 clear hown hS3 hb3
 go_wp2_with fail
 refine HSl.out.mono ?_
 rintro e w4 ⟨v4, out, rfl, hasc, hmem, hol, hown4, hb4⟩
 have hmap : (M.fs.map F.n).map nmL = M.fs.map fun f => nmL f.n := by rw [List.map_map]; rfl
 rw [hmap] at hmem
 obtain rfl : out = [] := segsOf_uniq ⟨hasc, hmem⟩ Hs.out
 obtain ⟨p4, k4, rfl, _⟩ := own_ints hown4
 have Hb4 := Lib.hid (Hb3.out.trans (hb4.mono Hb3.out.size))
 have hB4 := (Hb4.out.block _ (Array.getElem?_eq_some_iff.1 HB1.out).1).trans HB1.out
 obtain ⟨c0, c1, c2, c3, c4, c5, c6, c7, cf⟩ := box8 hB4
 clear hasc hmem hol hmap hown4 hb4 hB4
 go_wp2
 refine bodyPost_ret (v := .tuple #[found1, .int .i64 0]) ?_ rfl ⟨rfl, ?_⟩
 ·rw [results_cell_tmp rfl]
  go_simp
  rfl
 ·have hb := Hb1.out.trans (Hb4.out.mono Hb1.out.size)
  exact (((((((hb.setCell (Nat.le_refl _) _).setCell (Nat.le_refl _) _).setCell (Nat.le_refl _) _).setCell (Nat.le_refl _) _).setCell (Nat.le_refl _) _).setCell (Nat.le_refl _) _).setCell (Nat.le_refl _) _).setCell (Nat.le_refl _) _

def FoundEnd (Q : FD → Int → World → Prop) (w : World) (e : Ending) (w' : World) : Prop :=
 ∃ x z, e = .returned (.tuple #[foundV x, .int .i64 z]) ∧ Q x z w' ∧ Below w.heap.size w w'

set_option maxRecDepth 100000 in
theorem look_of {Q : FD → Int → World → Prop} (hQ : ∀ x z (w1 w2 : World), Q x z w1 → Below w1.heap.size w1 w2 → Q x z w2) {v : Value} {w : World} (h : Calls Tryz.prog 57 #[v] w (FoundEnd Q w)) :
  Calls Tryz.prog 15 #[v] w fun e w' => ∃ x z, e = .returned (.tuple #[.slice x.ra x.rn x.rc, .int .i64 z]) ∧ Q x z w' ∧ Below w.heap.size w w' := by
 have H := Lib.hid h
 have HQ := Lib.hid hQ
 clear h hQ
 go_enter Tryz.func15, Tryz.ntmps15
 go_wp2_with fail
 refine H.out.mono ?_
 rintro e w1 ⟨x, z, rfl, hq, hb⟩
 unfold foundV
 have Hq := Lib.hid (HQ.out _ _ w1 (w1.alloc (.cells #[.slice x.ra x.rn x.rc, .slice x.oa x.on x.oc, .int .i64 x.n, .bool x.mark, .slice x.pa x.pn x.pc, .slice x.wa x.wn x.wc, .int .i64 x.tn, .bool x.no] 107)) hq ((Below.refl _ _).alloc (Nat.le_refl _) _))
 have Hb := Lib.hid (hb.alloc hb.size (.cells #[.slice x.ra x.rn x.rc, .slice x.oa x.on x.oc, .int .i64 x.n, .bool x.mark, .slice x.pa x.pn x.pc, .slice x.wa x.wn x.wc, .int .i64 x.tn, .bool x.no] 107))
 clear hq hb
 go_wp2
 go_ret2
 exact ⟨x, z, rfl, Hq.out, Hb.out⟩

set_option maxRecDepth 100000 in
theorem sopen_code {Q : FD → Int → World → Prop} {v : Value} {w : World} {most z0 : Int} (hz : z0 ≠ 0) (hQ : ∀ x z w1, Q x z w1 → z = z0) (h : Calls Tryz.prog 57 #[v] w (FoundEnd Q w)) :
  Calls Tryz.prog 21 #[v, .int .i64 most] w fun e w' => e = .returned (.tuple #[.pointer none, .slice none 0 0, .int .i64 z0]) ∧ Below w.heap.size w w' := by
 have H := Lib.hid h
 have HQ := Lib.hid hQ
 have hz0 : (z0 == 0) = false := by rw [beq_eq_false_iff_ne]; exact hz
 have hz1 : (z0 != 0) = true := by simp [hz]
 clear h hQ hz
 go_enter Tryz.func21, Tryz.ntmps21
 go_wp2_with fail
 refine H.out.mono ?_
 rintro e w1 ⟨x, z, rfl, hq, hb⟩
 obtain rfl := HQ.out _ _ _ hq
 unfold foundV
 have Hb := Lib.hid (hb.alloc hb.size (.cells #[.slice x.ra x.rn x.rc, .slice x.oa x.on x.oc, .int .i64 x.n, .bool x.mark, .slice x.pa x.pn x.pc, .slice x.wa x.wn x.wc, .int .i64 x.tn, .bool x.no] 107))
 clear hq hb
 go_wp2
 refine bodyPost_ret (results_tmp3 rfl _ _ _) rfl ⟨rfl, Hb.out⟩
end Go.Proofs.YtnbddiiedagllaaGreat

/- The walk of readPart: a segment of a log. -/
namespace Go.Proofs.YtnbddiiedagllaaGreat
open Go.RowKit Go.Maps Go.Shelf

attribute [local go_sem ↓] Go.wp_at_zero Go.wp_at_succ

structure RecsZ (Z : Nat → Prop) (w : World) (a : Option Addr) (n cap : Nat) (ls : List (List Nat)) : Prop where
 len : ls.length = n
 le : n ≤ cap
 capmax : cap ≤ 9223372036854775807
 cell : 0 < n → ∃ b o, a = some ⟨b, o, none⟩ ∧ (b < w.heap.size ∧ Z b) ∧
  ∀ i, i < n → ∃ a' n' c', w.cell? ⟨b, o + i, none⟩ = some (.slice a' n' c') ∧ Bytes w a' n' c' (ls.getD i []) ∧ (0 < n' → ∀ x, a' = some x → Z x.block)

theorem RecsZ.grow {Z : Nat → Prop} {w w' : World} {a : Option Addr} {n cap : Nat} {ls : List (List Nat)} (h : RecsZ Z w a n cap ls) (hw : Below w.heap.size w w') : RecsZ Z w' a n cap ls := by
 obtain ⟨h1, h2, h3, h4⟩ := h
 refine ⟨h1, h2, h3, fun hn => ?_⟩
 obtain ⟨b, o, rfl, hb, hc⟩ := h4 hn
 refine ⟨b, o, rfl, ⟨Nat.lt_of_lt_of_le hb.1 hw.size, hb.2⟩, fun i hi => ?_⟩
 obtain ⟨a', n', c', g1, g2, g3⟩ := hc i hi
 exact ⟨a', n', c', cell_keep hw g1, g2.grow hw, g3⟩

theorem PartsZ.recs {Z : Nat → Prop} {w : World} {base : Nat} {v : Value} {ls : List (List Nat)} (h : PartsZ Z w base v ls) (hZ : ∀ b, base ≤ b → Z b) : ∃ a cap, v = .slice a ls.length cap ∧ RecsZ Z w a ls.length cap ls := by
 obtain ⟨vs, h1, h2, h3⟩ := h
 rcases h2.2 with ⟨rfl, h0⟩ | ⟨g, cap, cur, rfl, hbg, hg, hle, hcm, hsz, htake⟩
 ·have e : ls = [] := List.length_eq_zero_iff.1 h0
  subst e
  exact ⟨none, 0, rfl, rfl, Nat.le_refl _, by omega, fun h => absurd h (Nat.lt_irrefl _)⟩
 ·rw [maxLen_nat] at hcm
  refine ⟨_, cap, rfl, rfl, hle, hcm, fun hn => ⟨g, 0, rfl, ⟨(Array.getElem?_eq_some_iff.1 hg).1, hZ g hbg⟩, fun i hi => ?_⟩⟩
  obtain ⟨a, n, c, h4, h5, h6⟩ := h3 i hi
  refine ⟨a, n, c, ?_, h5, fun h x hx => (h6 h x hx).2⟩
  rw [Nat.zero_add, cell_of_row w g i cur _ (0, 0) hg, ← h4, ← htake, List.getElem?_take, if_pos (by omega), Array.getElem?_toList]

theorem RecsZ.tail {Z : Nat → Prop} {w : World} {b o : Nat} {n cap : Nat} {ls : List (List Nat)} (h : RecsZ Z w (some ⟨b, o, none⟩) n cap ls) (hn : 1 ≤ n) : RecsZ Z w (some ⟨b, o + 1, none⟩) (n - 1) (cap - 1) ls.tail := by
 obtain ⟨h1, h2, h3, h4⟩ := h
 refine ⟨by rw [List.length_tail, h1], by omega, by omega, fun h0 => ?_⟩
 obtain ⟨b', o', e, hb, hc⟩ := h4 (by omega)
 cases e
 refine ⟨b, o + 1, rfl, hb, fun i hi => ?_⟩
 obtain ⟨a', n', c', g1, g2, g3⟩ := hc (i + 1) (by omega)
 refine ⟨a', n', c', ?_, ?_, g3⟩
 ·rw [← g1, show o + 1 + i = o + (i + 1) by omega]
 ·have e2 : ls.tail.getD i [] = ls.getD (i + 1) [] := by
   rw [List.getD_eq_getElem?_getD, List.getD_eq_getElem?_getD, List.getElem?_tail]
  rw [e2]
  exact g2

theorem Bytes.moved {w w' : World} {a : Option Addr} {n c : Nat} {l : List Nat} (h : Bytes w a n c l) (hk : 0 < n → ∀ x, a = some x → w'.heap[x.block]? = w.heap[x.block]?) : Bytes w' a n c l := by
 refine ⟨h.len, h.le, h.capmax, h.byte, h.nil, fun hn => ?_⟩
 obtain ⟨b, o, rfl, hc⟩ := h.cell hn
 refine ⟨b, o, rfl, fun i hi => ?_⟩
 rw [← hc i hi]
 exact World.cell?_of_block (a := ⟨b, o + i, none⟩) (hk hn ⟨b, o, none⟩ rfl)

theorem RecsZ.moved {Z Z' : Nat → Prop} {w w' : World} {a : Option Addr} {n cap : Nat} {ls : List (List Nat)} (h : RecsZ Z w a n cap ls) (hk : ∀ b, Z b → w'.heap[b]? = w.heap[b]?) (hs : w.heap.size ≤ w'.heap.size) (hZ : ∀ b, Z b → Z' b) : RecsZ Z' w' a n cap ls := by
 obtain ⟨h1, h2, h3, h4⟩ := h
 refine ⟨h1, h2, h3, fun hn => ?_⟩
 obtain ⟨b, o, rfl, hb, hc⟩ := h4 hn
 refine ⟨b, o, rfl, ⟨Nat.lt_of_lt_of_le hb.1 hs, hZ b hb.2⟩, fun i hi => ?_⟩
 obtain ⟨a', n', c', g1, g2, g3⟩ := hc i hi
 exact ⟨a', n', c', (World.cell?_of_block (hk b hb.2)).trans g1, g2.moved (fun h x hx => hk _ (g3 h x hx)), fun h x hx => hZ _ (g3 h x hx)⟩

structure PD where
 n : Int
 mark : Bool
 pa : Option Addr
 pn : Nat
 pc : Nat
 wa : Option Addr
 wn : Nat
 wc : Nat
 tn : Int

def partV (x : PD) : Value := .agg #[.int .i64 x.n, .bool x.mark, .slice x.pa x.pn x.pc, .slice x.wa x.wn x.wc, .int .i64 x.tn]

def markOf : List (List Nat) → Bool
 | [] => false
 | r :: _ => decide (r = [])
def restOf (ls : List (List Nat)) : List (List Nat) := if markOf ls = true then ls.tail else ls

def PartEnd (w : World) (N : Nat) (L : List Nat) (e : Ending) (w' : World) : Prop :=
 ∃ x ls t, Splits L ls t ∧ e = .returned (partV x) ∧ x.n = (N : Int) ∧ x.mark = markOf ls ∧ RecsZ (fun b => w.heap.size ≤ b) w' x.pa x.pn x.pc (restOf ls) ∧ Bytes w' x.wa x.wn x.wc (L.take (sizeL ls)) ∧ x.tn = (L.length : Int) - (sizeL ls : Nat) ∧
  (∀ y, x.wa = some y → 0 < x.wn → w.heap.size ≤ y.block) ∧ Below w.heap.size w w'

theorem ismark_any (a : Option Addr) (n c : Nat) (w : World) : Calls Tryz.prog 148 #[.slice a n c] w fun e w' => e = .returned (.bool (decide (n = 0))) ∧ w' = w := by
 have h9 : ((n : Int) == 0) = decide (n = 0) := by
  by_cases e : n = 0
  ·subst e; rfl
  ·rw [decide_eq_false e, beq_eq_false_iff_ne]
   omega
 go_enter Tryz.func148, Tryz.ntmps148
 go_wp2
 go_ret
 exact ⟨by first | rfl | rw [← h9], rfl⟩

set_option maxRecDepth 100000 in
set_option maxHeartbeats 3200000 in
theorem readPart_any {w0 : World} {X : Nat → Prop} {w : World} {d : Nat} {M : DM} (hO : Own w0 X w d M) (hu : usedF M.fs ≤ 10000000) (N : Nat) (h1 : 1 ≤ N) (hN : N ≤ 99999999) :
  Calls Tryz.prog 144 #[.pointer (some ⟨d, 0, none⟩), .int .i64 (N : Int)] w (PartEnd w N (readM (nmB N) M).1) := by
 have HF := Lib.hid (fun W => sfile_any N W h1 hN)
 have HR := Lib.hid (fun W (h : Below w.heap.size w W) => own_read (hO.below h) (nmB N) (nmB_len N) (by omega))
 have HU := Lib.hid (readM_len (nmB N) M)
 have Hu := Lib.hid hu
 clear hO h1 hN
 obtain ⟨wz, hwz⟩ : ∃ wz, wz = w.alloc (.cells #[.int .i64 0, .bool false, .slice none 0 0, .slice none 0 0, .int .i64 0] 105) := ⟨_, rfl⟩
 have hbz : Below w.heap.size w wz := by rw [hwz]; exact (Below.refl _ _).alloc (Nat.le_refl _) _
 have hBz : wz.heap[w.heap.size]? = some (.cells #[.int .i64 0, .bool false, .slice none 0 0, .slice none 0 0, .int .i64 0] 105 (0, 0)) := by rw [hwz]; exact heap_alloc_new _ _
 have Hbz := Lib.hid hbz
 have HBz := Lib.hid hBz
 clear hbz hBz
 go_enter Tryz.func144, Tryz.ntmps144
 go_wp2_with fail
 rw [← hwz]
 clear hwz
 refine (HF.out _).mono ?_
 rintro e w1 ⟨rfl, hb1⟩
 have Hb1 := Lib.hid (Hbz.out.trans (hb1.mono Hbz.out.size))
 have Hbz1 := Lib.hid hb1
 clear hb1
 unfold encStr
 go_wp2_with fail
 refine (HR.out _ Hb1.out).mono ?_
 rintro e w2 ⟨p2, c2, rfl, hB2, hn2, hb2, _⟩
 have Hbz2 := Lib.hid (Hbz1.out.trans (hb2.mono Hbz1.out.size))
 have Hb2 := Lib.hid (Hb1.out.trans (hb2.mono Hb1.out.size))
 have HS := Lib.hid (splitZ_any p2 _ c2 _ w2 hB2 (by have := HU.out; have := Hu.out; omega))
 have HB2 := Lib.hid hB2
 have Hn2 := Lib.hid hn2
 have hsz2 := Hb1.out.size
 have hs12 := hb2.size
 clear hB2 hb2 hn2
 generalize (readM (nmB N) M) = r at *
 go_wp2_with fail
 refine HS.out.mono ?_
 rintro e w3 ⟨ls, t, v, hsp, rfl, hP, hb3⟩
 obtain ⟨a3, k3, rfl, hRz⟩ := hP.recs (fun _ h => h)
 have Hbz3 := Lib.hid (Hbz2.out.trans (hb3.mono Hbz2.out.size))
 have Hb3 := Lib.hid (Hb2.out.trans (hb3.mono Hb2.out.size))
 have HB3 := Lib.hid (HB2.out.grow hb3)
 have HRz := Lib.hid hRz
 have Hsp := Lib.hid hsp
 clear hsp hP hb3 hRz HS
 have hle : sizeL ls ≤ r.1.length := by
  have h := congrArg List.length Hsp.out.eq
  rw [List.length_append, joinL_len] at h
  omega
 have hlen := HU.out
 have hu0 := Hu.out
 have hlb : r.1.length ≤ 10000000 := by omega
 have hk2 := HB2.out.le
 have hm2 := HB2.out.capmax
 have hBz3 := (Hbz3.out.block _ (Array.getElem?_eq_some_iff.1 HBz.out).1).trans HBz.out
 have z0 : w3.cell? ⟨w.heap.size, 0, none⟩ = some (.int .i64 0) := by rw [cell_of_row _ _ _ _ _ (0, 0) hBz3]; rfl
 have z1 : w3.cell? ⟨w.heap.size, 1, none⟩ = some (.bool false) := by rw [cell_of_row _ _ _ _ _ (0, 0) hBz3]; rfl
 have z2 : w3.cell? ⟨w.heap.size, 2, none⟩ = some (.slice none 0 0) := by rw [cell_of_row _ _ _ _ _ (0, 0) hBz3]; rfl
 have z3 : w3.cell? ⟨w.heap.size, 3, none⟩ = some (.slice none 0 0) := by rw [cell_of_row _ _ _ _ _ (0, 0) hBz3]; rfl
 have z4 : w3.cell? ⟨w.heap.size, 4, none⟩ = some (.int .i64 0) := by rw [cell_of_row _ _ _ _ _ (0, 0) hBz3]; rfl
 have zf : ∀ i, w3.frozen? ⟨w.heap.size, i, none⟩ = false := fun i => by simp [World.frozen?, hBz3]
 have hwr : wrap64 ((r.1.length : Int) - ((sizeL ls : Nat) : Int)) = (r.1.length : Int) - ((sizeL ls : Nat) : Int) := by unfold wrap64; omega
 clear hBz3 hu0
 have hBt : Bytes w3 p2 (sizeL ls) c2 (r.1.take (sizeL ls)) := HB3.out.takeTo hle (by omega) (Nat.le_refl _)
 have HEnd := Lib.hid (fun (m : Bool) (qa : Option Addr) (qn qc : Nat) (hm : m = markOf ls) (hq : RecsZ (fun b => w2.heap.size ≤ b) w3 qa qn qc (restOf ls)) =>
  (show PartEnd w N r.1 (.returned (partV ⟨(N : Int), m, qa, qn, qc, p2, sizeL ls, c2, (r.1.length : Int) - ((sizeL ls : Nat) : Int)⟩)) (((((w3.setCell ⟨w.heap.size, 0, none⟩ (.int .i64 (N : Int))).setCell ⟨w.heap.size, 1, none⟩ (.bool m)).setCell ⟨w.heap.size, 2, none⟩ (.slice qa qn qc)).setCell ⟨w.heap.size, 3, none⟩ (.slice p2 (sizeL ls) c2)).setCell ⟨w.heap.size, 4, none⟩ (.int .i64 ((r.1.length : Int) - ((sizeL ls : Nat) : Int)))) from by
   have hlt1 : w.heap.size < w1.heap.size := Nat.lt_of_lt_of_le (Array.getElem?_eq_some_iff.1 HBz.out).1 Hbz1.out.size
   have hlt2 : w1.heap.size ≤ w2.heap.size := hs12
   have hk : ∀ b, w.heap.size < b → (((((w3.setCell ⟨w.heap.size, 0, none⟩ (.int .i64 (N : Int))).setCell ⟨w.heap.size, 1, none⟩ (.bool m)).setCell ⟨w.heap.size, 2, none⟩ (.slice qa qn qc)).setCell ⟨w.heap.size, 3, none⟩ (.slice p2 (sizeL ls) c2)).setCell ⟨w.heap.size, 4, none⟩ (.int .i64 ((r.1.length : Int) - ((sizeL ls : Nat) : Int)))).heap[b]? = w3.heap[b]? := fun b hb => by
    have hne : b ≠ w.heap.size := by omega
    repeat rw [Below.heap_setCell _ _ _ _ hne]
   exact ⟨_, ls, t, Hsp.out, rfl, rfl, hm, hq.moved (fun b hb => hk b (by omega)) (by simp) (fun b hb => by omega), hBt.moved (fun _ x hx => hk _ (by have := (Hn2.out x hx).1; omega)), rfl, fun y hy _ => (by have := (Hn2.out y hy).1; show w.heap.size ≤ y.block; omega), ((((Hb3.out.setCell (Nat.le_refl _) _).setCell (Nat.le_refl _) _).setCell (Nat.le_refl _) _).setCell (Nat.le_refl _) _).setCell (Nat.le_refl _) _⟩))
 generalize hszl : sizeL ls = sz at *
 have HRes := Lib.hid hszl
 match ls, Hsp, HRz, HEnd with
 | [], Hsp, HRz, HEnd =>
  go_wp2_with fail
  refine bodyPost_ret (v := partV ⟨(N : Int), false, a3, 0, k3, p2, sz, c2, (r.1.length : Int) - (sz : Int)⟩) ?_ rfl (HEnd.out false a3 0 k3 rfl HRz.out)
  rw [resultsN_one rfl]
  go_simp
  rfl
 | q :: ls, Hsp, HRz, HEnd =>
  obtain ⟨b, o, rfl, hbl, hc⟩ := HRz.out.cell (Nat.succ_pos _)
  obtain ⟨a', n', c', k0, hB, hZ⟩ := hc 0 (Nat.succ_pos _)
  rw [Nat.add_zero] at k0
  have HM := Lib.hid (fun W => ismark_any a' n' c' W)
  have hcap := HRz.out.capmax
  have hle3 := HRz.out.le
  have hq0 : (q :: ls).getD 0 [] = q := rfl
  rw [hq0] at hB
  by_cases hn : n' = 0
  ·subst hn
   have hqn : q = [] := List.length_eq_zero_iff.1 hB.len
   have Hmk := Lib.hid (show true = markOf (q :: ls) by rw [hqn]; rfl)
   have Hrs := Lib.hid (show restOf (q :: ls) = ls by unfold restOf; rw [← Hmk.out]; rfl)
   have HT := Lib.hid (HRz.out.tail (Nat.succ_pos _))
   have Hqn := Lib.hid hqn
   clear hqn hc hq0 hB
   go_wp2_with (go_at_call 148; refine (HM.out _).mono ?_; rintro e w4 ⟨rfl, rfl⟩)
   ·have hl0 : ls = [] := List.length_eq_zero_iff.1 (by have h := hle3; rw [List.length_cons] at h; omega)
    refine bodyPost_ret (v := partV ⟨(N : Int), true, some ⟨b, o, none⟩, ls.length, 0, p2, sz, c2, (r.1.length : Int) - (sz : Int)⟩) ?_ rfl (HEnd.out true (some ⟨b, o, none⟩) ls.length 0 Hmk.out ?_)
    ·rw [resultsN_one rfl]
     go_simp
     rfl
    ·rw [Hrs.out, hl0]
     exact ⟨rfl, Nat.le_refl _, by omega, fun h => absurd h (Nat.lt_irrefl _)⟩
   ·refine bodyPost_ret (v := partV ⟨(N : Int), true, some ⟨b, o + 1, none⟩, ls.length, k3 - 1, p2, sz, c2, (r.1.length : Int) - (sz : Int)⟩) ?_ rfl (HEnd.out true (some ⟨b, o + 1, none⟩) ls.length (k3 - 1) Hmk.out ?_)
    ·rw [resultsN_one rfl]
     go_simp
     rfl
    ·rw [Hrs.out]
     exact HT.out
  ·have hn0 : decide (n' = 0) = false := decide_eq_false hn
   have Hmk := Lib.hid (show false = markOf (q :: ls) by
    have : q ≠ [] := fun e => hn (by rw [← hB.len, e]; rfl)
    exact (decide_eq_false this).symm)
   have Hrs := Lib.hid (show restOf (q :: ls) = q :: ls by unfold restOf; rw [← Hmk.out]; rfl)
   clear hc hq0 hB
   go_wp2_with (go_at_call 148; refine (HM.out _).mono ?_; rintro e w4 ⟨rfl, rfl⟩)
   refine bodyPost_ret (v := partV ⟨(N : Int), false, some ⟨b, o, none⟩, ls.length + 1, k3, p2, sz, c2, (r.1.length : Int) - (sz : Int)⟩) ?_ rfl (HEnd.out false (some ⟨b, o, none⟩) (ls.length + 1) k3 Hmk.out ?_)
   ·rw [resultsN_one rfl]
    go_simp
    rfl
   ·rw [Hrs.out]
    exact HRz.out
end Go.Proofs.YtnbddiiedagllaaGreat

