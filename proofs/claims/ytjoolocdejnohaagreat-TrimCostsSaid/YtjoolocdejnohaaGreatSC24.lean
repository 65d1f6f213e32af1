import Derived.Test.YtjoolocdejnohaaGreatSC21
import Derived.Test.YtjoolocdejnohaaGreatSC23
import Derived.Deep.RegionHeld3
import Derived.Deep.DeepCutAuto
import Derived.Deep.CutBlock
import Derived.Test.YtjoolocdejnohaaGreatSC12
import Derived.Test.YtjoolocdejnohaaGreatSC9
import Derived.RangeFuncBox
import Derived.RangeFuncLeaves
import Derived.Shelf.Abstract
/- The walk of the reference's Steps: changes up to the first that fails. -/
namespace Go.Proofs.YtjoolocdejnohaaGreat
open Go.RowKit Go.Maps Go.Shelf

attribute [local go_sem ↓] Go.wp_at_zero Go.wp_at_succ

theorem del_sorted (n : List UInt8) {l : List F} (h : Sorted l) : Sorted (delN F.n n l) := List.Pairwise.filter _ h

theorem put_sorted (x : F) {l : List F} (h : Sorted l) : Sorted (putN F.n x l) := by
  unfold putN
  refine insN_sorted x _ (del_sorted _ h) fun y hy => ?_
  unfold delN at hy
  have := (List.mem_filter.1 hy).2
  simpa using this

theorem setN_sorted (x : F) {l : List F} (h : Sorted l) : Sorted (setN F.n x l) := by
  have hn : ∀ y : F, (if F.n y == F.n x then x else y).n = y.n := fun y => by
    by_cases e : F.n y = F.n x
    · simp [e]
    · simp [e]
  unfold Sorted setN
  rw [List.pairwise_map]
  refine h.imp ?_
  intro a b hab
  show (if F.n a == F.n x then x else a).n < (if F.n b == F.n x then x else b).n
  rw [hn a, hn b]
  exact hab

/-- What a disk's steps keep. -/
structure Neat (M : DM) (N U : Nat) : Prop where
  plan : M.plan ≤ 9223372036854775807
  sorted : Sorted M.fs
  small : Small M N U

theorem chgM_neat {M : DM} (hp : M.plan ≤ 9223372036854775807) (hs : Sorted M.fs) {nm : List UInt8} {act : DM → DM × Int} (ha : ∀ M', M'.fs = M.fs → M'.plan ≤ 9223372036854775807 → (act M').1.plan ≤ 9223372036854775807 ∧ Sorted (act M').1.fs) :
    (chgM M nm act).1.plan ≤ 9223372036854775807 ∧ Sorted (chgM M nm act).1.fs := by
  have h1 : (failM M).plan ≤ 9223372036854775807 := Nat.le_trans (failM_pl M) hp
  have h2 : Sorted (failM M).fs := by rw [failM_fs' M]; exact hs
  unfold chgM
  split
  · exact ⟨h1, h2⟩
  · split
    · exact ha _ (failM_fs' M) h1
    · exact ⟨h1, h2⟩

theorem onM_neat {M' : DM} (hp : M'.plan ≤ 9223372036854775807) (hs : Sorted M'.fs) {nm : List UInt8} {act : F → DM → DM × Int} (ha : ∀ f, (act f M').1.plan ≤ 9223372036854775807 ∧ Sorted (act f M').1.fs) : (onM nm act M').1.plan ≤ 9223372036854775807 ∧ Sorted (onM nm act M').1.fs := by
  unfold onM
  cases findN F.n nm M'.fs with
  | none => exact ⟨hp, hs⟩
  | some f => exact ha f

theorem stepM_neat {M : DM} {N U : Nat} (h : Neat M N U) (k : Int) (nm tt : List UInt8) (bs : List Nat) : Neat (stepM k nm tt bs M).1 (N + 1) (U + bs.length) := by
  refine ⟨?_, ?_, stepM_small h.small h.sorted k nm tt bs⟩ <;>
  · have key : (stepM k nm tt bs M).1.plan ≤ 9223372036854775807 ∧ Sorted (stepM k nm tt bs M).1.fs := by
      unfold stepM
      split
      · refine chgM_neat h.plan h.sorted fun M' e hp => ?_
        have hs : Sorted M'.fs := by rw [e]; exact h.sorted
        cases findN F.n nm M'.fs with
        | some f => exact ⟨hp, hs⟩
        | none => exact ⟨hp, put_sorted _ hs⟩
      · split
        · refine chgM_neat h.plan h.sorted fun M' e hp => onM_neat hp (by rw [e]; exact h.sorted) fun f => ?_
          have hs : Sorted M'.fs := by rw [e]; exact h.sorted
          split
          · exact ⟨hp, setN_sorted _ hs⟩
          · exact ⟨hp, hs⟩
        · split
          · refine chgM_neat h.plan h.sorted fun M' e hp => onM_neat hp (by rw [e]; exact h.sorted) fun f => ?_
            have hs : Sorted M'.fs := by rw [e]; exact h.sorted
            exact ⟨hp, setN_sorted _ hs⟩
          · split
            · refine chgM_neat h.plan h.sorted fun M' e hp => onM_neat hp (by rw [e]; exact h.sorted) fun f => ?_
              have hs : Sorted M'.fs := by rw [e]; exact h.sorted
              split
              · exact ⟨hp, put_sorted _ (del_sorted _ hs)⟩
              · exact ⟨hp, hs⟩
            · refine chgM_neat h.plan h.sorted fun M' e hp => onM_neat hp (by rw [e]; exact h.sorted) fun f => ?_
              have hs : Sorted M'.fs := by rw [e]; exact h.sorted
              exact ⟨hp, del_sorted _ hs⟩
    first | exact key.1 | exact key.2

theorem Neat.mono {M : DM} {N U N' U' : Nat} (h : Neat M N U) (h1 : N ≤ N') (h2 : U ≤ U') : Neat M N' U' := ⟨h.plan, h.sorted, ⟨Nat.le_trans h.small.files h1, Nat.le_trans h.small.used h2⟩⟩

/-- A change: its kind, its names, its bytes. -/
structure SO where
  k : Int
  nm : List UInt8
  tt : List UInt8
  bs : List Nat

/-- Changes up to the first that fails. -/
def stepsM : List SO → DM → DM × Int
  | [], M => (M, 0)
  | x :: l, M => if (stepM x.k x.nm x.tt x.bs M).2 = 0 then stepsM l (stepM x.k x.nm x.tt x.bs M).1 else stepM x.k x.nm x.tt x.bs M

/-- The change x lies in four cells. -/
structure SOAt (w : World) (b o : Nat) (x : SO) (pb : Option Addr) (cb : Nat) : Prop where
  k0 : w.cell? ⟨b, o, none⟩ = some (.int .i64 x.k)
  k1 : w.cell? ⟨b, o + 1, none⟩ = some (.string ⟨x.nm.toArray⟩)
  k2 : w.cell? ⟨b, o + 2, none⟩ = some (.string ⟨x.tt.toArray⟩)
  k3 : w.cell? ⟨b, o + 3, none⟩ = some (.slice pb x.bs.length cb)
  bytes : Bytes w pb x.bs.length cb x.bs
  kk : 1 ≤ x.k ∧ x.k ≤ 5
  w1 : x.nm.length ≤ 9223372036854775807
  w2 : x.tt.length ≤ 9223372036854775807

/-- The changes l lie at the start of a slice's value. -/
structure SOs (w : World) (a : Option Addr) (n c : Nat) (l : List SO) : Prop where
  len : l.length = n
  max : n ≤ 1000000
  cell : 0 < n → ∃ b o, a = some ⟨b, o, none⟩ ∧ ∀ i (hi : i < l.length), ∃ pb cb, SOAt w b (o + i * 4) l[i] pb cb

theorem SOAt.grow {w w' : World} {b o : Nat} {x : SO} {pb : Option Addr} {cb : Nat} (h : SOAt w b o x pb cb) (hb : Below w.heap.size w w') : SOAt w' b o x pb cb :=
  ⟨cell_keep hb h.k0, cell_keep hb h.k1, cell_keep hb h.k2, cell_keep hb h.k3, h.bytes.grow hb, h.kk, h.w1, h.w2⟩

theorem SOs.grow {w w' : World} {a : Option Addr} {n c : Nat} {l : List SO} (h : SOs w a n c l) (hb : Below w.heap.size w w') : SOs w' a n c l := by
  refine ⟨h.len, h.max, fun hn => ?_⟩
  obtain ⟨b, o, e, hc⟩ := h.cell hn
  exact ⟨b, o, e, fun i hi => by obtain ⟨pb, cb, hx⟩ := hc i hi; exact ⟨pb, cb, hx.grow hb⟩⟩

theorem boxD_set {w : World} {d : Nat} {a b c e : Value} {t : TypeId} {m : Nat × Nat} (h : w.heap[d]? = some (.cells #[a, b, c, e] t m)) (a' b' c' e' : Value) :
    ((((w.setCell ⟨d, 0, none⟩ a').setCell ⟨d, 1, none⟩ b').setCell ⟨d, 2, none⟩ c').setCell ⟨d, 3, none⟩ e').heap[d]? = some (.cells #[a', b', c', e'] t m) := by
  have h1 := set_head (i := 0) h a'
  have h2 := set_head (i := 1) h1 b'
  have h3 := set_head (i := 2) h2 c'
  have h4 := set_head (i := 3) h3 e'
  simpa using h4

/-- In a box at the first new block lies the disk M; the next block is the result's. -/
structure BoxAt (X : Nat → Prop) (w wr : World) (M : DM) (a : Option Addr) (n c : Nat) (R : List FR) : Prop where
  box : wr.heap[w.heap.size]? = some (.cells #[.int .i64 (M.room : Int), .slice a n c, .int .i64 (M.plan : Int), .bool M.down] 25 (0, 0))
  res : wr.heap[w.heap.size + 1]? = some (.cells #[.int .i64 0, .slice none 0 0, .int .i64 0, .bool false] 25 (0, 0))
  row : RowF (fun b => (X b ∨ w.heap.size + 1 < b) ∧ b < wr.heap.size) wr a n c R
  fs : R.map FR.f = M.fs
  base : Below w.heap.size w wr

theorem BoxAt.lt {X : Nat → Prop} {w wr : World} {M : DM} {a : Option Addr} {n c : Nat} {R : List FR} (h : BoxAt X w wr M a n c R) : w.heap.size + 1 < wr.heap.size := (Array.getElem?_eq_some_iff.1 h.res).1

/-- The disk goes into the box. -/
theorem BoxAt.store {X : Nat → Prop} {w wr wc : World} {M : DM} {a a1 : Option Addr} {n c n1 c1 : Nat} {R R1 : List FR} (h : BoxAt X w wr M a n c R) (hX : ∀ b, X b → b < w.heap.size) {r : DM} {B : Nat}
    (hR : RowF (fun b => (((X b ∨ w.heap.size + 1 < b) ∧ b < wr.heap.size) ∨ wr.heap.size ≤ b) ∧ b ≠ B ∧ b < wc.heap.size) wc a1 n1 c1 R1) (hf : R1.map FR.f = r.fs) (hb : Below wr.heap.size wr wc) :
    BoxAt X w ((((wc.setCell ⟨w.heap.size, 0, none⟩ (.int .i64 (r.room : Int))).setCell ⟨w.heap.size, 1, none⟩ (.slice a1 n1 c1)).setCell ⟨w.heap.size, 2, none⟩ (.int .i64 (r.plan : Int))).setCell ⟨w.heap.size, 3, none⟩ (.bool r.down)) r a1 n1 c1 R1 := by
  have hlt := h.lt
  refine ⟨boxD_set ((hb.block _ (by omega)).trans h.box) _ _ _ _, ?_, hR.mono (fun b h => ?_) (fun b h => ?_), hf, ?_⟩
  · have hne : w.heap.size + 1 ≠ w.heap.size := by omega
    repeat rw [Below.heap_setCell _ _ _ _ hne]
    exact (hb.block _ hlt).trans h.res
  · have hne : b ≠ w.heap.size := by
      rcases h.1 with ⟨h1 | h1, _⟩ | h1
      · have := hX b h1; omega
      · omega
      · omega
    repeat rw [Below.heap_setCell _ _ _ _ hne]
  · refine ⟨?_, by simp only [World.size_setCell]; exact h.2.2⟩
    rcases h.1 with ⟨h1, _⟩ | h1
    · exact h1
    · exact .inr (by omega)
  · have h1 := h.base.trans (hb.mono h.base.size)
    exact (((h1.setCell (Nat.le_refl _) _).setCell (Nat.le_refl _) _).setCell (Nat.le_refl _) _).setCell (Nat.le_refl _) _

/-- What the call answers. -/
theorem BoxAt.ended {X : Nat → Prop} {w wr : World} {M : DM} {a : Option Addr} {n c : Nat} {R : List FR} (h : BoxAt X w wr M a n c R) (hX : ∀ b, X b → b < w.heap.size) (z : Int) (v0 v1 v2 v3 : Value) :
    DoEnd X w (M, z) (.returned (.tuple #[refV (M.room : Int) a n c (M.plan : Int) M.down, .int .i64 z])) ((((wr.setCell ⟨w.heap.size + 1, 0, none⟩ v0).setCell ⟨w.heap.size + 1, 1, none⟩ v1).setCell ⟨w.heap.size + 1, 2, none⟩ v2).setCell ⟨w.heap.size + 1, 3, none⟩ v3) := by
  refine ⟨a, n, c, R, rfl, h.row.mono (fun b hb => ?_) (fun b hb => ⟨hb.1.imp id (fun h1 => by omega), by simp only [World.size_setCell]; exact hb.2⟩), h.fs, ?_⟩
  · have hne : b ≠ w.heap.size + 1 := by
      rcases hb.1 with h1 | h1
      · have := hX b h1; omega
      · omega
    repeat rw [Below.heap_setCell _ _ _ _ hne]
  · exact (((h.base.setCell (Nat.le_succ _) _).setCell (Nat.le_succ _) _).setCell (Nat.le_succ _) _).setCell (Nat.le_succ _) _

set_option maxRecDepth 100000 in
set_option maxHeartbeats 6400000 in
theorem rsteps_any {X : Nat → Prop} {w : World} {v : Value} {M : DM} (h : RefAt X w v M) (hX : ∀ b, X b → b < w.heap.size) (p : Option Addr) (n c : Nat) (l : List SO) (hl : SOs w p n c l) {N U T : Nat} (hnt : Neat M N U) (hN : N + n ≤ 1000000) (hT : ∀ x ∈ l, x.bs.length ≤ T) (hub : U + n * T ≤ 10000000) :
    Calls Tryz.prog 54 #[v, .slice p n c] w (DoEnd X w (stepsM l M)) := by
  obtain ⟨a, m, c0, R, rfl, hR, hfs, hn⟩ := h
  unfold refV
  have hst : BoxAt X w ((w.alloc (.cells #[.int .i64 (M.room : Int), .slice a m c0, .int .i64 (M.plan : Int), .bool M.down] 25)).alloc (.cells #[.int .i64 0, .slice none 0 0, .int .i64 0, .bool false] 25)) M a m c0 R := by
    have hb := ((Below.refl w.heap.size w).alloc (Nat.le_refl _) (.cells #[.int .i64 (M.room : Int), .slice a m c0, .int .i64 (M.plan : Int), .bool M.down] 25)).alloc (by simp) (.cells #[.int .i64 0, .slice none 0 0, .int .i64 0, .bool false] 25)
    refine ⟨(Below.heap_alloc _ _ _ (by simp)).trans (heap_alloc_new _ _), ?_, (hR.below hX hb).mono (fun _ _ => rfl) (fun b h => ⟨.inl h, by simp only [World.size_alloc]; have := hX b h; omega⟩), hfs, hb⟩
    have h2 := heap_alloc_new (w.alloc (.cells #[.int .i64 (M.room : Int), .slice a m c0, .int .i64 (M.plan : Int), .bool M.down] 25)) (.cells #[.int .i64 0, .slice none 0 0, .int .i64 0, .bool false] 25)
    rw [World.size_alloc] at h2
    exact h2
  have Hst := Lib.hid hst
  have HL := Lib.hid hl
  have HX := Lib.hid hX
  have Hnt := Lib.hid hnt
  have HT := Lib.hid hT
  have hls := Lib.hid hl.len
  clear hR hfs hn hst hl hX hnt hT
  go_enter Tryz.func54, Tryz.ntmps54
  go_wp2
  go_loopw [6] (fun i wr => ∃ (j : Nat) (M' : DM) (a' : Option Addr) (n' c' : Nat) (R' : List FR), j ≤ n ∧ i = .int .i64 (j : Int) ∧ BoxAt X w wr M' a' n' c' R' ∧ stepsM l M = stepsM (l.drop j) M' ∧ Neat M' (N + j) (U + j * T)) (fun i _ => n - (intOf i).toNat)
  case atStart => exact ⟨0, M, a, m, c0, R, Nat.zero_le _, rfl, Hst.out, rfl, by simpa using Hnt.out⟩
  case round =>
    obtain ⟨j, M', a', n', c', R', hj, rfl, hB, hE, hN'⟩ := hrel
    by_cases hlt : j < n
    · have hjl : j < l.length := by rw [hls.out]; exact hlt
      obtain ⟨b, o, rfl, hc⟩ := HL.out.cell (by omega)
      obtain ⟨pb, cb, hx0⟩ := hc j hjl
      have hx := hx0.grow hB.base
      have hXr : ∀ b, (X b ∨ w.heap.size + 1 < b) ∧ b < wr.heap.size → b < wr.heap.size := fun b h => h.2
      have hjT : j * T + T ≤ n * T := by
        have h1 : (j + 1) * T ≤ n * T := Nat.mul_le_mul_right T (by omega)
        rw [Nat.succ_mul] at h1
        exact h1
      have hbl := HT.out l[j] (List.getElem_mem hjl)
      have hus := hN'.small.used
      have hfl := hN'.small.files
      have hln : n' ≤ 1000000 := by rw [← hB.row.len, ← List.length_map (f := FR.f), hB.fs]; omega
      have HDo := Lib.hid (fun W1 (hb1 : Below wr.heap.size wr W1) => rdo_all (X := fun b => (X b ∨ w.heap.size + 1 < b) ∧ b < wr.heap.size) (w := W1) (M := M') ⟨a', n', c', R', rfl, hB.row.below hXr hb1, hB.fs, hln⟩ (fun b h => Nat.lt_of_lt_of_le h.2 hb1.size) hN'.plan hN'.sorted l[j].k hx.kk l[j].nm l[j].tt hx.w1 hx.w2 pb l[j].bs.length cb l[j].bs (fun W2 hW2 => hx.bytes.grow (hb1.trans (hW2.mono hb1.size))) (by omega) (by omega))
      have HS := Lib.hid (fun W1 (hb1 : Below wr.heap.size wr W1) => (show W1.cell? ⟨w.heap.size, 0, none⟩ = some (.int .i64 (M'.room : Int)) ∧ W1.cell? ⟨w.heap.size, 1, none⟩ = some (.slice a' n' c') ∧ W1.cell? ⟨w.heap.size, 2, none⟩ = some (.int .i64 (M'.plan : Int)) ∧ W1.cell? ⟨w.heap.size, 3, none⟩ = some (.bool M'.down) ∧ W1.cell? ⟨b, o + j * 4, none⟩ = some (.int .i64 l[j].k) ∧ W1.cell? ⟨b, o + j * 4 + 1, none⟩ = some (.string ⟨l[j].nm.toArray⟩) ∧ W1.cell? ⟨b, o + j * 4 + 2, none⟩ = some (.string ⟨l[j].tt.toArray⟩) ∧ W1.cell? ⟨b, o + j * 4 + 3, none⟩ = some (.slice pb l[j].bs.length cb) from by
        obtain ⟨c0, c1, c2, c3, _⟩ := box4c ((hb1.block _ (by have := hB.lt; omega)).trans hB.box)
        exact ⟨c0, c1, c2, c3, cell_keep hb1 hx.k0, cell_keep hb1 hx.k1, cell_keep hb1 hx.k2, cell_keep hb1 hx.k3⟩))
      have hnx := stepM_neat hN' l[j].k l[j].nm l[j].tt l[j].bs
      have hE2 : stepsM (l.drop j) M' = if (stepM l[j].k l[j].nm l[j].tt l[j].bs M').2 = 0 then stepsM (l.drop (j + 1)) (stepM l[j].k l[j].nm l[j].tt l[j].bs M').1 else stepM l[j].k l[j].nm l[j].tt l[j].bs M' := by
        rw [List.drop_eq_getElem_cons hjl]
        rfl
      rw [hE2] at hE
      have HE := Lib.hid hE
      have Hnx := Lib.hid (hnx.mono (N' := N + (j + 1)) (U' := U + (j + 1) * T) (by omega) (by rw [Nat.succ_mul]; omega))
      have HB := Lib.hid hB
      have HXr := Lib.hid hXr
      unfold opV refV at HDo
      have hlt2 := hB.lt
      have Hlt := Lib.hid hlt
      have hji : (j : Int) < (n : Int) := by omega
      clear hE hE2 hnx hXr hx hx0 hc hN' hus hfl hln hbl hjT hB hlt
      generalize stepM l[j].k l[j].nm l[j].tt l[j].bs M' = r at *
      generalize l[j] = z at *
      obtain ⟨k, nm, tt, bs⟩ := z
      simp only at *
      go_upto_region 4 with fail
      go_cut [7, 8] (fun t4 t5 wx => DoCut (fun b => (X b ∨ w.heap.size + 1 < b) ∧ b < wr.heap.size) wr r t4 t5 wx)
      case first =>
        go_region_held3 (fun w' => w'.cell? ⟨w.heap.size, 0, none⟩ = some (.int .i64 (M'.room : Int)) ∧ w'.cell? ⟨w.heap.size, 1, none⟩ = some (.slice a' n' c') ∧ w'.cell? ⟨w.heap.size, 2, none⟩ = some (.int .i64 (M'.plan : Int)) ∧ w'.cell? ⟨w.heap.size, 3, none⟩ = some (.bool M'.down) ∧ w'.cell? ⟨b, o + j * 4, none⟩ = some (.int .i64 k) ∧ w'.cell? ⟨b, o + j * 4 + 1, none⟩ = some (.string ⟨nm.toArray⟩) ∧ w'.cell? ⟨b, o + j * 4 + 2, none⟩ = some (.string ⟨tt.toArray⟩) ∧ w'.cell? ⟨b, o + j * 4 + 3, none⟩ = some (.slice pb bs.length cb))
          (first | exact HS.out _ (by (repeat (first | assumption | exact Below.refl _ _ | refine Below.drew ?_ | refine Below.alloc ?_ (by (first | exact Nat.le_refl _ | (simp; done) | (simp; omega) | omega)) _ | refine Below.setCell ?_ (by (first | exact Nat.le_refl _ | (show _ ≤ _; omega) | (simp; done) | (simp; omega))) _))))
          (first
            | (go_at_call 74; (with_reducible refine (HDo.out _ (by (repeat (first | assumption | exact Below.refl _ _ | refine Below.drew ?_ | refine Below.alloc ?_ (by (first | exact Nat.le_refl _ | (simp; done) | (simp; omega) | omega)) _ | refine Below.setCell ?_ (by (first | exact Nat.le_refl _ | (show _ ≤ _; omega) | (simp; done) | (simp; omega))) _)))).mono ?_); rintro e w4 ⟨a4, n4, c4, R4, rfl, hR4, hf4, hb4⟩; unfold refV; have hb4w : Below wr.heap.size wr w4 := Below.trans (by (repeat (first | assumption | exact Below.refl _ _ | refine Below.drew ?_ | refine Below.alloc ?_ (by (first | exact Nat.le_refl _ | (simp; done) | (simp; omega) | omega)) _ | refine Below.setCell ?_ (by (first | exact Nat.le_refl _ | (show _ ≤ _; omega) | (simp; done) | (simp; omega))) _))) (hb4.mono (by (first | exact Nat.le_refl _ | (simp; done) | (simp; omega) | omega))); have hb4z := hb4w.size; (try have hq4 := (hb4.block wr.heap.size (by simp)).trans (heap_alloc_new wr (.cells #[.int .i64 0, .slice none 0 0, .int .i64 0, .bool false] 25))); (first | (have hq5 := box4c hq4; obtain ⟨q0, q1, q2, q3, qf⟩ := hq5) | skip)))
        all_goals go_wp2_with fail
        all_goals go_meet
        · exact doCut_new hb4w (Nat.le_refl _) hR4 hf4
        · exact doCut_set hb4w (Nat.le_succ _) HXr.out (hR4.mono (fun _ _ => rfl) (fun b h => ⟨h.1.imp id (fun h1 => by have h2 : (wr.alloc (.cells #[.int .i64 0, .slice none 0 0, .int .i64 0, .bool false] 25)).heap.size ≤ b := h1; rw [World.size_alloc] at h2; exact h2), h.2⟩)) hf4 (Nat.le_refl _) (Nat.lt_succ_self _) hq4
      case rest =>
        obtain ⟨B, a4, n4, c4, R4, rfl, rfl, hBx, hBle, hR4, hf4, hb4⟩ := hcut
        obtain ⟨x0, x1, x2, x3, xf⟩ := box4c hBx
        obtain ⟨y0, y1, y2, y3, yf⟩ := box4c ((hb4.block _ (by omega)).trans HB.out.box)
        have HBS := Lib.hid (HB.out.store HX.out (r := r.1) hR4 hf4 hb4)
        have hne : B ≠ w.heap.size := by omega
        clear hBx hR4 hf4 hb4
        by_cases hr : r.2 = 0
        · have hb0 : (r.2 != 0) = false := by simp [hr]
          have HE2 := Lib.hid (HE.out.trans (if_pos hr))
          go_wp2
          go_roundw
          case rel => exact ⟨j + 1, r.1, a4, n4, c4, R4, Hlt.out, by go_num, HBS.out, HE2.out, Hnx.out⟩
          case measure => simp [intOf]; omega
        · have hb0 : (r.2 != 0) = true := by simp [hr]
          have HE2 := Lib.hid (HE.out.trans (if_neg hr))
          generalize hwS : ((((wc.setCell ⟨w.heap.size, 0, none⟩ (.int .i64 (r.1.room : Int))).setCell ⟨w.heap.size, 1, none⟩ (.slice a4 n4 c4)).setCell ⟨w.heap.size, 2, none⟩ (.int .i64 (r.1.plan : Int))).setCell ⟨w.heap.size, 3, none⟩ (.bool r.1.down)) = wS at HBS
          obtain ⟨z0, z1, z2, z3, zf⟩ := box4c HBS.out.res
          obtain ⟨u0, u1, u2, u3, uf⟩ := box4c HBS.out.box
          go_wp2
          refine bodyPost_ret (v := .tuple #[refV (r.1.room : Int) a4 n4 c4 (r.1.plan : Int) r.1.down, .int .i64 r.2]) ?_ rfl ?_
          · rw [results_cell_tmp rfl]
            go_simp
            rfl
          · rw [HE2.out]
            exact HBS.out.ended HX.out r.2 _ _ _ _
    · obtain rfl : n = j := by omega
      have hji : ¬ (n : Int) < (n : Int) := by omega
      have hdr : l.drop n = [] := List.drop_eq_nil_of_le (Nat.le_of_eq hls.out)
      rw [hdr] at hE
      have HE := Lib.hid (show stepsM l M = (M', 0) from hE)
      have HB := Lib.hid hB
      obtain ⟨x0, x1, x2, x3, xf⟩ := box4c hB.box
      obtain ⟨z0, z1, z2, z3, zf⟩ := box4c hB.res
      clear hB hE hN' hdr
      go_wp2
      refine bodyPost_ret (v := .tuple #[refV (M'.room : Int) a' n' c' (M'.plan : Int) M'.down, .int .i64 0]) ?_ rfl ?_
      · rw [results_cell_tmp rfl]
        go_simp
        rfl
      · rw [HE.out]
        exact HB.out.ended HX.out 0 _ _ _ _
end Go.Proofs.YtjoolocdejnohaaGreat

/- The walks of Open once more (its bytes lie in memory of its own), and of Next, of the code and of the reference. -/
namespace Go.Proofs.YtjoolocdejnohaaGreat
open Go.RowKit Crc

/-- What Open answers: the bytes lie at the start of a row of the call's own. -/
def OpenOwn (w : World) (l : List Nat) (e : Ending) (w' : World) : Prop :=
  Below w.heap.size w w' ∧ ((∃ b, sealL b = l ∧ ∃ g, e = .returned (.tuple #[.slice (some ⟨g, 0, none⟩) b.length b.length, .bool true]) ∧ w.heap.size ≤ g ∧ U8Row w' g b.length ∧ Bytes w' (some ⟨g, 0, none⟩) b.length b.length b) ∨ ((∀ b, sealL b ≠ l) ∧ e = .returned (.tuple #[.slice none 0 0, .bool false])))

set_option maxRecDepth 100000 in
theorem open_own (a : Addr) (n cap : Nat) (l : List Nat) (w : World) (hl : Bytes w (some a) n cap l) (hn : 4 ≤ n) (hm : n ≤ 100000000000000) :
    Calls Tryz.prog 214 #[.slice (some a) n cap] w (OpenOwn w l) := by
  have hB := Lib.hid hl
  have hle := hl.le
  clear hl
  obtain ⟨m, rfl⟩ : ∃ m, n = m + 4 := ⟨n - 4, by omega⟩
  have hT : Bytes w (some a) m m (l.take m) := hB.out.takeTo (by omega) (Nat.le_refl _) (by omega)
  have hT := Lib.hid hT
  have hsl : (sealL (l.take m)).length = m + 4 := by rw [sealL_len, hT.out.len]
  have hsl := Lib.hid hsl
  rename_i hT0 hsl0; clear hT0 hsl0
  go_enter Tryz.func214, Tryz.ntmps214
  go_wp2_with fail
  refine (seal_any (some a) m m (l.take m) w hT.out (by omega)).mono ?_
  rintro e w1 ⟨v, rfl, hown, hb1⟩
  have hown : w1.ownsRow w.heap.size 5 1 v (sealL (l.take m)).length (u8s (sealL (l.take m))) := hown
  rw [hsl.out] at hown
  obtain ⟨g, cp, rfl, hbg, hcp, hrow⟩ := own_row hown (by omega)
  have HC := Lib.hid (bytes_of_own hown (sealL_byte hT.out.byte))
  have Hrow := Lib.hid hrow
  clear hown hrow
  by_cases heq : sealL (l.take m) = l
  · have Heq := Lib.hid heq
    clear heq
    go_wp2_with fail
    refine (bytesEqual_yes _ _ _ _ _ _ l w1 (Heq.out ▸ HC.out) (hB.out.grow hb1)).mono ?_
    rintro e w1 ⟨rfl, rfl⟩
    go_wp2
    go_ret2
    obtain ⟨cur, hg, hc⟩ := Hrow.out
    have hT2 := take_seal HC.out hT.out.len (by omega)
    refine ⟨hb1, .inl ⟨l.take m, Heq.out, g, ?_, hbg, ⟨cur, hg, fun i hi => hc i ?_⟩, ?_⟩⟩
    · rw [hT.out.len]; rfl
    · rw [hT.out.len] at hi; omega
    · rw [hT.out.len]; exact hT2
  · go_wp2_with fail
    refine (bytesEqual_no _ _ _ _ _ _ _ l w1 HC.out (hB.out.grow hb1) heq).mono ?_
    rintro e w1 ⟨rfl, rfl⟩
    have Hne := Lib.hid heq
    clear heq
    go_wp2
    go_ret2
    refine ⟨hb1, .inr ⟨fun b hb => Hne.out ?_, rfl⟩⟩
    have e : l.take m = b := by
      have hlb : b.length = m := by have := sealL_len b; rw [hb, hB.out.len] at this; omega
      rw [← hb, ← hlb]
      exact List.take_left
    rw [e, hb]

/-- What Next answers. The record lies in memory of the call's own. -/
def NextEnd (w : World) (l : List Nat) (e : Ending) (w' : World) : Prop :=
  Below w.heap.size w w' ∧ ((∃ r t p cp, l = frameL r ++ t ∧ r.length ≤ 1048576 ∧ e = .returned (.tuple #[.slice p r.length cp, .int .i64 ((r.length + 8 : Nat) : Int)]) ∧ Bytes w' p r.length cp r ∧
      (∀ x, p = some x → w.heap.size ≤ x.block) ∧ (0 < r.length → ∃ g, p = some ⟨g, 4, none⟩ ∧ w.heap.size ≤ g ∧ U8Row w' g (r.length + 4))) ∨
    (NoFrame l ∧ e = .returned (.tuple #[.slice none 0 0, .int .i64 0])))

set_option maxRecDepth 100000 in
theorem next_short (a : Option Addr) (n cap : Nat) (l : List Nat) (w : World) (hl : Bytes w a n cap l) (hn : n < 8) :
    Calls Tryz.prog 209 #[.slice a n cap] w (NextEnd w l) := by
  have HB := Lib.hid hl
  clear hl
  go_enter Tryz.func209, Tryz.ntmps209
  go_wp2
  go_ret2
  exact ⟨Below.refl _ _, .inr ⟨noFrame_short (by rw [HB.out.len]; exact hn), rfl⟩⟩

/-- A byte by its place: a name of its own, so that the walk leaves it as it is. -/
def byteAt (l : List Nat) (i : Nat) : Nat := l.getD i 0
def fourV (l : List Nat) : List Value := [.int .u8 (byteAt l 0 : Nat), .int .u8 (byteAt l 1 : Nat), .int .u8 (byteAt l 2 : Nat), .int .u8 (byteAt l 3 : Nat)]

theorem u8_info1 : (Tryz.prog.info? 5).map (·.size) = some 1 := by kernel_rfl

theorem byteAt_lt {l : List Nat} (h : ∀ x ∈ l, x < 256) (i : Nat) : byteAt l i < 256 := by
  unfold byteAt
  rw [List.getD_eq_getElem?_getD]
  by_cases hi : i < l.length
  · rw [List.getElem?_eq_getElem hi]
    exact h _ (List.getElem_mem _)
  · rw [List.getElem?_eq_none (by omega)]
    decide

/-- 'copy(h[:], b)'. -/
theorem copy_head {w : World} {b o n cap g : Nat} {l : List Nat} (ty : TypeId) (hB : Bytes w (some ⟨b, o, none⟩) n cap l) (hn : 8 ≤ n) (hg : g = w.heap.size) :
    (Builtin.copy_ #[58, 58] ty #[.slice (some ⟨g, 0, none⟩) 4 4, .slice (some ⟨b, o, none⟩) n cap]).run Tryz.prog (w.alloc (.cells #[.int .u8 0, .int .u8 0, .int .u8 0, .int .u8 0] 182)) =
      .ok (.int .i64 4) (w.alloc (.cells #[.int .u8 (byteAt l 0 : Nat), .int .u8 (byteAt l 1 : Nat), .int .u8 (byteAt l 2 : Nat), .int .u8 (byteAt l 3 : Nat)] 182)) := by
  subst hg
  have hG := hB.grow ((Below.refl w.heap.size w).alloc (Nat.le_refl _) (.cells #[.int .u8 0, .int .u8 0, .int .u8 0, .int .u8 0] 182))
  have hmin : (fourV l).length = Nat.min n 4 := by
    show 4 = Nat.min n 4
    exact (Nat.min_eq_right (by omega)).symm
  have hr := run_copy_row (P := Tryz.prog) (w.alloc (.cells #[.int .u8 0, .int .u8 0, .int .u8 0, .int .u8 0] 182)) 58 58 ty 5 w.heap.size 0 4 4 ⟨b, o, none⟩ n cap #[.int .u8 0, .int .u8 0, .int .u8 0, .int .u8 0] 182 (fourV l)
    Tryz.underlying58 u8_info1 (heap_alloc_new _ _) hmin ?_ (by show 0 + 4 ≤ 4; decide) ?_
  · rw [hr, World.setRow_alloc_new]
    rfl
  · intro j v hv
    have hj : j < 4 := (List.getElem?_eq_some_iff.1 hv).1
    obtain ⟨b', o', e, hc⟩ := hG.cell (by omega)
    cases e
    have := hc j (by omega)
    have hadd : (⟨b, o, none⟩ : Addr).add j = ⟨b, o + j, none⟩ := by unfold Addr.add; split <;> simp_all
    rw [hadd, this, ← hv]
    rcases j with _ | _ | _ | _ | j
    all_goals first | rfl | omega
  · intro v hv
    simp only [fourV, List.mem_cons, List.not_mem_nil, or_false] at hv
    rcases hv with rfl | rfl | rfl | rfl <;> rfl

/-- 'sealed[4:]'. -/
theorem slice_rec (g N : Nat) : ∃ p, (∀ w : World, (Instr.slice 58 (.slice (some ⟨g, 0, none⟩) (N + 4) (N + 4)) (some (.int .i64 4)) none none).run Tryz.prog w = .ok (.slice p N N) w) ∧
    (∀ x, p = some x → x.block = g) ∧ (0 < N → p = some ⟨g, 4, none⟩) := by
  obtain ⟨i, hi, _, hsz, _⟩ := info_parts info_u8
  have hT' : Tryz.prog.underlying 58 = some (.slice (Tryz.prog.elem 58)) := by kernel_rfl
  have hE : Tryz.prog.elem 58 = 5 := by kernel_rfl
  have hsize : ∀ w : World, (sizeOf (Tryz.prog.elem 58)).run Tryz.prog w = .ok 1 w := fun w => by rw [hE]; simp [sizeOf, typeInfo, hi, hsz]
  have hadd : ∀ (x y j : Nat), (⟨x, y, none⟩ : Addr).add j = ⟨x, y + j, none⟩ := fun x y j => by unfold Addr.add; split <;> simp_all
  refine ⟨if N + 4 = 4 then some ⟨g, 0, none⟩ else (some ⟨g, 0, none⟩ : Option Addr).map (·.add (4 * 1)), fun w => ?_, fun x hx => ?_, fun h => ?_⟩
  · rw [show (Value.int .i64 4) = .int .i64 ((4 : Nat) : Int) from rfl, run_slice_l w 58 (some ⟨g, 0, none⟩) (N + 4) (N + 4) hT' .i64 ((4 : Nat) : Int) (by omega) (by omega), hsize]
    rfl
  · split at hx
    · cases hx; rfl
    · simp only [Option.map_some, hadd] at hx
      cases hx; rfl
  · rw [if_neg (by omega)]
    simp only [Option.map_some, hadd]

set_option maxRecDepth 100000 in
theorem next_long (b o n cap : Nat) (l : List Nat) (w : World) (hl : Bytes w (some ⟨b, o, none⟩) n cap l) (hn : 8 ≤ n) (hm : n ≤ 100000000000000) :
    Calls Tryz.prog 209 #[.slice (some ⟨b, o, none⟩) n cap] w (NextEnd w l) := by
  have HB := Lib.hid hl
  have hle := hl.le
  have hcm := hl.capmax
  have hsl := slice_headF
  have hcp := copy_head 3 hl hn rfl
  have HN := Lib.hid (fun w => number_any (byteAt l) w (byteAt_lt hl.byte))
  have HF := Lib.hid (show part4 (byteAt l) 4 = num4 l from rfl)
  clear hl
  go_enter Tryz.func209, Tryz.ntmps209
  go_wp2_with fail
  refine (HN.out _).mono ?_
  rintro e w1 ⟨rfl, hb1⟩
  have Hb1 := Lib.hid (below_call hb1)
  generalize part4 (byteAt l) 4 = N at *
  clear hb1 hcp HN
  by_cases hN : N ≤ 1048576
  · have hN1 : (N : Int) ≤ 1048576 := by omega
    by_cases hN2 : N + 8 ≤ n
    · have hN3 : (N : Int) ≤ (n : Int) - 8 := by omega
      have hT : Bytes w1 (some ⟨b, o, none⟩) (N + 8) cap (l.take (N + 8)) := (HB.out.grow Hb1.out).takeTo hN2 (by omega) (Nat.le_refl _)
      have HO := Lib.hid (open_own ⟨b, o, none⟩ (N + 8) cap (l.take (N + 8)) w1 hT (by omega) (by omega))
      clear hT
      go_wp2_with fail
      refine HO.out.mono ?_
      rintro e w2 ⟨hb2, ⟨x, hx, g, rfl, hbg, hrow, hC⟩ | ⟨hno, rfl⟩⟩
      · have hxl : x.length = N + 4 := by
          have := congrArg List.length hx
          rw [sealL_len, List.length_take, HB.out.len] at this
          omega
        obtain ⟨p, hp, hpb, hp4⟩ := slice_rec g N
        have HX := Lib.hid (frame_of_seal HF.out (by rw [HB.out.len]; exact hN2) hx HB.out.byte)
        rw [hxl] at hrow hC ⊢
        have Hrow := Lib.hid hrow
        have HC := Lib.hid hC
        have Hx := Lib.hid hxl
        have Hb2 := Lib.hid (Hb1.out.trans (hb2.mono Hb1.out.size))
        have Hp := Lib.hid hpb
        have Hp4 := Lib.hid hp4
        have Hg := Lib.hid (Nat.le_trans Hb1.out.size hbg)
        clear hrow hC hxl hx hb2 hpb hp4 HO hbg
        go_wp2
        go_ret2
        obtain ⟨e1, e2⟩ := HX.out
        refine ⟨Hb2.out, .inl ⟨x.drop 4, l.drop (N + 8), p, N, e1, by omega, by rw [e2]; rfl, ?_, ?_, ?_⟩⟩
        · rw [e2]
          rcases Nat.eq_zero_or_pos N with h0 | h0
          · have e3 : x.drop 4 = [] := List.length_eq_zero_iff.1 (by omega)
            rw [e3, h0]
            exact bytes_none (by omega) (fun _ => rfl)
          · rw [Hp4.out h0]
            have hd := HC.out.dropTo (m := 4) (by omega)
            rw [show N + 4 - 4 = N by omega, Nat.zero_add] at hd
            exact hd
        · intro y hy
          rw [Hp.out y hy]
          exact Hg.out
        · intro h0
          rw [e2] at h0
          exact ⟨g, Hp4.out h0, Hg.out, by rw [e2]; exact Hrow.out⟩
      · have Hno := Lib.hid hno
        have Hb2 := Lib.hid (Hb1.out.trans (hb2.mono Hb1.out.size))
        clear hno hb2 HO
        go_wp2
        go_ret2
        exact ⟨Hb2.out, .inr ⟨noFrame_seal HF.out Hno.out, rfl⟩⟩
    · have hN3 : (n : Int) - 8 < (N : Int) := by omega
      go_wp2
      go_ret2
      exact ⟨Hb1.out, .inr ⟨noFrame_len (by rw [HB.out.len, ← HF.out]; omega), rfl⟩⟩
  · have hN1 : 1048576 < (N : Int) := by omega
    go_wp2
    go_ret2
    exact ⟨Hb1.out, .inr ⟨noFrame_most (by rw [← HF.out]; omega), rfl⟩⟩

theorem next_any (a : Option Addr) (n cap : Nat) (l : List Nat) (w : World) (hl : Bytes w a n cap l) (hm : n ≤ 100000000000000) :
    Calls Tryz.prog 209 #[.slice a n cap] w (NextEnd w l) := by
  by_cases hn : n < 8
  · exact next_short a n cap l w hl hn
  · obtain ⟨b, o, rfl, _⟩ := hl.cell (by omega)
    exact next_long b o n cap l w hl (by omega) hm
end Go.Proofs.YtjoolocdejnohaaGreat

/- A range over a function whose rounds are told what lies in memory where they begin: each round is handed an element x together with a fact 'At N x W' on the world W in which it begins. No round leaves the loop. -/
namespace Go.Proofs.YtjoolocdejnohaaGreat
open Go.RowKit

/-- What is said of the rounds' world, with a bound on its own blocks: it stands while only new memory is made, with the heap's size for a bound, and where a block that holds no cells is turned. -/
structure Stands {α : Type} (B : Nat) (I : List α → Nat → World → Prop) (At : Nat → α → World → Prop) : Prop where
  grow : ∀ s N W W', I s N W → Below W.heap.size W W' → I s N W'
  more : ∀ s N W, I s N W → I s W.heap.size W
  put : ∀ s N W l o o', I s N W → B ≤ l → W.heap[l]? = some o → o.isCells = false → I s N (W.putObj l o')
  putAt : ∀ N x W l o o', At N x W → W.heap[l]? = some o → o.isCells = false → At N x (W.putObj l o')

/-- The contract of an iterator that yields elements of which 'At' is true. -/
def Told {α : Type} (n : Nat) (P : Program) (gf : Nat) (lb : Array Value) (encs : α → Array Value) (I : List α → Nat → World → Prop) (At : Nat → α → World → Prop) (Fin : List α → Prop) (M : Nat) : Prop :=
  ∀ (l : Nat) (J : List α → Nat → World → Prop) (W : World) (N : Nat), (∀ s N W W', J s N W → Below W.heap.size W W' → J s N W') → (∀ s N W, J s N W → J s W.heap.size W) → (∀ s N W, J s N W → I s N W) →
    (∀ pre x N W1, J pre N W1 → At N x W1 → pre.length < M → YieldAt Fence.wide (n - 1) P l (encs x) W1 fun e W' => e = .returned (.bool true) ∧ ∃ N', J (pre ++ [x]) N' W') →
    J [] N W → CallsIn Fence.wide n P gf (#[.func (.yield l) #[] #[]] ++ lb) W fun e W' => (∃ v, e = .returned v) ∧ ∃ xs N', J xs N' W' ∧ Fin xs

theorem range_told {P : Program} {n : Nat} {α : Type} {g : Operand} {ps : Array Tmp} {assign body : Code} {Q : Exit → Act → World → Prop} {a : Act} {w : World} {gf : Nat} {lb : Array Value}
    (h1 : 1 ≤ n) (hg : a.eval g = .func (.func gf) #[] lb) (eg : ∀ args w, (callFunc gf args).run P w = .ok (.enter gf args) w)
    {encs : α → Array Value} (hps : ∀ x, (encs x).size = ps.size) {I : List α → Nat → World → Prop} {At : Nat → α → World → Prop} {Fin : List α → Prop} {M : Nat}
    (hS : Stands w.heap.size I At) (hseq : Told (n - 1) P gf lb encs I At Fin M) (N0 : Nat) (h0 : I [] N0 w) (a1 : α → Act)
    (hassign : ∀ (l : Nat) (x : α) (W : World) (K : Act → World → Prop), K (a1 x) W →
      assign.wpIn (Fence.wide.inRound l) (n - 1 - 1) P (Exit.then K (fun _ _ _ => False)) { tmps := (ps.zip (encs x)).foldl (fun t (p, v) => t.setIfInBounds p v) a.tmps, defers := [] } W)
    (hbody : ∀ (l : Nat) (pre : List α) (x : α) (N : Nat) (W : World), I pre N W → At N x W → pre.length < M →
      body.wpIn (Fence.wide.inRound l) (n - 1 - 1) P (Exit.then (fun _ W' => KeepsFrom w.heap.size W W' ∧ ∃ N', I (pre ++ [x]) N' W') (fun _ _ _ => False)) (a1 x) W)
    (hdone : ∀ (D : Nat) (xs : List α) (N : Nat) (W : World), w.heap.size ≤ D → Fin xs → I xs N W → W.heap[D]? = some (.deferred (some [])) → Q .normal { a with defers := { target := .collected D, args := #[] } :: a.defers } W) :
    (Code.rangeFunc g ps assign body).wpIn Fence.wide n P Q a w := by
  refine wpIn_rangeFunc fun fn hfn => ?_
  -- the loop's record, in each of its states
  let rec_ : LoopState → Loop := fun st => { state := st, pending := none, fn, tmps := a.tmps, params := ps, assign, body, defers := w.heap.size }
  have hz : (w.alloc (.deferred (some []))).heap.size = w.heap.size + 1 := by simp
  have hL0 : ((w.alloc (.deferred (some []))).alloc (.loop (rec_ .ready))).heap[w.heap.size + 1]? = some (.loop (rec_ .ready)) := by
    rw [← hz]; exact heap_alloc_new _ _
  have hD0 : ((w.alloc (.deferred (some []))).alloc (.loop (rec_ .ready))).heap[w.heap.size]? = some (.deferred (some [])) :=
    (Below.heap_alloc _ _ _ (by omega)).trans (heap_alloc_new _ _)
  have hI0 : I [] N0 ((w.alloc (.deferred (some []))).alloc (.loop (rec_ .ready))) :=
    hS.grow _ _ _ _ (hS.grow _ _ _ _ h0 ((Below.refl _ _).alloc (Nat.le_refl _) _)) ((Below.refl _ _).alloc (Nat.le_refl _) _)
  have hE := run_enterLoop_outer (P := P) (w := w) fn a.tmps ps assign body
  generalize hW : (w.alloc (.deferred (some []))).alloc (.loop (rec_ .ready)) = W1 at hL0 hD0 hI0
  have hE2 : (Instr.enterLoop fn a.tmps ps assign body none).run P w = .ok (w.heap.size + 1, [{ target := .collected w.heap.size, args := #[] }]) W1 := by rw [← hW]; exact hE
  refine ⟨w.heap.size + 1, [{ target := .collected w.heap.size, args := #[] }], W1, { target := .fn (.func gf) lb, args := #[.func (.yield (w.heap.size + 1)) #[] #[]] }, W1, gf, #[.func (.yield (w.heap.size + 1)) #[] #[]] ++ lb, W1,
    hE2, ?_, fun _ _ => trivial, ?_, fun _ => h1, ?_⟩
  · simp only [resolve, hg]
    simp [go_sem]
  · simp [invoke, go_sem, eg]
  refine (hseq (w.heap.size + 1) (fun s N W => I s N W ∧ W.heap[w.heap.size + 1]? = some (.loop (rec_ .ready)) ∧ W.heap[w.heap.size]? = some (.deferred (some []))) W1 N0 ?_ ?_ (fun _ _ _ h => h.1) ?_ ⟨hI0, hL0, hD0⟩).mono ?_
  · rintro s N W W' ⟨hi, hl, hd⟩ hb
    exact ⟨hS.grow _ _ _ _ hi hb, (hb.block _ (Array.getElem?_eq_some_iff.1 hl).1).trans hl, (hb.block _ (Array.getElem?_eq_some_iff.1 hd).1).trans hd⟩
  · rintro s N W ⟨hi, hl, hd⟩
    exact ⟨hS.more _ _ _ hi, hl, hd⟩
  · rintro pre x N W ⟨hi, hl, hd⟩ hat hM
    have hlt : w.heap.size + 1 < W.heap.size := (Array.getElem?_eq_some_iff.1 hl).1
    refine ⟨fn, _, assign, body, run_yield (P := P) (args := encs x) hl (hps x), roundIn_of_wpIn hfn (hassign _ x W _ ⟨_, run_beginRound hl rfl, ?_⟩)⟩
    have hl2 : (W.putObj (w.heap.size + 1) (.loop (rec_ .busy))).heap[w.heap.size + 1]? = some (.loop (rec_ .busy)) := World.putObj_heap_same hlt
    have hd2 : (W.putObj (w.heap.size + 1) (.loop (rec_ .busy))).heap[w.heap.size]? = some (.deferred (some [])) := (World.putObj_heap_other (by omega)).trans hd
    refine wpIn_mono (hbody _ pre x N _ (hS.put _ _ _ _ _ _ hi (by omega) hl rfl) (hS.putAt _ _ _ _ _ _ hat hl rfl) hM) ?_
    rintro e a3 W3 hp
    cases e with
    | normal =>
      obtain ⟨hk, N', hi3⟩ := hp
      have hl3 := hk.same _ _ (by omega) hl2 rfl
      have hd3 := hk.same _ _ (Nat.le_refl _) hd2 rfl
      exact ⟨_, _, run_endRound (P := P) none hl3, rfl, N', hS.put _ _ _ _ _ _ hi3 (by omega) hl3 rfl, World.putObj_heap_same (Array.getElem?_eq_some_iff.1 hl3).1, (World.putObj_heap_other (by omega)).trans hd3⟩
    | ret => exact hp.elim
    | exit id => exact hp.elim
    | goto t => exact hp.elim
    | panic c => exact hp.elim
    | outgrown => exact hp.elim
  · rintro e W2 ⟨⟨v, rfl⟩, xs, N', ⟨hi, hl, hd⟩, hF⟩
    exact ⟨none, _, run_endLoop (P := P) hl (by simp [rec_]), hdone _ xs N' _ (Nat.le_refl _) hF (hS.put _ _ _ _ _ _ hi (by omega) hl rfl) ((World.putObj_heap_other (by omega)).trans hd)⟩
end Go.Proofs.YtjoolocdejnohaaGreat

