import Derived.Test.YtmiepigieajpcaaGreatMB16
import Derived.Test.YtmiepigieajpcaaGreatMB43
import Derived.Test.YtmiepigieajpcaaGreatMB9
import Derived.Test.YtmiepigieajpcaaGreatMB28
import Derived.Test.YtmiepigieajpcaaGreatMB27
import Derived.Deep.RegionHeld3
import Derived.Deep.DeepCutAuto
import Derived.Deep.CutBlock
import Derived.Test.YtmiepigieajpcaaGreatMB1
import Derived.OpenShut
import Derived.Test.YtmiepigieajpcaaGreatMB12
import Derived.Test.YtmiepigieajpcaaGreatMB33
/- The statements' operations as plain data: what each does to a plain disk; bounds on what a few of them can do. -/
namespace Go.Proofs.YtmiepigieajpcaaGreat
open Go.RowKit Go.Maps Go.Shelf

/-- An operation. -/
structure AM where
  k : Int
  nm : List UInt8
  «to» : List UInt8
  bs : List Nat
  n : Int
  ks : List Int

/-- What an operation does: the disk, the code, the bytes that were read. -/
def stepA (x : AM) (M : DM) : DM × Int × List Nat :=
  if 1 ≤ x.k ∧ x.k ≤ 5 then ((stepM x.k x.nm x.«to» x.bs M).1, (stepM x.k x.nm x.«to» x.bs M).2, []) else if x.k = 6 then (armM x.n M, 0, []) else if x.k = 7 then (crashM x.ks M, 0, []) else (M, (readM x.nm M).2, (readM x.nm M).1)

/-- A disk after j operations. -/
def runA (l : List AM) (M : DM) (j : Nat) : DM := (l.take j).foldl (fun M x => (stepA x M).1) M
theorem runA_next {l : List AM} {M : DM} {j : Nat} (hj : j < l.length) : runA l M (j + 1) = (stepA l[j] (runA l M j)).1 := by
  unfold runA
  rw [List.take_succ_eq_append_getElem hj, List.foldl_append]
  rfl

theorem usedF_insN (x : F) : ∀ l : List F, usedF (insN F.n x l) = x.b.length + usedF l
  | [] => by simp [insN, usedF]
  | y :: r => by
    unfold insN
    split
    · rw [usedF_cons, usedF_cons]
    · rw [usedF_cons, usedF_insN x r, usedF_cons]
      omega
theorem usedF_delN (n : List UInt8) : ∀ l : List F, usedF (delN F.n n l) ≤ usedF l
  | [] => Nat.le_refl _
  | y :: r => by
    have ih := usedF_delN n r
    unfold delN at ih ⊢
    rw [List.filter_cons, usedF_cons]
    split
    · rw [usedF_cons]
      omega
    · omega
theorem usedF_delN_mem {n : List UInt8} : ∀ {l : List F} {f : F}, f ∈ l → f.n = n → usedF (delN F.n n l) + f.b.length ≤ usedF l
  | y :: r, f, h, hn => by
    have ih := usedF_delN n r
    unfold delN at ih ⊢
    rw [List.filter_cons, usedF_cons]
    rcases List.mem_cons.1 h with rfl | h
    · rw [if_neg (by simp [hn])]
      omega
    · have ih2 := usedF_delN_mem h hn
      unfold delN at ih2
      split
      · rw [usedF_cons]
        omega
      · omega
theorem length_insN (x : F) (l : List F) : (insN F.n x l).length = l.length + 1 := by rw [(perm_insN F.n x l).length_eq, List.length_cons]
theorem length_delN (n : List UInt8) (l : List F) : (delN F.n n l).length ≤ l.length := List.length_filter_le _ _
/-- What a disk is after a change: no more than one file more, no more bytes than were appended. -/
structure Small (M : DM) (N U : Nat) : Prop where
  files : M.fs.length ≤ N
  used : usedF M.fs ≤ U

theorem failM_small {M : DM} {N U : Nat} (h : Small M N U) : Small (failM M) N U := by
  refine ⟨?_, ?_⟩ <;> rw [failM_fs' M]
  · exact h.files
  · exact h.used

theorem chgM_small {M : DM} {N U N' U' : Nat} (h : Small M N U) (hN : N ≤ N') (hU : U ≤ U') {nm : List UInt8} {act : DM → DM × Int} (ha : ∀ M', M'.fs = M.fs → Small (act M').1 N' U') : Small (chgM M nm act).1 N' U' := by
  unfold chgM
  have h2 := failM_small h
  split
  · exact ⟨Nat.le_trans h2.files hN, Nat.le_trans h2.used hU⟩
  · split
    · exact ha _ (failM_fs' M)
    · exact ⟨Nat.le_trans h2.files hN, Nat.le_trans h2.used hU⟩

theorem onM_small {M' : DM} {N' U' : Nat} (h : Small M' N' U') {nm : List UInt8} {act : F → DM → DM × Int} (ha : ∀ f, f ∈ M'.fs → f.n = nm → Small (act f M').1 N' U') : Small (onM nm act M').1 N' U' := by
  unfold onM
  cases hf : findN F.n nm M'.fs with
  | none => exact h
  | some f => exact ha f (findN_some hf).1 (findN_some hf).2

theorem put_small {fs : List F} {N U : Nat} {f : F} {x : F} (hf : f ∈ fs) (hn : f.n = x.n) (h1 : fs.length ≤ N) (h2 : usedF fs ≤ U) : (putN F.n x fs).length ≤ N + 1 ∧ usedF (putN F.n x fs) + f.b.length ≤ U + x.b.length := by
  unfold putN
  rw [length_insN, usedF_insN]
  have h3 := length_delN x.n fs
  have h4 := usedF_delN_mem hf hn
  exact ⟨by omega, by omega⟩

theorem stepM_small {M : DM} {N U : Nat} (h : Small M N U) (hs : Sorted M.fs) (k : Int) (nm «to» : List UInt8) (bs : List Nat) : Small (stepM k nm «to» bs M).1 (N + 1) (U + bs.length) := by
  unfold stepM
  have same : ∀ M', M'.fs = M.fs → Small M' (N + 1) (U + bs.length) := fun M' e => ⟨by rw [e]; have := h.files; omega, by rw [e]; have := h.used; omega⟩
  have hset : ∀ (M' : DM) (f x : F), M'.fs = M.fs → f ∈ M'.fs → f.n = x.n → x.b.length ≤ f.b.length + bs.length → Small { M' with fs := setN F.n x M'.fs } (N + 1) (U + bs.length) := by
    intro M' f x e hf hn hx
    have h1 : setN F.n x M'.fs = putN F.n x M'.fs := setN_putN x _ (by rw [e]; exact hs) (fun hnone => findN_none hnone f hf hn)
    rw [h1]
    have h2 := put_small (x := x) hf hn (N := N) (U := U) (by rw [e]; exact h.files) (by rw [e]; exact h.used)
    exact ⟨h2.1, by have := h2.2; show usedF (putN F.n x M'.fs) ≤ _; omega⟩
  split
  · refine chgM_small h (by omega) (by omega) fun M' e => ?_
    cases findN F.n nm M'.fs with
    | some f => exact same M' e
    | none =>
      refine ⟨?_, ?_⟩
      · show (putN F.n _ M'.fs).length ≤ _
        unfold putN
        rw [length_insN]
        have := length_delN nm M'.fs
        have h1 := h.files
        rw [← e] at h1
        simp only
        omega
      · show usedF (putN F.n _ M'.fs) ≤ _
        unfold putN
        rw [usedF_insN]
        have := usedF_delN nm M'.fs
        have h1 := h.used
        rw [← e] at h1
        simp only [List.length_nil]
        omega
  · split
    · refine chgM_small h (by omega) (by omega) fun M' e => onM_small (same M' e) fun f hf hn => ?_
      split
      · exact hset M' f _ e hf (by simpa using hn) (by simp)
      · exact same M' e
    · split
      · exact chgM_small h (by omega) (by omega) fun M' e => onM_small (same M' e) fun f hf hn => hset M' f _ e hf (by simpa using hn) (by simp)
      · split
        · refine chgM_small h (by omega) (by omega) fun M' e => onM_small (same M' e) fun f hf hn => ?_
          split
          · refine ⟨?_, ?_⟩
            · show (putN F.n _ (delN F.n nm M'.fs)).length ≤ _
              unfold putN
              rw [length_insN]
              have h1 := length_delN «to» (delN F.n nm M'.fs)
              have h2 := length_delN nm M'.fs
              have h3 := h.files
              rw [← e] at h3
              simp only
              omega
            · show usedF (putN F.n _ (delN F.n nm M'.fs)) ≤ _
              unfold putN
              rw [usedF_insN]
              have h1 := usedF_delN «to» (delN F.n nm M'.fs)
              have h2 := usedF_delN_mem hf hn
              have h3 := h.used
              rw [← e] at h3
              simp only
              omega
          · exact same M' e
        · refine chgM_small h (by omega) (by omega) fun M' e => onM_small (same M' e) fun f hf hn => ⟨?_, ?_⟩
          · have h2 := length_delN nm M'.fs
            have h3 := h.files
            rw [← e] at h3
            show (delN F.n nm M'.fs).length ≤ _
            omega
          · have h2 := usedF_delN nm M'.fs
            have h3 := h.used
            rw [← e] at h3
            show usedF (delN F.n nm M'.fs) ≤ _
            omega

theorem crash_used (ks : List Int) : ∀ (fs : List F) (o : Nat), usedF (fs.mapIdx fun i f => cutF f (ks.getD (o + i) 0)) ≤ usedF fs
  | [], _ => by simp [usedF]
  | f :: r, o => by
    rw [List.mapIdx_cons, usedF_cons, usedF_cons]
    have ih := crash_used ks r (o + 1)
    have e : (r.mapIdx fun i f => cutF f (ks.getD (o + (i + 1)) 0)) = r.mapIdx fun i f => cutF f (ks.getD (o + 1 + i) 0) := by
      congr 1
      funext i f
      rw [show o + (i + 1) = o + 1 + i by omega]
    rw [e]
    have h1 : (cutF f (ks.getD (o + 0) 0)).b.length ≤ f.b.length := by
      unfold cutF
      simp only
      rw [List.length_take]
      omega
    omega

theorem stepA_small {M : DM} {N U : Nat} (h : Small M N U) (hs : Sorted M.fs) (x : AM) : Small (stepA x M).1 (N + 1) (U + x.bs.length) := by
  have h1 := h.files
  have h2 := h.used
  unfold stepA
  split
  · exact stepM_small h hs _ _ _ _
  · split
    · exact ⟨by show M.fs.length ≤ _; omega, by show usedF M.fs ≤ _; omega⟩
    · split
      · refine ⟨?_, ?_⟩
        · show (M.fs.mapIdx _).length ≤ _
          rw [List.length_mapIdx]
          omega
        · have := crash_used x.ks M.fs 0
          simp only [Nat.zero_add] at this
          show usedF (M.fs.mapIdx fun i f => cutF f (x.ks.getD i 0)) ≤ _
          omega
      · exact ⟨by show M.fs.length ≤ _; omega, by show usedF M.fs ≤ _; omega⟩
end Go.Proofs.YtmiepigieajpcaaGreat

/- The walk of the reference's Steps: changes up to the first that fails. -/
namespace Go.Proofs.YtmiepigieajpcaaGreat
open Go.RowKit Go.Maps Go.Shelf

attribute [local go_sem ↓] Go.wp_at_zero Go.wp_at_succ

theorem del_sorted (n : List UInt8) {l : List F} (h : Sorted l) : Sorted (delN F.n n l) := List.Pairwise.filter _ h

theorem put_sorted (x : F) {l : List F} (h : Sorted l) : Sorted (putN F.n x l) := by
  unfold putN
  refine insN_sorted x _ (del_sorted _ h) fun y hy => ?_
  unfold delN at hy
  have := (List.mem_filter.1 hy).2
  simpa using this

theorem setN_sorted (x : F) {l : List F} (h : Sorted l) : Sorted (setN F.n x l) := by
  have hn : ∀ y : F, (if F.n y == F.n x then x else y).n = y.n := fun y => by
    by_cases e : F.n y = F.n x
    · simp [e]
    · simp [e]
  unfold Sorted setN
  rw [List.pairwise_map]
  refine h.imp ?_
  intro a b hab
  show (if F.n a == F.n x then x else a).n < (if F.n b == F.n x then x else b).n
  rw [hn a, hn b]
  exact hab

/-- What a disk's steps keep. -/
structure Neat (M : DM) (N U : Nat) : Prop where
  plan : M.plan ≤ 9223372036854775807
  sorted : Sorted M.fs
  small : Small M N U

theorem chgM_neat {M : DM} (hp : M.plan ≤ 9223372036854775807) (hs : Sorted M.fs) {nm : List UInt8} {act : DM → DM × Int} (ha : ∀ M', M'.fs = M.fs → M'.plan ≤ 9223372036854775807 → (act M').1.plan ≤ 9223372036854775807 ∧ Sorted (act M').1.fs) :
    (chgM M nm act).1.plan ≤ 9223372036854775807 ∧ Sorted (chgM M nm act).1.fs := by
  have h1 : (failM M).plan ≤ 9223372036854775807 := Nat.le_trans (failM_pl M) hp
  have h2 : Sorted (failM M).fs := by rw [failM_fs' M]; exact hs
  unfold chgM
  split
  · exact ⟨h1, h2⟩
  · split
    · exact ha _ (failM_fs' M) h1
    · exact ⟨h1, h2⟩

theorem onM_neat {M' : DM} (hp : M'.plan ≤ 9223372036854775807) (hs : Sorted M'.fs) {nm : List UInt8} {act : F → DM → DM × Int} (ha : ∀ f, (act f M').1.plan ≤ 9223372036854775807 ∧ Sorted (act f M').1.fs) : (onM nm act M').1.plan ≤ 9223372036854775807 ∧ Sorted (onM nm act M').1.fs := by
  unfold onM
  cases findN F.n nm M'.fs with
  | none => exact ⟨hp, hs⟩
  | some f => exact ha f

theorem stepM_neat {M : DM} {N U : Nat} (h : Neat M N U) (k : Int) (nm tt : List UInt8) (bs : List Nat) : Neat (stepM k nm tt bs M).1 (N + 1) (U + bs.length) := by
  refine ⟨?_, ?_, stepM_small h.small h.sorted k nm tt bs⟩ <;>
  · have key : (stepM k nm tt bs M).1.plan ≤ 9223372036854775807 ∧ Sorted (stepM k nm tt bs M).1.fs := by
      unfold stepM
      split
      · refine chgM_neat h.plan h.sorted fun M' e hp => ?_
        have hs : Sorted M'.fs := by rw [e]; exact h.sorted
        cases findN F.n nm M'.fs with
        | some f => exact ⟨hp, hs⟩
        | none => exact ⟨hp, put_sorted _ hs⟩
      · split
        · refine chgM_neat h.plan h.sorted fun M' e hp => onM_neat hp (by rw [e]; exact h.sorted) fun f => ?_
          have hs : Sorted M'.fs := by rw [e]; exact h.sorted
          split
          · exact ⟨hp, setN_sorted _ hs⟩
          · exact ⟨hp, hs⟩
        · split
          · refine chgM_neat h.plan h.sorted fun M' e hp => onM_neat hp (by rw [e]; exact h.sorted) fun f => ?_
            have hs : Sorted M'.fs := by rw [e]; exact h.sorted
            exact ⟨hp, setN_sorted _ hs⟩
          · split
            · refine chgM_neat h.plan h.sorted fun M' e hp => onM_neat hp (by rw [e]; exact h.sorted) fun f => ?_
              have hs : Sorted M'.fs := by rw [e]; exact h.sorted
              split
              · exact ⟨hp, put_sorted _ (del_sorted _ hs)⟩
              · exact ⟨hp, hs⟩
            · refine chgM_neat h.plan h.sorted fun M' e hp => onM_neat hp (by rw [e]; exact h.sorted) fun f => ?_
              have hs : Sorted M'.fs := by rw [e]; exact h.sorted
              exact ⟨hp, del_sorted _ hs⟩
    first | exact key.1 | exact key.2

theorem Neat.mono {M : DM} {N U N' U' : Nat} (h : Neat M N U) (h1 : N ≤ N') (h2 : U ≤ U') : Neat M N' U' := ⟨h.plan, h.sorted, ⟨Nat.le_trans h.small.files h1, Nat.le_trans h.small.used h2⟩⟩

/-- A change: its kind, its names, its bytes. -/
structure SO where
  k : Int
  nm : List UInt8
  tt : List UInt8
  bs : List Nat

/-- Changes up to the first that fails. -/
def stepsM : List SO → DM → DM × Int
  | [], M => (M, 0)
  | x :: l, M => if (stepM x.k x.nm x.tt x.bs M).2 = 0 then stepsM l (stepM x.k x.nm x.tt x.bs M).1 else stepM x.k x.nm x.tt x.bs M

/-- The change x lies in four cells. -/
structure SOAt (w : World) (b o : Nat) (x : SO) (pb : Option Addr) (cb : Nat) : Prop where
  k0 : w.cell? ⟨b, o, none⟩ = some (.int .i64 x.k)
  k1 : w.cell? ⟨b, o + 1, none⟩ = some (.string ⟨x.nm.toArray⟩)
  k2 : w.cell? ⟨b, o + 2, none⟩ = some (.string ⟨x.tt.toArray⟩)
  k3 : w.cell? ⟨b, o + 3, none⟩ = some (.slice pb x.bs.length cb)
  bytes : Bytes w pb x.bs.length cb x.bs
  kk : 1 ≤ x.k ∧ x.k ≤ 5
  w1 : x.nm.length ≤ 9223372036854775807
  w2 : x.tt.length ≤ 9223372036854775807

/-- The changes l lie at the start of a slice's value. -/
structure SOs (w : World) (a : Option Addr) (n c : Nat) (l : List SO) : Prop where
  len : l.length = n
  max : n ≤ 1000000
  cell : 0 < n → ∃ b o, a = some ⟨b, o, none⟩ ∧ ∀ i (hi : i < l.length), ∃ pb cb, SOAt w b (o + i * 4) l[i] pb cb

theorem SOAt.grow {w w' : World} {b o : Nat} {x : SO} {pb : Option Addr} {cb : Nat} (h : SOAt w b o x pb cb) (hb : Below w.heap.size w w') : SOAt w' b o x pb cb :=
  ⟨cell_keep hb h.k0, cell_keep hb h.k1, cell_keep hb h.k2, cell_keep hb h.k3, h.bytes.grow hb, h.kk, h.w1, h.w2⟩

theorem SOs.grow {w w' : World} {a : Option Addr} {n c : Nat} {l : List SO} (h : SOs w a n c l) (hb : Below w.heap.size w w') : SOs w' a n c l := by
  refine ⟨h.len, h.max, fun hn => ?_⟩
  obtain ⟨b, o, e, hc⟩ := h.cell hn
  exact ⟨b, o, e, fun i hi => by obtain ⟨pb, cb, hx⟩ := hc i hi; exact ⟨pb, cb, hx.grow hb⟩⟩

theorem boxD_set {w : World} {d : Nat} {a b c e : Value} {t : TypeId} {m : Nat × Nat} (h : w.heap[d]? = some (.cells #[a, b, c, e] t m)) (a' b' c' e' : Value) :
    ((((w.setCell ⟨d, 0, none⟩ a').setCell ⟨d, 1, none⟩ b').setCell ⟨d, 2, none⟩ c').setCell ⟨d, 3, none⟩ e').heap[d]? = some (.cells #[a', b', c', e'] t m) := by
  have h1 := set_head (i := 0) h a'
  have h2 := set_head (i := 1) h1 b'
  have h3 := set_head (i := 2) h2 c'
  have h4 := set_head (i := 3) h3 e'
  simpa using h4

/-- In a box at the first new block lies the disk M; the next block is the result's. -/
structure BoxAt (X : Nat → Prop) (w wr : World) (M : DM) (a : Option Addr) (n c : Nat) (R : List FR) : Prop where
  box : wr.heap[w.heap.size]? = some (.cells #[.int .i64 (M.room : Int), .slice a n c, .int .i64 (M.plan : Int), .bool M.down] 25 (0, 0))
  res : wr.heap[w.heap.size + 1]? = some (.cells #[.int .i64 0, .slice none 0 0, .int .i64 0, .bool false] 25 (0, 0))
  row : RowF (fun b => (X b ∨ w.heap.size + 1 < b) ∧ b < wr.heap.size) wr a n c R
  fs : R.map FR.f = M.fs
  base : Below w.heap.size w wr

theorem BoxAt.lt {X : Nat → Prop} {w wr : World} {M : DM} {a : Option Addr} {n c : Nat} {R : List FR} (h : BoxAt X w wr M a n c R) : w.heap.size + 1 < wr.heap.size := (Array.getElem?_eq_some_iff.1 h.res).1

/-- The disk goes into the box. -/
theorem BoxAt.store {X : Nat → Prop} {w wr wc : World} {M : DM} {a a1 : Option Addr} {n c n1 c1 : Nat} {R R1 : List FR} (h : BoxAt X w wr M a n c R) (hX : ∀ b, X b → b < w.heap.size) {r : DM} {B : Nat}
    (hR : RowF (fun b => (((X b ∨ w.heap.size + 1 < b) ∧ b < wr.heap.size) ∨ wr.heap.size ≤ b) ∧ b ≠ B ∧ b < wc.heap.size) wc a1 n1 c1 R1) (hf : R1.map FR.f = r.fs) (hb : Below wr.heap.size wr wc) :
    BoxAt X w ((((wc.setCell ⟨w.heap.size, 0, none⟩ (.int .i64 (r.room : Int))).setCell ⟨w.heap.size, 1, none⟩ (.slice a1 n1 c1)).setCell ⟨w.heap.size, 2, none⟩ (.int .i64 (r.plan : Int))).setCell ⟨w.heap.size, 3, none⟩ (.bool r.down)) r a1 n1 c1 R1 := by
  have hlt := h.lt
  refine ⟨boxD_set ((hb.block _ (by omega)).trans h.box) _ _ _ _, ?_, hR.mono (fun b h => ?_) (fun b h => ?_), hf, ?_⟩
  · have hne : w.heap.size + 1 ≠ w.heap.size := by omega
    repeat rw [Below.heap_setCell _ _ _ _ hne]
    exact (hb.block _ hlt).trans h.res
  · have hne : b ≠ w.heap.size := by
      rcases h.1 with ⟨h1 | h1, _⟩ | h1
      · have := hX b h1; omega
      · omega
      · omega
    repeat rw [Below.heap_setCell _ _ _ _ hne]
  · refine ⟨?_, by simp only [World.size_setCell]; exact h.2.2⟩
    rcases h.1 with ⟨h1, _⟩ | h1
    · exact h1
    · exact .inr (by omega)
  · have h1 := h.base.trans (hb.mono h.base.size)
    exact (((h1.setCell (Nat.le_refl _) _).setCell (Nat.le_refl _) _).setCell (Nat.le_refl _) _).setCell (Nat.le_refl _) _

/-- What the call answers. -/
theorem BoxAt.ended {X : Nat → Prop} {w wr : World} {M : DM} {a : Option Addr} {n c : Nat} {R : List FR} (h : BoxAt X w wr M a n c R) (hX : ∀ b, X b → b < w.heap.size) (z : Int) (v0 v1 v2 v3 : Value) :
    DoEnd X w (M, z) (.returned (.tuple #[refV (M.room : Int) a n c (M.plan : Int) M.down, .int .i64 z])) ((((wr.setCell ⟨w.heap.size + 1, 0, none⟩ v0).setCell ⟨w.heap.size + 1, 1, none⟩ v1).setCell ⟨w.heap.size + 1, 2, none⟩ v2).setCell ⟨w.heap.size + 1, 3, none⟩ v3) := by
  refine ⟨a, n, c, R, rfl, h.row.mono (fun b hb => ?_) (fun b hb => ⟨hb.1.imp id (fun h1 => by omega), by simp only [World.size_setCell]; exact hb.2⟩), h.fs, ?_⟩
  · have hne : b ≠ w.heap.size + 1 := by
      rcases hb.1 with h1 | h1
      · have := hX b h1; omega
      · omega
    repeat rw [Below.heap_setCell _ _ _ _ hne]
  · exact (((h.base.setCell (Nat.le_succ _) _).setCell (Nat.le_succ _) _).setCell (Nat.le_succ _) _).setCell (Nat.le_succ _) _

set_option maxRecDepth 100000 in
set_option maxHeartbeats 6400000 in
theorem rsteps_any {X : Nat → Prop} {w : World} {v : Value} {M : DM} (h : RefAt X w v M) (hX : ∀ b, X b → b < w.heap.size) (p : Option Addr) (n c : Nat) (l : List SO) (hl : SOs w p n c l) {N U T : Nat} (hnt : Neat M N U) (hN : N + n ≤ 1000000) (hT : ∀ x ∈ l, x.bs.length ≤ T) (hub : U + n * T ≤ 10000000) :
    Calls Tryz.prog 54 #[v, .slice p n c] w (DoEnd X w (stepsM l M)) := by
  obtain ⟨a, m, c0, R, rfl, hR, hfs, hn⟩ := h
  unfold refV
  have hst : BoxAt X w ((w.alloc (.cells #[.int .i64 (M.room : Int), .slice a m c0, .int .i64 (M.plan : Int), .bool M.down] 25)).alloc (.cells #[.int .i64 0, .slice none 0 0, .int .i64 0, .bool false] 25)) M a m c0 R := by
    have hb := ((Below.refl w.heap.size w).alloc (Nat.le_refl _) (.cells #[.int .i64 (M.room : Int), .slice a m c0, .int .i64 (M.plan : Int), .bool M.down] 25)).alloc (by simp) (.cells #[.int .i64 0, .slice none 0 0, .int .i64 0, .bool false] 25)
    refine ⟨(Below.heap_alloc _ _ _ (by simp)).trans (heap_alloc_new _ _), ?_, (hR.below hX hb).mono (fun _ _ => rfl) (fun b h => ⟨.inl h, by simp only [World.size_alloc]; have := hX b h; omega⟩), hfs, hb⟩
    have h2 := heap_alloc_new (w.alloc (.cells #[.int .i64 (M.room : Int), .slice a m c0, .int .i64 (M.plan : Int), .bool M.down] 25)) (.cells #[.int .i64 0, .slice none 0 0, .int .i64 0, .bool false] 25)
    rw [World.size_alloc] at h2
    exact h2
  have Hst := Lib.hid hst
  have HL := Lib.hid hl
  have HX := Lib.hid hX
  have Hnt := Lib.hid hnt
  have HT := Lib.hid hT
  have hls := Lib.hid hl.len
  clear hR hfs hn hst hl hX hnt hT
  go_enter Tryz.func54, Tryz.ntmps54
  go_wp2
  go_loopw [6] (fun i wr => ∃ (j : Nat) (M' : DM) (a' : Option Addr) (n' c' : Nat) (R' : List FR), j ≤ n ∧ i = .int .i64 (j : Int) ∧ BoxAt X w wr M' a' n' c' R' ∧ stepsM l M = stepsM (l.drop j) M' ∧ Neat M' (N + j) (U + j * T)) (fun i _ => n - (intOf i).toNat)
  case atStart => exact ⟨0, M, a, m, c0, R, Nat.zero_le _, rfl, Hst.out, rfl, by simpa using Hnt.out⟩
  case round =>
    obtain ⟨j, M', a', n', c', R', hj, rfl, hB, hE, hN'⟩ := hrel
    by_cases hlt : j < n
    · have hjl : j < l.length := by rw [hls.out]; exact hlt
      obtain ⟨b, o, rfl, hc⟩ := HL.out.cell (by omega)
      obtain ⟨pb, cb, hx0⟩ := hc j hjl
      have hx := hx0.grow hB.base
      have hXr : ∀ b, (X b ∨ w.heap.size + 1 < b) ∧ b < wr.heap.size → b < wr.heap.size := fun b h => h.2
      have hjT : j * T + T ≤ n * T := by
        have h1 : (j + 1) * T ≤ n * T := Nat.mul_le_mul_right T (by omega)
        rw [Nat.succ_mul] at h1
        exact h1
      have hbl := HT.out l[j] (List.getElem_mem hjl)
      have hus := hN'.small.used
      have hfl := hN'.small.files
      have hln : n' ≤ 1000000 := by rw [← hB.row.len, ← List.length_map (f := FR.f), hB.fs]; omega
      have HDo := Lib.hid (fun W1 (hb1 : Below wr.heap.size wr W1) => rdo_all (X := fun b => (X b ∨ w.heap.size + 1 < b) ∧ b < wr.heap.size) (w := W1) (M := M') ⟨a', n', c', R', rfl, hB.row.below hXr hb1, hB.fs, hln⟩ (fun b h => Nat.lt_of_lt_of_le h.2 hb1.size) hN'.plan hN'.sorted l[j].k hx.kk l[j].nm l[j].tt hx.w1 hx.w2 pb l[j].bs.length cb l[j].bs (fun W2 hW2 => hx.bytes.grow (hb1.trans (hW2.mono hb1.size))) (by omega) (by omega))
      have HS := Lib.hid (fun W1 (hb1 : Below wr.heap.size wr W1) => (show W1.cell? ⟨w.heap.size, 0, none⟩ = some (.int .i64 (M'.room : Int)) ∧ W1.cell? ⟨w.heap.size, 1, none⟩ = some (.slice a' n' c') ∧ W1.cell? ⟨w.heap.size, 2, none⟩ = some (.int .i64 (M'.plan : Int)) ∧ W1.cell? ⟨w.heap.size, 3, none⟩ = some (.bool M'.down) ∧ W1.cell? ⟨b, o + j * 4, none⟩ = some (.int .i64 l[j].k) ∧ W1.cell? ⟨b, o + j * 4 + 1, none⟩ = some (.string ⟨l[j].nm.toArray⟩) ∧ W1.cell? ⟨b, o + j * 4 + 2, none⟩ = some (.string ⟨l[j].tt.toArray⟩) ∧ W1.cell? ⟨b, o + j * 4 + 3, none⟩ = some (.slice pb l[j].bs.length cb) from by
        obtain ⟨c0, c1, c2, c3, _⟩ := box4c ((hb1.block _ (by have := hB.lt; omega)).trans hB.box)
        exact ⟨c0, c1, c2, c3, cell_keep hb1 hx.k0, cell_keep hb1 hx.k1, cell_keep hb1 hx.k2, cell_keep hb1 hx.k3⟩))
      have hnx := stepM_neat hN' l[j].k l[j].nm l[j].tt l[j].bs
      have hE2 : stepsM (l.drop j) M' = if (stepM l[j].k l[j].nm l[j].tt l[j].bs M').2 = 0 then stepsM (l.drop (j + 1)) (stepM l[j].k l[j].nm l[j].tt l[j].bs M').1 else stepM l[j].k l[j].nm l[j].tt l[j].bs M' := by
        rw [List.drop_eq_getElem_cons hjl]
        rfl
      rw [hE2] at hE
      have HE := Lib.hid hE
      have Hnx := Lib.hid (hnx.mono (N' := N + (j + 1)) (U' := U + (j + 1) * T) (by omega) (by rw [Nat.succ_mul]; omega))
      have HB := Lib.hid hB
      have HXr := Lib.hid hXr
      unfold opV refV at HDo
      have hlt2 := hB.lt
      have Hlt := Lib.hid hlt
      have hji : (j : Int) < (n : Int) := by omega
      clear hE hE2 hnx hXr hx hx0 hc hN' hus hfl hln hbl hjT hB hlt
      generalize stepM l[j].k l[j].nm l[j].tt l[j].bs M' = r at *
      generalize l[j] = z at *
      obtain ⟨k, nm, tt, bs⟩ := z
      simp only at *
      go_upto_region 4 with fail
      go_cut [7, 8] (fun t4 t5 wx => DoCut (fun b => (X b ∨ w.heap.size + 1 < b) ∧ b < wr.heap.size) wr r t4 t5 wx)
      case first =>
        go_region_held3 (fun w' => w'.cell? ⟨w.heap.size, 0, none⟩ = some (.int .i64 (M'.room : Int)) ∧ w'.cell? ⟨w.heap.size, 1, none⟩ = some (.slice a' n' c') ∧ w'.cell? ⟨w.heap.size, 2, none⟩ = some (.int .i64 (M'.plan : Int)) ∧ w'.cell? ⟨w.heap.size, 3, none⟩ = some (.bool M'.down) ∧ w'.cell? ⟨b, o + j * 4, none⟩ = some (.int .i64 k) ∧ w'.cell? ⟨b, o + j * 4 + 1, none⟩ = some (.string ⟨nm.toArray⟩) ∧ w'.cell? ⟨b, o + j * 4 + 2, none⟩ = some (.string ⟨tt.toArray⟩) ∧ w'.cell? ⟨b, o + j * 4 + 3, none⟩ = some (.slice pb bs.length cb))
          (first | exact HS.out _ (by (repeat (first | assumption | exact Below.refl _ _ | refine Below.drew ?_ | refine Below.alloc ?_ (by (first | exact Nat.le_refl _ | (simp; done) | (simp; omega) | omega)) _ | refine Below.setCell ?_ (by (first | exact Nat.le_refl _ | (show _ ≤ _; omega) | (simp; done) | (simp; omega))) _))))
          (first
            | (go_at_call 74; (with_reducible refine (HDo.out _ (by (repeat (first | assumption | exact Below.refl _ _ | refine Below.drew ?_ | refine Below.alloc ?_ (by (first | exact Nat.le_refl _ | (simp; done) | (simp; omega) | omega)) _ | refine Below.setCell ?_ (by (first | exact Nat.le_refl _ | (show _ ≤ _; omega) | (simp; done) | (simp; omega))) _)))).mono ?_); rintro e w4 ⟨a4, n4, c4, R4, rfl, hR4, hf4, hb4⟩; unfold refV; have hb4w : Below wr.heap.size wr w4 := Below.trans (by (repeat (first | assumption | exact Below.refl _ _ | refine Below.drew ?_ | refine Below.alloc ?_ (by (first | exact Nat.le_refl _ | (simp; done) | (simp; omega) | omega)) _ | refine Below.setCell ?_ (by (first | exact Nat.le_refl _ | (show _ ≤ _; omega) | (simp; done) | (simp; omega))) _))) (hb4.mono (by (first | exact Nat.le_refl _ | (simp; done) | (simp; omega) | omega))); have hb4z := hb4w.size; (try have hq4 := (hb4.block wr.heap.size (by simp)).trans (heap_alloc_new wr (.cells #[.int .i64 0, .slice none 0 0, .int .i64 0, .bool false] 25))); (first | (have hq5 := box4c hq4; obtain ⟨q0, q1, q2, q3, qf⟩ := hq5) | skip)))
        all_goals go_wp2_with fail
        all_goals go_meet
        · exact doCut_new hb4w (Nat.le_refl _) hR4 hf4
        · exact doCut_set hb4w (Nat.le_succ _) HXr.out (hR4.mono (fun _ _ => rfl) (fun b h => ⟨h.1.imp id (fun h1 => by have h2 : (wr.alloc (.cells #[.int .i64 0, .slice none 0 0, .int .i64 0, .bool false] 25)).heap.size ≤ b := h1; rw [World.size_alloc] at h2; exact h2), h.2⟩)) hf4 (Nat.le_refl _) (Nat.lt_succ_self _) hq4
      case rest =>
        obtain ⟨B, a4, n4, c4, R4, rfl, rfl, hBx, hBle, hR4, hf4, hb4⟩ := hcut
        obtain ⟨x0, x1, x2, x3, xf⟩ := box4c hBx
        obtain ⟨y0, y1, y2, y3, yf⟩ := box4c ((hb4.block _ (by omega)).trans HB.out.box)
        have HBS := Lib.hid (HB.out.store HX.out (r := r.1) hR4 hf4 hb4)
        have hne : B ≠ w.heap.size := by omega
        clear hBx hR4 hf4 hb4
        by_cases hr : r.2 = 0
        · have hb0 : (r.2 != 0) = false := by simp [hr]
          have HE2 := Lib.hid (HE.out.trans (if_pos hr))
          go_wp2
          go_roundw
          case rel => exact ⟨j + 1, r.1, a4, n4, c4, R4, Hlt.out, by go_num, HBS.out, HE2.out, Hnx.out⟩
          case measure => simp [intOf]; omega
        · have hb0 : (r.2 != 0) = true := by simp [hr]
          have HE2 := Lib.hid (HE.out.trans (if_neg hr))
          generalize hwS : ((((wc.setCell ⟨w.heap.size, 0, none⟩ (.int .i64 (r.1.room : Int))).setCell ⟨w.heap.size, 1, none⟩ (.slice a4 n4 c4)).setCell ⟨w.heap.size, 2, none⟩ (.int .i64 (r.1.plan : Int))).setCell ⟨w.heap.size, 3, none⟩ (.bool r.1.down)) = wS at HBS
          obtain ⟨z0, z1, z2, z3, zf⟩ := box4c HBS.out.res
          obtain ⟨u0, u1, u2, u3, uf⟩ := box4c HBS.out.box
          go_wp2
          refine bodyPost_ret (v := .tuple #[refV (r.1.room : Int) a4 n4 c4 (r.1.plan : Int) r.1.down, .int .i64 r.2]) ?_ rfl ?_
          · rw [results_cell_tmp rfl]
            go_simp
            rfl
          · rw [HE2.out]
            exact HBS.out.ended HX.out r.2 _ _ _ _
    · obtain rfl : n = j := by omega
      have hji : ¬ (n : Int) < (n : Int) := by omega
      have hdr : l.drop n = [] := List.drop_eq_nil_of_le (Nat.le_of_eq hls.out)
      rw [hdr] at hE
      have HE := Lib.hid (show stepsM l M = (M', 0) from hE)
      have HB := Lib.hid hB
      obtain ⟨x0, x1, x2, x3, xf⟩ := box4c hB.box
      obtain ⟨z0, z1, z2, z3, zf⟩ := box4c hB.res
      clear hB hE hN' hdr
      go_wp2
      refine bodyPost_ret (v := .tuple #[refV (M'.room : Int) a' n' c' (M'.plan : Int) M'.down, .int .i64 0]) ?_ rfl ?_
      · rw [results_cell_tmp rfl]
        go_simp
        rfl
      · rw [HE.out]
        exact HB.out.ended HX.out 0 _ _ _ _
end Go.Proofs.YtmiepigieajpcaaGreat

/- Two slices of byte slices that came in as an array. -/
namespace Go.Proofs.YtmiepigieajpcaaGreat
open Go.ChangeShapes Go.WideShapes Go.ChangeAt Go.RowKit Go.Deep

section
variable {H : Type} {enc : TypeId × Value → H} {W : World}

theorem cells_b2 : Tryz.prog.cellsOf 5 = 1 := by kernel_rfl
theorem cells_p2 : Tryz.prog.cellsOf 58 = 1 := by kernel_rfl
theorem cells_pp2 : Tryz.prog.cellsOf 29 = 1 := by kernel_rfl
theorem cells_a2 : Tryz.prog.cellsOf 71 = 2 := by kernel_rfl

theorem trod_parts {fuel : Nat} {cs : List Value} {x : DataW H × List MemPlace} (h : DataW.trod enc Tryz.prog W 0 (fun _ => true) true fuel 29 cs = some x) : ∃ a n cap ls, cs = [.slice a n cap] ∧ Parts W a n cap ls := by
  rcases open_int_rows Tryz.underlying29 Tryz.underlying58 Tryz.underlying5 cells_p2 cells_b2 h with ⟨hcs, _⟩ | ⟨a, len, cap, A, L, C, Z, hcs, _, hl, hm, _, hrows⟩
  · exact ⟨none, 0, 0, [], hcs, rfl, Nat.le_refl _, by omega, fun h => absurd h (Nat.lt_irrefl _)⟩
  · refine ⟨some a, len, cap, (List.range len).map fun r => ((Z r).take (L r)).map Int.toNat, hcs, by simp, hl, hm, fun hn => ?_⟩
    obtain ⟨b, o, spot⟩ := a
    have hspot : spot = none := by simpa [Addr.add] using World.cell?_spot (hrows 0 (by omega)).1
    subst hspot
    have hc0 := (hrows 0 (by omega)).1
    rw [add_plain] at hc0
    refine ⟨b, o, rfl, World.block_lt_of_cell? _ _ hc0, fun i hi => ?_⟩
    obtain ⟨h1, h2, h3, h4, h5, h6, h7⟩ := hrows i (by omega)
    rw [add_plain] at h1
    refine ⟨A i, L i, C i, h1, ?_⟩
    have e1 : ((List.range len).map fun r => ((Z r).take (L r)).map Int.toNat).getD i [] = ((Z i).take (L i)).map Int.toNat := by
      rw [List.getD_eq_getElem?_getD, List.getElem?_map, List.getElem?_range hi]; rfl
    rw [e1]
    exact bytes_of_ints h2 h3 h4 h6 (fun a' ha' c hc => (h7 a' ha').2 c hc) h5

set_option maxRecDepth 100000 in
theorem open_pair {v : Value} {d : DataW H} {p : List MemPlace} {base : Nat} (hv : Value.okWide Tryz.prog W .any base 71 v) (h : DataW.Trod enc Tryz.prog W 0 (fun _ => true) true 71 v d p) :
    ∃ a n c ls a' n' c' ms, v = .agg #[.slice a n c, .slice a' n' c'] ∧ Parts W a n c ls ∧ Parts W a' n' c' ms := by
  have hv' : ∃ cs, v = .agg cs ∧ cs.size = 2 := by
    simp only [Value.okWide, Tryz.underlying71] at hv
    obtain ⟨cs, h1, h2, _⟩ := hv
    rw [cells_a2] at h2
    exact ⟨cs, h1, h2⟩
  obtain ⟨cs, rfl, hsz⟩ := hv'
  obtain ⟨fuel, hf⟩ := h
  obtain ⟨xs, m, rfl, _, _, hxl, hfs⟩ := DataW.trod_array Tryz.underlying71 hf
  match xs, hxl with
  | [y0, y1], _ =>
    have g0 := hfs 0 (by omega)
    have g1 := hfs 1 (by omega)
    rw [cells_pp2] at g0 g1
    simp only [List.getElem?_cons_zero, List.getElem?_cons_succ] at g0 g1
    obtain ⟨a, n, c, ls, e0, hP⟩ := trod_parts g0
    obtain ⟨a', n', c', ms, e1, hQ⟩ := trod_parts g1
    refine ⟨a, n, c, ls, a', n', c', ms, ?_, hP, hQ⟩
    congr 1
    obtain ⟨l⟩ := cs
    simp at hsz
    match l, hsz with
    | [u0, u1], _ =>
      simp [Value.cells] at e0 e1
      rw [e0, e1]
end
end Go.Proofs.YtmiepigieajpcaaGreat

/- Files that come in, read as plain data. -/
namespace Go.Proofs.YtmiepigieajpcaaGreat
open Go.ChangeShapes Go.WideShapes Go.ChangeAt Go.RowKit Go.Deep

/-- A file that comes in. -/
structure FI where
  nm : List UInt8
  bs : List Nat
  z : Int

/-- The file x lies in three cells. -/
structure FIAt (w : World) (b o : Nat) (x : FI) (pb : Option Addr) (cb : Nat) : Prop where
  k0 : w.cell? ⟨b, o, none⟩ = some (.string ⟨x.nm.toArray⟩)
  k1 : w.cell? ⟨b, o + 1, none⟩ = some (.slice pb x.bs.length cb)
  k2 : w.cell? ⟨b, o + 2, none⟩ = some (.int .i64 x.z)
  bytes : Bytes w pb x.bs.length cb x.bs
  wn : x.nm.length ≤ 9223372036854775807

/-- The files l lie at the start of a slice's value. -/
structure FIs (w : World) (a : Option Addr) (n c : Nat) (l : List FI) : Prop where
  len : l.length = n
  le : n ≤ c
  max : c ≤ 9223372036854775807
  cell : 0 < n → ∃ b o, a = some ⟨b, o, none⟩ ∧ ∀ i (hi : i < l.length), ∃ pb cb, FIAt w b (o + i * 3) l[i] pb cb

theorem FIAt.grow {w w' : World} {b o : Nat} {x : FI} {pb : Option Addr} {cb : Nat} (h : FIAt w b o x pb cb) (hb : Below w.heap.size w w') : FIAt w' b o x pb cb :=
  ⟨cell_keep hb h.k0, cell_keep hb h.k1, cell_keep hb h.k2, h.bytes.grow hb, h.wn⟩

theorem FIs.grow {w w' : World} {a : Option Addr} {n c : Nat} {l : List FI} (h : FIs w a n c l) (hb : Below w.heap.size w w') : FIs w' a n c l := by
  refine ⟨h.len, h.le, h.max, fun hn => ?_⟩
  obtain ⟨b, o, e, hc⟩ := h.cell hn
  exact ⟨b, o, e, fun i hi => by obtain ⟨pb, cb, hx⟩ := hc i hi; exact ⟨pb, cb, hx.grow hb⟩⟩

section
variable {H : Type} {enc : TypeId × Value → H} {W : World}

theorem cells_fi : Tryz.prog.cellsOf 97 = 3 := by kernel_rfl
theorem cells_intF : Tryz.prog.cellsOf 3 = 1 := by kernel_rfl
theorem cells_strF : Tryz.prog.cellsOf 9 = 1 := by kernel_rfl
theorem cells_u8F : Tryz.prog.cellsOf 5 = 1 := by kernel_rfl
theorem cells_bsF : Tryz.prog.cellsOf 58 = 1 := by kernel_rfl

theorem trod_bytesF {fuel : Nat} {cs : List Value} {x : DataW H × List MemPlace} (h : DataW.trod enc Tryz.prog W 0 (fun _ => true) true fuel 58 cs = some x) : ∃ a n cap l, cs = [.slice a n cap] ∧ Bytes W a n cap l := by
  rcases open_ints Tryz.underlying58 Tryz.underlying5 cells_u8F h with ⟨hcs, _⟩ | ⟨a, len', cap', zs, hcs, _, hl, hm, hz, _, hcell, hw⟩
  · exact ⟨none, 0, 0, [], hcs, rfl, Nat.le_refl _, by omega, by simp, fun _ => rfl, fun h => absurd h (Nat.lt_irrefl _)⟩
  · simp only [if_true] at hz
    refine ⟨some a, len', cap', _, hcs, bytes_of_ints (zs := zs) hl hm hz (fun h => by cases h) (fun a' ha' c hc => ?_) hw⟩
    cases ha'
    exact hcell c (by omega)

set_option maxRecDepth 100000 in
theorem open_fi {fuel : Nat} {cs : List Value} {x : DataW H × List MemPlace} (h : DataW.trod enc Tryz.prog W 0 (fun _ => true) true fuel 97 cs = some x) :
    ∃ (y : FI) (pb : Option Addr) (cb : Nat), cs = [.string ⟨y.nm.toArray⟩, .slice pb y.bs.length cb, .int .i64 y.z] ∧ Bytes W pb y.bs.length cb y.bs ∧ y.nm.length ≤ 9223372036854775807 := by
  obtain ⟨xs, n, rfl, _, hlen, hxl, hf⟩ := DataW.trod_struct Tryz.underlying97 h
  rw [cells_fi] at hlen
  match cs, hlen, xs, hxl with
  | [c0, c1, c2], _, [y0, y1, y2], _ =>
    have f0 := hf 0 _ rfl
    have f1 := hf 1 _ rfl
    have f2 := hf 2 _ rfl
    simp [cells_intF, cells_bsF, cells_strF] at f0 f1 f2
    obtain ⟨s1, e0, _, w1⟩ := DataW.trod_string Tryz.underlying9 f0
    obtain ⟨pb, lb, cb, bs, e1, hB⟩ := trod_bytesF f1
    obtain ⟨m, e2, _, w2⟩ := DataW.trod_int Tryz.underlying3 f2
    obtain rfl := (List.cons.inj e0).1
    obtain rfl := (List.cons.inj e1).1
    obtain rfl := (List.cons.inj e2).1
    refine ⟨⟨s1.data.toList, bs, m⟩, pb, cb, ?_, ?_, ?_⟩
    · rw [hB.len]
    · rw [hB.len]; exact hB
    · have h1 : s1.size ≤ 9223372036854775807 := by rw [maxLen_nat] at w1; exact w1
      show s1.data.toList.length ≤ _
      rw [Array.length_toList]
      exact h1

set_option maxRecDepth 100000 in
/-- Files that came in, and how many there are. -/
theorem open_fis {v : Value} {d : DataW H} {p : List MemPlace} {base : Nat} (hv : Value.okWide Tryz.prog W .any base 22 v) (h : DataW.Trod enc Tryz.prog W 0 (fun _ => true) true 22 v d p) :
    ∃ a n c l, v = .slice a n c ∧ FIs W a n c l ∧ (n = 0 ∨ ∃ e s, d = .slice e s ∧ n ≤ e.length + s.length) := by
  obtain ⟨a0, len, cap, rfl⟩ := okWide_slice Tryz.underlying22 hv
  obtain ⟨fuel, hf⟩ := h
  rcases DataW.trod_slice Tryz.underlying22 hf with ⟨e, _⟩ | ⟨a, len', cap', elems, rest, r, rfl, e, hd, _, hle, hcm, hel, hi, _, _⟩
  · simp [Value.cells] at e
    obtain ⟨rfl, rfl, rfl⟩ := e
    exact ⟨none, 0, 0, [], rfl, ⟨rfl, Nat.le_refl _, by omega, fun h => absurd h (Nat.lt_irrefl _)⟩, .inl rfl⟩
  · simp [Value.cells] at e
    obtain ⟨rfl, rfl, rfl⟩ := e
    rw [maxLen_nat] at hcm
    rw [cells_fi] at hi
    have hel2 : ∀ i, i < len → ∃ (y : FI) (pb : Option Addr) (cb : Nat), (∀ j, j < 3 → W.cell? ((a.add (i * 3)).add j) = ([.string ⟨y.nm.toArray⟩, .slice pb y.bs.length cb, .int .i64 y.z] : List Value)[j]?) ∧
        Bytes W pb y.bs.length cb y.bs ∧ y.nm.length ≤ 9223372036854775807 := by
      intro i hlt
      have h1 := hi i hlt
      rw [List.getElem?_eq_getElem (by omega)] at h1
      obtain ⟨cs', h2, h3⟩ := Option.bind_eq_some_iff.1 h1
      obtain ⟨_, h4, h5⟩ := World.cells?_some h2
      obtain ⟨y, pb, cb, e, hr⟩ := open_fi h3
      rw [e] at h5
      exact ⟨y, pb, cb, h5, hr⟩
    refine ⟨some a, len, cap, (List.range len).map fun i => if h : i < len then (hel2 i h).choose else ⟨[], [], 0⟩, rfl, ⟨by simp, hle, hcm, fun hn => ?_⟩, .inr ?_⟩
    · obtain ⟨b, o, spot⟩ := a
      have hspot : spot = none := by
        obtain ⟨y, pb, cb, g1, _⟩ := hel2 0 hn
        have g3 := g1 0 (by omega)
        simpa [Addr.add] using World.cell?_spot g3
      subst hspot
      refine ⟨b, o, rfl, fun i hi => ?_⟩
      have hil : i < len := by simpa using hi
      obtain ⟨pb, cb, g1, g2, g3⟩ := (hel2 i hil).choose_spec
      have e : ((List.range len).map fun i => if h : i < len then (hel2 i h).choose else ⟨[], [], 0⟩)[i] = (hel2 i hil).choose := by
        rw [List.getElem_map, List.getElem_range, dif_pos hil]
      rw [e]
      have hc : ∀ j, j < 3 → W.cell? ⟨b, o + i * 3 + j, none⟩ = ([.string ⟨(hel2 i hil).choose.nm.toArray⟩, .slice pb (hel2 i hil).choose.bs.length cb, .int .i64 (hel2 i hil).choose.z] : List Value)[j]? := by
        intro j hj
        have e2 : ((⟨b, o, none⟩ : Addr).add (i * 3)).add j = ⟨b, o + i * 3 + j, none⟩ := by rw [add_plain, add_plain]
        exact (congrArg W.cell? e2.symm).trans (g1 j hj)
      exact ⟨pb, cb, hc 0 (by omega), hc 1 (by omega), hc 2 (by omega), g2, g3⟩
    · refine ⟨_, _, (Prod.mk.inj hd).1, ?_⟩
      rw [List.length_map, hel]
      omega
end
end Go.Proofs.YtmiepigieajpcaaGreat

/- The walk of the statements' Files: a disk of the call's own and one of the reference, with the files that came in. -/
namespace Go.Proofs.YtmiepigieajpcaaGreat
open Go.RowKit Go.Maps Go.Shelf

attribute [local go_sem ↓] Go.wp_at_zero Go.wp_at_succ

def opsF (x : FI) : List SO := [⟨1, x.nm, [], []⟩, ⟨2, x.nm, [], x.bs⟩, ⟨3, x.nm, [], []⟩]
def fileF (M : DM) (x : FI) : DM := (stepsM (opsF x) M).1
def filesF (l : List FI) (M : DM) (j : Nat) : DM := (l.take j).foldl fileF M
def sumF (l : List FI) (j : Nat) : Nat := ((l.take j).map fun x => x.bs.length).sum

/-- What Files answers, where the files are not too many or too long. -/
def FilesYes (w : World) (room : Int) (l : List FI) (d : Nat) (a : Option Addr) (n c : Nat) (R : List FR) (w' : World) : Prop :=
  l.length ≤ 30 ∧ sumF l l.length ≤ 1500 ∧ Neat (filesF l (newM room) l.length) 90 1500 ∧
    ∃ X : Nat → Prop, Own w X w' d (filesF l (newM room) l.length) ∧ RowF X w' a n c R ∧ R.map FR.f = (filesF l (newM room) l.length).fs

def FilesEnd (w : World) (room : Int) (l : List FI) (e : Ending) (w' : World) : Prop :=
  ∃ d a n c R, Below w.heap.size w w' ∧
    ((∃ M : DM, e = .returned (.tuple #[.pointer (some ⟨d, 0, none⟩), refV (M.room : Int) a n c (M.plan : Int) M.down, .bool false])) ∨
      (e = .returned (.tuple #[.pointer (some ⟨d, 0, none⟩), refV ((filesF l (newM room) l.length).room : Int) a n c ((filesF l (newM room) l.length).plan : Int) (filesF l (newM room) l.length).down, .bool true]) ∧ FilesYes w room l d a n c R w'))

theorem stepsM_neat : ∀ (L : List SO) {M : DM} {N U : Nat}, Neat M N U → Neat (stepsM L M).1 (N + L.length) (U + (L.map fun x => x.bs.length).sum)
  | [], _, _, _, h => h
  | x :: L, M, N, U, h => by
    have h1 := stepM_neat h x.k x.nm x.tt x.bs
    unfold stepsM
    split
    · refine (stepsM_neat L h1).mono ?_ ?_
      · rw [List.length_cons]; omega
      · rw [List.map_cons, List.sum_cons]; omega
    · refine h1.mono ?_ ?_
      · rw [List.length_cons]; omega
      · rw [List.map_cons, List.sum_cons]; omega

theorem fileF_neat {M : DM} {N U : Nat} (h : Neat M N U) (x : FI) : Neat (fileF M x) (N + 3) (U + x.bs.length) := by
  have h1 := stepsM_neat (opsF x) h
  exact h1.mono (Nat.le_refl _) (by simp [opsF])

theorem fileF_eq (M : DM) (x : FI) : fileF M x = if (createM x.nm M).2 = 0 then (if (appendM x.nm x.bs (createM x.nm M).1).2 = 0 then (syncM x.nm (appendM x.nm x.bs (createM x.nm M).1).1).1 else (appendM x.nm x.bs (createM x.nm M).1).1) else (createM x.nm M).1 := by
  unfold fileF opsF
  show (if (createM x.nm M).2 = 0 then (if (appendM x.nm x.bs (createM x.nm M).1).2 = 0 then (if (syncM x.nm (appendM x.nm x.bs (createM x.nm M).1).1).2 = 0 then ((syncM x.nm (appendM x.nm x.bs (createM x.nm M).1).1).1, (0 : Int)) else syncM x.nm (appendM x.nm x.bs (createM x.nm M).1).1) else appendM x.nm x.bs (createM x.nm M).1) else createM x.nm M).1 = _
  split
  · split
    · split <;> rfl
    · rfl
  · rfl

theorem filesF_next {l : List FI} {M : DM} {j : Nat} (hj : j < l.length) : filesF l M (j + 1) = fileF (filesF l M j) l[j] := by
  unfold filesF
  rw [List.take_succ_eq_append_getElem hj, List.foldl_append]
  rfl

theorem sumF_next {l : List FI} {j : Nat} (hj : j < l.length) : sumF l (j + 1) = sumF l j + l[j].bs.length := by
  unfold sumF
  rw [List.take_succ_eq_append_getElem hj, List.map_append, List.sum_append]
  simp

/-- Both disks, between two files. -/
structure FAt (w1 : World) (X : Nat → Prop) (B : Nat) (wr : World) (d : Nat) (M : DM) (a : Option Addr) (n c : Nat) (R : List FR) : Prop where
  notB : ¬ X B
  own : Own w1 (fun b => X b ∨ b = B) wr d M
  box : wr.heap[B]? = some (.cells #[.int .i64 (M.room : Int), .slice a n c, .int .i64 (M.plan : Int), .bool M.down] 25 (0, 0))
  row : RowF X wr a n c R
  fs : R.map FR.f = M.fs
  new : ∀ b, X b → w1.heap.size ≤ b

theorem FAt.ended {w w1 : World} {X : Nat → Prop} {B : Nat} {wr : World} {d : Nat} {M : DM} {a : Option Addr} {n c : Nat} {R : List FR} (h : FAt w1 X B wr d M a n c R) (hb1 : Below w.heap.size w w1) (hz1 : w1.heap.size = w.heap.size + 1) (v0 v1 v2 v3 : Value) :
    Own w X ((((wr.setCell ⟨w.heap.size, 0, none⟩ v0).setCell ⟨w.heap.size, 1, none⟩ v1).setCell ⟨w.heap.size, 2, none⟩ v2).setCell ⟨w.heap.size, 3, none⟩ v3).drew d M ∧
      RowF X ((((wr.setCell ⟨w.heap.size, 0, none⟩ v0).setCell ⟨w.heap.size, 1, none⟩ v1).setCell ⟨w.heap.size, 2, none⟩ v2).setCell ⟨w.heap.size, 3, none⟩ v3).drew a n c R ∧
      Below w.heap.size w ((((wr.setCell ⟨w.heap.size, 0, none⟩ v0).setCell ⟨w.heap.size, 1, none⟩ v1).setCell ⟨w.heap.size, 2, none⟩ v2).setCell ⟨w.heap.size, 3, none⟩ v3).drew := by
  have hbr : Below w.heap.size w wr := hb1.trans (h.own.base.mono hb1.size)
  have hO : Own w (fun b => X b ∨ b = w.heap.size) wr d M := by
    obtain ⟨S, hD, hS, hX, hb⟩ := h.own
    refine ⟨S, hD, fun b hs => ⟨by have := (hS b hs).1; omega, fun hx => ?_⟩, fun b hx => ?_, hbr⟩
    · rcases hx with hx | hx
      · exact (hS b hs).2 (.inl hx)
      · have := (hS b hs).1; omega
    · rcases hx with hx | hx
      · exact hX b (.inl hx)
      · have := hb.size; omega
  refine ⟨?_, ?_, ?_⟩
  · exact (((((hO.cellset (.inr rfl) (Nat.le_refl _) 0 v0).cellset (.inr rfl) (Nat.le_refl _) 1 v1).cellset (.inr rfl) (Nat.le_refl _) 2 v2).cellset (.inr rfl) (Nat.le_refl _) 3 v3).below (Below.drew (Below.refl _ _))).sub fun b hb => .inl hb
  · refine h.row.mono (fun b hb => ?_) (fun _ hb => hb)
    have hne : b ≠ w.heap.size := by have := h.new b hb; omega
    show ((((wr.setCell ⟨w.heap.size, 0, none⟩ v0).setCell ⟨w.heap.size, 1, none⟩ v1).setCell ⟨w.heap.size, 2, none⟩ v2).setCell ⟨w.heap.size, 3, none⟩ v3).heap[b]? = _
    repeat rw [Below.heap_setCell _ _ _ _ hne]
  · exact ((((hbr.setCell (Nat.le_refl _) _).setCell (Nat.le_refl _) _).setCell (Nat.le_refl _) _).setCell (Nat.le_refl _) _).drew

theorem results_tct {fn : Func} {p u t : Tmp} {ty : TypeId} (h : fn.results = #[.tmp u, .cell p ty, .tmp t]) (tmps : Array Value) (P : Program) (w : World) :
    (results fn tmps).run P w = ((asAddr (tmps.getD p undef)).run P w).andThen fun a w₁ => ((loadVar ty a).run P w₁).andThen fun v w₂ => .ok (.tuple #[tmps.getD u undef, v, tmps.getD t undef]) w₂ := by
  simp only [results, h]
  simp [Sem.run_bind, Result.andThen]

set_option maxRecDepth 100000 in
set_option maxHeartbeats 6400000 in
theorem files_any (room : Int) (p : Option Addr) (n c : Nat) (l : List FI) (w : World) (_hr1 : -9223372036854775808 ≤ room) (hr : room < 9223372036854775808) (hl : FIs w p n c l) :
    Calls Tryz.prog 13 #[.int .i64 room, .slice p n c] w (FilesEnd w room l) := by
  have HL := Lib.hid hl
  have hls := Lib.hid hl.len
  have HN := Lib.hid (fun W => own_new room W hr)
  clear hl
  go_enter Tryz.func13, Tryz.ntmps13
  go_wp2_with fail
  obtain ⟨w1, hw1⟩ : ∃ w1, w1 = w.alloc (.cells #[.int .i64 0, .slice none 0 0, .int .i64 0, .bool false] 25) := ⟨_, rfl⟩
  rw [← hw1]
  have hb1 : Below w.heap.size w w1 := by rw [hw1]; exact (Below.refl _ _).alloc (Nat.le_refl _) _
  have hz1 : w1.heap.size = w.heap.size + 1 := by rw [hw1]; simp
  have hB1 : w1.heap[w.heap.size]? = some (.cells #[.int .i64 0, .slice none 0 0, .int .i64 0, .bool false] 25 (0, 0)) := by rw [hw1]; exact heap_alloc_new _ _
  have Hb1 := Lib.hid hb1
  have HB1 := Lib.hid hB1
  clear hw1 hb1 hB1
  obtain ⟨r0, hr0⟩ : ∃ r0 : Int, r0 = max room 0 := ⟨_, rfl⟩
  have hmx : max room 0 = r0 := hr0.symm
  have Hrn := Lib.hid (show ((newM room).room : Int) = r0 by rw [hr0]; show ((room.toNat : Nat) : Int) = max room 0; omega)
  clear hr0
  refine (HN.out w1).mono ?_
  rintro e w2 ⟨d, rfl, ho2, _⟩
  have Ho2 := Lib.hid ho2
  clear ho2
  go_wp2
  go_loopw [9, 19] (fun t i wr => ∃ (j : Nat) (X : Nat → Prop) (a' : Option Addr) (n' c' : Nat) (R' : List FR), j ≤ n ∧ i = .int .i64 (j : Int) ∧ t = .int .i64 (sumF l j : Nat) ∧ sumF l j ≤ 1500 ∧ (0 < j → n ≤ 30) ∧ Neat (filesF l (newM room) j) (3 * j) (sumF l j) ∧ FAt w1 X w2.heap.size wr d (filesF l (newM room) j) a' n' c' R') (fun _ i _ => n - (intOf i).toNat)
  case atStart =>
    have hal := (Below.refl w2.heap.size w2).alloc (Nat.le_refl _) (.cells #[.int .i64 r0, .slice none 0 0, .int .i64 0, .bool false] 25)
    have hro : ((filesF l (newM room) 0).room : Int) = r0 := Hrn.out
    refine ⟨0, fun _ => False, none, 0, 0, [], Nat.zero_le _, rfl, rfl, by simp [sumF], fun h => absurd h (Nat.lt_irrefl _), ⟨by show 0 ≤ _; omega, List.Pairwise.nil, ⟨Nat.le_refl _, Nat.le_refl _⟩⟩, ⟨fun h => h, Ho2.out.more hal (fun b hb => hb.imp id (fun e => by rw [e]; simp)), ?_, rowF_nil _ _, rfl, fun _ h => h.elim⟩⟩
    rw [hro]
    exact heap_alloc_new _ _
  case round =>
    obtain ⟨j, X, a', n', c', R', hj, rfl, rfl, hsu, hth, hnt, hF⟩ := hrel
    by_cases hlt : j < n
    · have hjl : j < l.length := by rw [hls.out]; exact hlt
      obtain ⟨b, o, rfl, hc⟩ := HL.out.cell (by omega)
      obtain ⟨pb, cb, hx0⟩ := hc j hjl
      have hx := hx0.grow (Hb1.out.trans (hF.own.base.mono Hb1.out.size))
      have k0 := hx.k0
      have k1 := hx.k1
      have k2 := hx.k2
      have hbx := hF.box
      have b0 := fun o => row_alloc' hbx o 0
      have b1 := fun o => row_alloc' hbx o 1
      have b2 := fun o => row_alloc' hbx o 2
      have b3 := fun o => row_alloc' hbx o 3
      simp only [List.getElem?_toArray, List.getElem?_cons_zero, List.getElem?_cons_succ] at b0 b1 b2 b3
      have hrs := (hF.own.base.block _ (show w.heap.size < w1.heap.size by omega)).trans HB1.out
      have r0 := fun o => row_alloc' hrs o 0
      have r1 := fun o => row_alloc' hrs o 1
      have r2 := fun o => row_alloc' hrs o 2
      have r3 := fun o => row_alloc' hrs o 3
      have rf := fun o i => frozen_alloc' hrs o i
      simp only [List.getElem?_toArray, List.getElem?_cons_zero, List.getElem?_cons_succ] at r0 r1 r2 r3
      have hne : w2.heap.size ≠ w.heap.size := by have := Ho2.out.base.size; omega
      have HF := Lib.hid hF
      have Hnt := Lib.hid hnt
      have Hth := Lib.hid hth
      have Hx0 := Lib.hid hx0
      have hnx := filesF_next (M := newM room) hjl
      have hsx := sumF_next hjl
      have Hnx := Lib.hid hnx
      have Hsx := Lib.hid hsx
      have hji : (j : Int) < (n : Int) := by omega
      have Hlt := Lib.hid hlt
      have hnn : n ≤ 9223372036854775807 := Nat.le_trans HL.out.le HL.out.max
      have hlb := hx0.bytes.capmax
      have hlc := hx0.bytes.le
      have hlnm := hx0.wn
      clear hF hnt hth hx hx0 hnx hsx hc hbx hlt hrs
      have hrb : (w1.heap.size ≤ w2.heap.size) := Ho2.out.base.size
      generalize hz : l[j] = z at *
      obtain ⟨nm, bs, zz⟩ := z
      simp only at *
      by_cases hbad : (decide ((1500 : Int) < (sumF l j : Int) + min (bs.length : Int) 2000) || decide ((30 : Int) < (n : Int)) || decide ((200 : Int) < (nm.length : Int))) = true
      · have Hbr := Lib.hid (Hb1.out.trans (HF.out.own.base.mono Hb1.out.size))
        go_wp2
        all_goals go_region
        all_goals go_wp2
        all_goals
          refine bodyPost_ret (v := .tuple #[.pointer (some ⟨d, 0, none⟩), refV ((filesF l (newM room) j).room : Int) a' n' c' ((filesF l (newM room) j).plan : Int) (filesF l (newM room) j).down, .bool false]) ?_ rfl ?_
        all_goals
          first
          | exact ⟨d, a', n', c', [], (((((Hbr.out.alloc Hbr.out.size _).setCell (Nat.le_refl _) _).setCell (Nat.le_refl _) _).setCell (Nat.le_refl _) _).setCell (Nat.le_refl _) _).drew, .inl ⟨filesF l (newM room) j, rfl⟩⟩
          | (rw [results_tct rfl]
             go_simp
             rfl)
      · have hgood : (decide ((1500 : Int) < (sumF l j : Int) + min (bs.length : Int) 2000) || decide ((30 : Int) < (n : Int)) || decide ((200 : Int) < (nm.length : Int))) = false := by simpa using hbad
        have hg : sumF l j + bs.length ≤ 1500 ∧ n ≤ 30 ∧ nm.length ≤ 200 := by
          simp only [Bool.or_eq_true, decide_eq_true_eq, not_or] at hbad
          omega
        obtain ⟨W3, hW3⟩ : ∃ W3, W3 = (wr.alloc (.cells #[.string ⟨nm.toArray⟩, .slice pb bs.length cb, .int .i64 zz] 97)).alloc (.cells #[.int .i64 1, .string ⟨nm.toArray⟩, .string ⟨#[]⟩, .slice none 0 0, .int .i64 2, .string ⟨nm.toArray⟩, .string ⟨#[]⟩, .slice pb bs.length cb, .int .i64 3, .string ⟨nm.toArray⟩, .string ⟨#[]⟩, .slice none 0 0] 101) := ⟨_, rfl⟩
        have hb3 : Below wr.heap.size wr W3 := by rw [hW3]; exact ((Below.refl _ _).alloc (Nat.le_refl _) _).alloc (by simp) _
        have hz3 : W3.heap.size = wr.heap.size + 2 := by rw [hW3]; simp
        have hf3 : W3.heap[wr.heap.size]? = some (.cells #[.string ⟨nm.toArray⟩, .slice pb bs.length cb, .int .i64 zz] 97 (0, 0)) := by rw [hW3]; exact (Below.heap_alloc _ _ _ (by simp)).trans (heap_alloc_new _ _)
        have ho3 : W3.heap[wr.heap.size + 1]? = some (.cells #[.int .i64 1, .string ⟨nm.toArray⟩, .string ⟨#[]⟩, .slice none 0 0, .int .i64 2, .string ⟨nm.toArray⟩, .string ⟨#[]⟩, .slice pb bs.length cb, .int .i64 3, .string ⟨nm.toArray⟩, .string ⟨#[]⟩, .slice none 0 0] 101 (0, 0)) := by
          have h2 := heap_alloc_new (wr.alloc (.cells #[.string ⟨nm.toArray⟩, .slice pb bs.length cb, .int .i64 zz] 97)) (.cells #[.int .i64 1, .string ⟨nm.toArray⟩, .string ⟨#[]⟩, .slice none 0 0, .int .i64 2, .string ⟨nm.toArray⟩, .string ⟨#[]⟩, .slice pb bs.length cb, .int .i64 3, .string ⟨nm.toArray⟩, .string ⟨#[]⟩, .slice none 0 0] 101)
          rw [World.size_alloc] at h2
          rw [hW3]
          exact h2
        have hBy : Bytes W3 pb bs.length cb bs := Hx0.out.bytes.grow (Hb1.out.trans ((HF.out.own.base.trans (hb3.mono HF.out.own.base.size)).mono Hb1.out.size))
        have hsos : SOs W3 (some ⟨wr.heap.size + 1, 0, none⟩) 3 3 (opsF ⟨nm, bs, zz⟩) := by
          refine ⟨rfl, by decide, fun _ => ⟨wr.heap.size + 1, 0, rfl, fun i hi => ?_⟩⟩
          have hi3 : i < 3 := hi
          rcases (show i = 0 ∨ i = 1 ∨ i = 2 by omega) with rfl | rfl | rfl
          · exact ⟨none, 0, by rw [cell_of_row _ _ _ _ _ (0, 0) ho3]; rfl, by rw [cell_of_row _ _ _ _ _ (0, 0) ho3]; rfl, by rw [cell_of_row _ _ _ _ _ (0, 0) ho3]; rfl, by rw [cell_of_row _ _ _ _ _ (0, 0) ho3]; rfl, bytes_nil _, ⟨by first | exact (by decide : (1 : Int) ≤ 1) | exact (by decide : (1 : Int) ≤ 3), by first | exact (by decide : (1 : Int) ≤ 5) | exact (by decide : (3 : Int) ≤ 5)⟩, hlnm, Nat.zero_le _⟩
          · exact ⟨pb, cb, by rw [cell_of_row _ _ _ _ _ (0, 0) ho3]; rfl, by rw [cell_of_row _ _ _ _ _ (0, 0) ho3]; rfl, by rw [cell_of_row _ _ _ _ _ (0, 0) ho3]; rfl, by rw [cell_of_row _ _ _ _ _ (0, 0) ho3]; rfl, hBy, ⟨(by decide : (1 : Int) ≤ 2), (by decide : (2 : Int) ≤ 5)⟩, hlnm, Nat.zero_le _⟩
          · exact ⟨none, 0, by rw [cell_of_row _ _ _ _ _ (0, 0) ho3]; rfl, by rw [cell_of_row _ _ _ _ _ (0, 0) ho3]; rfl, by rw [cell_of_row _ _ _ _ _ (0, 0) ho3]; rfl, by rw [cell_of_row _ _ _ _ _ (0, 0) ho3]; rfl, bytes_nil _, ⟨by first | exact (by decide : (1 : Int) ≤ 1) | exact (by decide : (1 : Int) ≤ 3), by first | exact (by decide : (1 : Int) ≤ 5) | exact (by decide : (3 : Int) ≤ 5)⟩, hlnm, Nat.zero_le _⟩
        have hXr : ∀ b, X b → b < wr.heap.size := by
          obtain ⟨_, _, _, h, _⟩ := HF.out.own
          exact fun b hb => h b (.inl hb)
        have hln : n' ≤ 1000000 := by
          rw [← HF.out.row.len, ← List.length_map (f := FR.f), HF.out.fs]
          have := Hnt.out.small.files
          omega
        have HSt := Lib.hid (rsteps_any (X := X) (w := W3) (M := filesF l (newM room) j) ⟨a', n', c', R', rfl, HF.out.row.below hXr hb3, HF.out.fs, hln⟩ (fun b h => Nat.lt_of_lt_of_le (hXr b h) hb3.size) (some ⟨wr.heap.size + 1, 0, none⟩) 3 3 _ hsos (T := bs.length) Hnt.out (by omega) (fun x hx => by
          rcases List.mem_cons.1 hx with rfl | hx
          · exact Nat.zero_le _
          · rcases List.mem_cons.1 hx with rfl | hx
            · exact Nat.le_refl _
            · rcases List.mem_cons.1 hx with rfl | hx
              · exact Nat.zero_le _
              · cases hx) (by omega))
        unfold refV at HSt
        go_wp2_with fail
        rw [← hW3]
        refine HSt.out.mono ?_
        rintro e w4 ⟨a4, n4, c4, R4, rfl, hR4, hf4, hb4⟩
        unfold refV
        have hXw : ∀ b, X b → b < wr.heap.size := hXr
        have hBr : w2.heap.size < wr.heap.size := (Array.getElem?_eq_some_iff.1 HF.out.box).1
        have hb34 : Below wr.heap.size wr w4 := hb3.trans (hb4.mono hb3.size)
        have hbx4 := (hb34.block _ hBr).trans HF.out.box
        have hf4r := (hb4.block _ (show wr.heap.size < W3.heap.size by omega)).trans hf3
        have hneB : wr.heap.size ≠ w2.heap.size := by omega
        obtain ⟨wS, hwS⟩ : ∃ wS, wS = ((((w4.setCell ⟨w2.heap.size, 0, none⟩ (.int .i64 ((stepsM (opsF ⟨nm, bs, zz⟩) (filesF l (newM room) j)).1.room : Int))).setCell ⟨w2.heap.size, 1, none⟩ (.slice a4 n4 c4)).setCell ⟨w2.heap.size, 2, none⟩ (.int .i64 ((stepsM (opsF ⟨nm, bs, zz⟩) (filesF l (newM room) j)).1.plan : Int))).setCell ⟨w2.heap.size, 3, none⟩ (.bool (stepsM (opsF ⟨nm, bs, zz⟩) (filesF l (newM room) j)).1.down)) := ⟨_, rfl⟩
        have hoS : Own w1 (fun b => ((X b ∨ b = w2.heap.size) ∨ b = wr.heap.size) ∨ (W3.heap.size ≤ b ∧ b < w4.heap.size)) wS d (filesF l (newM room) j) := by
          have h1 : Own w1 (fun b => ((X b ∨ b = w2.heap.size) ∨ b = wr.heap.size) ∨ (W3.heap.size ≤ b ∧ b < w4.heap.size)) w4 d (filesF l (newM room) j) := HF.out.own.more hb34 (fun b hb => by
            rcases hb with (h | h) | ⟨h, h'⟩
            · exact .inl h
            · exact .inr ⟨by omega, by have := hb34.size; have := hb4.size; omega⟩
            · exact .inr ⟨by omega, h'⟩)
          rw [hwS]
          exact (((h1.cellset (.inl (.inl (.inr rfl))) hrb 0 _).cellset (.inl (.inl (.inr rfl))) hrb 1 _).cellset (.inl (.inl (.inr rfl))) hrb 2 _).cellset (.inl (.inl (.inr rfl))) hrb 3 _
        have hbS : wS.heap[w2.heap.size]? = some (.cells #[.int .i64 ((fileF (filesF l (newM room) j) ⟨nm, bs, zz⟩).room : Int), .slice a4 n4 c4, .int .i64 ((fileF (filesF l (newM room) j) ⟨nm, bs, zz⟩).plan : Int), .bool (fileF (filesF l (newM room) j) ⟨nm, bs, zz⟩).down] 25 (0, 0)) := by
          rw [hwS]
          exact boxD_set hbx4 _ _ _ _
        have hkS : ∀ b, b ≠ w2.heap.size → wS.heap[b]? = w4.heap[b]? := fun b hb => by
          rw [hwS]
          repeat rw [Below.heap_setCell _ _ _ _ hb]
        have hfS : wS.heap[wr.heap.size]? = _ := (hkS _ hneB).trans hf4r
        have hrS : RowF (fun b => X b ∨ (W3.heap.size ≤ b ∧ b < w4.heap.size)) wS a4 n4 c4 R4 := hR4.mono (fun b hb => hkS b (by
          rcases hb.1 with h | h
          · exact fun e => HF.out.notB (by rw [← e]; exact h)
          · omega)) (fun b hb => by
          rcases hb.1 with h | h
          · exact .inl h
          · exact .inr ⟨h, hb.2⟩)
        have HEnd := Lib.hid (fun w7 (M' : DM) (h : Own w1 (fun b => ((X b ∨ b = w2.heap.size) ∨ b = wr.heap.size) ∨ (W3.heap.size ≤ b ∧ b < w4.heap.size)) w7 d M') (hk : ∀ b, ((X b ∨ b = w2.heap.size) ∨ b = wr.heap.size) ∨ (W3.heap.size ≤ b ∧ b < w4.heap.size) → w7.heap[b]? = wS.heap[b]?) (hM : M' = fileF (filesF l (newM room) j) ⟨nm, bs, zz⟩) =>
          (show FAt w1 (fun b => X b ∨ (W3.heap.size ≤ b ∧ b < w4.heap.size)) w2.heap.size w7 d (fileF (filesF l (newM room) j) ⟨nm, bs, zz⟩) a4 n4 c4 R4 from
            ⟨fun h => by
              rcases h with h | h
              · exact HF.out.notB h
              · omega,
             by
              rw [← hM]
              exact h.sub fun b hb => by
                rcases hb with (h | h) | h
                · exact .inl (.inl (.inl h))
                · exact .inr h
                · exact .inl (.inl (.inr h)),
             (hk _ (.inl (.inl (.inr rfl)))).trans hbS,
             hrS.mono (fun b hb => hk b (by
              rcases hb with h | h
              · exact .inl (.inl (.inl h))
              · exact .inr h)) (fun _ h => h),
             hf4,
             fun b hb => by
              rcases hb with h | h
              · exact HF.out.new b h
              · omega⟩))
        have hnc := stepM_neat Hnt.out 1 nm [] []
        have HCr := Lib.hid (own_create hoS nm hlnm (by have := Hnt.out.small.files; omega))
        have HAp := Lib.hid (fun w5 (h : Own w1 (fun b => ((X b ∨ b = w2.heap.size) ∨ b = wr.heap.size) ∨ (W3.heap.size ≤ b ∧ b < w4.heap.size)) w5 d (createM nm (filesF l (newM room) j)).1) => own_append h nm hlnm pb bs.length cb bs (Hx0.out.bytes.grow (Hb1.out.trans (h.base.mono Hb1.out.size))) (fun h0 a ha => by
          obtain ⟨b1, o1, e1, h1⟩ := Hx0.out.bytes.cell h0
          have h2 := World.block_lt_of_cell? _ _ (h1 0 h0)
          rw [ha] at e1
          cases e1
          exact .inr (by have h3 : b1 < w.heap.size := h2; show b1 < w1.heap.size; omega)) (by
          have h1 : usedF (createM nm (filesF l (newM room) j)).1.fs ≤ sumF l j + 0 := hnc.small.used
          omega))
        have HSy := Lib.hid (fun w6 (h : Own w1 (fun b => ((X b ∨ b = w2.heap.size) ∨ b = wr.heap.size) ∨ (W3.heap.size ≤ b ∧ b < w4.heap.size)) w6 d (appendM nm bs (createM nm (filesF l (newM room) j)).1).1) => own_sync h nm hlnm)
        have hFe := fileF_eq (filesF l (newM room) j) ⟨nm, bs, zz⟩
        simp only at hFe
        have HFe := Lib.hid hFe
        have HNx := Lib.hid (fileF_neat Hnt.out ⟨nm, bs, zz⟩)
        obtain ⟨y0, y1, y2, y3, yf⟩ := box4c hbx4
        have f0 : wS.cell? ⟨wr.heap.size, 0, none⟩ = some (.string ⟨nm.toArray⟩) := by rw [cell_of_row _ _ _ _ _ (0, 0) hfS]; rfl
        have f1 : wS.cell? ⟨wr.heap.size, 1, none⟩ = some (.slice pb bs.length cb) := by rw [cell_of_row _ _ _ _ _ (0, 0) hfS]; rfl
        have HfS := Lib.hid hfS
        have HwS := Lib.hid hwS
        clear hoS hbS hkS hfS hrS hFe hR4 hf4 hb4 hb34 hbx4 hf4r hnc HSt hsos hBy hf3 ho3 hW3 hb3 hwS
        have HRel := Lib.hid (fun (w7 : World) (h : FAt w1 (fun b => X b ∨ (W3.heap.size ≤ b ∧ b < w4.heap.size)) w2.heap.size w7 d (fileF (filesF l (newM room) j) ⟨nm, bs, zz⟩) a4 n4 c4 R4) =>
          (show (∃ (j_1 : Nat) (X : Nat → Prop) (a' : Option Addr) (n' c' : Nat) (R' : List FR), j_1 ≤ n ∧ (Value.int .i64 ((j : Int) + 1)) = .int .i64 (j_1 : Int) ∧ (Value.int .i64 ((sumF l j : Int) + min (bs.length : Int) 2000)) = .int .i64 (sumF l j_1 : Nat) ∧ sumF l j_1 ≤ 1500 ∧ (0 < j_1 → n ≤ 30) ∧ Neat (filesF l (newM room) j_1) (3 * j_1) (sumF l j_1) ∧ FAt w1 X w2.heap.size w7 d (filesF l (newM room) j_1) a' n' c' R') ∧
              n - (intOf (Value.int .i64 ((j : Int) + 1))).toNat < n - (intOf (Value.int .i64 (j : Int))).toNat from by
            have hs1 : sumF l (j + 1) = sumF l j + bs.length := Hsx.out
            have hf1 : filesF l (newM room) (j + 1) = fileF (filesF l (newM room) j) ⟨nm, bs, zz⟩ := Hnx.out
            have hlt1 := Hlt.out
            refine ⟨⟨j + 1, (fun b => X b ∨ (W3.heap.size ≤ b ∧ b < w4.heap.size)), a4, n4, c4, R4, hlt1, by go_num, ?_, by omega, fun _ => hg.2.1, ?_, ?_⟩, ?_⟩
            · rw [hs1]
              congr 1
              omega
            · rw [hf1, hs1]
              exact HNx.out
            · rw [hf1]
              exact h
            · simp [intOf]; omega))
        go_upto_region 11 with fail
        rw [← HwS.out]
        go_wp2_with fail
        refine HCr.out.mono ?_
        rintro e w5 ⟨rfl, ho5, hx5, _, _⟩
        have hf5 := (hx5 wr.heap.size (.inl (.inr rfl))).trans HfS.out
        have g0 : w5.cell? ⟨wr.heap.size, 0, none⟩ = some (.string ⟨nm.toArray⟩) := by rw [cell_of_row _ _ _ _ _ (0, 0) hf5]; rfl
        have g1 : w5.cell? ⟨wr.heap.size, 1, none⟩ = some (.slice pb bs.length cb) := by rw [cell_of_row _ _ _ _ _ (0, 0) hf5]; rfl
        have HA5 := Lib.hid (HAp.out w5 ho5)
        have Ho5 := Lib.hid ho5
        have Hx5 := Lib.hid hx5
        clear ho5 hx5 hf5
        by_cases hc1 : (createM nm (filesF l (newM room) j)).2 = 0
        · have hc1b : ((createM nm (filesF l (newM room) j)).2 == 0) = true := by simp [hc1]
          go_wp2_with fail
          refine HA5.out.mono ?_
          rintro e w6 ⟨rfl, ho6, hx6, _, _⟩
          have HS6 := Lib.hid (HSy.out w6 ho6)
          have hf6 := (hx6 wr.heap.size (.inl (.inr rfl))).trans ((Hx5.out wr.heap.size (.inl (.inr rfl))).trans HfS.out)
          have q0 : w6.cell? ⟨wr.heap.size, 0, none⟩ = some (.string ⟨nm.toArray⟩) := by rw [cell_of_row _ _ _ _ _ (0, 0) hf6]; rfl
          have Ho6 := Lib.hid ho6
          have Hx6 := Lib.hid (fun b hb => (hx6 b hb).trans (Hx5.out b hb))
          clear ho6 hx6 hf6
          by_cases hc2 : (appendM nm bs (createM nm (filesF l (newM room) j)).1).2 = 0
          · have hc2b : ((appendM nm bs (createM nm (filesF l (newM room) j)).1).2 == 0) = true := by simp [hc2]
            go_wp2_with fail
            refine HS6.out.mono ?_
            rintro e w7 ⟨rfl, ho7, hx7, _, _⟩
            have HF7 := Lib.hid (HEnd.out w7 _ ho7 (fun b hb => (hx7 b hb).trans (Hx6.out b hb)) (by rw [HFe.out, if_pos hc1, if_pos hc2]))
            clear ho7 hx7
            go_wp2_with fail
            exact HRel.out _ HF7.out
          · have hc2b : ((appendM nm bs (createM nm (filesF l (newM room) j)).1).2 == 0) = false := by simp [hc2]
            go_wp2_with fail
            exact HRel.out _ (HEnd.out w6 _ Ho6.out Hx6.out (by rw [HFe.out, if_pos hc1, if_neg hc2]))
        · have hc1b : ((createM nm (filesF l (newM room) j)).2 == 0) = false := by simp [hc1]
          go_wp2_with fail
          exact HRel.out _ (HEnd.out w5 _ Ho5.out Hx5.out (by rw [HFe.out, if_neg hc1]))
    · obtain rfl : n = j := by omega
      have hji : ¬ (n : Int) < (n : Int) := by omega
      obtain ⟨x0, x1, x2, x3, xf⟩ := box4c hF.box
      have hr0 := (hF.own.base.block _ (by omega)).trans HB1.out
      obtain ⟨z0, z1, z2, z3, zf⟩ := box4c hr0
      have HF := Lib.hid hF
      have Hnt := Lib.hid hnt
      have Hth := Lib.hid hth
      have Hsu := Lib.hid hsu
      clear hF hnt hth hsu hr0
      go_wp2
      go_region
      go_wp2
      obtain ⟨hE1, hE2, hE3⟩ := HF.out.ended Hb1.out hz1 (.int .i64 ((filesF l (newM room) n).room : Int)) (.slice a' n' c') (.int .i64 ((filesF l (newM room) n).plan : Int)) (.bool (filesF l (newM room) n).down)
      have hln : l.length = n := hls.out
      refine bodyPost_ret (v := .tuple #[.pointer (some ⟨d, 0, none⟩), refV ((filesF l (newM room) n).room : Int) a' n' c' ((filesF l (newM room) n).plan : Int) (filesF l (newM room) n).down, .bool true]) ?_ rfl ?_
      · rw [results_tct rfl]
        go_simp
        rfl
      · have hn30 : n ≤ 30 := by
          rcases Nat.eq_zero_or_pos n with h | h
          · omega
          · exact Hth.out h
        refine ⟨d, a', n', c', R', hE3, .inr ⟨by rw [hln], ?_⟩⟩
        unfold FilesYes
        rw [hln]
        exact ⟨hn30, Hsu.out, Hnt.out.mono (by omega) Hsu.out, X, hE1, hE2, HF.out.fs⟩
end Go.Proofs.YtmiepigieajpcaaGreat

