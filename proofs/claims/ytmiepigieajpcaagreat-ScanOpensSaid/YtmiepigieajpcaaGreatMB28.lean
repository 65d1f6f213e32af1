import Derived.Test.YtmiepigieajpcaaGreatMB1
import Derived.RangeFuncBox
import Derived.Test.YtmiepigieajpcaaGreatMB22
import Derived.Test.YtmiepigieajpcaaGreatMB23
/- Slices of byte slices that a call has made itself. -/
namespace Go.Proofs.YtmiepigieajpcaaGreat
open Go.RowKit

/-- A slice of byte slices of the call's own: its row, and the byte slices in other blocks. -/
def OwnParts (w : World) (base : Nat) (v : Value) (ls : List (List Nat)) : Prop :=
  ∃ vs : List Value, vs.length = ls.length ∧ w.ownsRow base 58 1 v ls.length vs ∧
    ∀ i, i < ls.length → ∃ a n c, vs[i]? = some (.slice a n c) ∧ Bytes w a n c (ls.getD i []) ∧ (0 < n → ∀ x, a = some x → some x.block ≠ v.ownBlock)

theorem OwnParts.nil (w : World) (base : Nat) : OwnParts w base (.slice none 0 0) [] :=
  ⟨[], rfl, World.ownsRow_nil _ _ _ _, fun _ h => absurd h (Nat.not_lt_zero _)⟩

/-- Bytes in another world, if their own block has not been turned. -/
theorem Bytes.off {w w' : World} {a : Option Addr} {n c : Nat} {l : List Nat} (h : Bytes w a n c l) (hw : 0 < n → ∀ x, a = some x → x.block < w.heap.size → w'.heap[x.block]? = w.heap[x.block]?) : Bytes w' a n c l := by
  refine ⟨h.len, h.le, h.capmax, h.byte, h.nil, fun hn => ?_⟩
  obtain ⟨b, o, rfl, hc⟩ := h.cell hn
  refine ⟨b, o, rfl, fun i hi => ?_⟩
  have hlt := World.block_lt_of_cell? _ _ (hc i hi)
  rw [← hc i hi]
  exact World.cell?_of_block (hw hn ⟨b, o, none⟩ rfl hlt)

/-- What a slice of byte slices came to hold, element by element. -/
theorem OwnParts.app {w w' : World} {base : Nat} {v v' : Value} {ls ms : List (List Nat)} {vs us : List Value} (hlen : vs.length = ls.length)
    (hel : ∀ i, i < ls.length → ∃ a n c, vs[i]? = some (.slice a n c) ∧ Bytes w a n c (ls.getD i []) ∧ (0 < n → ∀ x, a = some x → some x.block ≠ v.ownBlock))
    (hlen2 : us.length = ms.length) (hel2 : ∀ i, i < ms.length → ∃ a n c, us[i]? = some (.slice a n c) ∧ Bytes w a n c (ms.getD i []) ∧ (0 < n → ∀ x, a = some x → some x.block ≠ v.ownBlock))
    (hown : w'.ownsRow base 58 1 v' (ls.length + ms.length) (vs ++ us)) (hg : w.grownBy w' v.ownBlock) (hb : v'.ownBlock = v.ownBlock ∨ v'.ownBlock = some w.heap.size) : OwnParts w' base v' (ls ++ ms) := by
  have turn : ∀ (a : Option Addr) (n c : Nat) (l : List Nat), Bytes w a n c l → (0 < n → ∀ x, a = some x → some x.block ≠ v.ownBlock) → Bytes w' a n c l ∧ (0 < n → ∀ x, a = some x → some x.block ≠ v'.ownBlock) := by
    intro a n c l hB ho
    refine ⟨hB.off fun hn x hx hlt => hg.block _ hlt (ho hn x hx), fun hn x hx e => ?_⟩
    rcases hb with e2 | e2
    · exact ho hn x hx (e.trans e2)
    · rw [e2] at e
      have e3 := Option.some.inj e
      obtain ⟨b, o, rfl, hc⟩ := hB.cell hn
      have h0 := World.block_lt_of_cell? _ _ (hc 0 hn)
      have e4 : b = x.block := by cases hx; rfl
      simp only at h0
      omega
  refine ⟨vs ++ us, by rw [List.length_append, List.length_append, hlen, hlen2], by rw [List.length_append]; exact hown, fun i hi => ?_⟩
  rw [List.length_append] at hi
  rcases Nat.lt_or_ge i ls.length with h | h
  · obtain ⟨a, n, c, h1, h2, h3⟩ := hel i h
    obtain ⟨h4, h5⟩ := turn a n c _ h2 h3
    refine ⟨a, n, c, by rw [List.getElem?_append_left (by omega)]; exact h1, ?_, h5⟩
    rw [List.getD_eq_getElem?_getD, List.getElem?_append_left h, ← List.getD_eq_getElem?_getD]
    exact h4
  · obtain ⟨a, n, c, h1, h2, h3⟩ := hel2 (i - ls.length) (by omega)
    obtain ⟨h4, h5⟩ := turn a n c _ h2 h3
    refine ⟨a, n, c, by rw [List.getElem?_append_right (by omega), hlen]; exact h1, ?_, h5⟩
    rw [List.getD_eq_getElem?_getD, List.getElem?_append_right h, ← List.getD_eq_getElem?_getD]
    exact h4

theorem OwnParts.snoc {w w' : World} {base : Nat} {v v' : Value} {ls : List (List Nat)} {vs : List Value} (hlen : vs.length = ls.length)
    (hel : ∀ i, i < ls.length → ∃ a n c, vs[i]? = some (.slice a n c) ∧ Bytes w a n c (ls.getD i []) ∧ (0 < n → ∀ x, a = some x → some x.block ≠ v.ownBlock))
    {a : Option Addr} {n c : Nat} {l : List Nat} (hB : Bytes w a n c l) (ho : 0 < n → ∀ x, a = some x → some x.block ≠ v.ownBlock)
    (hown : w'.ownsRow base 58 1 v' (ls.length + 1) (vs ++ [.slice a n c])) (hg : w.grownBy w' v.ownBlock) (hb : v'.ownBlock = v.ownBlock ∨ v'.ownBlock = some w.heap.size) : OwnParts w' base v' (ls ++ [l]) := by
  refine OwnParts.app (ms := [l]) (us := [.slice a n c]) hlen hel rfl (fun i hi => ?_) hown hg hb
  obtain rfl : i = 0 := by simp at hi; exact hi
  exact ⟨a, n, c, rfl, hB, ho⟩

/-- The same in another world, if nothing but new memory has been made. -/
theorem OwnParts.grow {w w' : World} {base : Nat} {v : Value} {ls : List (List Nat)} (h : OwnParts w base v ls) (hb : Below w.heap.size w w') : OwnParts w' base v ls := by
  obtain ⟨vs, h1, h2, h3⟩ := h
  refine ⟨vs, h1, own_below h2 hb, fun i hi => ?_⟩
  obtain ⟨a, n, c, h4, h5, h6⟩ := h3 i hi
  exact ⟨a, n, c, h4, h5.grow hb, h6⟩

/-- The same in another world, if neither its row nor its bytes' blocks have been turned. -/
theorem OwnParts.kept {w w' : World} {base : Nat} {v : Value} {ls : List (List Nat)} (h : OwnParts w base v ls) {row : Option Nat} (hg : w.grownBy w' row) (hr : row ≠ v.ownBlock ∨ row = none) (hb : ∀ k, row = some k → ∀ a n c l, Bytes w a n c l → 0 < n → ∀ x, a = some x → x.block ≠ k) : OwnParts w' base v ls := by
  obtain ⟨vs, h1, h2, h3⟩ := h
  refine ⟨vs, h1, h2.kept hg ?_, fun i hi => ?_⟩
  · rcases hr with hr | rfl
    · exact .inr (fun e => hr e.symm)
    · rcases h2.2 with ⟨rfl, _⟩ | ⟨g, cap, cur, rfl, _⟩
      · exact .inl rfl
      · exact .inr (fun e => by cases e)
  · obtain ⟨a, n, c, h4, h5, h6⟩ := h3 i hi
    exact ⟨a, n, c, h4, h5.off (fun hn x hx hlt => hg.block _ hlt (fun e => hb _ e.symm a n c _ h5 hn x hx rfl)), h6⟩

/-- As parts. -/
theorem OwnParts.parts {w : World} {base : Nat} {v : Value} {ls : List (List Nat)} (h : OwnParts w base v ls) : ∃ a cap, v = .slice a ls.length cap ∧ Parts w a ls.length cap ls := by
  obtain ⟨vs, h1, h2, h3⟩ := h
  rcases h2.2 with ⟨rfl, h0⟩ | ⟨g, cap, cur, rfl, hbg, hg, hle, hcm, hsz, htake⟩
  · have e : ls = [] := List.length_eq_zero_iff.1 h0
    subst e
    exact ⟨none, 0, rfl, rfl, Nat.le_refl _, by omega, fun h => absurd h (Nat.lt_irrefl _)⟩
  · rw [maxLen_nat] at hcm
    refine ⟨_, cap, rfl, rfl, hle, hcm, fun _ => ⟨g, 0, rfl, (Array.getElem?_eq_some_iff.1 hg).1, fun i hi => ?_⟩⟩
    obtain ⟨a, n, c, h4, h5, _⟩ := h3 i hi
    refine ⟨a, n, c, ?_, h5⟩
    rw [Nat.zero_add, cell_of_row w g i cur _ (0, 0) hg, ← h4, ← htake, List.getElem?_take, if_pos (by omega), Array.getElem?_toList]

/-- Bytes do not lie in a block that holds one slice. -/
theorem Bytes.not_box {w : World} {a : Option Addr} {n c B : Nat} {l : List Nat} {t : TypeId} {p : Option Addr} {m k : Nat} (h : Bytes w a n c l) (hn : 0 < n) (hB : Boxed w B t (.slice p m k)) : ∀ x, a = some x → x.block ≠ B := by
  rintro x rfl e
  obtain ⟨b, o, e2, hc⟩ := h.cell hn
  cases e2
  have h0 := hc 0 hn
  have e3 : b = B := e
  subst e3
  rw [cell_of_row w b (o + 0) #[.slice p m k] t (0, 0) hB] at h0
  cases o with
  | zero => cases h0
  | succ o => simp at h0

theorem info_rows : (Tryz.prog.info? 58).map (fun i => (i.zero, i.size, i.bytes)) = some (some (.slice none 0 0), 1, 24) := by kernel_rfl
end Go.Proofs.YtmiepigieajpcaaGreat

/- What the segments of a disk have, as plain data: the records of a log, and what a crash leaves of them. -/
namespace Go.Proofs.YtmiepigieajpcaaGreat
open Go.RowKit Go.Maps

/-- A file's name as bytes. -/
def nmL (n : List UInt8) : List Nat := n.map UInt8.toNat

theorem nmL_nmB (i : Nat) : nmL (nmB i) = nameL i := by
  unfold nmL nmB
  rw [List.map_map]
  conv => rhs; rw [← List.map_id (nameL i)]
  refine List.map_congr_left (fun x hx => ?_)
  have := nameL_byte i x hx
  simp only [Function.comp, id, UInt8.toNat_ofNat']
  omega

/-- The numbers of the segments of a disk. -/
def SegsOf (M : DM) (out : List Int) : Prop := Asc out ∧ ∀ x, x ∈ out ↔ NumsOf (M.fs.map fun f => nmL f.n) x

/-- The records of the segments of a disk, one after the other. -/
def RecsOf (M : DM) (ls : List (List Nat)) : Prop :=
  ∃ (out : List Int) (parts : List (List (List Nat))), SegsOf M out ∧ parts.length = out.length ∧ (∀ (i : Nat) (x : Int) (p : List (List Nat)), out[i]? = some x → parts[i]? = some p → ∃ t, Splits (readM (nmB x.toNat) M).1 p t) ∧ ls = parts.flatten

theorem segsOf_uniq {M : DM} {a b : List Int} (ha : SegsOf M a) (hb : SegsOf M b) : a = b :=
  asc_eq ha.1 hb.1 (fun x => by rw [ha.2 x, hb.2 x])

theorem recsOf_uniq {M : DM} {a b : List (List Nat)} (ha : RecsOf M a) (hb : RecsOf M b) : a = b := by
  obtain ⟨o, p, h1, h2, h3, rfl⟩ := ha
  obtain ⟨o', p', k1, k2, k3, rfl⟩ := hb
  obtain rfl := segsOf_uniq h1 k1
  congr 1
  apply List.ext_getElem (by omega)
  intro i hi hi'
  have ho : i < o.length := by omega
  obtain ⟨t, ht⟩ := h3 i o[i] p[i] (List.getElem?_eq_getElem ho) (List.getElem?_eq_getElem hi)
  obtain ⟨t', ht'⟩ := k3 i o[i] p'[i] (List.getElem?_eq_getElem ho) (List.getElem?_eq_getElem hi')
  exact (splits_uniq ht ht').1

/-- The numbers from 1 on. -/
def upTo (n : Nat) : List Int := (List.range n).map fun i => ((i + 1 : Nat) : Int)

theorem upTo_asc (n : Nat) : Asc (upTo n) := by
  unfold Asc upTo
  rw [List.pairwise_map]
  refine (List.pairwise_lt_range (n := n)).imp ?_
  intro a b h
  omega

theorem upTo_mem (n : Nat) (x : Int) : x ∈ upTo n ↔ 1 ≤ x ∧ x ≤ n := by
  unfold upTo
  rw [List.mem_map]
  constructor
  · rintro ⟨i, hi, rfl⟩
    have := List.mem_range.1 hi
    omega
  · rintro ⟨h1, h2⟩
    exact ⟨x.toNat - 1, List.mem_range.2 (by omega), by omega⟩

/-- Files that are those of a log, whatever the current one has. -/
theorem recs_files {M : DM} {B : List (List (List Nat))} {y : List Nat} {d : Nat} {p : List (List Nat)} {t : List Nat} (hd : M.down = false) (hB : B.length + 1 ≤ 99999999) (hfs : M.fs = B.mapIdx fullF ++ [⟨nmB (B.length + 1), y, d⟩])
    (hrec : ∀ b ∈ B, ∀ r ∈ b, r.length ≤ 1048576) (hy : Splits y p t) : RecsOf M (B.flatten ++ p) ∧ SegsOf M (upTo (B.length + 1)) := by
  have hlen : M.fs.length = B.length + 1 := by rw [hfs, List.length_append, List.length_mapIdx]; rfl
  have hget : ∀ i, i < B.length + 1 → ∃ f, M.fs[i]? = some f ∧ f.n = nmB (i + 1) := by
    intro i hi
    rw [hfs]
    by_cases h : i < B.length
    · refine ⟨fullF i B[i], ?_, rfl⟩
      rw [List.getElem?_append_left (by rw [List.length_mapIdx]; exact h), List.getElem?_mapIdx, List.getElem?_eq_getElem h]
      rfl
    · have e : i = B.length := by omega
      subst e
      refine ⟨⟨nmB (B.length + 1), y, d⟩, ?_, rfl⟩
      rw [List.getElem?_append_right (by rw [List.length_mapIdx]; exact Nat.le_refl _), List.length_mapIdx, Nat.sub_self]
      rfl
  have hseg : SegsOf M (upTo (B.length + 1)) := by
    refine ⟨upTo_asc _, fun x => ?_⟩
    rw [upTo_mem]
    constructor
    · rintro ⟨h1, h2⟩
      obtain ⟨f, hf, hn⟩ := hget (x.toNat - 1) (by omega)
      refine ⟨nmL f.n, List.mem_map.2 ⟨f, List.mem_of_getElem? hf, rfl⟩, ?_⟩
      rw [hn, nmL_nmB, segNum_name (by omega)]
      omega
    · rintro ⟨l, hl, h1, rfl⟩
      obtain ⟨f, hf, rfl⟩ := List.mem_map.1 hl
      obtain ⟨i, hi, rfl⟩ := List.getElem_of_mem hf
      obtain ⟨f', hf', hn⟩ := hget i (by omega)
      rw [List.getElem?_eq_getElem hi] at hf'
      have e : M.fs[i] = f' := Option.some.inj hf'
      rw [e, hn, nmL_nmB, segNum_name (by omega)]
      omega
  refine ⟨⟨upTo (B.length + 1), B ++ [p], hseg, ?_, ?_, by simp⟩, hseg⟩
  · unfold upTo
    rw [List.length_map, List.length_range, List.length_append]
    rfl
  · intro i x q hx hq
    have hi : i < B.length + 1 := by
      have := (List.getElem?_eq_some_iff.1 hx).1
      unfold upTo at this
      rw [List.length_map, List.length_range] at this
      exact this
    have ex : x = ((i + 1 : Nat) : Int) := by
      unfold upTo at hx
      rw [List.getElem?_map, List.getElem?_range hi] at hx
      exact (Option.some.inj hx).symm
    subst ex
    rw [Int.toNat_natCast]
    have hfind : ∀ f : F, M.fs[i]? = some f → findN F.n (nmB (i + 1)) M.fs = some f := by
      intro f hf
      have hlt := (List.getElem?_eq_some_iff.1 hf).1
      have hfn : f.n = nmB (i + 1) := by
        obtain ⟨f', hf', hn⟩ := hget i hi
        rw [hf] at hf'
        cases hf'
        exact hn
      unfold findN
      rw [List.find?_eq_some_iff_append]
      refine ⟨by simp [hfn], M.fs.take i, M.fs.drop (i + 1), ?_, ?_⟩
      · have e2 : M.fs[i] = f := (List.getElem?_eq_some_iff.1 hf).2
        rw [← e2, ← List.drop_eq_getElem_cons hlt, List.take_append_drop]
      · intro z hz
        obtain ⟨j, hj, rfl⟩ := List.getElem_of_mem hz
        have hji : j < i := by rw [List.length_take] at hj; omega
        rw [List.getElem_take]
        obtain ⟨f', hf', hn⟩ := hget j (by omega)
        rw [List.getElem?_eq_getElem (by omega)] at hf'
        have e3 : M.fs[j] = f' := Option.some.inj hf'
        rw [e3, hn]
        have : nmB (j + 1) ≠ nmB (i + 1) := fun e => by have := nmB_inj (by omega) (by omega) e; omega
        simpa using this
    have hread : ∀ f : F, M.fs[i]? = some f → (readM (nmB (i + 1)) M).1 = f.b := by
      intro f hf
      unfold readM
      rw [hd, hfind f hf]
      rfl
    by_cases h : i < B.length
    · have hf : M.fs[i]? = some (fullF i B[i]) := by
        rw [hfs, List.getElem?_append_left (by rw [List.length_mapIdx]; exact h), List.getElem?_mapIdx, List.getElem?_eq_getElem h]
        rfl
      rw [hread _ hf]
      rw [List.getElem?_append_left h, List.getElem?_eq_getElem h] at hq
      cases hq
      exact ⟨[], splits_all _ (hrec _ (List.getElem_mem h))⟩
    · have e : i = B.length := by omega
      subst e
      have hf : M.fs[B.length]? = some ⟨nmB (B.length + 1), y, d⟩ := by
        rw [hfs, List.getElem?_append_right (by rw [List.length_mapIdx]; exact Nat.le_refl _), List.length_mapIdx, Nat.sub_self]
        rfl
      rw [hread _ hf]
      rw [List.getElem?_append_right (Nat.le_refl _), Nat.sub_self] at hq
      cases hq
      exact ⟨t, hy⟩

section
variable {W : WM} {B : List (List (List Nat))} {c : List (List Nat)}

theorem LInv.short (h : LInv W B c) : (∀ b ∈ B, ∀ r ∈ b, r.length ≤ 1048576) ∧ ∀ r ∈ c, r.length ≤ 1048576 :=
  ⟨fun b hb r hr => (h.recs r (List.mem_append.2 (.inl (List.mem_flatten.2 ⟨b, hb, hr⟩)))).2, fun r hr => (h.recs r (List.mem_append.2 (.inr hr))).2⟩

/-- The segments of a log have its records. -/
theorem LInv.records (h : LInv W B c) : RecsOf W.D (B.flatten ++ c) ∧ SegsOf W.D (upTo W.n) := by
  rw [h.n]
  exact recs_files (y := joinL c) h.down (by rw [← h.n]; exact h.nmax) h.fs h.short.1 (splits_all c h.short.2)

theorem cutF_full (i : Nat) (b : List (List Nat)) (k : Int) : cutF (fullF i b) k = fullF i b := by
  unfold cutF fullF
  simp

theorem sizeL_mono (c : List (List Nat)) {i j : Nat} (h : i ≤ j) : sizeL (c.take i) ≤ sizeL (c.take j) := by
  have e : c.take j = c.take i ++ (c.take j).drop i := by
    conv => lhs; rw [← List.take_append_drop i (c.take j), List.take_take, Nat.min_eq_left h]
  rw [e, sizeL_append]
  omega

/-- Where a cut falls among records. -/
theorem cut_at (c : List (List Nat)) (k : Nat) : ∀ j, j ≤ c.length → sizeL (c.take j) ≤ k → ∃ i, j ≤ i ∧ i ≤ c.length ∧ sizeL (c.take i) ≤ k ∧ (i < c.length → k < sizeL (c.take (i + 1)))
  | j, hj, hk => by
    by_cases h : j < c.length ∧ sizeL (c.take (j + 1)) ≤ k
    · obtain ⟨i, h1, h2⟩ := cut_at c k (j + 1) h.1 h.2
      exact ⟨i, by omega, h2⟩
    · exact ⟨j, Nat.le_refl _, hj, hk, fun hlt => by
        have : ¬ sizeL (c.take (j + 1)) ≤ k := fun q => h ⟨hlt, q⟩
        omega⟩
  termination_by j => c.length - j

/-- What a crash leaves of a log's records: all that do not wait, and of those that wait a beginning. -/
theorem LInv.crash (h : LInv W B c) (ks : List Int) : ∃ i, c.length - W.wait ≤ i ∧ i ≤ c.length ∧ RecsOf (crashM ks W.D) (B.flatten ++ c.take i) ∧ ((∀ k ∈ ks, k ≤ 0) → i = c.length - W.wait) := by
  have hw := h.wait
  obtain ⟨kk, hkk⟩ : ∃ kk : Nat, kk = sizeL (c.take (c.length - W.wait)) + min (max (ks.getD B.length 0) 0).toNat ((joinL c).length - sizeL (c.take (c.length - W.wait))) := ⟨_, rfl⟩
  have hfs : (crashM ks W.D).fs = B.mapIdx fullF ++ [⟨nmB (B.length + 1), (joinL c).take kk, kk⟩] := by
    unfold crashM
    simp only
    rw [h.fs]
    unfold filesL
    rw [List.mapIdx_append]
    congr 1
    · rw [List.mapIdx_mapIdx]
      congr 1
      funext i b
      exact cutF_full i b _
    · show [cutF (lastF B.length c W.wait) (ks.getD (0 + (B.mapIdx fullF).length) 0)] = _
      rw [List.length_mapIdx, Nat.zero_add, hkk]
      rfl
  obtain ⟨i, h1, h2, h3, h4⟩ := cut_at c kk (c.length - W.wait) (by omega) (by omega)
  obtain ⟨t, ht⟩ := splits_cut c h.short.2 i kk h2 h3 h4
  refine ⟨i, h1, h2, (recs_files rfl (by rw [← h.n]; exact h.nmax) hfs h.short.1 ht).1, fun hz => ?_⟩
  have hk0 : kk = sizeL (c.take (c.length - W.wait)) := by
    have : ks.getD B.length 0 ≤ 0 := by
      rw [List.getD_eq_getElem?_getD]
      cases hg : ks[B.length]? with
      | none => exact Int.le_refl _
      | some z => exact hz z (List.mem_of_getElem? hg)
    rw [hkk, show (max (ks.getD B.length 0) 0).toNat = 0 by omega]
    omega
  rcases Nat.lt_or_ge (c.length - W.wait) i with hlt | hge
  · exfalso
    have hm := sizeL_mono c (show c.length - W.wait + 1 ≤ i by omega)
    have hx : c.length - W.wait < c.length := by omega
    rw [List.take_succ_eq_append_getElem hx, sizeL_append, sizeL_cons] at hm
    omega
  · omega
end

/-- A log in its first segment, on a new disk. -/
def startW (room most : Int) : WM := ⟨(createM (nmB 1) (newM room)).1, most, 1, 0, 0⟩

theorem start_inv (room most : Int) : LInv (startW room most) [] [] ∧ (startW room most).D.room = room.toNat := by
  have e : createM (nmB 1) (newM room) = ({ newM room with fs := [⟨nmB 1, [], 0⟩] }, 0) := by
    unfold createM chgM
    rw [show failM (newM room) = newM room from rfl, nmB_named]
    rfl
  unfold startW
  rw [e]
  exact ⟨⟨rfl, by show (1 : Nat) ≤ _; omega, rfl, rfl, rfl, rfl, Nat.le_refl _, fun r hr => (by cases hr), fun b hb hbn => by
    have : b = [] := by simpa using hb
    exact absurd this hbn⟩, rfl⟩
end Go.Proofs.YtmiepigieajpcaaGreat

/- The walk of the reference's New. -/
namespace Go.Proofs.YtmiepigieajpcaaGreat
open Go.RowKit Go.Maps Go.Shelf

theorem nmB_one' : nmB 1 = [108, 111, 103, 45, 48, 48, 48, 48, 48, 48, 48, 49] := by decide +kernel

theorem row_alloc' {w : World} {b : Nat} {cs : Array Value} {t : TypeId} {m : Nat × Nat} (h : w.heap[b]? = some (.cells cs t m)) (o : Obj) (i : Nat) : (w.alloc o).cell? ⟨b, i, none⟩ = cs[i]? := by
  rw [World.cell?_of_block (Below.heap_alloc _ _ _ (Array.getElem?_eq_some_iff.1 h).1)]
  exact cell_of_row _ _ _ _ _ _ h

theorem frozen_alloc' {w : World} {b : Nat} {cs : Array Value} {t : TypeId} (h : w.heap[b]? = some (.cells cs t (0, 0))) (o : Obj) (i : Nat) : (w.alloc o).frozen? ⟨b, i, none⟩ = false := by
  have h1 : (w.alloc o).heap[b]? = some (.cells cs t (0, 0)) := (Below.heap_alloc _ _ _ (Array.getElem?_eq_some_iff.1 h).1).trans h
  simp [World.frozen?, h1]

theorem resultsN_one {fn : Func} {p : Tmp} {ty : TypeId} (h : fn.results = #[.cell p ty]) (tmps : Array Value) (P : Program) (w : World) :
    (results fn tmps).run P w = ((asAddr (tmps.getD p undef)).run P w).andThen fun a w₁ => (loadVar ty a).run P w₁ := by
  simp only [results, h]
  simp [Result.andThen]

def RNewEnd (w : World) (W : WM) (e : Ending) (w' : World) : Prop :=
  ∃ v, e = .returned v ∧ RLogAt (fun b => w.heap.size ≤ b ∧ b < w'.heap.size) w' v W ∧ Below w.heap.size w w'

theorem start_fs (room most : Int) : (startW room most).D.fs = [⟨nmB 1, [], 0⟩] ∧ (startW room most).D.room = room.toNat ∧ (startW room most).D.plan = 0 ∧ (startW room most).D.down = false := by
  have e : createM (nmB 1) (newM room) = ({ newM room with fs := [⟨nmB 1, [], 0⟩] }, 0) := by
    unfold createM chgM
    rw [show failM (newM room) = newM room from rfl, nmB_named]
    rfl
  unfold startW
  rw [e]
  exact ⟨rfl, rfl, rfl, rfl⟩

end Go.Proofs.YtmiepigieajpcaaGreat

