import Derived.Test.YtngnbmaocdadaaaMN7
import Derived.Test.YtngnbmaocdadaaaMN16
/- What the segments of a disk have, as plain data: the records of a log, and what a crash leaves of them. -/
namespace Go.Proofs.Ytngnbmaocdadaaa
open Go.RowKit Go.Maps

/-- A file's name as bytes. -/
def nmL (n : List UInt8) : List Nat := n.map UInt8.toNat

theorem nmL_nmB (i : Nat) : nmL (nmB i) = nameL i := by
  unfold nmL nmB
  rw [List.map_map]
  conv => rhs; rw [← List.map_id (nameL i)]
  refine List.map_congr_left (fun x hx => ?_)
  have := nameL_byte i x hx
  simp only [Function.comp, id, UInt8.toNat_ofNat']
  omega

/-- The numbers of the segments of a disk. -/
def SegsOf (M : DM) (out : List Int) : Prop := Asc out ∧ ∀ x, x ∈ out ↔ NumsOf (M.fs.map fun f => nmL f.n) x

/-- The records of the segments of a disk, one after the other. -/
def RecsOf (M : DM) (ls : List (List Nat)) : Prop :=
  ∃ (out : List Int) (parts : List (List (List Nat))), SegsOf M out ∧ parts.length = out.length ∧ (∀ (i : Nat) (x : Int) (p : List (List Nat)), out[i]? = some x → parts[i]? = some p → ∃ t, Splits (readM (nmB x.toNat) M).1 p t) ∧ ls = parts.flatten

theorem segsOf_uniq {M : DM} {a b : List Int} (ha : SegsOf M a) (hb : SegsOf M b) : a = b :=
  asc_eq ha.1 hb.1 (fun x => by rw [ha.2 x, hb.2 x])

theorem recsOf_uniq {M : DM} {a b : List (List Nat)} (ha : RecsOf M a) (hb : RecsOf M b) : a = b := by
  obtain ⟨o, p, h1, h2, h3, rfl⟩ := ha
  obtain ⟨o', p', k1, k2, k3, rfl⟩ := hb
  obtain rfl := segsOf_uniq h1 k1
  congr 1
  apply List.ext_getElem (by omega)
  intro i hi hi'
  have ho : i < o.length := by omega
  obtain ⟨t, ht⟩ := h3 i o[i] p[i] (List.getElem?_eq_getElem ho) (List.getElem?_eq_getElem hi)
  obtain ⟨t', ht'⟩ := k3 i o[i] p'[i] (List.getElem?_eq_getElem ho) (List.getElem?_eq_getElem hi')
  exact (splits_uniq ht ht').1

/-- The numbers from 1 on. -/
def upTo (n : Nat) : List Int := (List.range n).map fun i => ((i + 1 : Nat) : Int)

theorem upTo_asc (n : Nat) : Asc (upTo n) := by
  unfold Asc upTo
  rw [List.pairwise_map]
  refine (List.pairwise_lt_range (n := n)).imp ?_
  intro a b h
  omega

theorem upTo_mem (n : Nat) (x : Int) : x ∈ upTo n ↔ 1 ≤ x ∧ x ≤ n := by
  unfold upTo
  rw [List.mem_map]
  constructor
  · rintro ⟨i, hi, rfl⟩
    have := List.mem_range.1 hi
    omega
  · rintro ⟨h1, h2⟩
    exact ⟨x.toNat - 1, List.mem_range.2 (by omega), by omega⟩

/-- Files that are those of a log, whatever the current one has. -/
theorem recs_files {M : DM} {B : List (List (List Nat))} {y : List Nat} {d : Nat} {p : List (List Nat)} {t : List Nat} (hd : M.down = false) (hB : B.length + 1 ≤ 99999999) (hfs : M.fs = B.mapIdx fullF ++ [⟨nmB (B.length + 1), y, d⟩])
    (hrec : ∀ b ∈ B, ∀ r ∈ b, r.length ≤ 1048576) (hy : Splits y p t) : RecsOf M (B.flatten ++ p) ∧ SegsOf M (upTo (B.length + 1)) := by
  have hlen : M.fs.length = B.length + 1 := by rw [hfs, List.length_append, List.length_mapIdx]; rfl
  have hget : ∀ i, i < B.length + 1 → ∃ f, M.fs[i]? = some f ∧ f.n = nmB (i + 1) := by
    intro i hi
    rw [hfs]
    by_cases h : i < B.length
    · refine ⟨fullF i B[i], ?_, rfl⟩
      rw [List.getElem?_append_left (by rw [List.length_mapIdx]; exact h), List.getElem?_mapIdx, List.getElem?_eq_getElem h]
      rfl
    · have e : i = B.length := by omega
      subst e
      refine ⟨⟨nmB (B.length + 1), y, d⟩, ?_, rfl⟩
      rw [List.getElem?_append_right (by rw [List.length_mapIdx]; exact Nat.le_refl _), List.length_mapIdx, Nat.sub_self]
      rfl
  have hseg : SegsOf M (upTo (B.length + 1)) := by
    refine ⟨upTo_asc _, fun x => ?_⟩
    rw [upTo_mem]
    constructor
    · rintro ⟨h1, h2⟩
      obtain ⟨f, hf, hn⟩ := hget (x.toNat - 1) (by omega)
      refine ⟨nmL f.n, List.mem_map.2 ⟨f, List.mem_of_getElem? hf, rfl⟩, ?_⟩
      rw [hn, nmL_nmB, segNum_name (by omega)]
      omega
    · rintro ⟨l, hl, h1, rfl⟩
      obtain ⟨f, hf, rfl⟩ := List.mem_map.1 hl
      obtain ⟨i, hi, rfl⟩ := List.getElem_of_mem hf
      obtain ⟨f', hf', hn⟩ := hget i (by omega)
      rw [List.getElem?_eq_getElem hi] at hf'
      have e : M.fs[i] = f' := Option.some.inj hf'
      rw [e, hn, nmL_nmB, segNum_name (by omega)]
      omega
  refine ⟨⟨upTo (B.length + 1), B ++ [p], hseg, ?_, ?_, by simp⟩, hseg⟩
  · unfold upTo
    rw [List.length_map, List.length_range, List.length_append]
    rfl
  · intro i x q hx hq
    have hi : i < B.length + 1 := by
      have := (List.getElem?_eq_some_iff.1 hx).1
      unfold upTo at this
      rw [List.length_map, List.length_range] at this
      exact this
    have ex : x = ((i + 1 : Nat) : Int) := by
      unfold upTo at hx
      rw [List.getElem?_map, List.getElem?_range hi] at hx
      exact (Option.some.inj hx).symm
    subst ex
    rw [Int.toNat_natCast]
    have hfind : ∀ f : F, M.fs[i]? = some f → findN F.n (nmB (i + 1)) M.fs = some f := by
      intro f hf
      have hlt := (List.getElem?_eq_some_iff.1 hf).1
      have hfn : f.n = nmB (i + 1) := by
        obtain ⟨f', hf', hn⟩ := hget i hi
        rw [hf] at hf'
        cases hf'
        exact hn
      unfold findN
      rw [List.find?_eq_some_iff_append]
      refine ⟨by simp [hfn], M.fs.take i, M.fs.drop (i + 1), ?_, ?_⟩
      · have e2 : M.fs[i] = f := (List.getElem?_eq_some_iff.1 hf).2
        rw [← e2, ← List.drop_eq_getElem_cons hlt, List.take_append_drop]
      · intro z hz
        obtain ⟨j, hj, rfl⟩ := List.getElem_of_mem hz
        have hji : j < i := by rw [List.length_take] at hj; omega
        rw [List.getElem_take]
        obtain ⟨f', hf', hn⟩ := hget j (by omega)
        rw [List.getElem?_eq_getElem (by omega)] at hf'
        have e3 : M.fs[j] = f' := Option.some.inj hf'
        rw [e3, hn]
        have : nmB (j + 1) ≠ nmB (i + 1) := fun e => by have := nmB_inj (by omega) (by omega) e; omega
        simpa using this
    have hread : ∀ f : F, M.fs[i]? = some f → (readM (nmB (i + 1)) M).1 = f.b := by
      intro f hf
      unfold readM
      rw [hd, hfind f hf]
      rfl
    by_cases h : i < B.length
    · have hf : M.fs[i]? = some (fullF i B[i]) := by
        rw [hfs, List.getElem?_append_left (by rw [List.length_mapIdx]; exact h), List.getElem?_mapIdx, List.getElem?_eq_getElem h]
        rfl
      rw [hread _ hf]
      rw [List.getElem?_append_left h, List.getElem?_eq_getElem h] at hq
      cases hq
      exact ⟨[], splits_all _ (hrec _ (List.getElem_mem h))⟩
    · have e : i = B.length := by omega
      subst e
      have hf : M.fs[B.length]? = some ⟨nmB (B.length + 1), y, d⟩ := by
        rw [hfs, List.getElem?_append_right (by rw [List.length_mapIdx]; exact Nat.le_refl _), List.length_mapIdx, Nat.sub_self]
        rfl
      rw [hread _ hf]
      rw [List.getElem?_append_right (Nat.le_refl _), Nat.sub_self] at hq
      cases hq
      exact ⟨t, hy⟩

section
variable {W : WM} {B : List (List (List Nat))} {c : List (List Nat)}

theorem LInv.short (h : LInv W B c) : (∀ b ∈ B, ∀ r ∈ b, r.length ≤ 1048576) ∧ ∀ r ∈ c, r.length ≤ 1048576 :=
  ⟨fun b hb r hr => (h.recs r (List.mem_append.2 (.inl (List.mem_flatten.2 ⟨b, hb, hr⟩)))).2, fun r hr => (h.recs r (List.mem_append.2 (.inr hr))).2⟩

/-- The segments of a log have its records. -/
theorem LInv.records (h : LInv W B c) : RecsOf W.D (B.flatten ++ c) ∧ SegsOf W.D (upTo W.n) := by
  rw [h.n]
  exact recs_files (y := joinL c) h.down (by rw [← h.n]; exact h.nmax) h.fs h.short.1 (splits_all c h.short.2)

theorem cutF_full (i : Nat) (b : List (List Nat)) (k : Int) : cutF (fullF i b) k = fullF i b := by
  unfold cutF fullF
  simp

theorem sizeL_mono (c : List (List Nat)) {i j : Nat} (h : i ≤ j) : sizeL (c.take i) ≤ sizeL (c.take j) := by
  have e : c.take j = c.take i ++ (c.take j).drop i := by
    conv => lhs; rw [← List.take_append_drop i (c.take j), List.take_take, Nat.min_eq_left h]
  rw [e, sizeL_append]
  omega

/-- Where a cut falls among records. -/
theorem cut_at (c : List (List Nat)) (k : Nat) : ∀ j, j ≤ c.length → sizeL (c.take j) ≤ k → ∃ i, j ≤ i ∧ i ≤ c.length ∧ sizeL (c.take i) ≤ k ∧ (i < c.length → k < sizeL (c.take (i + 1)))
  | j, hj, hk => by
    by_cases h : j < c.length ∧ sizeL (c.take (j + 1)) ≤ k
    · obtain ⟨i, h1, h2⟩ := cut_at c k (j + 1) h.1 h.2
      exact ⟨i, by omega, h2⟩
    · exact ⟨j, Nat.le_refl _, hj, hk, fun hlt => by
        have : ¬ sizeL (c.take (j + 1)) ≤ k := fun q => h ⟨hlt, q⟩
        omega⟩
  termination_by j => c.length - j

/-- What a crash leaves of a log's records: all that do not wait, and of those that wait a beginning. -/
theorem LInv.crash (h : LInv W B c) (ks : List Int) : ∃ i, c.length - W.wait ≤ i ∧ i ≤ c.length ∧ RecsOf (crashM ks W.D) (B.flatten ++ c.take i) ∧ ((∀ k ∈ ks, k ≤ 0) → i = c.length - W.wait) := by
  have hw := h.wait
  obtain ⟨kk, hkk⟩ : ∃ kk : Nat, kk = sizeL (c.take (c.length - W.wait)) + min (max (ks.getD B.length 0) 0).toNat ((joinL c).length - sizeL (c.take (c.length - W.wait))) := ⟨_, rfl⟩
  have hfs : (crashM ks W.D).fs = B.mapIdx fullF ++ [⟨nmB (B.length + 1), (joinL c).take kk, kk⟩] := by
    unfold crashM
    simp only
    rw [h.fs]
    unfold filesL
    rw [List.mapIdx_append]
    congr 1
    · rw [List.mapIdx_mapIdx]
      congr 1
      funext i b
      exact cutF_full i b _
    · show [cutF (lastF B.length c W.wait) (ks.getD (0 + (B.mapIdx fullF).length) 0)] = _
      rw [List.length_mapIdx, Nat.zero_add, hkk]
      rfl
  obtain ⟨i, h1, h2, h3, h4⟩ := cut_at c kk (c.length - W.wait) (by omega) (by omega)
  obtain ⟨t, ht⟩ := splits_cut c h.short.2 i kk h2 h3 h4
  refine ⟨i, h1, h2, (recs_files rfl (by rw [← h.n]; exact h.nmax) hfs h.short.1 ht).1, fun hz => ?_⟩
  have hk0 : kk = sizeL (c.take (c.length - W.wait)) := by
    have : ks.getD B.length 0 ≤ 0 := by
      rw [List.getD_eq_getElem?_getD]
      cases hg : ks[B.length]? with
      | none => exact Int.le_refl _
      | some z => exact hz z (List.mem_of_getElem? hg)
    rw [hkk, show (max (ks.getD B.length 0) 0).toNat = 0 by omega]
    omega
  rcases Nat.lt_or_ge (c.length - W.wait) i with hlt | hge
  · exfalso
    have hm := sizeL_mono c (show c.length - W.wait + 1 ≤ i by omega)
    have hx : c.length - W.wait < c.length := by omega
    rw [List.take_succ_eq_append_getElem hx, sizeL_append, sizeL_cons] at hm
    omega
  · omega
end

/-- A log in its first segment, on a new disk. -/
def startW (room most : Int) : WM := ⟨(createM (nmB 1) (newM room)).1, most, 1, 0, 0⟩

theorem start_inv (room most : Int) : LInv (startW room most) [] [] ∧ (startW room most).D.room = room.toNat := by
  have e : createM (nmB 1) (newM room) = ({ newM room with fs := [⟨nmB 1, [], 0⟩] }, 0) := by
    unfold createM chgM
    rw [show failM (newM room) = newM room from rfl, nmB_named]
    rfl
  unfold startW
  rw [e]
  exact ⟨⟨rfl, by show (1 : Nat) ≤ _; omega, rfl, rfl, rfl, rfl, Nat.le_refl _, fun r hr => (by cases hr), fun b hb hbn => by
    have : b = [] := by simpa using hb
    exact absurd this hbn⟩, rfl⟩
end Go.Proofs.Ytngnbmaocdadaaa

/- The walks of New, of what tells a log's state, of a nil log, and of the statements' start. -/
namespace Go.Proofs.Ytngnbmaocdadaaa
open Go.RowKit Go.Maps Go.Shelf

theorem wnew_any (d N S : Nat) (most : Int) (w : World) :
    Calls Try.prog 16 #[.pointer (some ⟨d, 0, none⟩), .int .i64 most, .int .i64 (N : Int), .int .i64 (S : Int)] w fun e w' => e = .returned (.pointer (some ⟨w.heap.size, 0, none⟩)) ∧
      w' = w.alloc (.cells #[.int .i64 (N : Int), .int .i64 (S : Int), .int .i64 0, .pointer (some ⟨d, 0, none⟩), .int .i64 most] 49) := by
  go_enter Try.func16, Try.ntmps16
  go_wp2
  go_ret
  exact ⟨rfl, rfl⟩

theorem segment_any {g : Nat} {z : Int} {w : World} (h : w.cell? ⟨g, 0, none⟩ = some (.int .i64 z)) :
    Calls Try.prog 8 #[.pointer (some ⟨g, 0, none⟩)] w fun e w' => e = .returned (.int .i64 z) ∧ w' = w := by
  go_enter Try.func8, Try.ntmps8
  go_wp2
  go_ret
  exact ⟨rfl, rfl⟩

theorem wsize_any {g : Nat} {z : Int} {w : World} (h : w.cell? ⟨g, 1, none⟩ = some (.int .i64 z)) :
    Calls Try.prog 9 #[.pointer (some ⟨g, 0, none⟩)] w fun e w' => e = .returned (.int .i64 z) ∧ w' = w := by
  go_enter Try.func9, Try.ntmps9
  go_wp2
  go_ret
  exact ⟨rfl, rfl⟩

theorem waiting_any {g : Nat} {z : Int} {w : World} (h : w.cell? ⟨g, 2, none⟩ = some (.int .i64 z)) :
    Calls Try.prog 10 #[.pointer (some ⟨g, 0, none⟩)] w fun e w' => e = .returned (.int .i64 z) ∧ w' = w := by
  go_enter Try.func10, Try.ntmps10
  go_wp2
  go_ret
  exact ⟨rfl, rfl⟩

theorem segment_nil (w : World) : Calls Try.prog 8 #[.pointer none] w fun e w' => e = .returned (.int .i64 0) ∧ w' = w := by
  go_enter Try.func8, Try.ntmps8
  go_wp2
  go_ret
  exact ⟨rfl, rfl⟩

theorem wsize_nil (w : World) : Calls Try.prog 9 #[.pointer none] w fun e w' => e = .returned (.int .i64 0) ∧ w' = w := by
  go_enter Try.func9, Try.ntmps9
  go_wp2
  go_ret
  exact ⟨rfl, rfl⟩

theorem waiting_nil (w : World) : Calls Try.prog 10 #[.pointer none] w fun e w' => e = .returned (.int .i64 0) ∧ w' = w := by
  go_enter Try.func10, Try.ntmps10
  go_wp2
  go_ret
  exact ⟨rfl, rfl⟩

theorem wsync_nil (w : World) : Calls Try.prog 7 #[.pointer none] w fun e w' => e = .returned (.int .i64 1) ∧ w' = w := by
  go_enter Try.func7, Try.ntmps7
  go_wp2
  go_ret
  exact ⟨rfl, rfl⟩

theorem put_nil (p : Option Addr) (m c : Nat) (w : World) : Calls Try.prog 6 #[.pointer none, .slice p m c] w fun e w' => e = .returned (.int .i64 1) ∧ w' = w := by
  go_enter Try.func6, Try.ntmps6
  go_wp2
  go_ret
  exact ⟨rfl, rfl⟩

theorem nmB_one : nmB 1 = [108, 111, 103, 45, 48, 48, 48, 48, 48, 48, 48, 49] := by decide +kernel

/-- A log in its first segment on a new disk: the log lies in a block of its own. -/
theorem start_any (room most : Int) (w : World) (hr : room < 9223372036854775808) :
    Calls Try.prog 5 #[.int .i64 room, .int .i64 most] w fun e w' => ∃ d g, e = .returned (.tuple #[.pointer (some ⟨d, 0, none⟩), .pointer (some ⟨g, 0, none⟩)]) ∧ LogAt w (fun b => b = g) w' g d (startW room most) := by
  have HN := Lib.hid (own_new room w hr)
  clear hr
  go_enter Try.func5, Try.ntmps5
  go_wp2_with fail
  refine HN.out.mono ?_
  rintro e w1 ⟨d, rfl, ho1, _⟩
  have HC := Lib.hid (own_create ho1 (nmB 1) (nmB_len 1) (by show 0 < 1000000; decide))
  rw [nmB_one] at HC
  clear ho1
  go_wp2_with fail
  refine HC.out.mono ?_
  rintro e w2 ⟨rfl, ho2, _, _, _⟩
  rw [← nmB_one] at ho2
  have Ho2 := Lib.hid ho2
  have HW := Lib.hid (wnew_any d 1 0 most w2)
  clear ho2
  go_wp2_with fail
  refine HW.out.mono ?_
  rintro e w3 ⟨rfl, rfl⟩
  go_wp2
  go_ret2
  have hb : Below w2.heap.size w2 (w2.alloc (.cells #[.int .i64 ((1 : Nat) : Int), .int .i64 ((0 : Nat) : Int), .int .i64 0, .pointer (some ⟨d, 0, none⟩), .int .i64 most] 49)) := (Below.refl _ _).alloc (Nat.le_refl _) _
  exact ⟨d, w2.heap.size, rfl, ⟨Ho2.out.more hb (fun b hb => .inr (by rw [hb]; simp)), rfl, Ho2.out.base.size, heap_alloc_new _ _⟩⟩
end Go.Proofs.Ytngnbmaocdadaaa

