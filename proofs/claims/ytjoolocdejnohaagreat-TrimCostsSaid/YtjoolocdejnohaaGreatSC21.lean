import Derived.Test.YtjoolocdejnohaaGreatSC5
import Derived.Test.YtjoolocdejnohaaGreatSC20
/- What the segments of a disk have, as plain data: the records of a log, and what a crash leaves of them. -/
namespace Go.Proofs.YtjoolocdejnohaaGreat
open Go.RowKit Go.Maps

/-- A file's name as bytes. -/
def nmL (n : List UInt8) : List Nat := n.map UInt8.toNat

theorem nmL_nmB (i : Nat) : nmL (nmB i) = nameL i := by
  unfold nmL nmB
  rw [List.map_map]
  conv => rhs; rw [← List.map_id (nameL i)]
  refine List.map_congr_left (fun x hx => ?_)
  have := nameL_byte i x hx
  simp only [Function.comp, id, UInt8.toNat_ofNat']
  omega

/-- The numbers of the segments of a disk. -/
def SegsOf (M : DM) (out : List Int) : Prop := Asc out ∧ ∀ x, x ∈ out ↔ NumsOf (M.fs.map fun f => nmL f.n) x

/-- The records of the segments of a disk, one after the other. -/
def RecsOf (M : DM) (ls : List (List Nat)) : Prop :=
  ∃ (out : List Int) (parts : List (List (List Nat))), SegsOf M out ∧ parts.length = out.length ∧ (∀ (i : Nat) (x : Int) (p : List (List Nat)), out[i]? = some x → parts[i]? = some p → ∃ t, Splits (readM (nmB x.toNat) M).1 p t) ∧ ls = parts.flatten

theorem segsOf_uniq {M : DM} {a b : List Int} (ha : SegsOf M a) (hb : SegsOf M b) : a = b :=
  asc_eq ha.1 hb.1 (fun x => by rw [ha.2 x, hb.2 x])

/-- The numbers from 1 on. -/
def upTo (n : Nat) : List Int := (List.range n).map fun i => ((i + 1 : Nat) : Int)

theorem upTo_asc (n : Nat) : Asc (upTo n) := by
  unfold Asc upTo
  rw [List.pairwise_map]
  refine (List.pairwise_lt_range (n := n)).imp ?_
  intro a b h
  omega

theorem upTo_mem (n : Nat) (x : Int) : x ∈ upTo n ↔ 1 ≤ x ∧ x ≤ n := by
  unfold upTo
  rw [List.mem_map]
  constructor
  · rintro ⟨i, hi, rfl⟩
    have := List.mem_range.1 hi
    omega
  · rintro ⟨h1, h2⟩
    exact ⟨x.toNat - 1, List.mem_range.2 (by omega), by omega⟩

/-- Files that are those of a log, whatever the current one has. -/
theorem recs_files {M : DM} {B : List (List (List Nat))} {y : List Nat} {d : Nat} {p : List (List Nat)} {t : List Nat} (hd : M.down = false) (hB : B.length + 1 ≤ 99999999) (hfs : M.fs = B.mapIdx fullF ++ [⟨nmB (B.length + 1), y, d⟩])
    (hrec : ∀ b ∈ B, ∀ r ∈ b, r.length ≤ 1048576) (hy : Splits y p t) : RecsOf M (B.flatten ++ p) ∧ SegsOf M (upTo (B.length + 1)) := by
  have hlen : M.fs.length = B.length + 1 := by rw [hfs, List.length_append, List.length_mapIdx]; rfl
  have hget : ∀ i, i < B.length + 1 → ∃ f, M.fs[i]? = some f ∧ f.n = nmB (i + 1) := by
    intro i hi
    rw [hfs]
    by_cases h : i < B.length
    · refine ⟨fullF i B[i], ?_, rfl⟩
      rw [List.getElem?_append_left (by rw [List.length_mapIdx]; exact h), List.getElem?_mapIdx, List.getElem?_eq_getElem h]
      rfl
    · have e : i = B.length := by omega
      subst e
      refine ⟨⟨nmB (B.length + 1), y, d⟩, ?_, rfl⟩
      rw [List.getElem?_append_right (by rw [List.length_mapIdx]; exact Nat.le_refl _), List.length_mapIdx, Nat.sub_self]
      rfl
  have hseg : SegsOf M (upTo (B.length + 1)) := by
    refine ⟨upTo_asc _, fun x => ?_⟩
    rw [upTo_mem]
    constructor
    · rintro ⟨h1, h2⟩
      obtain ⟨f, hf, hn⟩ := hget (x.toNat - 1) (by omega)
      refine ⟨nmL f.n, List.mem_map.2 ⟨f, List.mem_of_getElem? hf, rfl⟩, ?_⟩
      rw [hn, nmL_nmB, segNum_name (by omega)]
      omega
    · rintro ⟨l, hl, h1, rfl⟩
      obtain ⟨f, hf, rfl⟩ := List.mem_map.1 hl
      obtain ⟨i, hi, rfl⟩ := List.getElem_of_mem hf
      obtain ⟨f', hf', hn⟩ := hget i (by omega)
      rw [List.getElem?_eq_getElem hi] at hf'
      have e : M.fs[i] = f' := Option.some.inj hf'
      rw [e, hn, nmL_nmB, segNum_name (by omega)]
      omega
  refine ⟨⟨upTo (B.length + 1), B ++ [p], hseg, ?_, ?_, by simp⟩, hseg⟩
  · unfold upTo
    rw [List.length_map, List.length_range, List.length_append]
    rfl
  · intro i x q hx hq
    have hi : i < B.length + 1 := by
      have := (List.getElem?_eq_some_iff.1 hx).1
      unfold upTo at this
      rw [List.length_map, List.length_range] at this
      exact this
    have ex : x = ((i + 1 : Nat) : Int) := by
      unfold upTo at hx
      rw [List.getElem?_map, List.getElem?_range hi] at hx
      exact (Option.some.inj hx).symm
    subst ex
    rw [Int.toNat_natCast]
    have hfind : ∀ f : F, M.fs[i]? = some f → findN F.n (nmB (i + 1)) M.fs = some f := by
      intro f hf
      have hlt := (List.getElem?_eq_some_iff.1 hf).1
      have hfn : f.n = nmB (i + 1) := by
        obtain ⟨f', hf', hn⟩ := hget i hi
        rw [hf] at hf'
        cases hf'
        exact hn
      unfold findN
      rw [List.find?_eq_some_iff_append]
      refine ⟨by simp [hfn], M.fs.take i, M.fs.drop (i + 1), ?_, ?_⟩
      · have e2 : M.fs[i] = f := (List.getElem?_eq_some_iff.1 hf).2
        rw [← e2, ← List.drop_eq_getElem_cons hlt, List.take_append_drop]
      · intro z hz
        obtain ⟨j, hj, rfl⟩ := List.getElem_of_mem hz
        have hji : j < i := by rw [List.length_take] at hj; omega
        rw [List.getElem_take]
        obtain ⟨f', hf', hn⟩ := hget j (by omega)
        rw [List.getElem?_eq_getElem (by omega)] at hf'
        have e3 : M.fs[j] = f' := Option.some.inj hf'
        rw [e3, hn]
        have : nmB (j + 1) ≠ nmB (i + 1) := fun e => by have := nmB_inj (by omega) (by omega) e; omega
        simpa using this
    have hread : ∀ f : F, M.fs[i]? = some f → (readM (nmB (i + 1)) M).1 = f.b := by
      intro f hf
      unfold readM
      rw [hd, hfind f hf]
      rfl
    by_cases h : i < B.length
    · have hf : M.fs[i]? = some (fullF i B[i]) := by
        rw [hfs, List.getElem?_append_left (by rw [List.length_mapIdx]; exact h), List.getElem?_mapIdx, List.getElem?_eq_getElem h]
        rfl
      rw [hread _ hf]
      rw [List.getElem?_append_left h, List.getElem?_eq_getElem h] at hq
      cases hq
      exact ⟨[], splits_all _ (hrec _ (List.getElem_mem h))⟩
    · have e : i = B.length := by omega
      subst e
      have hf : M.fs[B.length]? = some ⟨nmB (B.length + 1), y, d⟩ := by
        rw [hfs, List.getElem?_append_right (by rw [List.length_mapIdx]; exact Nat.le_refl _), List.length_mapIdx, Nat.sub_self]
        rfl
      rw [hread _ hf]
      rw [List.getElem?_append_right (Nat.le_refl _), Nat.sub_self] at hq
      cases hq
      exact ⟨t, hy⟩

section
variable {W : WM} {B : List (List (List Nat))} {c : List (List Nat)}

theorem LInv.short (h : LInv W B c) : (∀ b ∈ B, ∀ r ∈ b, r.length ≤ 1048576) ∧ ∀ r ∈ c, r.length ≤ 1048576 :=
  ⟨fun b hb r hr => (h.recs r (List.mem_append.2 (.inl (List.mem_flatten.2 ⟨b, hb, hr⟩)))).2, fun r hr => (h.recs r (List.mem_append.2 (.inr hr))).2⟩

/-- The segments of a log have its records. -/
theorem LInv.records (h : LInv W B c) : RecsOf W.D (B.flatten ++ c) ∧ SegsOf W.D (upTo W.n) := by
  rw [h.n]
  exact recs_files (y := joinL c) h.down (by rw [← h.n]; exact h.nmax) h.fs h.short.1 (splits_all c h.short.2)

end

/-- A log in its first segment, on a new disk. -/
def startW (room most : Int) : WM := ⟨(createM (nmB 1) (newM room)).1, most, 1, 0, 0⟩

theorem start_inv (room most : Int) : LInv (startW room most) [] [] ∧ (startW room most).D.room = room.toNat := by
  have e : createM (nmB 1) (newM room) = ({ newM room with fs := [⟨nmB 1, [], 0⟩] }, 0) := by
    unfold createM chgM
    rw [show failM (newM room) = newM room from rfl, nmB_named]
    rfl
  unfold startW
  rw [e]
  exact ⟨⟨rfl, by show (1 : Nat) ≤ _; omega, rfl, rfl, rfl, rfl, Nat.le_refl _, fun r hr => (by cases hr), fun b hb hbn => by
    have : b = [] := by simpa using hb
    exact absurd this hbn⟩, rfl⟩
end Go.Proofs.YtjoolocdejnohaaGreat

/- The walk of the reference's New. -/
namespace Go.Proofs.YtjoolocdejnohaaGreat
open Go.RowKit Go.Maps Go.Shelf

theorem nmB_one' : nmB 1 = [108, 111, 103, 45, 48, 48, 48, 48, 48, 48, 48, 49] := by decide +kernel

theorem row_alloc' {w : World} {b : Nat} {cs : Array Value} {t : TypeId} {m : Nat × Nat} (h : w.heap[b]? = some (.cells cs t m)) (o : Obj) (i : Nat) : (w.alloc o).cell? ⟨b, i, none⟩ = cs[i]? := by
  rw [World.cell?_of_block (Below.heap_alloc _ _ _ (Array.getElem?_eq_some_iff.1 h).1)]
  exact cell_of_row _ _ _ _ _ _ h

theorem frozen_alloc' {w : World} {b : Nat} {cs : Array Value} {t : TypeId} (h : w.heap[b]? = some (.cells cs t (0, 0))) (o : Obj) (i : Nat) : (w.alloc o).frozen? ⟨b, i, none⟩ = false := by
  have h1 : (w.alloc o).heap[b]? = some (.cells cs t (0, 0)) := (Below.heap_alloc _ _ _ (Array.getElem?_eq_some_iff.1 h).1).trans h
  simp [World.frozen?, h1]

theorem resultsN_one {fn : Func} {p : Tmp} {ty : TypeId} (h : fn.results = #[.cell p ty]) (tmps : Array Value) (P : Program) (w : World) :
    (results fn tmps).run P w = ((asAddr (tmps.getD p undef)).run P w).andThen fun a w₁ => (loadVar ty a).run P w₁ := by
  simp only [results, h]
  simp [Result.andThen]

end Go.Proofs.YtjoolocdejnohaaGreat

