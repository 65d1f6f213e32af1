/- The walk of a disk's List: the names in their order. -/
import Derived.Test.YtdnbjpfapfnpaaaDkCut
import Derived.Test.YtdnbjpfapfnpaaaIter
import Derived.Maps.Ext
namespace Go.Proofs.Ytdnbjpfapfnpaaa
open Go.RowKit Go.Maps Go.Shelf Go.Sort

theorem before_lt : ∀ (a b : List UInt8), bytesBefore a b = true ↔ a < b
  | [], [] => by simp [bytesBefore]
  | [], _ :: _ => by simp [bytesBefore]
  | _ :: _, [] => by simp [bytesBefore]
  | x :: r, y :: s => by
    rw [List.cons_lt_cons_iff]
    unfold bytesBefore
    rw [Bool.or_eq_true, Bool.and_eq_true, decide_eq_true_eq, beq_iff_eq, before_lt r s]

theorem DiskAt.sorted {S : Nat → Prop} {w : World} {d mb : Nat} {p : Int} {L : List FW} {M : DM} (h : DiskAt S w d mb p L M) : L.Pairwise fun x y => x.n < y.n := by
  obtain ⟨es, he, hp, _⟩ := h.dir.canon mapKey
  have e : es = L.map ent := (DataW.map.inj he).symm
  rw [e, List.pairwise_map] at hp
  exact hp.imp (fun {a b} hab => (before_lt a.n b.n).1 hab)

theorem sorted_names {S : Nat → Prop} {w : World} {d mb : Nat} {p : Int} {L : List FW} {M : DM} (h : DiskAt S w d mb p L M) {ss : List (List UInt8)} (hp : ss.Perm (strKeys (dirD L))) : ss.mergeSort (fun x y => decide (x ≤ y)) = M.fs.map F.n := by
  rw [dirD_keys] at hp
  rw [mergeSort_of_perm hp, h.files, List.map_map]
  refine List.mergeSort_of_pairwise ?_
  rw [List.pairwise_map]
  exact h.sorted.imp (fun {a b} hab => by simpa using List.le_of_lt hab)

set_option maxRecDepth 100000 in
set_option maxHeartbeats 1600000 in
theorem list_any {S : Nat → Prop} {w : World} {d : Nat} {M : DM} (h : DiskIn S w d M) (hlen : M.fs.length < 1000000) :
    Calls Try.prog 26 #[.pointer (some ⟨d, 0, none⟩)] w fun e w' => ∃ v, e = .returned v ∧ w'.ownsRow w.heap.size 9 1 v M.fs.length ((M.fs.map F.n).map encStr) ∧ Below w.heap.size w w' := by
  obtain ⟨mb, p, L, h⟩ := h
  obtain ⟨_, c1, _, _, _⟩ := h.cells
  have hL : L.length = M.fs.length := by rw [h.files, List.length_map]
  have HK := Lib.hid (callsIn_wide.1 (Try.maps_Keys_44 (some mb) w))
  have HS := Lib.hid (callsIn_wide.1 (Try.slices_Sorted_keys_43_44 mb L.length (dirD L) ptrR w h.dir (by rw [dirD_size, maxLen_nat]; omega) (by rw [dirD_size]; omega)))
  have H := Lib.hid h
  have Hb := Lib.hid ((Below.refl w.heap.size w).alloc (Nat.le_refl _) (.cells #[.map (some mb)] 47))
  clear h
  go_enter Try.func26, Try.ntmps26
  go_wp2_with fail
  refine HK.out.mono ?_
  rintro e w' ⟨rfl, rfl⟩
  go_wp2_with fail
  refine HS.out.mono ?_
  rintro e w2 ⟨v, ss, rfl, hp, hrow, _, hb⟩
  have e1 := sorted_names H.out hp
  rw [e1] at hrow
  have e2 : ss.length = M.fs.length := by
    have := hp.length_eq
    rw [dirD_keys, List.length_map] at this
    omega
  rw [e2] at hrow
  have Hrow := Lib.hid (own_base hrow (base' := w.heap.size) (by simp))
  have Hb2 := Lib.hid (Hb.out.trans (hb.mono (by simp)))
  clear hp hrow hb e1 e2 hL
  go_wp2
  go_ret
  exact ⟨v, rfl, Hrow.out, Hb2.out⟩
end Go.Proofs.Ytdnbjpfapfnpaaa
