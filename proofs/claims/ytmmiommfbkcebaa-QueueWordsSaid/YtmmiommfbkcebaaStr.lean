/- Byte slices as strings, appended to, copied and compared: the laws and walks that the statements on sealed bytes want. -/
import Derived.Test.YtmmiommfbkcebaaBytes
import Derived.Test.YtmmiommfbkcebaaRows
import Derived.Laws.BytesArg
import Derived.Deep.QuietTactic
import Derived.BigQuiet
namespace Go.Proofs.Ytmmiommfbkcebaa
open Go.RowKit

/-- Bytes as a string. -/
def str (l : List Nat) : ByteArray := ⟨(l.map UInt8.ofNat).toArray⟩

theorem str_list (l : List Nat) : (str l).toList = l.map UInt8.ofNat := by
  rw [ByteArray.toList_eq]; rfl

theorem str_size (l : List Nat) : (str l).size = l.length := by
  show ((l.map UInt8.ofNat).toArray).size = _
  simp

theorem str_append (a b : List Nat) : str a ++ str b = str (a ++ b) := by
  apply ByteArray.ext
  unfold str
  simp

theorem ofNat_inj {a b : List Nat} (ha : ∀ x ∈ a, x < 256) (hb : ∀ x ∈ b, x < 256) (h1 : a.map UInt8.ofNat = b.map UInt8.ofNat) : a = b := by
  have h2 := congrArg (List.map UInt8.toNat) h1
  rw [List.map_map, List.map_map] at h2
  have id_of : ∀ l : List Nat, (∀ x ∈ l, x < 256) → l.map (UInt8.toNat ∘ UInt8.ofNat) = l := by
    intro l hl
    have : l.map (UInt8.toNat ∘ UInt8.ofNat) = l.map id := List.map_congr_left (fun x hx => by
      have := hl x hx
      simp [UInt8.toNat_ofNat']; omega)
    rw [this, List.map_id]
  rwa [id_of a ha, id_of b hb] at h2

theorem str_eq (a : List Nat) : ((str a).toList == (str a).toList) = true := beq_self_eq_true _
theorem str_ne {a b : List Nat} (ha : ∀ x ∈ a, x < 256) (hb : ∀ x ∈ b, x < 256) (h : a ≠ b) : ((str a).toList == (str b).toList) = false := by
  rw [str_list, str_list]
  exact beq_eq_false_iff_ne.2 (fun e => h (ofNat_inj ha hb e))

section
variable {P : Program} {w : World}

theorem str_of_nums (l : List Nat) : strOfNums (l.map fun x : Nat => (x : Int)) = str l := by
  unfold strOfNums str
  congr 2
  rw [List.map_map]
  exact List.map_congr_left (fun x _ => by simp)

theorem convert_bytes {a : Option Addr} {n cap : Nat} {l : List Nat} (h : Bytes w a n cap l) (src e dst : TypeId) (hs : P.underlying src = some (.slice e)) (he : P.underlying e = some (.int .u8)) (hd : P.underlying dst = some .string) :
    (convert src dst (.slice a n cap)).run P w = .ok (.string (str l)) w := by
  rw [← str_of_nums]
  by_cases hn : 0 < n
  · obtain ⟨b, o, rfl, hc⟩ := h.cell hn
    refine run_convert_bytes_arg w src e hs he b o n cap _ (by simp [h.len]) (fun i hi => ?_) dst hd
    rw [hc i hi]
    have hi' : i < l.length := by rw [h.len]; exact hi
    simp [List.getD, List.getElem?_eq_getElem hi']
  · obtain rfl : n = 0 := by omega
    obtain rfl : l = [] := List.length_eq_zero_iff.1 h.len
    rw [run_convert_bytes_string w src dst e _ 0 cap hs he hd]
    cases a with
    | none => simp [Conv.bytesToString, strOfNums]; rfl
    | some a =>
      have hl : (loadCells a 0).run P w = .ok #[] w := rfl
      rw [run_bytesToString w a 0 cap [] hl]
      rfl
end
end Go.Proofs.Ytmmiommfbkcebaa
