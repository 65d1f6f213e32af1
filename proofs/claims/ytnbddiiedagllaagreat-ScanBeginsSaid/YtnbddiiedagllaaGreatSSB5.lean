import Derived.Test.YtnbddiiedagllaaGreatSSB1
/- Parts of byte slices: 's[k:]' and 's[:k]' as one equation each, whatever the capacity is. -/
namespace Go.Proofs.YtnbddiiedagllaaGreat
open Go.RowKit

def Formed (a : Option Addr) (c : Nat) : Prop := 0 < c → ∃ b o, a = some ⟨b, o, none⟩

theorem formed_none (c : Nat) (h : c = 0) : Formed none c := fun hc => by omega
theorem formed_at (b o c : Nat) : Formed (some ⟨b, o, none⟩) c := fun _ => ⟨b, o, rfl⟩

theorem own_formed {w : World} {base : Nat} {e : TypeId} {p : Option Addr} {n c m : Nat} {l : List Nat} (h : w.ownsRow base e 1 (.slice p n c) m (u8s l)) : Formed p c := by
 rcases h.2 with ⟨hv, _⟩ | ⟨g, cap', cur, hv, _⟩
 ·cases hv; exact formed_none 0 rfl
 ·cases hv; exact formed_at _ _ _

section
variable {P : Program}

theorem addr_add (b o k : Nat) : (⟨b, o, none⟩ : Addr).add k = ⟨b, o + k, none⟩ := by unfold Addr.add; split <;> simp_all

theorem bytes_none {w : World} {a : Option Addr} {c : Nat} (hm : c ≤ 9223372036854775807) (h : a = none → c = 0) : Bytes w a 0 c [] :=
 ⟨rfl, Nat.zero_le _, hm, fun _ h => (by cases h), h, fun h => absurd h (Nat.lt_irrefl _)⟩

theorem slice_from {T E : TypeId} (hT : P.underlying T = some (.slice E)) (hin : (P.info? E).map (fun i => (i.zero, i.size, i.bytes)) = some (some (.int .u8 0), 1, 1)) {a : Option Addr} {n c k : Nat} (hk : k ≤ n) (hn : n ≤ c) (hf : Formed a c) :
  ∃ a', (∀ (w : World) (kl : IntKind), (Instr.slice T (.slice a n c) (some (.int kl (k : Int))) none none).run P w = .ok (.slice a' (n - k) (c - k)) w) ∧ Formed a' (c - k) ∧ ∀ (w : World) (l : List Nat), Bytes w a n c l → Bytes w a' (n - k) (c - k) (l.drop k) := by
 obtain ⟨i, hi, _, hsz, _⟩ := info_parts hin
 have hT' : P.underlying T = some (.slice (P.elem T)) := by rw [hT]; simp [Program.elem, hT]
 have hE : P.elem T = E := by simp [Program.elem, hT]
 have hsize : ∀ w : World, (sizeOf (P.elem T)).run P w = .ok 1 w := fun w => by rw [hE]; simp [sizeOf, typeInfo, hi, hsz]
 refine ⟨if c = k then a else a.map (·.add (k * 1)), fun w kl => ?_, ?_, fun w l hl => ?_⟩
 ·rw [run_slice_l w T a n c hT' kl (k : Int) (by omega) (by omega), hsize]
  rfl
 ·intro h
  rw [if_neg (by omega)]
  obtain ⟨b, o, rfl⟩ := hf (by omega)
  exact ⟨b, o + k * 1, by simp [addr_add]⟩
 ·have hcm := hl.capmax
  by_cases e : k = n
  ·subst e
   rw [Nat.sub_self, List.drop_eq_nil_of_le (by rw [hl.len]; exact Nat.le_refl _)]
   refine bytes_none (by omega) (fun h => ?_)
   by_cases hck : c = k
   ·omega
   ·rw [if_neg hck] at h
    obtain ⟨b, o, rfl⟩ := hf (by omega)
    cases h
  ·obtain ⟨b, o, rfl⟩ := hf (by omega)
   rw [if_neg (by omega), Nat.mul_one]
   simp only [Option.map_some, addr_add]
   exact hl.dropTo (by omega)

end
end Go.Proofs.YtnbddiiedagllaaGreat

