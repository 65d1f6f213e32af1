import Derived.Test.YtnbddiiedagllaaGreatSSB4
import Derived.Test.YtnbddiiedagllaaGreatSSB5
import Derived.BigRegion
/- The walk of a file's cut. -/
namespace Go.Proofs.YtnbddiiedagllaaGreat
open Go.RowKit Go.Maps Go.Shelf

theorem slice_head {P : Program} {T E : TypeId} (hT : P.underlying T = some (.slice E)) (hin : (P.info? E).map (fun i => (i.zero, i.size, i.bytes)) = some (some (.int .u8 0), 1, 1)) {a : Option Addr} {n c k : Nat} (hk : k ≤ n) (hn : n ≤ c) (hf : Formed a c) :
  ∀ (w : World) (kl : IntKind), (Instr.slice T (.slice a n c) none (some (.int kl (k : Int))) none).run P w = .ok (.slice a k c) w := by
 obtain ⟨i, hi, _, hsz, _⟩ := info_parts hin
 have hT' : P.underlying T = some (.slice (P.elem T)) := by rw [hT]; simp [Program.elem, hT]
 have hE : P.elem T = E := by simp [Program.elem, hT]
 have hsize : ∀ w : World, (sizeOf (P.elem T)).run P w = .ok 1 w := fun w => by rw [hE]; simp [sizeOf, typeInfo, hi, hsz]
 have ha : (if c = 0 then a else a.map (·.add (0 * 1))) = a := by
  by_cases h : c = 0
  ·rw [if_pos h]
  ·rw [if_neg h]
   obtain ⟨b, o, rfl⟩ := hf (by omega)
   simp [addr_add]
 intro w kl
 rw [run_slice_h w T a n c hT' kl (k : Int) (by omega) (by omega), hsize]
 show Result.ok (Value.slice (if c = 0 then a else a.map (·.add (0 * 1))) (k - 0) (c - 0)) w = _
 rw [ha]; rfl

theorem own_take {w : World} {base : Nat} {e : TypeId} {a : Option Addr} {n c k : Nat} {l : List Nat} (h : w.ownsRow base e 1 (.slice a n c) n (u8s l)) (hl : l.length = n) (hk : k ≤ n) : w.ownsRow base e 1 (.slice a k c) k (u8s (l.take k)) := by
 have hlen : (l.take k).length = k := by rw [List.length_take]; omega
 refine ⟨by rw [Nat.mul_one]; unfold u8s; rw [List.length_map, hlen], ?_⟩
 rcases h.2 with ⟨hv, h0⟩ | ⟨g, cap, cur, hv, hb, hg, h1, h2, h3, h4⟩
 ·injection hv with e1 e2 e3
  left
  have : k = 0 := by omega
  subst e1 e3 this
  exact ⟨rfl, rfl⟩
 ·injection hv with e1 e2 e3
  right
  refine ⟨g, cap, cur, by rw [e1, e3], hb, hg, by omega, h2, h3, ?_⟩
  have e4 := congrArg (List.take k) h4
  rw [List.take_take, Nat.min_eq_left (by omega)] at e4
  rw [Nat.mul_one, e4]
  simp [u8s, List.map_take]

theorem own_block_same {a : Option Addr} {n k c : Nat} : (Value.slice a k c).ownBlock = (Value.slice a n c).ownBlock := by
 cases a <;> rfl

theorem wrap64_ok (n : Int) (h : -9223372036854775808 ≤ n ∧ n ≤ 9223372036854775807) : wrap64 n = n := by unfold wrap64; omega

theorem DiskAt.drew {S : Nat → Prop} {w : World} {d mb : Nat} {p : Int} {L : List FW} {M : DM} (h : DiskAt S w d mb p L M) : DiskAt S w.drew d mb p L M := h.below ((Below.refl _ _).drew)

def keepN (f : F) (k : Int) : Nat := f.d + min (max k 0).toNat (f.b.length - f.d)
theorem cutF_is (f : F) (k : Int) : cutF f k = ⟨f.n, f.b.take (keepN f k), keepN f k⟩ := rfl

set_option maxRecDepth 100000 in
set_option maxHeartbeats 12800000 in
theorem cut_any {S : Nat → Prop} {w : World} {d mb : Nat} {p : Int} {L : List FW} {M : DM} (h : DiskAt S w d mb p L M) {x : FW} (hx : x ∈ L) (k : Int) (hlo : -9223372036854775808 ≤ k) (hhi : k < 9223372036854775808) :
  Calls Tryz.prog 71 #[.pointer (some ⟨x.blk, 0, none⟩), .int .i64 k] w fun e w' => (∃ v, e = .returned v) ∧ (∃ v', DiskAt S w' d mb p (setN FW.n ⟨cutF x.f k, x.blk, v'⟩ L) { M with fs := setN F.n (cutF x.f k) M.fs }) ∧ Chg S w w' := by
 have hok := h.ok x hx
 obtain ⟨f0, f1, fr⟩ := hok.cells
 obtain ⟨a, cp, hv, hle, hcm⟩ := own_len hok.row
 have hrow := hok.row
 rw [hv] at hrow
 have hform : Formed a cp := own_formed hrow
 have hdur := hok.dur
 have hkn : keepN x.f k ≤ x.f.b.length := by unfold keepN; omega
 have hsl := slice_head (P := Tryz.prog) Tryz.underlying58 info_u8 hkn hle hform
 have fr0 := fr 0
 have fr1 := fr 1
 have hSfp : ∀ b ∈ fpOne x, S b := fun b hb => h.sub b (by simp [mem_fpOf hx hb])
 have hnd : (fpOne x).Nodup := by
  obtain ⟨A, B, hL⟩ := List.append_of_mem hx
  have h1 := h.apart
  rw [hL] at h1
  exact (List.nodup_append.1 ((apart_mid d mb A B x).nodup_iff.1 h1)).1
 have hne : ∀ b, x.v.ownBlock = some b → b ≠ x.blk := fun b hb e => (List.nodup_cons.1 hnd).1 (by rw [hb, e]; simp)
 obtain ⟨q, hq⟩ : ∃ q : Nat, q = keepN x.f k := ⟨_, rfl⟩
 have hblk2 : ((w.setCell ⟨x.blk, 1, none⟩ (.int .i64 (q : Int))).setCell ⟨x.blk, 0, none⟩ (.slice a q cp)).heap[x.blk]? = some (.cells #[.slice a q cp, .int .i64 (q : Int)] 140 (0, 0)) := by
  have := set_head (i := 0) (set_head (i := 1) hok.blk (.int .i64 (q : Int))) (.slice a q cp)
  simpa using this
 have hC : ∀ T : Nat → Prop, T x.blk → Chg T w ((w.setCell ⟨x.blk, 1, none⟩ (.int .i64 (q : Int))).setCell ⟨x.blk, 0, none⟩ (.slice a q cp)) := fun T hT => (Chg.set T w hT _).same (Chg.set T _ hT _)
 have hE := h.file_set (S' := S) hx (cutF x.f k) (.slice a q cp) rfl (w' := (w.setCell ⟨x.blk, 1, none⟩ (.int .i64 (q : Int))).setCell ⟨x.blk, 0, none⟩ (.slice a q cp))
  ⟨by rw [cutF_is, ← hq]; exact hblk2, by
   rw [cutF_is, ← hq]
   show World.ownsRow _ _ _ _ _ (x.f.b.take q).length _
   rw [show (x.f.b.take q).length = q by rw [List.length_take]; omega]
   refine row_of_heap (w := w) (own_take hrow rfl (by omega)) (fun b hb => (hC (fun b => b = x.blk) rfl).block b ?_ ?_)
   ·rw [own_block_same (n := x.f.b.length), ← hv] at hb
    exact h.bound b (hSfp b (List.mem_cons_of_mem _ (by rw [hb]; simp)))
   ·rw [own_block_same (n := x.f.b.length), ← hv] at hb
    exact hne b hb, fun c hc => hok.byte c (List.mem_of_mem_take hc), by
   rw [cutF_is, ← hq]
   show q ≤ (x.f.b.take q).length
   rw [List.length_take]; omega⟩
  (hC _ (List.mem_cons_self ..)) (.inr (.inl (by rw [own_block_same (n := x.f.b.length), ← hv]))) (fun b h => h) (fun b hb => by simpa using h.bound b hb)
  (by have := h.used; show usedF M.fs + (x.f.b.take (keepN x.f k)).length ≤ _; rw [List.length_take]; omega)
 have HE := Lib.hid (show (∃ v', DiskAt S ((w.setCell ⟨x.blk, 1, none⟩ (.int .i64 (q : Int))).setCell ⟨x.blk, 0, none⟩ (.slice a q cp)).drew.drew d mb p (setN FW.n ⟨cutF x.f k, x.blk, v'⟩ L) { M with fs := setN F.n (cutF x.f k) M.fs }) ∧ Chg S w ((w.setCell ⟨x.blk, 1, none⟩ (.int .i64 (q : Int))).setCell ⟨x.blk, 0, none⟩ (.slice a q cp)).drew.drew from
  ⟨⟨_, hE.drew.drew⟩, ((hC S (hSfp _ (List.mem_cons_self ..))).same (Chg.drew _ _)).same (Chg.drew _ _)⟩)
 rw [hv] at f0
 rw [← hq] at hsl hkn
 have g1 := World.cell?_setCell_other w ⟨x.blk, 1, none⟩ ⟨x.blk, 0, none⟩ (.int .i64 (q : Int)) (by simp)
 rw [f0] at g1
 have hsub1 : (0 : Int) ≤ (x.f.b.length : Int) - (x.f.d : Int) := by omega
 have hsub2 : (x.f.b.length : Int) - (x.f.d : Int) < 9223372036854775808 := by omega
 obtain ⟨R, hR⟩ : ∃ R : Int, R = (x.f.b.length : Int) - (x.f.d : Int) := ⟨_, rfl⟩
 have hwr : IntKind.i64.wrap ((x.f.b.length : Int) - (x.f.d : Int)) = R := by rw [hR]; exact wrap_small _ hsub1 hsub2
 have hwr2 : wrap64 ((x.f.b.length : Int) - (x.f.d : Int)) = R := by rw [hR]; exact wrap64_ok _ ⟨by omega, by omega⟩
 have hqv : (q : Int) = (x.f.d : Int) + min (max k 0) R := by rw [hq, hR]; unfold keepN; omega
 have hR0 : 0 ≤ R ∧ R < 9223372036854775808 := by omega
 have hqlt : (q : Int) ≤ 9223372036854775807 := by omega
 clear h hx hok fr hv hle hrow hform hSfp hnd hne hq hblk2 hC hE hsub1 hsub2 hR hkn
 rcases (show k < 0 ∨ (0 ≤ k ∧ R < k) ∨ (0 ≤ k ∧ ¬ R < k) by omega) with hk | ⟨hk, hk2⟩ | ⟨hk, hk2⟩
 ·have e : wrap64 (x.f.d : Int) = (q : Int) := by rw [wrap64_ok _ ⟨by omega, by omega⟩]; omega
  have hk3 : ¬ R < 0 := by omega
  clear hqv hR0
  go_enter Tryz.func71, Tryz.ntmps71
  go_wp2
  go_region
  go_wp2
  go_region
  go_end0
  exact ⟨⟨_, rfl⟩, HE.out⟩
 ·have e : wrap64 ((x.f.d : Int) + R) = (q : Int) := by rw [wrap64_ok _ ⟨by omega, by omega⟩]; omega
  have hk3 : ¬ k < 0 := by omega
  clear hqv hR0
  go_enter Tryz.func71, Tryz.ntmps71
  go_wp2
  go_region
  go_wp2
  go_region
  go_end0
  exact ⟨⟨_, rfl⟩, HE.out⟩
 ·have e : wrap64 ((x.f.d : Int) + k) = (q : Int) := by rw [wrap64_ok _ ⟨by omega, by omega⟩]; omega
  have hk3 : ¬ k < 0 := by omega
  clear hqv hR0
  go_enter Tryz.func71, Tryz.ntmps71
  go_wp2
  go_region
  go_wp2
  go_region
  go_end0
  exact ⟨⟨_, rfl⟩, HE.out⟩
end Go.Proofs.YtnbddiiedagllaaGreat

