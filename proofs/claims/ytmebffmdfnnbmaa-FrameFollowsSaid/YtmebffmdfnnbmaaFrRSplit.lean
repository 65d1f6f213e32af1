/- The walk of the reference's Split. -/
import Derived.Test.YtmebffmdfnnbmaaFrRNext
import Derived.Test.YtmebffmdfnnbmaaFrSplit
import Derived.Maps.AppendAt
namespace Go.Proofs.Ytmebffmdfnnbmaa
open Go.RowKit Crc

def RSplitRel (w : World) (L : List Nat) (n : Nat) (v i : Value) (wr : World) : Prop :=
  ∃ (ls : List (List Nat)) (j : Nat), i = .int .i64 j ∧ j ≤ n ∧ OwnParts wr w.heap.size v ls ∧ L = joinL ls ++ L.drop j ∧ (∀ r ∈ ls, r.length ≤ 1048576) ∧ j = sizeL ls ∧ Below w.heap.size w wr

theorem rsplit_more {L r t : List Nat} {ls : List (List Nat)} {j : Nat} (hj : j ≤ L.length) (hL : L = joinL ls ++ L.drop j) (hd : L.drop j = frameL r ++ t) :
    j + (r.length + 8) ≤ L.length ∧ L = joinL (ls ++ [r]) ++ L.drop (j + (r.length + 8)) := by
  have h1 := congrArg List.length hd
  rw [List.length_drop, List.length_append, frameL_len] at h1
  refine ⟨by omega, ?_⟩
  rw [← List.drop_drop, hd, ← frameL_len, List.drop_left, joinL_snoc, List.append_assoc, ← hd]
  exact hL

set_option maxHeartbeats 1600000 in
theorem rsplit_any (a : Option Addr) (n cap : Nat) (L : List Nat) (w : World) (hl : Bytes w a n cap L) (hf : Formed a cap) (hn : n ≤ 1000000000) :
    Calls Try.prog 18 #[.slice a n cap] w (SplitEnd w L) := by
  have HB := Lib.hid hl
  have hle := hl.le
  have Hf := Lib.hid hf
  obtain ⟨i0, hi, hz0, hz1, hz2⟩ := info_parts info_rows
  clear hl hf
  go_enter Try.func18, Try.ntmps18
  go_wp2
  go_loopw [4, 5] (fun v i wr => RSplitRel w L n v i wr) (fun _ i _ => n - (intOf i).toNat)
  case atStart => exact ⟨[], 0, rfl, Nat.zero_le _, OwnParts.nil _ _, rfl, fun r h => (by cases h), rfl, Below.refl _ _⟩
  case round =>
    obtain ⟨ls, j, rfl, hj, hrow, hL, hr, hjs, hbel⟩ := hrel
    obtain ⟨a', hsl0, _, hR⟩ := slice_from (P := Try.prog) (T := 25) (E := 5) Try.underlying25 info_u8 (a := a) (n := n) (c := cap) (k := j) hj hle Hf.out
    have hsl := fun w => hsl0 w .i64
    have hBw := hR w L HB.out
    have hBr := hR wr L (HB.out.grow hbel)
    have HX := Lib.hid (rnext_any a' (n - j) (cap - j) (L.drop j) wr hBr (by omega))
    have Hrow := Lib.hid hrow
    have Hr := Lib.hid hr
    have HL := Lib.hid hL
    have Hjs := Lib.hid hjs
    have HBw := Lib.hid hBw
    clear hrow hr hL hR hBr hsl0 hjs hBw
    go_wp2_with fail
    refine HX.out.mono ?_
    rintro e w1 ⟨hb1, ⟨r, t, p, cp, hd, hrm, rfl, hBx, hpb⟩ | ⟨hno, rfl⟩⟩
    · have hz : (((r.length : Int) + 8) == 0) = false := by rw [beq_eq_false_iff_ne]; omega
      have hm := rsplit_more (by rw [HB.out.len]; exact hj) HL.out hd
      rw [HB.out.len] at hm
      have hb2 := hbel.trans (hb1.mono hbel.size)
      have hb3 : Below w1.heap.size w1 (w1.alloc (.cells #[.slice p r.length cp] 25)) := (Below.refl _ _).alloc (Nat.le_refl _) _
      obtain ⟨vs, hlen, hown, hel⟩ := (Hrow.out.grow hb1).grow hb3
      have Hx := Lib.hid (hBx.grow hb3)
      have Hown := Lib.hid hown
      have Hel := Lib.hid hel
      have Hb3 := Lib.hid (hb2.trans (hb3.mono hb2.size))
      have Hm := Lib.hid hm.2
      have hm1 := hm.1
      have hll : ls.length ≤ n := by
        have h1 := joinL_many ls
        have h2 := congrArg List.length HL.out
        rw [List.length_append, HB.out.len] at h2
        omega
      have Hpb := Lib.hid hpb
      have Hlt := Lib.hid (Hrow.out.lt)
      clear HX hd hBx hown hel hb2 hb3 hm hb1 hpb
      go_wp2_with (at_builtin; refine wpList_append_own_at _ rfl _ _ 22 rfl w.heap.size 25 i0 (.slice none 0 0) 1 24 Try.underlying22 hi hz0 hz1 hz2 rfl (by decide) _ _ _ rfl Hown.out ⟨w1.heap.size, 0, none⟩ 1 1 [.slice p r.length cp] rfl rfl (cell_one_new _ _ _) (by simp [Value.oneCell']) (by rw [maxLen_nat]; omega) (by omega) Hb3.out.size ?_; intro v' w2 hown' hgrow _ hblk)
      go_roundw
      case rel =>
        refine ⟨ls ++ [r], j + (r.length + 8), by go_num, hm1, ?_, Hm.out, fun x hx => ?_, ?_, Hb3.out.grown hgrow Hb3.out.size (fun k hk => (Hown.out.lt k hk).1)⟩
        · refine OwnParts.snoc hlen Hel.out Hx.out (fun hn' y hy e => ?_) hown' hgrow hblk
          obtain ⟨z, hz1, hz2⟩ := Hpb.out y hy
          have hlt := (Hlt.out y.block e.symm).1
          obtain ⟨b', o', e2, hc'⟩ := HBw.out.cell (by omega)
          rw [hz1] at e2
          cases e2
          have := World.block_lt_of_cell? _ _ (hc' 0 (by omega))
          simp only at hz2 this
          omega
        · rcases List.mem_append.1 hx with hx | hx
          · exact Hr.out x hx
          · rw [List.mem_singleton.1 hx]; exact hrm
        · rw [sizeL_append, sizeL_cons, sizeL_nil, ← Hjs.out]
      case measure => simp [intOf]; omega
    · have Hno := Lib.hid hno
      clear HX hno
      go_wp2
      go_ret2
      refine ⟨ls, L.drop j, _, ⟨HL.out, Hr.out, Hno.out⟩, by rw [← Hjs.out]; rfl, Hrow.out.grow hb1, hbel.trans (hb1.mono hbel.size)⟩
end Go.Proofs.Ytmebffmdfnnbmaa
