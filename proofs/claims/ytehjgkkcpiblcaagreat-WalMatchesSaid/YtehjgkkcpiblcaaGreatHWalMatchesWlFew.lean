/- The walk of the statements' few, of operations on a log. -/
import Derived.Test.YtehjgkkcpiblcaaGreatHWalMatchesOpenO
import Derived.Test.YtehjgkkcpiblcaaGreatMB38
import Derived.Test.YtehjgkkcpiblcaaGreatMB42
namespace Go.Proofs.YtehjgkkcpiblcaaGreat
open Go.RowKit Go.Maps Go.Shelf

def FewRelO (w : World) (l : List OM) (n : Nat) (v i : Value) (wr : World) : Prop :=
  ∃ j : Nat, j ≤ n ∧ i = .int .i64 (j : Int) ∧ PartsZ (fun b => b < w.heap.size) wr w.heap.size v ((recsO l).take j) ∧ Below w.heap.size w wr

set_option maxRecDepth 100000 in
set_option maxHeartbeats 6400000 in
theorem wfew_any (a : Option Addr) (n c : Nat) (l : List OM) (w : World) (hl : Ops w a n c l) (hn : n * 40 ≤ 140737488351232) :
    Calls Tryz.prog 12 #[.slice a n c] w fun e w' => FewEndF (recsO l) e ∧ Below w.heap.size w w' := by
  have hls := hl.len
  have hrl := recsO_len l
  have HA := Lib.hid hl
  clear hl
  obtain ⟨i0, hi, hz0, hz1, hz2⟩ := info_parts info_rows
  go_enter Tryz.func12, Tryz.ntmps12
  go_wp2
  go_loopw [3, 8] (fun v i wr => FewRelO w l n v i wr) (fun _ i _ => n - (intOf i).toNat)
  case atStart => exact ⟨0, Nat.zero_le _, rfl, PartsZ.nil _ _ _, Below.refl _ _⟩
  case round =>
    obtain ⟨j, hj, rfl, hW, hb⟩ := hrel
    by_cases hlt : j < n
    · obtain ⟨b, o, rfl, hc⟩ := HA.out.cell (by omega)
      have hjl : j < l.length := by rw [hls]; exact hlt
      obtain ⟨pb, cb, hx0⟩ := hc j hjl
      have hx := hx0.grow hb
      have k0 := hx.k0
      have k1 := hx.k1
      have k2 := hx.k2
      have x3 := hx.bytes.max
      have hnx : (recsO l).take (j + 1) = (recsO l).take j ++ [l[j].r] := by
        rw [List.take_succ_eq_append_getElem (by omega)]
        unfold recsO
        rw [List.getElem_map]
      have hpb : 0 < l[j].r.length → ∀ x, pb = some x → x.block < w.heap.size := by
        intro hn x hx
        obtain ⟨b', o', rfl, hc'⟩ := hx0.bytes.cell hn
        cases hx
        exact World.block_lt_of_cell? _ _ (hc' 0 hn)
      have hal := (Below.refl wr.heap.size wr).alloc (Nat.le_refl _) (.cells #[.int .i64 l[j].k, .slice pb l[j].r.length cb, .int .i64 l[j].n] 94)
      have hb1 := hb.trans (hal.mono hb.size)
      have hb2 : Below wr.heap.size wr ((wr.alloc (.cells #[.int .i64 l[j].k, .slice pb l[j].r.length cb, .int .i64 l[j].n] 94)).alloc (.cells #[.slice pb l[j].r.length cb] 47)) := hal.alloc hal.size _
      have Hb2 := Lib.hid (hb.trans (hb2.mono hb.size))
      obtain ⟨vs, hlen, hown, hel⟩ := hW.grow hb2
      have hll : ((recsO l).take j).length = j := by rw [List.length_take]; omega
      have HB2 := Lib.hid (hx.bytes.grow hb2)
      have HCn := Lib.hid (show ∀ (i : Nat) (u : Value), [Value.slice pb l[j].r.length cb][i]? = some u → ((wr.alloc (.cells #[.int .i64 l[j].k, .slice pb l[j].r.length cb, .int .i64 l[j].n] 94)).alloc (.cells #[.slice pb l[j].r.length cb] 47)).cell? ((⟨wr.heap.size + 1, 0, none⟩ : Addr).add i) = some u from by
        have h := cell_one_new (wr.alloc (.cells #[.int .i64 l[j].k, .slice pb l[j].r.length cb, .int .i64 l[j].n] 94)) (.slice pb l[j].r.length cb) 47
        rw [World.size_alloc] at h
        exact h)
      have Hel := Lib.hid hel
      have Hlen := Lib.hid hlen
      have Hnx := Lib.hid hnx
      have Hpb := Lib.hid hpb
      have Hlo := Lib.hid (fun k hk => (hown.lt k hk).1)
      rw [hll] at hown
      have Hown := Lib.hid hown
      have Hll := Lib.hid hll
      have Hlt := Lib.hid hlt
      have hji : (j : Int) < (n : Int) := by omega
      clear hx hx0 hc hb hal hb1 hb2 hW hnx hel hlen hown hll hpb hlt
      generalize l[j] = x at *
      obtain ⟨k, r, z⟩ := x
      simp only at *
      generalize hrl : r.length = rl at *
      have Hrl := Lib.hid hrl
      clear hrl
      go_wp2_with (at_builtin; refine wpList_append_own_at _ rfl _ _ 42 rfl w.heap.size 47 i0 (.slice none 0 0) 1 24 Tryz.underlying42 hi hz0 hz1 hz2 rfl (by decide) _ _ _ rfl Hown.out ⟨wr.heap.size + 1, 0, none⟩ 1 1 [.slice pb rl cb] rfl rfl HCn.out (by simp [Value.oneCell']) (by rw [maxLen_nat]; omega) (by omega) (by have := Hb2.out.size; omega) ?_; intro v' w3 hown' hgrow _ hblk)
      go_roundw
      case rel =>
        rw [← Hll.out] at hown'
        refine ⟨j + 1, by have := Hlt.out; omega, by go_num, ?_, Hb2.out.grown hgrow Hb2.out.size (fun k hk => Hlo.out k hk)⟩
        rw [Hnx.out]
        refine PartsZ.snoc Hlen.out Hel.out HB2.out (fun hn x hx => ⟨fun e => ?_, Hpb.out (by have := Hrl.out; omega) x hx⟩) hown' hgrow hblk
        have h1 := Hlo.out x.block e.symm
        have h2 := Hpb.out (by have := Hrl.out; omega) x hx
        omega
      case measure => simp [intOf]; have := Hlt.out; omega
    · obtain rfl : n = j := by omega
      have hall : (recsO l).take n = recsO l := List.take_of_length_le (by omega)
      rw [hall] at hW
      obtain ⟨p, k, e, hQ⟩ := hW.own.parts
      have hlen : (recsO l).length = n := by omega
      rw [hlen] at e hQ
      subst e
      have HF := Lib.hid (fewF_any p n k _ wr hQ)
      have Hb := Lib.hid hb
      clear hW hQ hb
      go_wp2_with fail
      refine HF.out.mono ?_
      rintro e w1 ⟨hE, rfl⟩
      have HE := Lib.hid hE
      obtain ⟨bb, rfl, _⟩ := hE
      go_wp2
      go_ret
      exact ⟨HE.out, Hb.out⟩
end Go.Proofs.YtehjgkkcpiblcaaGreat
