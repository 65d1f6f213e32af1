/- The walk of the reference's without. -/
import Derived.Test.YtdnbjpfapfnpaaaRfB
import Derived.Deep.AppendLies
namespace Go.Proofs.Ytdnbjpfapfnpaaa
open Go.RowKit Go.Maps Go.Shelf

theorem info_file : (Try.prog.info? 67).map (fun i => (i.zero, i.size, i.bytes)) = some (some (.agg #[.string ⟨#[]⟩, .slice none 0 0, .int .i64 0]), 3, 48) := by kernel_rfl

/-- What without has after j files. -/
def keptF (nm : List UInt8) (R : List FR) (j : Nat) : List FR := delN FR.n nm (R.take j)
theorem keptF_next {nm : List UInt8} {R : List FR} {j : Nat} (hj : j < R.length) (h : R[j].f.n ≠ nm) : keptF nm R (j + 1) = keptF nm R j ++ [R[j]] := by
  unfold keptF delN
  rw [List.take_succ_eq_append_getElem hj, List.filter_append, List.filter_cons, if_pos (by simp; exact h)]
  rfl
theorem keptF_same {nm : List UInt8} {R : List FR} {j : Nat} (hj : j < R.length) (h : R[j].f.n = nm) : keptF nm R (j + 1) = keptF nm R j := by
  unfold keptF delN
  rw [List.take_succ_eq_append_getElem hj, List.filter_append, List.filter_cons, if_neg (by simp; exact h)]
  simp
theorem keptF_all (nm : List UInt8) (R : List FR) : keptF nm R R.length = delN FR.n nm R := by unfold keptF; rw [List.take_length]
theorem keptF_length (nm : List UInt8) (R : List FR) (j : Nat) : (keptF nm R j).length ≤ j := by
  unfold keptF delN
  exact Nat.le_trans (List.length_filter_le ..) (by rw [List.length_take]; omega)

theorem cells3_one (x : FR) : ∀ u ∈ cells3 x, u.oneCell' = true := by
  intro u hu
  simp only [cells3, List.mem_cons, List.not_mem_nil, or_false] at hu
  rcases hu with rfl | rfl | rfl <;> rfl

set_option maxRecDepth 100000 in
set_option maxHeartbeats 6400000 in
theorem rwithout_any {X : Nat → Prop} {w : World} {a : Option Addr} {n c : Nat} {R : List FR} (h : RowF X w a n c R) (hX : ∀ b, X b → b < w.heap.size) (hn : n ≤ 1000000) (nm : List UInt8) :
    Calls Try.prog 42 #[.slice a n c, .string ⟨nm.toArray⟩] w fun e w' => ∃ v, e = .returned v ∧ w'.ownsRow w.heap.size 67 3 v (delN FR.n nm R).length (flatF (delN FR.n nm R)) ∧ Below w.heap.size w w' := by
  obtain ⟨i0, hi, hz0, hz1, hz2⟩ := info_parts info_file
  have HR := Lib.hid (fun (w1 : World) (hb : Below w.heap.size w w1) => h.below hX hb)
  have hlen := h.len
  have Hlen := Lib.hid hlen
  have hmax : n ≤ 9223372036854775807 := Nat.le_trans h.le h.max
  have hg := Lib.hid (World.ownsRow_nil w w.heap.size 67 3)
  clear h hX hlen
  go_enter Try.func42, Try.ntmps42
  go_wp2
  go_loopw [5, 6] (fun s i wr => ∃ j : Nat, j ≤ n ∧ i = .int .i64 (j : Int) ∧ wr.ownsRow w.heap.size 67 3 s (keptF nm R j).length (flatF (keptF nm R j)) ∧ Below w.heap.size w wr) (fun _ i _ => n - (intOf i).toNat)
  case atStart => exact ⟨0, Nat.zero_le _, rfl, hg.out, Below.refl _ _⟩
  case round =>
    obtain ⟨j, hj, rfl, hown, hb⟩ := hrel
    have Hown := Lib.hid hown
    have Hb := Lib.hid hb
    by_cases hlt : j < n
    · have hR := HR.out wr hb
      obtain ⟨b, o, rfl, _, _⟩ := hR.cell (by omega)
      have hjR : j < R.length := by rw [Hlen.out]; exact hlt
      obtain ⟨k0, k1, k2⟩ := hR.at j hjR
      change wr.cell? ⟨b, o + j * 3, none⟩ = some (.string ⟨(R[j].f.n).toArray⟩) at k0
      have hji : (j : Int) < (n : Int) := by omega
      have Hkl := Lib.hid (keptF_length nm R j)
      by_cases he : R[j].f.n = nm
      · have Hs := Lib.hid (keptF_same hjR he)
        rw [he] at k0
        have hq : (nm == nm) = true := beq_self_eq_true _
        clear hown hb hR he k1 k2 hjR
        go_wp2
        go_roundw
        case rel => exact ⟨j + 1, hlt, by go_num, by rw [Hs.out]; exact Hown.out, Hb.out⟩
        case measure => simp [intOf]; omega
      · have Hs := Lib.hid (keptF_next hjR he)
        have hq : (R[j].f.n == nm) = false := beq_eq_false_iff_ne.2 he
        have hal : Below wr.heap.size wr (wr.alloc (.cells #[.string ⟨(R[j].f.n).toArray⟩, .slice R[j].pa R[j].f.b.length R[j].k, .int .i64 (R[j].f.d : Int)] 67)) := (Below.refl _ _).alloc (Nat.le_refl _) _
        have Hown2 := Lib.hid (hown.alloc (.cells #[.string ⟨(R[j].f.n).toArray⟩, .slice R[j].pa R[j].f.b.length R[j].k, .int .i64 (R[j].f.d : Int)] 67))
        have Hnews := Lib.hid (World.news_of_block (heap_alloc_new wr (.cells #[.string ⟨(R[j].f.n).toArray⟩, .slice R[j].pa R[j].f.b.length R[j].k, .int .i64 (R[j].f.d : Int)] 67)))
        have Hal := Lib.hid hal
        clear hown hb hR he hal
        go_wp2_with (first
          | (at_builtin; refine wpList_append_own _ rfl _ _ 27 rfl w.heap.size 67 i0 _ 3 48 Try.underlying27 hi hz0 hz1 hz2 rfl (by decide) _ _ _ rfl Hown2.out ⟨wr.heap.size, 0, none⟩ 1 1 (cells3 R[j]) rfl rfl Hnews.out (cells3_one _) (by rw [maxLen_nat]; have := Hkl.out; omega) (by have := Hkl.out; omega) (Nat.le_trans Hb.out.size Hal.out.size) ?_; intro v' w' g1 g2 _)
          | go_in)
        have hlen2 : (keptF nm R (j + 1)).length = (keptF nm R j).length + 1 := by rw [Hs.out, List.length_append]; rfl
        have hg1 : w'.ownsRow w.heap.size 67 3 v' (keptF nm R (j + 1)).length (flatF (keptF nm R (j + 1))) := by
          rw [hlen2, Hs.out, flatF_append]
          have e : flatF [R[j]] = cells3 R[j] := by rw [flatF_cons]; exact List.append_nil _
          rw [e]
          exact g1
        have Hg1 := Lib.hid hg1
        have Hg2 := Lib.hid ((Hb.out.trans (Hal.out.mono Hb.out.size)).grown g2 (Nat.le_trans Hb.out.size Hal.out.size) (fun k hk => (Hown2.out.lt k hk).1))
        clear g1 g2 hg1 hlen2
        go_wp2
        go_roundw
        case rel => exact ⟨j + 1, hlt, by go_num, Hg1.out, Hg2.out⟩
        case measure => simp [intOf]; omega
    · have hji : ¬ (j : Int) < (n : Int) := by omega
      have e : j = R.length := by rw [Hlen.out]; omega
      have Hend := Lib.hid (show wr.ownsRow w.heap.size 67 3 u5 (delN FR.n nm R).length (flatF (delN FR.n nm R)) from by have := hown; rw [e, keptF_all] at this; exact this)
      clear hown hb e
      go_wp2
      go_ret
      exact ⟨_, rfl, Hend.out, Hb.out⟩
end Go.Proofs.Ytdnbjpfapfnpaaa
