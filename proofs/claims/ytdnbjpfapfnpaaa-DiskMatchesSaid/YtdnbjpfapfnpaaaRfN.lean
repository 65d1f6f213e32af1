/- The walk of the reference's Names. -/
import Derived.Test.YtdnbjpfapfnpaaaRfD
namespace Go.Proofs.Ytdnbjpfapfnpaaa
open Go.RowKit Go.Maps Go.Shelf

theorem info_str : (Try.prog.info? 9).map (fun i => (i.zero, i.size, i.bytes)) = some (some (.string ⟨#[]⟩), 1, 16) := by kernel_rfl

def namesTo (R : List FR) (j : Nat) : List Value := ((R.take j).map FR.n).map encStr
theorem namesTo_next {R : List FR} {j : Nat} (hj : j < R.length) : namesTo R (j + 1) = namesTo R j ++ [encStr R[j].f.n] := by
  unfold namesTo
  rw [List.take_succ_eq_append_getElem hj, List.map_append, List.map_append]
  rfl

set_option maxRecDepth 100000 in
set_option maxHeartbeats 6400000 in
theorem rnames_any {X : Nat → Prop} {w : World} {v : Value} {M : DM} (h : RefAt X w v M) (hX : ∀ b, X b → b < w.heap.size) :
    Calls Try.prog 27 #[v] w fun e w' => ∃ v, e = .returned v ∧ w'.ownsRow w.heap.size 9 1 v M.fs.length ((M.fs.map F.n).map encStr) ∧ Below w.heap.size w w' := by
  obtain ⟨a, n, c, R, rfl, hR, hfs, hn⟩ := h
  obtain ⟨i0, hi, hz0, hz1, hz2⟩ := info_parts info_str
  have hb := (Below.refl w.heap.size w).alloc (Nat.le_refl _) (.cells #[.int .i64 (M.room : Int), .slice a n c, .int .i64 (M.plan : Int), .bool M.down] 29)
  obtain ⟨_, b1, _, _⟩ := box4 w (M.room : Int) a n c (M.plan : Int) M.down
  have hR1 := hR.below hX hb
  have hlen := hR.len
  have hmax : n ≤ 9223372036854775807 := Nat.le_trans hR.le hR.max
  have hsz := Lib.hid (show w.heap.size ≤ (w.alloc (.cells #[.int .i64 (M.room : Int), .slice a n c, .int .i64 (M.plan : Int), .bool M.down] 29)).heap.size from hb.size)
  have Hb := Lib.hid hb
  have HR1 := Lib.hid (hR.below hX hb)
  have HX := Lib.hid (fun b hx => Nat.lt_of_lt_of_le (hX b hx) hb.size)
  have Hlen := Lib.hid hlen
  have Hall := Lib.hid (show (namesTo R n).length = M.fs.length ∧ namesTo R n = (M.fs.map F.n).map encStr from by
    have e : namesTo R n = (M.fs.map F.n).map encStr := by unfold namesTo; rw [← hlen, List.take_length, ← hfs, List.map_map, List.map_map, List.map_map]; rfl
    rw [e]
    exact ⟨by simp, rfl⟩)
  clear hR hb hX hR1 hlen hfs
  unfold refV
  go_enter Try.func27, Try.ntmps27
  go_wp2
  generalize w.alloc (.cells #[.int .i64 (M.room : Int), .slice a n c, .int .i64 (M.plan : Int), .bool M.down] 29) = w1 at *
  go_loopw [3, 4] (fun s i wr => ∃ j : Nat, j ≤ n ∧ i = .int .i64 (j : Int) ∧ wr.ownsRow w1.heap.size 9 1 s j (namesTo R j) ∧ Below w1.heap.size w1 wr ∧ Below w.heap.size w wr) (fun _ i _ => n - (intOf i).toNat)
  case atStart => exact ⟨0, Nat.zero_le _, rfl, World.ownsRow_nil w1 w1.heap.size 9 1, Below.refl _ _, Hb.out⟩
  case round =>
    obtain ⟨j, hj, rfl, hown, hb1, hb⟩ := hrel
    have c1 := cell_keep hb1 b1
    by_cases hlt : j < n
    · have hR := HR1.out.below HX.out hb1
      obtain ⟨b, o, rfl, _, _⟩ := hR.cell (by omega)
      have hjR : j < R.length := by rw [Hlen.out]; exact hlt
      have k0 := (hR.at j hjR).1
      change wr.cell? ⟨b, o + j * 3, none⟩ = some (.string ⟨(R[j].f.n).toArray⟩) at k0
      have Hs := Lib.hid (namesTo_next hjR)
      have hji : (j : Int) < (n : Int) := by omega
      clear hR
      generalize R[j].f.n = nm at *
      have hal : Below wr.heap.size wr (wr.alloc (.cells #[.string ⟨nm.toArray⟩] 9)) := (Below.refl _ _).alloc (Nat.le_refl _) _
      have Hown2 := Lib.hid (hown.alloc (.cells #[.string ⟨nm.toArray⟩] 9))
      have Hnews := Lib.hid (World.news_of_block (heap_alloc_new wr (.cells #[.string ⟨nm.toArray⟩] 9)))
      have Hal := Lib.hid hal
      have Hb1 := Lib.hid hb1
      have Hb2 := Lib.hid hb
      clear hal hb1 hb hown hjR
      go_wp2_with (first
        | (at_builtin; refine wpList_append_own _ rfl _ _ 63 rfl w1.heap.size 9 i0 _ 1 16 Try.underlying63 hi hz0 hz1 hz2 rfl (by decide) _ _ _ rfl Hown2.out ⟨wr.heap.size, 0, none⟩ 1 1 [encStr nm] rfl rfl Hnews.out (by intro u hu; rw [List.mem_singleton.1 hu]; rfl) (by rw [maxLen_nat]; omega) (by omega) (Nat.le_trans Hb1.out.size Hal.out.size) ?_; intro v' w' g1 g2 _)
        | go_in)
      rw [← Hs.out] at g1
      have Hg1 := Lib.hid g1
      have Hg2 := Lib.hid ((Hb2.out.trans (Hal.out.mono Hb2.out.size)).grown g2 (Nat.le_trans Hb2.out.size Hal.out.size) (fun k hk => Nat.le_trans hsz.out (Hown2.out.lt k hk).1))
      have Hg3 := Lib.hid ((Hb1.out.trans (Hal.out.mono Hb1.out.size)).grown g2 (Nat.le_trans Hb1.out.size Hal.out.size) (fun k hk => (Hown2.out.lt k hk).1))
      clear g1 g2
      go_wp2
      go_roundw
      case rel => exact ⟨j + 1, hlt, by go_num, Hg1.out, Hg3.out, Hg2.out⟩
      case measure => simp [intOf]; omega
    · have hji : ¬ (j : Int) < (n : Int) := by omega
      have e : j = n := by omega
      have Hend := Lib.hid (show wr.ownsRow w.heap.size 9 1 u3 M.fs.length ((M.fs.map F.n).map encStr) from by
        rw [e] at hown
        have h1 := hown
        have h2 := hown.1
        rw [Hall.out.2] at h1
        have h3 : n = M.fs.length := by rw [← Hall.out.1, h2]; omega
        rw [← h3]
        exact ⟨h1.1, h1.2.imp id (by rintro ⟨g, cap, cur, e, hb, r⟩; exact ⟨g, cap, cur, e, Nat.le_trans hsz.out hb, r⟩)⟩)
      have Hb2 := Lib.hid hb
      clear hown hb e
      go_wp2
      go_ret
      exact ⟨_, rfl, by have h := Hend.out; rw [List.map_map] at h; exact h, Hb2.out⟩
end Go.Proofs.Ytdnbjpfapfnpaaa
