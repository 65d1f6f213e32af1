/- The example of the chapter. -/
import Derived.Test.YtdnbjpfapfnpaaaDkOwn
import Derived.KernelRfl
namespace Go.Proofs.Ytdnbjpfapfnpaaa
open Go.RowKit Go.Maps Go.Shelf

theorem dm_a1 : createM [97] (newM 10) = (⟨10, [⟨[97], [], 0⟩], false, 0⟩, 0) := by kernel_rfl
theorem dm_a2 : appendM [97] [1, 2, 3, 4, 5] ⟨10, [⟨[97], [], 0⟩], false, 0⟩ = (⟨10, [⟨[97], [1, 2, 3, 4, 5], 0⟩], false, 0⟩, 0) := by kernel_rfl
theorem dm_a3 : crashM [2] ⟨10, [⟨[97], [1, 2, 3, 4, 5], 0⟩], false, 0⟩ = ⟨10, [⟨[97], [1, 2], 2⟩], false, 0⟩ := by kernel_rfl
theorem dm_a4 : readM [97] ⟨10, [⟨[97], [1, 2], 2⟩], false, 0⟩ = ([1, 2], 0) := by kernel_rfl

set_option maxRecDepth 100000 in
set_option maxHeartbeats 3200000 in
theorem dalive_any (w : World) : Calls Try.prog 7 #[] w fun e w' => e = .returned (.bool true) ∧ Below w.heap.size w w' := by
  have HN := Lib.hid (own_new 10 w (by decide))
  go_enter Try.func7, Try.ntmps7
  go_wp2_with fail
  refine HN.out.mono ?_
  rintro e w1 ⟨d, rfl, ho1, _⟩
  have H1 := Lib.hid (own_create ho1 [97] (by decide) (by decide))
  rw [dm_a1] at H1
  clear ho1
  go_wp2_with fail
  refine H1.out.mono ?_
  rintro e w2 ⟨rfl, ho2, _, _, _⟩
  have hb2 := (Below.refl w2.heap.size w2).alloc (Nat.le_refl _) (.cells (u8s [1, 2, 3, 4, 5]).toArray 5)
  have ho3 := ho2.more (Y := fun b => b = w2.heap.size) hb2 (fun b hb => .inr (by rw [hb]; simp))
  have H2 := Lib.hid (own_append ho3 [97] (by decide) _ _ _ _ (bytes_new w2 [1, 2, 3, 4, 5] (by decide) (by decide)) (fun _ a ha => .inl (by cases ha; rfl)) (by decide))
  rw [dm_a2] at H2
  clear ho2 ho3 hb2
  go_wp2_with fail
  refine H2.out.mono ?_
  rintro e w3 ⟨rfl, ho3, _, _, _⟩
  have hb3 := (Below.refl w3.heap.size w3).alloc (Nat.le_refl _) (.cells #[.int .i64 2] 3)
  have ho4 := ho3.more (Y := fun b => b = w3.heap.size) hb3 (fun b hb => .inr (by rw [hb]; simp))
  have H3 := Lib.hid (own_crash ho4 (by decide) _ _ _ _ (nums_one w3 2 (by decide) (by decide)) (fun _ a ha => .inl (by cases ha; rfl)))
  rw [dm_a3] at H3
  clear ho3 ho4 hb3
  go_wp2_with fail
  refine H3.out.mono ?_
  rintro e w4 ⟨⟨v, rfl⟩, ho4, _, _, _⟩
  have H4 := Lib.hid (own_read ho4 [97] (by decide) (by decide))
  have Hb4 := Lib.hid ho4.base
  rw [dm_a4] at H4
  clear ho4
  go_wp2_with fail
  refine H4.out.mono ?_
  rintro e w5 ⟨p, c, rfl, hB, _, hb5, _⟩
  obtain ⟨b, o, rfl, hc⟩ := hB.cell (show 0 < [1, 2].length from by decide)
  have hc0 : w5.cell? ⟨b, o + 0, none⟩ = some (.int .u8 1) := hc 0 (by decide)
  have hc1 : w5.cell? ⟨b, o + 1, none⟩ = some (.int .u8 2) := hc 1 (by decide)
  rw [Nat.add_zero] at hc0
  have Hb5 := Lib.hid (Hb4.out.trans (hb5.mono Hb4.out.size))
  clear hB hc hb5
  go_wp2
  go_ret
  exact ⟨rfl, Hb5.out⟩
end Go.Proofs.Ytdnbjpfapfnpaaa
