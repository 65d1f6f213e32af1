/- The walks of a disk's Remove and Rename, whole. -/
import Derived.Test.YtdnbjpfapfnpaaaDkO6
import Derived.Test.YtdnbjpfapfnpaaaDkNil
namespace Go.Proofs.Ytdnbjpfapfnpaaa
open Go.RowKit Go.Maps Go.Shelf

set_option maxRecDepth 100000 in
set_option maxHeartbeats 6400000 in
theorem remove_any {S : Nat → Prop} {w : World} {d : Nat} {M : DM} (h : DiskIn S w d M) (n : List UInt8) (hn : n.length ≤ 9223372036854775807) :
    Calls Try.prog 20 #[.pointer (some ⟨d, 0, none⟩), encStr n] w (ActEnd S w d (removeM n M)) := by
  have hb : Below w.heap.size w ((w.alloc (.cells #[.pointer (some ⟨d, 0, none⟩)] 23)).alloc (.cells #[encStr n] 9)) := (((Below.refl w.heap.size w).alloc (Nat.le_refl _) (.cells #[.pointer (some ⟨d, 0, none⟩)] 23)).alloc (by simp) (.cells #[encStr n] 9))
  have hcd : ((w.alloc (.cells #[.pointer (some ⟨d, 0, none⟩)] 23)).alloc (.cells #[encStr n] 9)).cell? ⟨w.heap.size, 0, none⟩ = some (.pointer (some ⟨d, 0, none⟩)) := by
    refine (Chg.alloc (fun _ => False) _ _).cell ?_ (fun h => h)
    exact cell_of_row _ _ _ _ _ (0, 0) (heap_alloc_new _ _)
  have hcn : ((w.alloc (.cells #[.pointer (some ⟨d, 0, none⟩)] 23)).alloc (.cells #[encStr n] 9)).cell? ⟨w.heap.size + 1, 0, none⟩ = some (encStr n) := by
    have := cell_of_row ((w.alloc (.cells #[.pointer (some ⟨d, 0, none⟩)] 23)).alloc (.cells #[encStr n] 9)) (w.heap.size + 1) 0 #[encStr n] 9 (0, 0) (by have := heap_alloc_new (w.alloc (.cells #[.pointer (some ⟨d, 0, none⟩)] 23)) (.cells #[encStr n] 9); simpa using this)
    exact this
  have hsz : ((w.alloc (.cells #[.pointer (some ⟨d, 0, none⟩)] 23)).alloc (.cells #[encStr n] 9)).heap.size = w.heap.size + 2 := by simp
  have hS0 : ∀ b, w.heap.size ≤ b → ¬ S b := fun b hb hs => by obtain ⟨_, _, _, h⟩ := h; exact absurd (h.bound b hs) (by omega)
  have HO := Lib.hid (fun (w1 : World) (h1 : w1.heap.size = w.heap.size + 2) => onfile_at n 38 #[.pointer (some ⟨w.heap.size, 0, none⟩), .pointer (some ⟨w.heap.size + 1, 0, none⟩)] (w.heap.size + 2) w1 h1)
  have HC := Lib.hid (fun (w1 : World) (hb1 : Below (w.heap.size + 2) ((w.alloc (.cells #[.pointer (some ⟨d, 0, none⟩)] 23)).alloc (.cells #[encStr n] 9)) w1) (hc : w1.cell? ⟨w.heap.size + 2, 0, none⟩ = some (.func (.func 38) #[] #[.pointer (some ⟨w.heap.size, 0, none⟩), .pointer (some ⟨w.heap.size + 1, 0, none⟩)])) =>
    (change_any ((h.below hb).below (by rw [hsz]; exact hb1)) n hn 38 (w.heap.size + 2) #[.pointer (some ⟨w.heap.size, 0, none⟩), .pointer (some ⟨w.heap.size + 1, 0, none⟩)] (by exact enters_of Try.func38 (by kernel_rfl) rfl) hc (hS0 _ (by omega))
      (fun _ M => ({ M with fs := delN F.n n M.fs }, 0))
      (fun mb p L w' x hD hcc hx => remove1_any hD n hn _ _ _ (hcc.cell (cell_under hb1 hcd (by show w.heap.size < w.heap.size + 2; omega)) (hS0 _ (by show w.heap.size ≤ w.heap.size; omega))) (hcc.cell (cell_under hb1 hcn (by show w.heap.size + 1 < w.heap.size + 2; omega)) (hS0 _ (by show w.heap.size ≤ w.heap.size + 1; omega))))).mono (fun e w2 (hq : ActEnd S w1 d (removeM n M) e w2) => show e = .returned (.int .i64 (removeM n M).2) ∧ Step S w d (removeM n M).1 w2 ∧ w2.cell? ⟨w.heap.size, 0, none⟩ = some (.pointer (some ⟨d, 0, none⟩)) ∧ w2.cell? ⟨w.heap.size + 1, 0, none⟩ = some (encStr n) from ⟨hq.1, Step.behind hb (Step.behind (by rw [hsz]; exact hb1) hq.2), by
      obtain ⟨_, _, _, hcc⟩ := hq.2
      exact ⟨(hcc.cell (cell_under hb1 hcd (by show w.heap.size < w.heap.size + 2; omega)) (hS0 _ (by show w.heap.size ≤ w.heap.size; omega))), (hcc.cell (cell_under hb1 hcn (by show w.heap.size + 1 < w.heap.size + 2; omega)) (hS0 _ (by show w.heap.size ≤ w.heap.size + 1; omega)))⟩⟩))
  have HK := Lib.hid (fun (w1 : World) (hb1 : Below (w.heap.size + 2) ((w.alloc (.cells #[.pointer (some ⟨d, 0, none⟩)] 23)).alloc (.cells #[encStr n] 9)) w1) => show w1.cell? ⟨w.heap.size, 0, none⟩ = some (.pointer (some ⟨d, 0, none⟩)) ∧ w1.cell? ⟨w.heap.size + 1, 0, none⟩ = some (encStr n) from ⟨cell_under hb1 hcd (by show w.heap.size < w.heap.size + 2; omega), cell_under hb1 hcn (by show w.heap.size + 1 < w.heap.size + 2; omega)⟩)
  have Hsz := Lib.hid (show ((w.alloc (.cells #[.pointer (some ⟨d, 0, none⟩)] 23)).alloc (.cells #[encStr n] 9)).drew.heap.size = w.heap.size + 2 from hsz)
  clear h hb hcd hcn hsz hS0
  go_enter Try.func20, Try.ntmps20
  go_wp2
  go_region_held (fun w' => w'.cell? ⟨w.heap.size, 0, none⟩ = some (.pointer (some ⟨d, 0, none⟩)) ∧ w'.cell? ⟨w.heap.size + 1, 0, none⟩ = some (encStr n))
    (first | exact HK.out _ ((Below.refl _ _).drew) | exact HK.out _ hb1 | exact hk2)
    (first
      | (go_at_call 31; (with_reducible refine (HO.out _ Hsz.out).mono ?_); rintro e w1 ⟨rfl, hb0, hc1⟩; have hb1 := ((Below.refl (w.heap.size + 2) ((w.alloc (.cells #[.pointer (some ⟨d, 0, none⟩)] 23)).alloc (.cells #[encStr n] 9))).drew).trans hb0; have HC1 := Lib.hid (HC.out w1 hb1 hc1); clear hb0 hc1)
      | (go_at_call 29; (with_reducible refine HC1.out.mono ?_); rintro e w2 ⟨rfl, hq, hk2⟩; have Hq := Lib.hid hq; clear hq))
  all_goals go_wp2
  all_goals go_ret
  all_goals exact ⟨rfl, Hq.out⟩

set_option maxRecDepth 100000 in
set_option maxHeartbeats 6400000 in
theorem rename_any {S : Nat → Prop} {w : World} {d : Nat} {M : DM} (h : DiskIn S w d M) (n t : List UInt8) (hn : n.length ≤ 9223372036854775807) (ht : t.length ≤ 9223372036854775807) (hL : M.fs.length < 1000000) :
    Calls Try.prog 19 #[.pointer (some ⟨d, 0, none⟩), encStr n, encStr t] w (ActEnd S w d (renameM n t M)) := by
  have hb : Below w.heap.size w (((w.alloc (.cells #[.pointer (some ⟨d, 0, none⟩)] 23)).alloc (.cells #[encStr n] 9)).alloc (.cells #[encStr t] 9)) := ((((Below.refl w.heap.size w).alloc (Nat.le_refl _) (.cells #[.pointer (some ⟨d, 0, none⟩)] 23)).alloc (by simp) (.cells #[encStr n] 9)).alloc (by simp; omega) (.cells #[encStr t] 9))
  have hcd : (((w.alloc (.cells #[.pointer (some ⟨d, 0, none⟩)] 23)).alloc (.cells #[encStr n] 9)).alloc (.cells #[encStr t] 9)).cell? ⟨w.heap.size, 0, none⟩ = some (.pointer (some ⟨d, 0, none⟩)) := by
    refine (Chg.alloc (fun _ => False) _ _).cell ?_ (fun h => h)
    refine (Chg.alloc (fun _ => False) _ _).cell ?_ (fun h => h)
    exact cell_of_row _ _ _ _ _ (0, 0) (heap_alloc_new _ _)
  have hcn : (((w.alloc (.cells #[.pointer (some ⟨d, 0, none⟩)] 23)).alloc (.cells #[encStr n] 9)).alloc (.cells #[encStr t] 9)).cell? ⟨w.heap.size + 1, 0, none⟩ = some (encStr n) := by
    refine (Chg.alloc (fun _ => False) _ _).cell ?_ (fun h => h)
    have := cell_of_row ((w.alloc (.cells #[.pointer (some ⟨d, 0, none⟩)] 23)).alloc (.cells #[encStr n] 9)) (w.heap.size + 1) 0 #[encStr n] 9 (0, 0) (by have := heap_alloc_new (w.alloc (.cells #[.pointer (some ⟨d, 0, none⟩)] 23)) (.cells #[encStr n] 9); simpa using this)
    exact this
  have hct : (((w.alloc (.cells #[.pointer (some ⟨d, 0, none⟩)] 23)).alloc (.cells #[encStr n] 9)).alloc (.cells #[encStr t] 9)).cell? ⟨w.heap.size + 1 + 1, 0, none⟩ = some (encStr t) := by
    have := cell_of_row (((w.alloc (.cells #[.pointer (some ⟨d, 0, none⟩)] 23)).alloc (.cells #[encStr n] 9)).alloc (.cells #[encStr t] 9)) (w.heap.size + 1 + 1) 0 #[encStr t] 9 (0, 0) (by have := heap_alloc_new ((w.alloc (.cells #[.pointer (some ⟨d, 0, none⟩)] 23)).alloc (.cells #[encStr n] 9)) (.cells #[encStr t] 9); simpa using this)
    exact this
  have hsz : (((w.alloc (.cells #[.pointer (some ⟨d, 0, none⟩)] 23)).alloc (.cells #[encStr n] 9)).alloc (.cells #[encStr t] 9)).heap.size = w.heap.size + 3 := by simp
  have hS0 : ∀ b, w.heap.size ≤ b → ¬ S b := fun b hb hs => by obtain ⟨_, _, _, h⟩ := h; exact absurd (h.bound b hs) (by omega)
  have HO := Lib.hid (fun (w1 : World) (h1 : w1.heap.size = w.heap.size + 3) => onfile_at n 36 #[.pointer (some ⟨w.heap.size + 1 + 1, 0, none⟩), .pointer (some ⟨w.heap.size, 0, none⟩), .pointer (some ⟨w.heap.size + 1, 0, none⟩)] (w.heap.size + 3) w1 h1)
  have HC := Lib.hid (fun (w1 : World) (hb1 : Below (w.heap.size + 3) (((w.alloc (.cells #[.pointer (some ⟨d, 0, none⟩)] 23)).alloc (.cells #[encStr n] 9)).alloc (.cells #[encStr t] 9)) w1) (hc : w1.cell? ⟨w.heap.size + 3, 0, none⟩ = some (.func (.func 36) #[] #[.pointer (some ⟨w.heap.size + 1 + 1, 0, none⟩), .pointer (some ⟨w.heap.size, 0, none⟩), .pointer (some ⟨w.heap.size + 1, 0, none⟩)])) =>
    (change_any ((h.below hb).below (by rw [hsz]; exact hb1)) n hn 36 (w.heap.size + 3) #[.pointer (some ⟨w.heap.size + 1 + 1, 0, none⟩), .pointer (some ⟨w.heap.size, 0, none⟩), .pointer (some ⟨w.heap.size + 1, 0, none⟩)] (by exact enters_of Try.func36 (by kernel_rfl) rfl) hc (hS0 _ (by omega))
      (fun f M => if named t = true then ({ M with fs := putN F.n ⟨t, f.b, f.d⟩ (delN F.n n M.fs) }, 0) else (M, 6))
      (fun mb p L w' x hD hcc hx => rename1_any hD n t hn ht (by rw [failM_fs]; exact hL) hx _ _ _ (hcc.cell (cell_under hb1 hct (by show w.heap.size + 1 + 1 < w.heap.size + 3; omega)) (hS0 _ (by show w.heap.size ≤ w.heap.size + 1 + 1; omega))) (hcc.cell (cell_under hb1 hcd (by show w.heap.size < w.heap.size + 3; omega)) (hS0 _ (by show w.heap.size ≤ w.heap.size; omega))) (hcc.cell (cell_under hb1 hcn (by show w.heap.size + 1 < w.heap.size + 3; omega)) (hS0 _ (by show w.heap.size ≤ w.heap.size + 1; omega))) (hS0 _ (by omega)) (hS0 _ (by omega)))).mono (fun e w2 (hq : ActEnd S w1 d (renameM n t M) e w2) => show e = .returned (.int .i64 (renameM n t M).2) ∧ Step S w d (renameM n t M).1 w2 ∧ w2.cell? ⟨w.heap.size, 0, none⟩ = some (.pointer (some ⟨d, 0, none⟩)) ∧ w2.cell? ⟨w.heap.size + 1, 0, none⟩ = some (encStr n) from ⟨hq.1, Step.behind hb (Step.behind (by rw [hsz]; exact hb1) hq.2), by
      obtain ⟨_, _, _, hcc⟩ := hq.2
      exact ⟨(hcc.cell (cell_under hb1 hcd (by show w.heap.size < w.heap.size + 3; omega)) (hS0 _ (by show w.heap.size ≤ w.heap.size; omega))), (hcc.cell (cell_under hb1 hcn (by show w.heap.size + 1 < w.heap.size + 3; omega)) (hS0 _ (by show w.heap.size ≤ w.heap.size + 1; omega)))⟩⟩))
  have HK := Lib.hid (fun (w1 : World) (hb1 : Below (w.heap.size + 3) (((w.alloc (.cells #[.pointer (some ⟨d, 0, none⟩)] 23)).alloc (.cells #[encStr n] 9)).alloc (.cells #[encStr t] 9)) w1) => show w1.cell? ⟨w.heap.size, 0, none⟩ = some (.pointer (some ⟨d, 0, none⟩)) ∧ w1.cell? ⟨w.heap.size + 1, 0, none⟩ = some (encStr n) from ⟨cell_under hb1 hcd (by show w.heap.size < w.heap.size + 3; omega), cell_under hb1 hcn (by show w.heap.size + 1 < w.heap.size + 3; omega)⟩)
  have Hsz := Lib.hid (show (((w.alloc (.cells #[.pointer (some ⟨d, 0, none⟩)] 23)).alloc (.cells #[encStr n] 9)).alloc (.cells #[encStr t] 9)).drew.heap.size = w.heap.size + 3 from hsz)
  clear h hb hcd hcn hct hsz hS0 hL
  go_enter Try.func19, Try.ntmps19
  go_wp2
  go_region_held (fun w' => w'.cell? ⟨w.heap.size, 0, none⟩ = some (.pointer (some ⟨d, 0, none⟩)) ∧ w'.cell? ⟨w.heap.size + 1, 0, none⟩ = some (encStr n))
    (first | exact HK.out _ ((Below.refl _ _).drew) | exact HK.out _ hb1 | exact hk2)
    (first
      | (go_at_call 31; (with_reducible refine (HO.out _ Hsz.out).mono ?_); rintro e w1 ⟨rfl, hb0, hc1⟩; have hb1 := ((Below.refl (w.heap.size + 3) (((w.alloc (.cells #[.pointer (some ⟨d, 0, none⟩)] 23)).alloc (.cells #[encStr n] 9)).alloc (.cells #[encStr t] 9))).drew).trans hb0; have HC1 := Lib.hid (HC.out w1 hb1 hc1); clear hb0 hc1)
      | (go_at_call 29; (with_reducible refine HC1.out.mono ?_); rintro e w2 ⟨rfl, hq, hk2⟩; have Hq := Lib.hid hq; clear hq))
  all_goals go_wp2
  all_goals go_ret
  all_goals exact ⟨rfl, Hq.out⟩

theorem own_remove {w0 : World} {X : Nat → Prop} {w : World} {d : Nat} {M : DM} (h : Own w0 X w d M) (n : List UInt8) (hn : n.length ≤ 9223372036854775807) :
    Calls Try.prog 20 #[.pointer (some ⟨d, 0, none⟩), .string ⟨n.toArray⟩] w (OwnAct w0 X w d (removeM n M)) := by
  obtain ⟨S, hD, hS, hX, h0⟩ := h
  exact (remove_any hD n hn).mono fun e w' hq => ⟨hq.1, Own.step hS hX h0 hq.2⟩

theorem own_rename {w0 : World} {X : Nat → Prop} {w : World} {d : Nat} {M : DM} (h : Own w0 X w d M) (n t : List UInt8) (hn : n.length ≤ 9223372036854775807) (ht : t.length ≤ 9223372036854775807) (hL : M.fs.length < 1000000) :
    Calls Try.prog 19 #[.pointer (some ⟨d, 0, none⟩), .string ⟨n.toArray⟩, .string ⟨t.toArray⟩] w (OwnAct w0 X w d (renameM n t M)) := by
  obtain ⟨S, hD, hS, hX, h0⟩ := h
  exact (rename_any hD n t hn ht hL).mono fun e w' hq => ⟨hq.1, Own.step hS hX h0 hq.2⟩
end Go.Proofs.Ytdnbjpfapfnpaaa
