/- A nil disk. -/
import Derived.Test.YtdnbjpfapfnpaaaDkOwn
namespace Go.Proofs.Ytdnbjpfapfnpaaa
open Go.RowKit Go.Maps Go.Shelf

/-- One code, and new memory alone. -/
def CodeEnd (w : World) (k : Int) (e : Ending) (w' : World) : Prop := e = .returned (.int .i64 k) ∧ Below w.heap.size w w'

theorem carry_nil (n : List UInt8) (k : Nat) (caps : Array Value) (w : World) : Calls Try.prog 29 #[.pointer none, .agg #[encStr n, .func (.func k) #[] caps]] w (CodeEnd w 1) := by
  have Hb := Lib.hid ((Below.refl w.heap.size w).alloc (Nat.le_refl _) (.cells #[encStr n, .func (.func k) #[] caps] 74))
  go_enter Try.func29, Try.ntmps29
  go_wp2
  go_ret
  exact ⟨rfl, Hb.out⟩

set_option maxRecDepth 100000 in
theorem create_nil (n : List UInt8) (w : World) : Calls Try.prog 14 #[.pointer none, .string ⟨n.toArray⟩] w (CodeEnd w 1) := by
  have Hb := Lib.hid (((Below.refl w.heap.size w).alloc (Nat.le_refl _) (.cells #[.pointer none] 23)).alloc (by simp) (.cells #[encStr n] 9))
  have HC := Lib.hid (fun w1 => carry_nil n 30 #[.pointer (some ⟨w.heap.size, 0, none⟩), .pointer (some ⟨w.heap.size + 1, 0, none⟩)] w1)
  change Calls _ _ #[.pointer none, encStr n] _ _
  go_enter Try.func14, Try.ntmps14
  go_wp2_with fail
  refine (HC.out _).mono ?_
  rintro e w' ⟨rfl, hb⟩
  have Hb2 := Lib.hid (Hb.out.trans (hb.mono Hb.out.size))
  clear hb
  go_wp2
  go_ret
  exact ⟨rfl, Hb2.out⟩

set_option maxRecDepth 100000 in
theorem sync_nil (n : List UInt8) (w : World) : Calls Try.prog 18 #[.pointer none, .string ⟨n.toArray⟩] w (CodeEnd w 1) := by
  have HO := Lib.hid (onfile_any n 35 #[] w)
  have HC := Lib.hid (fun w1 => carry_nil n 46 #[.pointer (some ⟨w.heap.size, 0, none⟩)] w1)
  change Calls _ _ #[.pointer none, encStr n] _ _
  go_enter Try.func18, Try.ntmps18
  go_wp2_with fail
  refine HO.out.mono ?_
  rintro e w1 ⟨rfl, hb, _, _⟩
  have Hb := Lib.hid hb
  clear hb
  go_wp2_with fail
  refine (HC.out _).mono ?_
  rintro e w' ⟨rfl, hb⟩
  have Hb2 := Lib.hid (Hb.out.trans (hb.mono Hb.out.size))
  clear hb
  go_wp2
  go_ret
  exact ⟨rfl, Hb2.out⟩

theorem cell_under {w w' : World} {k : Nat} (hb : Below k w w') {a : Addr} {v : Value} (hc : w.cell? a = some v) (hk : a.block < k) : w'.cell? a = some v := by
  rw [World.cell?_of_block (hb.block a.block hk)]
  exact hc

set_option maxRecDepth 100000 in
set_option maxHeartbeats 3200000 in
theorem append_nil (n : List UInt8) (p : Option Addr) (m c : Nat) (w : World) : Calls Try.prog 15 #[.pointer none, .string ⟨n.toArray⟩, .slice p m c] w (CodeEnd w 1) := by
  have hb : Below w.heap.size w ((w.alloc (.cells #[.pointer none] 23)).alloc (.cells #[.slice p m c] 30)).drew := (((Below.refl w.heap.size w).alloc (Nat.le_refl _) (.cells #[.pointer none] 23)).alloc (by simp) (.cells #[.slice p m c] 30)).drew
  have hk0 : ((w.alloc (.cells #[.pointer none] 23)).alloc (.cells #[.slice p m c] 30)).drew.cell? ⟨w.heap.size, 0, none⟩ = some (.pointer none) :=
    (Chg.alloc (fun _ => False) _ _).cell (cell_of_row _ _ _ _ _ (0, 0) (heap_alloc_new _ _)) (fun h => h)
  have hsz : ((w.alloc (.cells #[.pointer none] 23)).alloc (.cells #[.slice p m c] 30)).drew.heap.size = w.heap.size + 2 := by show ((w.alloc _).alloc _).heap.size = _; simp
  have HO := Lib.hid (fun (w1 : World) (h1 : w1.heap.size = w.heap.size + 2) => onfile_at n 32 #[.pointer (some ⟨w.heap.size + 1, 0, none⟩), .pointer (some ⟨w.heap.size, 0, none⟩)] (w.heap.size + 2) w1 h1)
  have HC := Lib.hid (fun w1 => carry_nil n 46 #[.pointer (some ⟨w.heap.size + 2, 0, none⟩)] w1)
  have Hb := Lib.hid hb
  have HK := Lib.hid (fun (w1 : World) (hb1 : Below (w.heap.size + 2) ((w.alloc (.cells #[.pointer none] 23)).alloc (.cells #[.slice p m c] 30)).drew w1) => cell_under hb1 hk0 (by show w.heap.size < w.heap.size + 2; omega))
  have Hsz := Lib.hid hsz
  clear hb hk0 hsz
  change Calls _ _ #[.pointer none, encStr n, .slice p m c] _ _
  go_enter Try.func15, Try.ntmps15
  go_wp2
  go_region_held (fun w' => w'.cell? ⟨w.heap.size, 0, none⟩ = some (.pointer none))
    (first | exact HK.out _ (Below.refl _ _) | exact HK.out _ hb1 | exact HK.out _ hb2)
    (first
      | (go_at_call 31; (with_reducible refine (HO.out _ Hsz.out).mono ?_); rintro e w1 ⟨rfl, hb1, _⟩; have hs1 := Hsz.out ▸ hb1.size; have HC1 := Lib.hid (HC.out w1))
      | (go_at_call 29; (with_reducible refine HC1.out.mono ?_); rintro e w2 ⟨rfl, hb0⟩; have hb2 := hb1.trans (hb0.mono hs1); clear hb0))
  all_goals go_wp2
  all_goals go_ret
  all_goals exact ⟨rfl, Hb.out.trans (hb2.mono (Nat.le_add_right _ _))⟩

set_option maxRecDepth 100000 in
set_option maxHeartbeats 3200000 in
theorem rename_nil (n t : List UInt8) (w : World) : Calls Try.prog 19 #[.pointer none, .string ⟨n.toArray⟩, .string ⟨t.toArray⟩] w (CodeEnd w 1) := by
  have hb : Below w.heap.size w (((w.alloc (.cells #[.pointer none] 23)).alloc (.cells #[encStr n] 9)).alloc (.cells #[encStr t] 9)).drew := ((((Below.refl w.heap.size w).alloc (Nat.le_refl _) (.cells #[.pointer none] 23)).alloc (by simp) (.cells #[encStr n] 9)).alloc (by simp; omega) (.cells #[encStr t] 9)).drew
  have hk0 : (((w.alloc (.cells #[.pointer none] 23)).alloc (.cells #[encStr n] 9)).alloc (.cells #[encStr t] 9)).drew.cell? ⟨w.heap.size, 0, none⟩ = some (.pointer none) :=
    (Chg.alloc (fun _ => False) _ _).cell ((Chg.alloc (fun _ => False) _ _).cell (cell_of_row _ _ _ _ _ (0, 0) (heap_alloc_new _ _)) (fun h => h)) (fun h => h)
  have hk1 : (((w.alloc (.cells #[.pointer none] 23)).alloc (.cells #[encStr n] 9)).alloc (.cells #[encStr t] 9)).drew.cell? ⟨w.heap.size + 1, 0, none⟩ = some (encStr n) := by
    refine (Chg.alloc (fun _ => False) _ _).cell ?_ (fun h => h)
    have := cell_of_row ((w.alloc (.cells #[.pointer none] 23)).alloc (.cells #[encStr n] 9)) (w.heap.size + 1) 0 #[encStr n] 9 (0, 0) (by have := heap_alloc_new (w.alloc (.cells #[.pointer none] 23)) (.cells #[encStr n] 9); simpa using this)
    exact this
  have hsz : (((w.alloc (.cells #[.pointer none] 23)).alloc (.cells #[encStr n] 9)).alloc (.cells #[encStr t] 9)).drew.heap.size = w.heap.size + 3 := by show (((w.alloc _).alloc _).alloc _).heap.size = _; simp
  have HO := Lib.hid (fun (w1 : World) (h1 : w1.heap.size = w.heap.size + 3) => onfile_at n 36 #[.pointer (some ⟨w.heap.size + 1 + 1, 0, none⟩), .pointer (some ⟨w.heap.size, 0, none⟩), .pointer (some ⟨w.heap.size + 1, 0, none⟩)] (w.heap.size + 3) w1 h1)
  have HC := Lib.hid (fun w1 => carry_nil n 46 #[.pointer (some ⟨w.heap.size + 3, 0, none⟩)] w1)
  have Hb := Lib.hid hb
  have HK := Lib.hid (fun (w1 : World) (hb1 : Below (w.heap.size + 3) (((w.alloc (.cells #[.pointer none] 23)).alloc (.cells #[encStr n] 9)).alloc (.cells #[encStr t] 9)).drew w1) =>
    And.intro (cell_under hb1 hk0 (by show w.heap.size < w.heap.size + 3; omega)) (cell_under hb1 hk1 (by show w.heap.size + 1 < w.heap.size + 3; omega)))
  have Hsz := Lib.hid hsz
  clear hb hk0 hk1 hsz
  change Calls _ _ #[.pointer none, encStr n, encStr t] _ _
  go_enter Try.func19, Try.ntmps19
  go_wp2
  go_region_held (fun w' => w'.cell? ⟨w.heap.size, 0, none⟩ = some (.pointer none) ∧ w'.cell? ⟨w.heap.size + 1, 0, none⟩ = some (encStr n))
    (first | exact HK.out _ (Below.refl _ _) | exact HK.out _ hb1 | exact HK.out _ hb2)
    (first
      | (go_at_call 31; (with_reducible refine (HO.out _ Hsz.out).mono ?_); rintro e w1 ⟨rfl, hb1, _⟩; have hs1 := Hsz.out ▸ hb1.size; have HC1 := Lib.hid (HC.out w1))
      | (go_at_call 29; (with_reducible refine HC1.out.mono ?_); rintro e w2 ⟨rfl, hb0⟩; have hb2 := hb1.trans (hb0.mono hs1); clear hb0))
  all_goals go_wp2
  all_goals go_ret
  all_goals exact ⟨rfl, Hb.out.trans (hb2.mono (Nat.le_add_right _ _))⟩

set_option maxRecDepth 100000 in
set_option maxHeartbeats 3200000 in
theorem remove_nil (n : List UInt8) (w : World) : Calls Try.prog 20 #[.pointer none, .string ⟨n.toArray⟩] w (CodeEnd w 1) := by
  have hb : Below w.heap.size w ((w.alloc (.cells #[.pointer none] 23)).alloc (.cells #[encStr n] 9)).drew := (((Below.refl w.heap.size w).alloc (Nat.le_refl _) (.cells #[.pointer none] 23)).alloc (by simp) (.cells #[encStr n] 9)).drew
  have hk0 : ((w.alloc (.cells #[.pointer none] 23)).alloc (.cells #[encStr n] 9)).drew.cell? ⟨w.heap.size, 0, none⟩ = some (.pointer none) :=
    (Chg.alloc (fun _ => False) _ _).cell (cell_of_row _ _ _ _ _ (0, 0) (heap_alloc_new _ _)) (fun h => h)
  have hk1 : ((w.alloc (.cells #[.pointer none] 23)).alloc (.cells #[encStr n] 9)).drew.cell? ⟨w.heap.size + 1, 0, none⟩ = some (encStr n) := by
    have := cell_of_row ((w.alloc (.cells #[.pointer none] 23)).alloc (.cells #[encStr n] 9)) (w.heap.size + 1) 0 #[encStr n] 9 (0, 0) (by have := heap_alloc_new (w.alloc (.cells #[.pointer none] 23)) (.cells #[encStr n] 9); simpa using this)
    exact this
  have hsz : ((w.alloc (.cells #[.pointer none] 23)).alloc (.cells #[encStr n] 9)).drew.heap.size = w.heap.size + 2 := by show ((w.alloc _).alloc _).heap.size = _; simp
  have HO := Lib.hid (fun (w1 : World) (h1 : w1.heap.size = w.heap.size + 2) => onfile_at n 38 #[.pointer (some ⟨w.heap.size, 0, none⟩), .pointer (some ⟨w.heap.size + 1, 0, none⟩)] (w.heap.size + 2) w1 h1)
  have HC := Lib.hid (fun w1 => carry_nil n 46 #[.pointer (some ⟨w.heap.size + 2, 0, none⟩)] w1)
  have Hb := Lib.hid hb
  have HK := Lib.hid (fun (w1 : World) (hb1 : Below (w.heap.size + 2) ((w.alloc (.cells #[.pointer none] 23)).alloc (.cells #[encStr n] 9)).drew w1) =>
    And.intro (cell_under hb1 hk0 (by show w.heap.size < w.heap.size + 2; omega)) (cell_under hb1 hk1 (by show w.heap.size + 1 < w.heap.size + 2; omega)))
  have Hsz := Lib.hid hsz
  clear hb hk0 hk1 hsz
  change Calls _ _ #[.pointer none, encStr n] _ _
  go_enter Try.func20, Try.ntmps20
  go_wp2
  go_region_held (fun w' => w'.cell? ⟨w.heap.size, 0, none⟩ = some (.pointer none) ∧ w'.cell? ⟨w.heap.size + 1, 0, none⟩ = some (encStr n))
    (first | exact HK.out _ (Below.refl _ _) | exact HK.out _ hb1 | exact HK.out _ hb2)
    (first
      | (go_at_call 31; (with_reducible refine (HO.out _ Hsz.out).mono ?_); rintro e w1 ⟨rfl, hb1, _⟩; have hs1 := Hsz.out ▸ hb1.size; have HC1 := Lib.hid (HC.out w1))
      | (go_at_call 29; (with_reducible refine HC1.out.mono ?_); rintro e w2 ⟨rfl, hb0⟩; have hb2 := hb1.trans (hb0.mono hs1); clear hb0))
  all_goals go_wp2
  all_goals go_ret
  all_goals exact ⟨rfl, Hb.out.trans (hb2.mono (Nat.le_add_right _ _))⟩

theorem read_nil (n : List UInt8) (w : World) : Calls Try.prog 17 #[.pointer none, .string ⟨n.toArray⟩] w fun e w' => e = .returned (.tuple #[.slice none 0 0, .int .i64 1]) ∧ w' = w := by
  go_enter Try.func17, Try.ntmps17
  go_wp2
  go_ret2
  exact ⟨rfl, rfl⟩
theorem list_nil (w : World) : Calls Try.prog 26 #[.pointer none] w fun e w' => e = .returned (.slice none 0 0) ∧ w' = w := by
  go_enter Try.func26, Try.ntmps26
  go_wp2
  go_ret
  exact ⟨rfl, rfl⟩
theorem used_nil (w : World) : Calls Try.prog 12 #[.pointer none] w fun e w' => e = .returned (.int .i64 0) ∧ w' = w := by
  go_enter Try.func12, Try.ntmps12
  go_wp2
  go_ret
  exact ⟨rfl, rfl⟩
theorem down_nil (w : World) : Calls Try.prog 28 #[.pointer none] w fun e w' => e = .returned (.bool false) ∧ w' = w := by
  go_enter Try.func28, Try.ntmps28
  go_wp2
  go_ret
  exact ⟨rfl, rfl⟩
theorem arm_nil (k : Int) (w : World) : Calls Try.prog 21 #[.pointer none, .int .i64 k] w fun e w' => (∃ v, e = .returned v) ∧ w' = w := by
  go_enter Try.func21, Try.ntmps21
  go_wp2
  go_end0
  exact ⟨⟨_, rfl⟩, rfl⟩
theorem crash_nil (p : Option Addr) (n c : Nat) (w : World) : Calls Try.prog 16 #[.pointer none, .slice p n c] w fun e w' => (∃ v, e = .returned v) ∧ w' = w := by
  go_enter Try.func16, Try.ntmps16
  go_wp2
  exact bodyPost_ret (v := .tuple #[]) (by simp [results, Try.results16, go_sem]) rfl ⟨⟨_, rfl⟩, rfl⟩
end Go.Proofs.Ytdnbjpfapfnpaaa
