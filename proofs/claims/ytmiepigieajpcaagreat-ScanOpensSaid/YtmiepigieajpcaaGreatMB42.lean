import Derived.Test.YtmiepigieajpcaaGreatMB40
import Derived.Deep.RegionHeld
import Derived.Deep.RegionHeld3
import Derived.Deep.DrawnRows
import Derived.Test.YtmiepigieajpcaaGreatMB24
import Derived.Test.YtmiepigieajpcaaGreatMB20
import Derived.BigQuiet
/- The walk of a log's Sync. -/
namespace Go.Proofs.YtmiepigieajpcaaGreat
open Go.RowKit Go.Maps Go.Shelf

attribute [local go_sem ↓] Go.wp_at_zero Go.wp_at_succ

section
variable {w0 : World} {Y : Nat → Prop} {w : World} {g d : Nat} {W : WM}

set_option maxRecDepth 100000 in
/-- Syncing the current segment, by a slice that holds this step alone. -/
theorem sync_tail (h : LogAt w0 Y w g d W) {w1 : World} {b1 b2 : Nat} (c1 : w1.cell? ⟨b1, 0, none⟩ = some (.pointer (some ⟨g, 0, none⟩))) (c2 : w1.cell? ⟨b2, 0, none⟩ = some (encStr (nmB W.n))) (k1 : w.heap.size ≤ b1) (k2 : w.heap.size ≤ b2) (hb : Below w.heap.size w w1) :
    Calls Tryz.prog 78 #[.pointer (some ⟨g, 0, none⟩), .slice (some ⟨w1.heap.size, 0, none⟩) 1 1] (w1.alloc (.cells #[.func (.func 125) #[] #[.pointer (some ⟨b1, 0, none⟩), .pointer (some ⟨b2, 0, none⟩)], .int .i64 (W.n : Int), .int .i64 (W.size : Int), .int .i64 0] 135))
      fun e w' => e = .returned (.int .i64 (syncW W).2) ∧ LogEnd w0 Y w g d (syncW W).1 w' := by
  obtain ⟨w2, hw2⟩ : ∃ w2, w2 = w1.alloc (.cells #[.func (.func 125) #[] #[.pointer (some ⟨b1, 0, none⟩), .pointer (some ⟨b2, 0, none⟩)], .int .i64 (W.n : Int), .int .i64 (W.size : Int), .int .i64 0] 135) := ⟨_, rfl⟩
  rw [← hw2]
  have hrow : w2.heap[w1.heap.size]? = some (.cells ([StepD.mk 125 #[.pointer (some ⟨b1, 0, none⟩), .pointer (some ⟨b2, 0, none⟩)] (W.n : Int) (W.size : Int) 0].flatMap fun x => x.cells.toList).toArray 135 (0, 0)) := by
    rw [hw2]
    exact heap_alloc_new _ _
  have hb12 : Below w1.heap.size w1 w2 := by rw [hw2]; exact (Below.refl _ _).alloc (Nat.le_refl _) _
  have hb2 : Below w.heap.size w w2 := hb.trans (hb12.mono hb.size)
  have hA := h.all hb2
  have d1 := cell_below hb12 (Nat.le_refl _) c1
  have d2 := cell_below hb12 (Nat.le_refl _) c2
  have l1 := World.block_lt_of_cell? _ _ d1
  have l2 := World.block_lt_of_cell? _ _ d2
  refine (take1_any hA w1.heap.size 1 _ (enters_of Tryz.func125 (by kernel_rfl) rfl) (syncM (nmB W.n) W.D) { W with D := (syncM (nmB W.n) W.D).1, wait := 0 } rfl rfl rfl rfl rfl hrow
    (fun Z w' hZ ho hkk => do_sync ho g W.n b1 b2 (by rw [World.cell?_of_block (hkk b1 (.inr ⟨k1, l1⟩))]; exact d1) (by rw [World.cell?_of_block (hkk b2 (.inr ⟨k2, l2⟩))]; exact d2)
      (by rw [World.cell?_of_block (hkk g (.inl h.inY))]; exact hA.cell.2.2.2.1))).mono ?_
  rintro e w' ⟨rfl, hq2⟩
  rw [syncW_eq]
  exact ⟨rfl, LogEnd.behind h hb2 (fun b hy => .inl hy) hq2⟩

set_option maxRecDepth 100000 in
set_option maxHeartbeats 6400000 in
theorem wsync_any (h : LogAt w0 Y w g d W) (h1 : 1 ≤ W.n) (hN : W.n ≤ 99999999) :
    Calls Tryz.prog 32 #[.pointer (some ⟨g, 0, none⟩)] w fun e w' => e = .returned (.int .i64 (syncW W).2) ∧ LogEnd w0 Y w g d (syncW W).1 w' := by
  have hbd : Below w.heap.size w w.drew := (Below.refl _ _).drew
  have hA := h.below hbd
  obtain ⟨g0, g1, g2, g3, g4⟩ := hA.cell
  have HS := Lib.hid (syncing_any g W.n (W.size : Int) (W.wait : Int) (W.n : Int) (W.size : Int) 0 _ h1 hN g0 g1 g2)
  unfold placeV at HS
  have HT := Lib.hid (fun w1 b1 b2 c1 c2 k1 k2 hb => sync_tail (W := W) hA (w1 := w1) (b1 := b1) (b2 := b2) c1 c2 k1 k2 hb)
  have HE := Lib.hid (fun W2 w' (hq : LogEnd w0 Y w.drew g d W2 w') => LogEnd.behind h hbd (fun b hy => hy) hq)
  have Hbd := Lib.hid hbd
  clear h hA hbd h1 hN g2 g3 g4
  go_enter Tryz.func32, Tryz.ntmps32
  go_wp2_with fail
  go_region_held3 (fun w' => w'.cell? ⟨g, 0, none⟩ = some (.int .i64 (W.n : Int)) ∧ w'.cell? ⟨g, 1, none⟩ = some (.int .i64 (W.size : Int)))
    (first | exact ⟨g0, g1⟩ | exact ⟨hq.1.cell.1, hq.1.cell.2.1⟩ | exact ⟨cell_below hb2 (Nat.le_refl _) g0, cell_below hb2 (Nat.le_refl _) g1⟩ | exact ⟨cell_below (hb2.alloc hb2.size _) (Nat.le_refl _) g0, cell_below (hb2.alloc hb2.size _) (Nat.le_refl _) g1⟩ | trivial)
    (first
      | (go_at_call 80; refine HS.out.mono ?_; rintro e w2 ⟨b1, b2, rfl, c1, c2, k1, k2, hb2⟩; unfold stepV)
      | (go_at_call 78; refine (HT.out _ _ _ c1 c2 k1 k2 hb2).mono ?_; rintro e w3 ⟨rfl, hq⟩))
  have Hq := Lib.hid (HE.out _ _ hq)
  clear hq
  go_wp2
  go_ret
  exact ⟨rfl, Hq.out⟩
end
end Go.Proofs.YtmiepigieajpcaaGreat

/- The walks of the reference's Few and Same. -/
namespace Go.Proofs.YtmiepigieajpcaaGreat
open Go.RowKit Crc

/-- The sum that Few makes. -/
def minsF (ls : List (List Nat)) : Nat := (ls.map fun l => min l.length 2000).sum

theorem minsF_take {ls : List (List Nat)} {k : Nat} (h : k < ls.length) : minsF (ls.take (k + 1)) = minsF (ls.take k) + min (ls.getD k []).length 2000 := by
  unfold minsF
  rw [List.take_succ_eq_append_getElem h, List.getD_eq_getElem?_getD, List.getElem?_eq_getElem h, List.map_append, List.sum_append, List.map_cons, List.map_nil, List.sum_cons, List.sum_nil]
  rfl

theorem minsF_cons (l : List Nat) (ls : List (List Nat)) : minsF (l :: ls) = min l.length 2000 + minsF ls := by simp [minsF]

theorem minsF_bound : ∀ ls : List (List Nat), minsF ls ≤ 1500 → sizeL ls ≤ 1500 + 8 * ls.length ∧ ∀ r ∈ ls, r.length ≤ 1048576
  | [], _ => ⟨by simp [sizeL], fun r h => by cases h⟩
  | l :: ls, h => by
    have ih := minsF_bound ls
    rw [minsF_cons] at h
    obtain ⟨h1, h2⟩ := ih (by omega)
    have h3 : ∀ ms : List (List Nat), minsF ms ≤ 1500 → sizeL ms = minsF ms + 8 * ms.length := by
      intro ms
      induction ms with
      | nil => intro _; rfl
      | cons m ms ihm =>
        intro hm
        rw [minsF_cons] at hm ⊢
        rw [sizeL_cons, ihm (by omega), List.length_cons]
        omega
    refine ⟨?_, fun r hr => ?_⟩
    · rw [sizeL_cons, h3 ls (by omega), List.length_cons]
      omega
    · rcases List.mem_cons.1 hr with rfl | hr
      · omega
      · exact h2 r hr

def FewEndF (ls : List (List Nat)) (e : Ending) : Prop := ∃ b, e = .returned (.bool b) ∧ (b = true → minsF ls ≤ 1500 ∧ ls.length ≤ 60)

theorem fewF_le {ls : List (List Nat)} {k : Nat} : minsF (ls.take k) ≤ 2000 * k := by
  have h : ∀ ms : List (List Nat), minsF ms ≤ 2000 * ms.length := by
    intro ms
    induction ms with
    | nil => exact Nat.le_refl _
    | cons m ms ih =>
      rw [minsF_cons, List.length_cons]
      omega
  have := h (ls.take k)
  rw [List.length_take] at this
  omega

set_option maxHeartbeats 800000 in
theorem fewF_short (a : Option Addr) (n cap : Nat) (ls : List (List Nat)) (w : World) (hl : Parts w a n cap ls) (hn : n ≤ 60) :
    Calls Tryz.prog 27 #[.slice a n cap] w fun e w' => FewEndF ls e ∧ w = w' := by
  have hls := Lib.hid hl.len
  have hP := Lib.hid hl
  clear hl
  go_enter Tryz.func27, Tryz.ntmps27
  go_wp2
  go_loop [3, 4] (fun t i => ∃ k : Nat, k ≤ n ∧ i = .int .i64 k ∧ t = .int .i64 (minsF (ls.take k) : Nat)) (fun _ i => n - (intOf i).toNat)
  case atStart => exact ⟨0, Nat.zero_le _, rfl, rfl⟩
  case round =>
    obtain ⟨k, hk, rfl, rfl⟩ := hrel
    have hle := fewF_le (ls := ls) (k := k)
    by_cases hlt : k < n
    · obtain ⟨b, o, a', n', c', rfl, hc, hB⟩ := bytes_get_all hP.out hlt
      have hs := minsF_take (ls := ls) (show k < ls.length by rw [hls.out]; exact hlt)
      rw [hB.len] at hs
      have hcm := hB.max
      have Hs := Lib.hid hs
      clear hs hB
      generalize minsF (ls.take k) = m at *
      by_cases h1 : n' ≤ 2000
      · have h2 : (n' : Int) ≤ 2000 := by omega
        have Hs2 := Lib.hid (show minsF (ls.take (k + 1)) = m + n' by rw [Hs.out]; omega)
        go_wp2
        go_round
        case rel => exact ⟨k + 1, by omega, by go_num, by rw [Hs2.out]; go_num⟩
        case measure => simp [intOf]; omega
      · have h2 : (2000 : Int) < n' := by omega
        have Hs2 := Lib.hid (show minsF (ls.take (k + 1)) = m + 2000 by rw [Hs.out]; omega)
        go_wp2
        go_round
        case rel => exact ⟨k + 1, by omega, by go_num, by rw [Hs2.out]; go_num⟩
        case measure => simp [intOf]; omega
    · obtain rfl : k = n := by omega
      have ht : ls.take k = ls := by rw [← hls.out, List.take_length]
      rw [ht] at hle ⊢
      have hls' := hls.out
      generalize hm : minsF ls = m at *
      have Hm := Lib.hid hm
      clear hm ht
      have h2 : (k : Int) ≤ 60 := by omega
      go_wp2
      go_ret
      exact ⟨⟨_, rfl, fun h => ⟨by rw [Hm.out]; have := of_decide_eq_true h; omega, by omega⟩⟩, rfl⟩

set_option maxHeartbeats 800000 in
theorem fewF_long (a : Option Addr) (n cap : Nat) (ls : List (List Nat)) (w : World) (hl : Parts w a n cap ls) (hn : 60 < n) :
    Calls Tryz.prog 27 #[.slice a n cap] w fun e w' => FewEndF ls e ∧ w = w' := by
  have hls := Lib.hid hl.len
  have hnb := hl.max
  have hP := Lib.hid hl
  clear hl
  go_enter Tryz.func27, Tryz.ntmps27
  go_wp2
  go_loop [3, 4] (fun t i => ∃ (k : Nat) (z : Int), k ≤ n ∧ i = .int .i64 k ∧ t = .int .i64 z) (fun _ i => n - (intOf i).toNat)
  case atStart => exact ⟨0, 0, Nat.zero_le _, rfl, rfl⟩
  case round =>
    obtain ⟨k, z, hk, rfl, rfl⟩ := hrel
    by_cases hlt : k < n
    · obtain ⟨b, o, a', n', c', rfl, hc, hB⟩ := bytes_get_all hP.out hlt
      have hcm := hB.max
      clear hB
      by_cases h1 : n' ≤ 2000
      · have h2 : (n' : Int) ≤ 2000 := by omega
        go_wp2
        go_round
        case rel => exact ⟨k + 1, _, by omega, by go_num, rfl⟩
        case measure => simp [intOf]; omega
      · have h2 : (2000 : Int) < n' := by omega
        go_wp2
        go_round
        case rel => exact ⟨k + 1, _, by omega, by go_num, rfl⟩
        case measure => simp [intOf]; omega
    · obtain rfl : k = n := by omega
      have h2 : (60 : Int) < k := by omega
      go_wp2
      go_ret
      exact ⟨⟨false, rfl, fun h => by cases h⟩, rfl⟩

theorem fewF_any (a : Option Addr) (n cap : Nat) (ls : List (List Nat)) (w : World) (hl : Parts w a n cap ls) :
    Calls Tryz.prog 27 #[.slice a n cap] w fun e w' => FewEndF ls e ∧ w = w' := by
  by_cases hn : n ≤ 60
  · exact fewF_short a n cap ls w hl hn
  · exact fewF_long a n cap ls w hl (by omega)
end Go.Proofs.YtmiepigieajpcaaGreat

/- The walks of the reference's Same, of bytes and of lists of bytes: true where they are the same. -/
namespace Go.Proofs.YtmiepigieajpcaaGreat
open Go.RowKit Crc

set_option maxRecDepth 100000 in
theorem rsame_yes (a a' : Option Addr) (n cap n' cap' : Nat) (l : List Nat) (w : World) (hl : Bytes w a n cap l) (hl' : Bytes w a' n' cap' l) :
    Calls Tryz.prog 62 #[.slice a n cap, .slice a' n' cap'] w fun e w' => e = .returned (.bool true) ∧ w' = w := by
  have h1 := convert_bytes (P := Tryz.prog) hl 58 5 9 Tryz.underlying58 Tryz.underlying5 Tryz.underlying9
  have h2 := convert_bytes (P := Tryz.prog) hl' 58 5 9 Tryz.underlying58 Tryz.underlying5 Tryz.underlying9
  have he := str_eq l
  clear hl hl'
  generalize str l = s at *
  go_enter Tryz.func62, Tryz.ntmps62
  go_wp2
  go_ret
  exact ⟨rfl, rfl⟩

set_option maxHeartbeats 800000 in
set_option maxRecDepth 100000 in
theorem same_yes (a a' : Option Addr) (n cap cap' : Nat) (ls : List (List Nat)) (w : World) (hl : Parts w a n cap ls) (hl' : Parts w a' n cap' ls) :
    Calls Tryz.prog 17 #[.slice a n cap, .slice a' n cap'] w fun e w' => e = .returned (.bool true) ∧ ∃ q, w' = w.drewN q := by
  have hnb := hl.max
  have hP := Lib.hid hl
  have hP' := Lib.hid hl'
  clear hl hl'
  go_enter Tryz.func17, Tryz.ntmps17
  go_wp2
  go_loopw [5] (fun i wr => ∃ k q : Nat, k ≤ n ∧ i = .int .i64 k ∧ wr = w.drewN q) (fun i _ => n - (intOf i).toNat)
  case atStart => exact ⟨0, 0, Nat.zero_le _, rfl, rfl⟩
  case round =>
    obtain ⟨k, q, hk, rfl, rfl⟩ := hrel
    by_cases hlt : k < n
    · obtain ⟨b, o, a1, n1, c1, rfl, hc, hB⟩ := bytes_get_all hP.out hlt
      obtain ⟨b', o', a2, n2, c2, rfl, hc', hB'⟩ := bytes_get_all hP'.out hlt
      have hc := fun q => (show (w.drewN q).cell? ⟨b, o + k, none⟩ = _ from hc)
      have hc' := fun q => (show (w.drewN q).cell? ⟨b', o' + k, none⟩ = _ from hc')
      have hc := hc q
      have hc' := hc' q
      have hB := hB.grow (below_drewN (Below.refl w.heap.size w) q)
      have hB' := hB'.grow (below_drewN (Below.refl w.heap.size w) q)
      have hq : ∀ m, (w.drewN q).drewN m = w.drewN (q + m) := fun m => by simp [World.drewN, Nat.add_assoc]
      generalize w.drewN q = wr at *
      have HS := Lib.hid (fun m => (rsame_yes a1 a2 n1 c1 n2 c2 (ls.getD k []) (wr.drewN m) (hB.grow (below_drewN (Below.refl _ _) m)) (hB'.grow (below_drewN (Below.refl _ _) m))).mono (R' := fun e w' => e = .returned (.bool true) ∧ ∃ k, w' = (wr.drewN m).drewN k) (by rintro e w' ⟨h1, rfl⟩; exact ⟨h1, 0, rfl⟩))
      have Hq := Lib.hid hq
      clear hB hB' hq
      go_wp2_with fail
      go_quiet (first | (go_at_call 62; exact Calls.quiet_of (HS.out _)))
      rw [Hq.out]
      go_wp2
      go_roundw
      case rel => exact ⟨k + 1, _, by omega, by go_num, rfl⟩
      case measure => simp [intOf]; omega
    · obtain rfl : k = n := by omega
      go_wp2
      go_ret
      exact ⟨rfl, q, rfl⟩
end Go.Proofs.YtmiepigieajpcaaGreat

