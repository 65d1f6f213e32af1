import Derived.Test.YtnbddiiedagllaaGreatSSB3
/- The walks of a disk's New, Read, Arm and Down. -/
namespace Go.Proofs.YtnbddiiedagllaaGreat
open Go.RowKit Go.Maps Go.Shelf

def ReadEnd (w : World) (r : List Nat × Int) (e : Ending) (w' : World) : Prop := ∃ p c, e = .returned (.tuple #[.slice p r.1.length c, .int .i64 r.2]) ∧ Bytes w' p r.1.length c r.1 ∧ (∀ a, p = some a → w.heap.size ≤ a.block ∧ a.block < w'.heap.size) ∧ Below w.heap.size w w' ∧
 w'.ownsRow w.heap.size 5 1 (.slice p r.1.length c) r.1.length (u8s r.1)

theorem readEnd_nil (w : World) (k : Int) : ReadEnd w ([], k) (.returned (.tuple #[.slice none 0 0, .int .i64 k])) w := ⟨none, 0, rfl, bytes_nil w, (fun _ h => by cases h), Below.refl _ _, World.ownsRow_nil _ _ _ _⟩

set_option maxRecDepth 100000 in
set_option maxHeartbeats 3200000 in
theorem read_any {S : Nat → Prop} {w : World} {d : Nat} {M : DM} (h : DiskIn S w d M) (n : List UInt8) (hn : n.length ≤ 9223372036854775807) (hlim : usedF M.fs ≤ 140737488355328) :
  Calls Tryz.prog 49 #[.pointer (some ⟨d, 0, none⟩), encStr n] w (ReadEnd w (readM n M)) := by
 obtain ⟨mb, p, L, h⟩ := h
 obtain ⟨_, c1, c2, _, _⟩ := h.cells
 have hlk := h.look n hn
 have hfd : findN F.n n M.fs = (findN FW.n n L).map FW.f := by rw [h.files]; exact findN_map FW.n F.n FW.f (fun _ => rfl) n L
 cases hdn : M.down with
 | true =>
  have Hr := Lib.hid (show readM n M = ([], 10) from by unfold readM; rw [if_pos hdn])
  rw [hdn] at c2
  clear h hfd hdn hlk
  rw [Hr.out]
  go_enter Tryz.func49, Tryz.ntmps49
  go_wp2
  go_ret2
  exact readEnd_nil w 10
 | false =>
  rw [hdn] at c2
  cases hf : findN FW.n n L with
  | none =>
   have Hr := Lib.hid (show readM n M = ([], 6) from by unfold readM; rw [if_neg (by rw [hdn]; decide), hfd, hf]; rfl)
   rw [hf] at hlk
   unfold fileV at hlk
   clear h hfd hdn hf
   rw [Hr.out]
   go_enter Tryz.func49, Tryz.ntmps49
   go_wp2
   go_ret2
   exact readEnd_nil w 6
  | some x =>
   have Hr := Lib.hid (show readM n M = (x.f.b, 0) from by unfold readM; rw [if_neg (by rw [hdn]; decide), hfd, hf]; rfl)
   have hxL := (setN_name hf).1
   have hok := h.ok x hxL
   obtain ⟨f0, _, _⟩ := hok.cells
   obtain ⟨pa, cp, hv, hB⟩ := own_slice hok.row hok.byte
   have hxu : x.f.b.length ≤ 140737488355328 := by
    obtain ⟨A, B, hL⟩ := List.append_of_mem hxL
    have := used_mid A B x
    rw [← hL, ← h.files] at this
    omega
   have HCl := Lib.hid (clone_any pa x.f.b.length cp x.f.b w hB hxu)
   have Hby := Lib.hid hok.byte
   rw [hf] at hlk
   rw [hv] at f0
   unfold fileV at hlk
   clear h hfd hdn hf hxL hok hv hB hxu
   rw [Hr.out]
   go_enter Tryz.func49, Tryz.ntmps49
   go_wp2_with fail
   refine HCl.out.mono ?_
   rintro e w1 ⟨v, rfl, hown, hb⟩
   obtain ⟨p2, c2, rfl, hB2⟩ := own_slice hown Hby.out
   have Hend := Lib.hid (show ReadEnd w (x.f.b, 0) (.returned (.tuple #[.slice p2 x.f.b.length c2, .int .i64 0])) w1 from ⟨p2, c2, rfl, hB2, fun a ha => by
    have := hown.lt a.block (by
     rcases hown.2 with ⟨e1, _⟩ | ⟨g, cap, cur, e1, _⟩
     ·rw [ha] at e1; cases e1
     ·rw [ha] at e1; injection e1 with e2; cases e2; rw [ha]; rfl)
    exact this, hb, hown⟩)
   clear hown hb hB2
   go_wp2
   go_ret2
   exact Hend.out

set_option maxRecDepth 100000 in
theorem down_any {S : Nat → Prop} {w : World} {d : Nat} {M : DM} (h : DiskIn S w d M) :
  Calls Tryz.prog 63 #[.pointer (some ⟨d, 0, none⟩)] w fun e w' => e = .returned (.bool M.down) ∧ w' = w := by
 obtain ⟨mb, p, L, h⟩ := h
 obtain ⟨_, _, c2, _, _⟩ := h.cells
 clear h
 go_enter Tryz.func63, Tryz.ntmps63
 go_wp2
 go_ret
 exact ⟨rfl, rfl⟩

set_option maxRecDepth 100000 in
theorem new_any (room : Int) (w : World) (hhi : room < 9223372036854775808) :
  Calls Tryz.prog 28 #[.int .i64 room] w fun e w' => ∃ d, e = .returned (.pointer (some ⟨d, 0, none⟩)) ∧ DiskIn (fun b => w.heap.size ≤ b ∧ b < w'.heap.size) w' d (newM room) ∧ Below w.heap.size w w' := by
 have hmm := @run_makeMap Tryz.prog
 have h0 := World.ownsMap_made (H := Unit) w Tryz.prog 9 ptrR
 have hb : Below w.heap.size w ((w.alloc (.map #[] 0)).alloc (.cells #[.int .i64 (room.toNat : Int), .map (some w.heap.size), .bool false, .int .i64 0] 118)) := ((Below.refl w.heap.size w).alloc (Nat.le_refl _) _).alloc (by simp) _
 have hs : ((w.alloc (.map #[] 0)).alloc (.cells #[.int .i64 (room.toNat : Int), .map (some w.heap.size), .bool false, .int .i64 0] 118)).heap.size = w.heap.size + 2 := by simp
 have hD : DiskAt (fun b => w.heap.size ≤ b ∧ b < ((w.alloc (.map #[] 0)).alloc (.cells #[.int .i64 (room.toNat : Int), .map (some w.heap.size), .bool false, .int .i64 0] 118)).heap.size) ((w.alloc (.map #[] 0)).alloc (.cells #[.int .i64 (room.toNat : Int), .map (some w.heap.size), .bool false, .int .i64 0] 118)) (w.heap.size + 1) w.heap.size 0 [] (newM room) := by
  refine ⟨rfl, ?_, rfl, by decide, by decide, h0.alloc _, fun _ h => (by cases h), List.nodup_cons.2 ⟨by simp [fpOf], List.nodup_cons.2 ⟨by simp [fpOf], List.nodup_nil⟩⟩, fun b hb => ?_, fun b hb => hb.2, Nat.zero_le _, by show room.toNat < _; omega⟩
  ·have := heap_alloc_new (w.alloc (.map #[] 0)) (.cells #[.int .i64 (room.toNat : Int), .map (some w.heap.size), .bool false, .int .i64 0] 118)
   simpa [newM] using this
  ·rw [hs]
   simp [fpOf] at hb
   omega
 have HE := Lib.hid (show ∃ d, Ending.returned (.pointer (some ⟨w.heap.size + 1, 0, none⟩)) = .returned (.pointer (some ⟨d, 0, none⟩)) ∧ DiskIn (fun b => w.heap.size ≤ b ∧ b < ((w.alloc (.map #[] 0)).alloc (.cells #[.int .i64 (room.toNat : Int), .map (some w.heap.size), .bool false, .int .i64 0] 118)).heap.size) ((w.alloc (.map #[] 0)).alloc (.cells #[.int .i64 (room.toNat : Int), .map (some w.heap.size), .bool false, .int .i64 0] 118)) d (newM room) ∧ Below w.heap.size w ((w.alloc (.map #[] 0)).alloc (.cells #[.int .i64 (room.toNat : Int), .map (some w.heap.size), .bool false, .int .i64 0] 118)) from ⟨_, rfl, ⟨_, _, _, hD⟩, hb⟩)
 clear h0 hb hs hD
 by_cases hr : room < 0
 ·have e : (room.toNat : Int) = 0 := by omega
  rw [e] at HE
  have hmx : max room 0 = 0 := by omega
  go_enter Tryz.func28, Tryz.ntmps28
  go_wp2
  go_ret
  exact HE.out
 ·have e : (room.toNat : Int) = room := by omega
  rw [e] at HE
  have hmx : max room 0 = room := by omega
  go_enter Tryz.func28, Tryz.ntmps28
  go_wp2
  go_ret
  exact HE.out
end Go.Proofs.YtnbddiiedagllaaGreat

