import Derived.Test.YtngnbmaocdadaaaMN11
import Derived.Test.YtngnbmaocdadaaaMN3
/- The walks of a disk's New, Read, Arm and Down. -/
namespace Go.Proofs.Ytngnbmaocdadaaa
open Go.RowKit Go.Maps Go.Shelf

/-- What Read answers and leaves. -/
def ReadEnd (w : World) (r : List Nat × Int) (e : Ending) (w' : World) : Prop := ∃ p c, e = .returned (.tuple #[.slice p r.1.length c, .int .i64 r.2]) ∧ Bytes w' p r.1.length c r.1 ∧ (∀ a, p = some a → w.heap.size ≤ a.block ∧ a.block < w'.heap.size) ∧ Below w.heap.size w w' ∧
  w'.ownsRow w.heap.size 5 1 (.slice p r.1.length c) r.1.length (u8s r.1)

theorem readEnd_nil (w : World) (k : Int) : ReadEnd w ([], k) (.returned (.tuple #[.slice none 0 0, .int .i64 k])) w := ⟨none, 0, rfl, bytes_nil w, (fun _ h => by cases h), Below.refl _ _, World.ownsRow_nil _ _ _ _⟩

set_option maxRecDepth 100000 in
theorem new_any (room : Int) (w : World) (hhi : room < 9223372036854775808) :
    Calls Try.prog 14 #[.int .i64 room] w fun e w' => ∃ d, e = .returned (.pointer (some ⟨d, 0, none⟩)) ∧ DiskIn (fun b => w.heap.size ≤ b ∧ b < w'.heap.size) w' d (newM room) ∧ Below w.heap.size w w' := by
  have hmm := @run_makeMap Try.prog
  have h0 := World.ownsMap_made (H := Unit) w Try.prog 9 ptrR
  have hb : Below w.heap.size w ((w.alloc (.map #[] 0)).alloc (.cells #[.int .i64 (room.toNat : Int), .map (some w.heap.size), .bool false, .int .i64 0] 63)) := ((Below.refl w.heap.size w).alloc (Nat.le_refl _) _).alloc (by simp) _
  have hs : ((w.alloc (.map #[] 0)).alloc (.cells #[.int .i64 (room.toNat : Int), .map (some w.heap.size), .bool false, .int .i64 0] 63)).heap.size = w.heap.size + 2 := by simp
  have hD : DiskAt (fun b => w.heap.size ≤ b ∧ b < ((w.alloc (.map #[] 0)).alloc (.cells #[.int .i64 (room.toNat : Int), .map (some w.heap.size), .bool false, .int .i64 0] 63)).heap.size) ((w.alloc (.map #[] 0)).alloc (.cells #[.int .i64 (room.toNat : Int), .map (some w.heap.size), .bool false, .int .i64 0] 63)) (w.heap.size + 1) w.heap.size 0 [] (newM room) := by
    refine ⟨rfl, ?_, rfl, by decide, by decide, h0.alloc _, fun _ h => (by cases h), List.nodup_cons.2 ⟨by simp [fpOf], List.nodup_cons.2 ⟨by simp [fpOf], List.nodup_nil⟩⟩, fun b hb => ?_, fun b hb => hb.2, Nat.zero_le _, by show room.toNat < _; omega⟩
    · have := heap_alloc_new (w.alloc (.map #[] 0)) (.cells #[.int .i64 (room.toNat : Int), .map (some w.heap.size), .bool false, .int .i64 0] 63)
      simpa [newM] using this
    · rw [hs]
      simp [fpOf] at hb
      omega
  have HE := Lib.hid (show ∃ d, Ending.returned (.pointer (some ⟨w.heap.size + 1, 0, none⟩)) = .returned (.pointer (some ⟨d, 0, none⟩)) ∧ DiskIn (fun b => w.heap.size ≤ b ∧ b < ((w.alloc (.map #[] 0)).alloc (.cells #[.int .i64 (room.toNat : Int), .map (some w.heap.size), .bool false, .int .i64 0] 63)).heap.size) ((w.alloc (.map #[] 0)).alloc (.cells #[.int .i64 (room.toNat : Int), .map (some w.heap.size), .bool false, .int .i64 0] 63)) d (newM room) ∧ Below w.heap.size w ((w.alloc (.map #[] 0)).alloc (.cells #[.int .i64 (room.toNat : Int), .map (some w.heap.size), .bool false, .int .i64 0] 63)) from ⟨_, rfl, ⟨_, _, _, hD⟩, hb⟩)
  clear h0 hb hs hD
  by_cases hr : room < 0
  · have e : (room.toNat : Int) = 0 := by omega
    rw [e] at HE
    have hmx : max room 0 = 0 := by omega
    go_enter Try.func14, Try.ntmps14
    go_wp2
    go_ret
    exact HE.out
  · have e : (room.toNat : Int) = room := by omega
    rw [e] at HE
    have hmx : max room 0 = room := by omega
    go_enter Try.func14, Try.ntmps14
    go_wp2
    go_ret
    exact HE.out
end Go.Proofs.Ytngnbmaocdadaaa

