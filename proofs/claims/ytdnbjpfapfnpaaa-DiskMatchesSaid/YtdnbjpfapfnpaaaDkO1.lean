/- The walk of a disk's Create. -/
import Derived.Test.YtdnbjpfapfnpaaaDkC
import Derived.Test.YtdnbjpfapfnpaaaDkP
import Derived.Shelf.Abstract
namespace Go.Proofs.Ytdnbjpfapfnpaaa
open Go.RowKit Go.Maps Go.Shelf

/-- What a change answers and leaves. -/
def ActEnd (S : Nat → Prop) (w : World) (d : Nat) (r : DM × Int) (e : Ending) (w' : World) : Prop := e = .returned (.int .i64 r.2) ∧ Step S w d r.1 w'

theorem Step.after {S : Nat → Prop} {w w1 w2 : World} {d : Nat} {M : DM} (hc : Chg S w w1) (h : Step S w1 d M w2) : Step S w d M w2 := by
  obtain ⟨S', hD, hs, hc2⟩ := h
  exact ⟨S', hD, fun b hb => (hs b hb).imp id (fun h => Nat.le_trans hc.size h), hc.same hc2⟩

/-- .. where new memory has been made ahead. -/
theorem Step.behind {S : Nat → Prop} {w w1 w2 : World} {d : Nat} {M : DM} (hb : Below w.heap.size w w1) (h : Step S w1 d M w2) : Step S w d M w2 := h.after (Chg.of_below hb)

theorem own_nil (w : World) : w.ownsRow 0 5 1 (.slice none 0 0) 0 (u8s []) := World.ownsRow_nil w 0 _ 1

theorem fileOk_new (w : World) (n : List UInt8) : FileOk (w.alloc (.cells #[.slice none 0 0, .int .i64 0] 70)) ⟨⟨n, [], 0⟩, w.heap.size, .slice none 0 0⟩ :=
  ⟨heap_alloc_new _ _, own_nil _, (fun _ h => by cases h), Nat.le_refl _⟩

set_option maxRecDepth 100000 in
set_option maxHeartbeats 3200000 in
theorem create1_any {S : Nat → Prop} {w : World} {d mb : Nat} {p : Int} {L : List FW} {M : DM} (h : DiskAt S w d mb p L M) (n : List UInt8) (hn : n.length ≤ 9223372036854775807) (hL : M.fs.length < 1000000) (bd bn : Nat)
    (hbd : w.cell? ⟨bd, 0, none⟩ = some (.pointer (some ⟨d, 0, none⟩))) (hbn : w.cell? ⟨bn, 0, none⟩ = some (encStr n)) :
    Calls Try.prog 30 #[fileV (findN FW.n n L), .pointer (some ⟨bd, 0, none⟩), .pointer (some ⟨bn, 0, none⟩)] w
      (ActEnd S w d (match findN F.n n M.fs with | some _ => (M, 7) | none => ({ M with fs := putN F.n ⟨n, [], 0⟩ M.fs }, 0))) := by
  have hfd : findN F.n n M.fs = (findN FW.n n L).map FW.f := by rw [h.files]; exact findN_map FW.n F.n FW.f (fun _ => rfl) n L
  have hlen : L.length < 1000000 := by have := congrArg List.length h.files; rw [List.length_map] at this; omega
  rw [hfd]
  cases hf : findN FW.n n L with
  | some x =>
    have H := Lib.hid h
    clear h hfd hf hL hlen
    unfold fileV
    go_enter Try.func30, Try.ntmps30
    go_wp2
    go_ret
    exact ⟨rfl, Step.same ⟨mb, p, L, H.out⟩ (Chg.refl _ _)⟩
  | none =>
    obtain ⟨c0, c1, c2, c3, fr⟩ := h.cells
    have hok := fileOk_new w n
    have hd1 := (h.dir.alloc (.cells #[.slice none 0 0, .int .i64 0] 70)).drew
    obtain ⟨w2, hrun, hown, hg⟩ := hd1.update mapKey Try.underlying47 (by rw [maxLen_nat]; omega) (keyN n hn) (val := .pointer (some ⟨w.heap.size, 0, none⟩)) (d := .lit (.int .i64 (w.heap.size : Int))) (ps := []) rfl
    rw [show (dirD L).put (.string n) (.lit (.int .i64 (w.heap.size : Int))) = dirD (putN FW.n ⟨⟨n, [], 0⟩, w.heap.size, .slice none 0 0⟩ L) from dirD_put ⟨⟨n, [], 0⟩, w.heap.size, .slice none 0 0⟩ L] at hown
    have hc1 : Chg (fun b => b = mb) w w2 := ((Chg.alloc _ w _).same (Chg.drew _ _)).same (Chg.grown hg (fun k hk => by cases hk; exact .inl rfl))
    have hmbS : S mb := h.sub mb (by simp)
    have hlt : w.heap.size < w2.heap.size := Nat.lt_of_lt_of_le (by show w.heap.size < (w.alloc _).heap.size; simp) hg.size
    have hnS : ∀ b, S b → b < w.heap.size := h.bound
    have hfin : DiskAt (fun b => S b ∨ b = w.heap.size) w2 d mb p (putN FW.n ⟨⟨n, [], 0⟩, w.heap.size, .slice none 0 0⟩ L) { M with fs := putN F.n ⟨n, [], 0⟩ M.fs } := by
      refine h.put ⟨⟨n, [], 0⟩, w.heap.size, .slice none 0 0⟩ hown hc1 ?_ ?_ (List.nodup_cons.2 ⟨by simp [Value.ownBlock], List.nodup_nil⟩) ?_ (fun b hb => .inl hb) ?_ ?_
      · refine hok.keep (fun b hb => hg.block b ?_ ?_)
        · have e : b = w.heap.size := by simpa [fpOne, Value.ownBlock] using hb
          rw [e]; show w.heap.size < (w.alloc _).heap.size; simp
        · have e : b = w.heap.size := by simpa [fpOne, Value.ownBlock] using hb
          intro e2
          cases e2
          exact absurd (hnS _ hmbS) (by omega)
      · intro b hb hb2
        have e : b = w.heap.size := by simpa [fpOne, Value.ownBlock] using hb
        have : S b := h.sub b (((fpOf_del n L).cons_cons mb).cons_cons d |>.subset hb2)
        exact absurd (hnS _ this) (by omega)
      · intro b hb
        have e : b = w.heap.size := by simpa [fpOne, Value.ownBlock] using hb
        exact .inr e
      · rintro b (hb | rfl)
        · exact Nat.lt_trans (hnS b hb) hlt
        · exact hlt
      · show 0 + usedF (delN F.n n M.fs) ≤ M.room
        have := usedF_del n M.fs
        have := h.used
        omega
    have Hend := Lib.hid (show Step S w d { M with fs := putN F.n ⟨n, [], 0⟩ M.fs } w2 from ⟨_, ⟨mb, p, _, hfin⟩, fun b hb => hb.imp id (fun e => Nat.le_of_eq e.symm), ⟨hc1.os, hc1.tape, hc1.output, hc1.size, fun b hb hns => hc1.block b hb (fun e => hns (e ▸ hmbS))⟩⟩)
    have k1 := (Chg.alloc (fun _ => False) w (.cells #[.slice none 0 0, .int .i64 0] 70)).cell hbd (fun h => h)
    have k2 := (Chg.alloc (fun _ => False) w (.cells #[.slice none 0 0, .int .i64 0] 70)).cell hbn (fun h => h)
    have k3 := (Chg.alloc (fun _ => False) w (.cells #[.slice none 0 0, .int .i64 0] 70)).cell c1 (fun h => h)
    clear h hfd hf hL hlen hd1 hown hg hc1 hmbS hlt hnS hfin hok fr c0 c2 c3
    unfold fileV
    go_enter Try.func30, Try.ntmps30
    go_wp2
    go_region
    go_wp2
    go_ret
    exact ⟨rfl, Hend.out⟩

theorem stepQ {S : Nat → Prop} {w w1 w2 : World} {d : Nat} {r : DM × Int} {e : Ending} (hc : Chg S w w1) (h : ActEnd S w1 d r e w2) : ActEnd S w d r e w2 := ⟨h.1, Step.after hc h.2⟩

set_option maxRecDepth 100000 in
set_option maxHeartbeats 3200000 in
theorem create_any {S : Nat → Prop} {w : World} {d : Nat} {M : DM} (h : DiskIn S w d M) (n : List UInt8) (hn : n.length ≤ 9223372036854775807) (hL : M.fs.length < 1000000) :
    Calls Try.prog 14 #[.pointer (some ⟨d, 0, none⟩), encStr n] w (ActEnd S w d (createM n M)) := by
  obtain ⟨mb, p, L, h⟩ := h
  have hb := ((Below.refl w.heap.size w).alloc (Nat.le_refl _) (.cells #[.pointer (some ⟨d, 0, none⟩)] 23)).alloc (o := .cells #[encStr n] 9) (by simp)
  have h2 := h.below hb
  have hbd : ((w.alloc (.cells #[.pointer (some ⟨d, 0, none⟩)] 23)).alloc (.cells #[encStr n] 9)).cell? ⟨w.heap.size, 0, none⟩ = some (.pointer (some ⟨d, 0, none⟩)) := by
    refine (Chg.alloc (fun _ => False) _ _).cell (cell_of_row _ _ _ _ _ (0, 0) (heap_alloc_new _ _)) (fun h => h)
  have hbn : ((w.alloc (.cells #[.pointer (some ⟨d, 0, none⟩)] 23)).alloc (.cells #[encStr n] 9)).cell? ⟨w.heap.size + 1, 0, none⟩ = some (encStr n) := by
    have := cell_of_row ((w.alloc (.cells #[.pointer (some ⟨d, 0, none⟩)] 23)).alloc (.cells #[encStr n] 9)) (w.heap.size + 1) 0 #[encStr n] 9 (0, 0) (by have := heap_alloc_new (w.alloc (.cells #[.pointer (some ⟨d, 0, none⟩)] 23)) (.cells #[encStr n] 9); simpa using this)
    exact this
  have hS0 : ∀ b, w.heap.size ≤ b → ¬ S b := fun b hb hs => absurd (h.bound b hs) (by omega)
  have HC := Lib.hid (carry_any h2 n hn 30 #[.pointer (some ⟨w.heap.size, 0, none⟩), .pointer (some ⟨w.heap.size + 1, 0, none⟩)] (by exact enters_of Try.func30 (by kernel_rfl) rfl) (ActEnd S w d (createM n M))
    (fun w' hD hc hdn => ⟨by unfold createM chgM; rw [if_pos hdn], by unfold createM chgM; rw [if_pos hdn]; exact Step.behind hb (Step.same hD hc)⟩)
    (fun w' hD hc hdn hnm => ⟨by unfold createM chgM; rw [if_neg (by rw [hdn]; decide), if_neg (by rw [hnm]; decide)], by unfold createM chgM; rw [if_neg (by rw [hdn]; decide), if_neg (by rw [hnm]; decide)]; exact Step.behind hb (Step.same hD hc)⟩)
    (fun p' w' hD hc hdn hnm => by
      have hl : (failM M).fs.length < 1000000 := by
        have e : (failM M).fs = M.fs := by unfold failM; split <;> (try split) <;> rfl
        rw [e]; exact hL
      refine (create1_any hD n hn hl _ _ (hc.cell hbd (hS0 _ (Nat.le_refl _))) (hc.cell hbn (hS0 _ (Nat.le_succ _)))).mono ?_
      rintro e w'' ⟨he, hst⟩
      refine ⟨⟨_, he⟩, ?_⟩
      unfold createM chgM
      rw [if_neg (by rw [hdn]; decide), if_pos hnm]
      exact ⟨he, Step.behind hb (Step.after hc hst)⟩))
  clear h h2 hb hbd hbn hS0
  go_enter Try.func14, Try.ntmps14
  go_wp2_with fail
  refine HC.out.mono ?_
  rintro e w' hq
  have Hq := Lib.hid hq
  obtain ⟨rfl, _⟩ := hq
  go_wp2
  go_ret
  exact Hq.out
end Go.Proofs.Ytdnbjpfapfnpaaa
