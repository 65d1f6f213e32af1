/- The walk of Push. -/
import Derived.Test.YtmmiommfbkcebaaQmCode
namespace Go.Proofs.Ytmmiommfbkcebaa
open Go.RowKit Go.Maps

theorem box_new (w : World) (cs : Array Value) (t : TypeId) (j : Nat) {u : Value} (hu : cs[j]? = some u) : (w.alloc (.cells cs t)).cell? ⟨w.heap.size, j, none⟩ = some u := by
  rw [cell_of_row _ _ _ _ _ (0, 0) (heap_alloc_new _ _)]; exact hu

set_option maxRecDepth 100000 in
set_option maxHeartbeats 1600000 in
theorem push_any {w0 : World} {X : Nat → Prop} {w : World} {m d : Nat} {l : List Int} (h : QmS w0 X w m d l) (hm : m ≤ 2000000) (x : Int) (hx : InI x) :
    Calls Try.prog 11 #[.pointer (some ⟨d, 0, none⟩), .int .i64 x] w fun r w' => r = .returned (.bool (decide (x ∉ l))) ∧ QmE w0 X w (m + 1) d (pushQ l x) w' := by
  obtain ⟨v, T, mb, k, h⟩ := h
  have HH := Lib.hid (has_any h x hx)
  unfold pushQ
  by_cases hin : x ∈ l
  · rw [if_pos hin, decide_eq_false (by simpa using hin)]
    rw [decide_eq_true hin] at HH
    have HE := Lib.hid (h.same (Nat.le_succ m) (Below.refl _ _))
    clear h hin
    go_enter Try.func11, Try.ntmps11
    go_wp2_with fail
    refine HH.out.mono ?_
    rintro r w1 ⟨rfl, rfl⟩
    go_wp2
    go_ret
    exact ⟨rfl, HE.out⟩
  · rw [if_neg hin, decide_eq_true hin]
    rw [decide_eq_false hin] at HH
    have q0 := h.c0
    have q2 := h.c2
    obtain ⟨wb, hwb⟩ : ∃ wb, wb = w.drew.alloc (.cells #[.int .i64 x, .int .u64 (k : Int)] 59) := ⟨_, rfl⟩
    have hbb : Below w.heap.size w wb := by rw [hwb]; exact (Below.refl _ _).drew.alloc (Nat.le_refl _) _
    obtain ⟨v', w2, hap, hrow, hgr, hob⟩ := run_app_it (P := Try.prog) evI_one (t := 54) 54 Try.underlying54 info_itq (by kernel_rfl) (by decide) (h.row.below hbb) (x, k) w.heap.size
      (by rw [hwb]; exact box_new w.drew _ _ _ rfl) (by rw [hwb]; exact box_new w.drew _ _ _ rfl) (Nat.le_trans h.base.size hbb.size) (Nat.le_trans h.cnt.2 hm)
    obtain ⟨p', c', rfl, hnc', _⟩ := hrow.slice
    obtain ⟨n', hn'⟩ : ∃ n', n' = (T ++ [(x, k)]).length := ⟨_, rfl⟩
    rw [← hn'] at hap hrow hob
    have hd := h.dlt
    have hmb := h.map.lt
    have hvd : ∀ b, v.ownBlock = some b → b ≠ d ∧ b ≠ mb := fun b e => (h.vpos b e).2
    have kd : w2.heap[d]? = w.heap[d]? := (hgr.block d (Nat.lt_of_lt_of_le hd hbb.size) (fun e => (hvd d e.symm).1 rfl)).trans (hbb.block d hd)
    have km : w2.heap[mb]? = w.heap[mb]? := (hgr.block mb (Nat.lt_of_lt_of_le hmb hbb.size) (fun e => (hvd mb e.symm).2 rfl)).trans (hbb.block mb hmb)
    have hd2 := kd.trans h.head
    have e0 : w2.cell? ⟨d, 0, none⟩ = some v := by rw [cell_of_row _ _ _ _ _ (0, 0) hd2]; rfl
    have ef : w2.frozen? ⟨d, 0, none⟩ = false := by simp [World.frozen?, hd2]
    obtain ⟨w3, hw3⟩ : ∃ w3, w3 = w2.setCell ⟨d, 0, none⟩ (.slice p' n' c') := ⟨_, rfl⟩
    have hd3 : w3.heap[d]? = some (.cells #[.slice p' n' c', .map (some mb), .int .u64 (k : Int)] 57 (0, 0)) := by rw [hw3, Joins.block_setCell (i := 0) hd2]; rfl
    have km3 : w3.heap[mb]? = w2.heap[mb]? := by rw [hw3]; exact heap_setCell_other _ _ _ _ (Ne.symm h.ne)
    have f1 : w3.cell? ⟨d, 1, none⟩ = some (.map (some mb)) := by rw [cell_of_row _ _ _ _ _ (0, 0) hd3]; rfl
    have f2 : w3.cell? ⟨d, 2, none⟩ = some (.int .u64 (k : Int)) := by rw [cell_of_row _ _ _ _ _ (0, 0) hd3]; rfl
    obtain ⟨w4, hup, hmap4, hg4⟩ := MapE.put (w := w3.drew) (T' := T ++ [(x, k)]) ((h.map.kept km).kept (show w3.drew.heap[mb]? = w2.heap[mb]? from km3)) (x, k) hx (by have := h.cnt.1; show k < _; omega) (by rw [h.has]; exact decide_eq_false hin) (Nat.le_trans h.cnt.2 hm) (fun y => by rw [List.mem_append, List.mem_singleton]; exact Or.comm) (by simp)
    have hd4 : w4.heap[d]? = some (.cells #[.slice p' n' c', .map (some mb), .int .u64 (k : Int)] 57 (0, 0)) := (hg4.block d (Array.getElem?_eq_some_iff.1 hd3).1 (fun e => h.ne (Option.some.inj e))).trans hd3
    have j2 : w4.cell? ⟨d, 2, none⟩ = some (.int .u64 (k : Int)) := by rw [cell_of_row _ _ _ _ _ (0, 0) hd4]; rfl
    have jf : w4.frozen? ⟨d, 2, none⟩ = false := by simp [World.frozen?, hd4]
    have hkw : IntKind.u64.wrap ((k : Int) + 1) = ((k + 1 : Nat) : Int) := by rw [IntKind.wrap_u64]; have := h.cnt.1; omega
    have HE := Lib.hid (show QmE w0 X w (m + 1) d (l ++ [x]) (w4.setCell ⟨d, 2, none⟩ (.int .u64 ((k + 1 : Nat) : Int))) from by
      have hs3 : w3.heap.size = w2.heap.size := by rw [hw3]; simp [World.setCell]
      have hs5 : (w4.setCell ⟨d, 2, none⟩ (.int .u64 ((k + 1 : Nat) : Int))).heap.size = w4.heap.size := by simp [World.setCell]
      have h34 : w3.heap.size ≤ w4.heap.size := hg4.size
      have h23 := hgr.size
      have h01 := hbb.size
      have hownp : ∀ b, (Value.slice p' n' c').ownBlock = some b → (v.ownBlock = some b ∨ w.heap.size ≤ b) ∧ b < w2.heap.size := fun b e => by
        refine ⟨?_, (hrow.lt e).2⟩
        rcases hob with e1 | e1
        · exact .inl (e1 ▸ e)
        · rw [e] at e1; have := Option.some.inj e1; right; omega
      have hown2 : ∀ b, (Value.slice p' n' c').ownBlock = some b → b ≠ d ∧ b ≠ mb := fun b e => by
        rcases (hownp b e).1 with e1 | e1
        · exact hvd b e1
        · constructor <;> omega
      have blk : ∀ b, b < w2.heap.size → b ≠ d → b ≠ mb → (w4.setCell ⟨d, 2, none⟩ (.int .u64 ((k + 1 : Nat) : Int))).heap[b]? = w2.heap[b]? := fun b hb h1 h2 => by
        rw [heap_setCell_other _ _ _ _ h1, hg4.block b (show b < w3.heap.size by omega) (fun e => h2 (Option.some.inj e))]
        show w3.heap[b]? = _
        rw [hw3]
        exact heap_setCell_other _ _ _ _ h1
      refine h.turn (v' := .slice p' n' c') (T' := T ++ [(x, k)]) (k' := k + 1) ?_ ?_ ?_ (by omega) (fun b hb h1 h2 h3 => ?_) ?_ ?_ ?_ (fun b e => (hownp b e).1) (by rw [h.els]; simp) ?_ ?_ ?_ ?_ ?_
      · show w4.os = _; rw [hg4.os]; show w3.os = _; rw [hw3]; exact hgr.os.trans hbb.os
      · show w4.tape = _; rw [hg4.tape]; show w3.tape = _; rw [hw3]; exact hgr.tape.trans hbb.tape
      · show w4.output = _; rw [hg4.output]; show w3.output = _; rw [hw3]; exact hgr.output.trans hbb.output
      · rw [blk b (by omega) h1 h2, hgr.block b (by omega) (fun e => h3 e.symm), hbb.block b hb]
      · rw [Joins.block_setCell (i := 2) hd4]; rfl
      · exact hrow.kept (fun b e => blk b (hownp b e).2 (hown2 b e).1 (hown2 b e).2)
      · exact hmap4.kept (heap_setCell_other _ _ _ _ (Ne.symm h.ne))
      · rw [List.nodup_append]
        exact ⟨h.nd, by simp, fun y hy z hz e => by rw [List.mem_singleton] at hz; exact hin (hz ▸ e ▸ hy)⟩
      · intro y hy
        rcases List.mem_append.1 hy with h1 | h1
        · exact h.rng y h1
        · rw [List.mem_singleton] at h1; exact h1 ▸ hx
      · rw [List.pairwise_append]
        exact ⟨h.srt, by simp, fun a ha b hb => by rw [List.mem_singleton] at hb; rw [hb]; exact h.lt a ha⟩
      · intro t ht
        rcases List.mem_append.1 ht with h1 | h1
        · have := h.lt t h1; omega
        · rw [List.mem_singleton] at h1; rw [h1]; exact Nat.lt_succ_self k
      · refine ⟨Nat.succ_le_succ h.cnt.1, ?_⟩
        rw [List.length_append]; exact Nat.succ_le_succ h.cnt.2)
    rw [hwb] at hap
    clear h hbb hrow hgr hob hnc' hvd kd km hd2 hd3 km3 hmap4 hg4 hd4 hn' hwb
    go_enter Try.func11, Try.ntmps11
    go_wp2_with fail
    refine HH.out.mono ?_
    rintro r w1 ⟨rfl, rfl⟩
    go_wp2_with fail
    go_region_law (first | (refine step_appK rfl (.tmp 16) (.tmp 23) 54 54 rfl v (.slice (some ⟨w1.heap.size, 0, none⟩) 1 1) (by simp [Act.eval]) (by simp [Act.eval]) hap ?_))
    all_goals
      rw [← hw3]
      clear hw3 e0 ef hap q0 q2
      go_wp2_with fail
      go_region
      go_wp2
      go_ret
      exact ⟨rfl, HE.out⟩
end Go.Proofs.Ytmmiommfbkcebaa
