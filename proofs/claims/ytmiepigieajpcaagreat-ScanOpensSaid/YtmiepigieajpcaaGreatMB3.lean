import Derived.Test.YtmiepigieajpcaaGreatMB2
import Derived.StillTailTactics
import Derived.Shelf.Abstract
/- The walk of a disk's carryOut, whatever the change does. -/
namespace Go.Proofs.YtmiepigieajpcaaGreat
open Go.RowKit Go.Maps

set_option maxRecDepth 100000 in
set_option maxHeartbeats 3200000 in
theorem carry_any {S : Nat → Prop} {w : World} {d mb : Nat} {p : Int} {L : List FW} {M : DM} (h : DiskAt S w d mb p L M) (n : List UInt8) (hn : n.length ≤ 9223372036854775807)
    (k : Nat) (caps : Array Value) (hent : ∀ args w, (callFunc k args).run Tryz.prog w = .ok (.enter k args) w) (Q : Ending → World → Prop)
    (H10 : ∀ w', DiskIn S w' d (failM M) → Chg S w w' → (failM M).down = true → Q (.returned (.int .i64 10)) w')
    (H6 : ∀ w', DiskIn S w' d (failM M) → Chg S w w' → (failM M).down = false → named n = false → Q (.returned (.int .i64 6)) w')
    (HF : ∀ p' w', DiskAt S w' d mb p' L (failM M) → Chg S w w' → (failM M).down = false → named n = true → Calls Tryz.prog k (#[fileV (findN FW.n n L)] ++ caps) w' fun e w'' => (∃ v, e = .returned v) ∧ Q e w'') :
    Calls Tryz.prog 81 #[.pointer (some ⟨d, 0, none⟩), .agg #[encStr n, .func (.func k) #[] caps]] w Q := by
  have h1 := h.below ((Below.refl w.heap.size w).alloc (Nat.le_refl _) (.cells #[encStr n, .func (.func k) #[] caps] 143))
  have Hc1 := Lib.hid (Chg.alloc S w (.cells #[encStr n, .func (.func k) #[] caps] 143))
  have HFl := Lib.hid (fails_any h1)
  have HP := Lib.hid (fun w => possible_any n w)
  have hb : ¬ S w.heap.size := fun hs => absurd (h.bound _ hs) (Nat.lt_irrefl _)
  have Hb := Lib.hid hb
  have k0 : (w.alloc (.cells #[encStr n, .func (.func k) #[] caps] 143)).cell? ⟨w.heap.size, 0, none⟩ = some (encStr n) := cell_of_row _ _ _ _ _ (0, 0) (heap_alloc_new _ _)
  have k1 : (w.alloc (.cells #[encStr n, .func (.func k) #[] caps] 143)).cell? ⟨w.heap.size, 1, none⟩ = some (.func (.func k) #[] caps) := cell_of_row _ _ _ _ _ (0, 0) (heap_alloc_new _ _)
  have K0 := Lib.hid k0
  have K1 := Lib.hid k1
  have H10' := Lib.hid H10
  have H6' := Lib.hid H6
  have HF' := Lib.hid HF
  clear h h1 hb k0 k1 H10 H6 HF
  go_enter Tryz.func81, Tryz.ntmps81
  go_wp2_with fail
  refine HFl.out.mono ?_
  rintro e w1 ⟨rfl, ⟨p', hD⟩, hc, hsz⟩
  have HD := Lib.hid hD
  have Hc := Lib.hid (Hc1.out.same hc)
  have c0 := hc.cell K0.out Hb.out
  have c1 := hc.cell K1.out Hb.out
  obtain ⟨_, d1, _, _, _⟩ := hD.cells
  have hlk := hD.look n hn
  clear hD hc hsz
  cases hdn : (failM M).down with
  | true =>
    have Hdn := Lib.hid hdn
    clear hdn
    go_wp2
    exact H10'.out _ ⟨mb, p', L, HD.out⟩ Hc.out Hdn.out
  | false =>
    have Hdn := Lib.hid hdn
    clear hdn
    go_wp2_with fail
    refine (HP.out _).mono ?_
    rintro e w2 ⟨rfl, rfl⟩
    cases hnm : named n with
    | false =>
      have Hnm := Lib.hid hnm
      clear hnm
      go_wp2
      exact H6'.out _ ⟨mb, p', L, HD.out⟩ Hc.out Hdn.out Hnm.out
    | true =>
      have Hnm := Lib.hid hnm
      clear hnm
      go_wp2
      refine wp_region_still_tail 9 (by kernel_rfl) (by kernel_rfl) ?_
      simp only [List.take_succ_cons, List.take_zero, List.drop_succ_cons, List.drop_zero]
      have HD3 := Lib.hid (HD.out.below (Chg.below (S := fun _ => False) (Chg.drew _ w2) (fun _ h => h.elim) (Nat.le_refl _)))
      have Hc3 := Lib.hid (Hc.out.same (Chg.drew S w2))
      have c0 : w2.drew.cell? ⟨w.heap.size, 0, none⟩ = some (encStr n) := c0
      have c1 : w2.drew.cell? ⟨w.heap.size, 1, none⟩ = some (.func (.func k) #[] caps) := c1
      have d1 : w2.drew.cell? ⟨d, 1, none⟩ = some (.map (some mb)) := d1
      have hlk : (Instr.lookup 116 (.map (some mb)) (encStr n) false).run Tryz.prog w2.drew = .ok (fileV (findN FW.n n L)) w2.drew := HD3.out.look n hn
      change wpStill _ _ w2.drew (fun a' => wpList _ _ _ _ a' w2.drew) _ _
      have HF3 := Lib.hid (HF'.out p' w2.drew HD3.out Hc3.out Hdn.out Hnm.out)
      clear HD Hc HFl Hc1 HD3 Hc3 H10' H6' HF'
      generalize w2.drew = w3 at *
      repeat still_step
      refine wpStill_nil ?_
      go_wp2_with fail
      refine HF3.out.mono ?_
      rintro e w4 ⟨⟨v, rfl⟩, hq⟩
      have Hq := Lib.hid hq
      clear hq
      go_wp2
      exact Hq.out
end Go.Proofs.YtmiepigieajpcaaGreat

/- A disk's directory changes: a file is put in, taken out, or has another content. -/
namespace Go.Proofs.YtmiepigieajpcaaGreat
open Go.RowKit Go.Maps

theorem usedF_cons (x : F) (l : List F) : usedF (x :: l) = x.b.length + usedF l := by simp [usedF]
theorem usedF_perm {l l' : List F} (h : l.Perm l') : usedF l = usedF l' := (h.map _).sum_nat
theorem usedF_ins (x : F) (l : List F) : usedF (insN F.n x l) = x.b.length + usedF l := by rw [usedF_perm (perm_insN F.n x l), usedF_cons]
theorem usedF_del (n : List UInt8) : ∀ l : List F, usedF (delN F.n n l) ≤ usedF l
  | [] => Nat.le_refl _
  | y :: r => by
    have ih := usedF_del n r
    unfold delN at *
    rw [List.filter_cons]
    split
    · rw [usedF_cons, usedF_cons]; omega
    · rw [usedF_cons]; omega
theorem usedF_del_find {n : List UInt8} : ∀ {l : List F} {x : F}, findN F.n n l = some x → usedF (delN F.n n l) + x.b.length ≤ usedF l
  | [], x, h => by cases h
  | y :: r, x, h => by
    unfold findN at h
    rw [List.find?_cons] at h
    unfold delN
    rw [List.filter_cons]
    cases hy : y.n == n with
    | true =>
      rw [hy] at h
      simp only [Option.some.injEq] at h
      subst h
      rw [if_neg (by simp), usedF_cons]
      have := usedF_del n r
      unfold delN at this
      omega
    | false =>
      rw [hy] at h
      have ih := usedF_del_find (l := r) (n := n) (x := x) h
      unfold delN at ih
      rw [if_pos (by simp), usedF_cons, usedF_cons]
      omega

theorem fpOf_perm {L L' : List FW} (h : L.Perm L') : (fpOf L).Perm (fpOf L') := h.flatMap_right _
theorem fpOf_ins (x : FW) (L : List FW) : (fpOf (insN FW.n x L)).Perm (fpOne x ++ fpOf L) := by
  have := fpOf_perm (perm_insN FW.n x L)
  rwa [show fpOf (x :: L) = fpOne x ++ fpOf L from List.flatMap_cons ..] at this
theorem fpOf_sub {L L' : List FW} (h : L'.Sublist L) : (fpOf L').Sublist (fpOf L) := by
  unfold fpOf
  induction h with
  | slnil => exact List.Sublist.refl _
  | cons a h ih => rw [List.flatMap_cons]; exact List.Sublist.trans ih (List.sublist_append_right _ _)
  | cons_cons a h ih => rw [List.flatMap_cons, List.flatMap_cons]; exact List.Sublist.append (List.Sublist.refl _) ih
theorem fpOf_del (n : List UInt8) (L : List FW) : (fpOf (delN FW.n n L)).Sublist (fpOf L) := fpOf_sub (List.filter_sublist ..)

/-- Another directory. -/
theorem DiskAt.dir_set {S S' : Nat → Prop} {w w' : World} {d mb : Nat} {p : Int} {L L' : List FW} {M : DM} {fs : List F} (h : DiskAt S w d mb p L M) (hf : fs = L'.map FW.f) (hdir : w'.ownsMap Tryz.prog 9 ptrR mb L'.length (dirD L'))
    (hc : Chg (fun b => b = mb) w w') (hok : ∀ x ∈ L', FileOk w' x ∨ x ∈ L) (hap : (d :: mb :: fpOf L').Nodup) (hsub : ∀ b ∈ fpOf L', S' b) (hs : ∀ b, S b → S' b) (hb : ∀ b, S' b → b < w'.heap.size) (hu : usedF fs ≤ M.room) :
    DiskAt S' w' d mb p L' { M with fs := fs } := by
  have hnd := List.nodup_cons.1 h.apart
  have hnm := (List.nodup_cons.1 hnd.2).1
  have hdm : d ≠ mb := fun e => hnd.1 (by simp [e])
  refine ⟨hf, (hc.block d (h.bound d (h.sub d (by simp))) hdm).trans h.head, h.plan, h.lo, h.hi, hdir, fun x hx => ?_, hap, fun b hb' => ?_, hb, hu, h.room⟩
  · rcases hok x hx with h1 | h1
    · exact h1
    · exact (h.ok x h1).keep (fun b hb' => hc.block b (h.bound b (h.sub b (by simp [mem_fpOf h1 hb']))) (fun e => hnm (e ▸ mem_fpOf h1 hb')))
  · rcases List.mem_cons.1 hb' with e | e
    · rw [e]; exact hs d (h.sub d (by simp))
    · rcases List.mem_cons.1 e with e | e
      · rw [e]; exact hs mb (h.sub mb (by simp))
      · exact hsub b e

/-- A file is put in. -/
theorem DiskAt.put {S S' : Nat → Prop} {w w' : World} {d mb : Nat} {p : Int} {L : List FW} {M : DM} (h : DiskAt S w d mb p L M) (x : FW) (hdir : w'.ownsMap Tryz.prog 9 ptrR mb (L.length + 1) (dirD (putN FW.n x L)))
    (hc : Chg (fun b => b = mb) w w') (hx : FileOk w' x) (hfr : ∀ b ∈ fpOne x, b ∉ d :: mb :: fpOf (delN FW.n x.n L)) (hnd : (fpOne x).Nodup) (hsx : ∀ b ∈ fpOne x, S' b) (hs : ∀ b, S b → S' b) (hb : ∀ b, S' b → b < w'.heap.size)
    (hu : x.f.b.length + usedF (delN F.n x.n M.fs) ≤ M.room) : DiskAt S' w' d mb p (putN FW.n x L) { M with fs := putN F.n x.f M.fs } := by
  have hperm : (fpOf (putN FW.n x L)).Perm (fpOne x ++ fpOf (delN FW.n x.n L)) := fpOf_ins x _
  have hmem : ∀ y ∈ putN FW.n x L, y = x ∨ y ∈ L := fun y hy => ((mem_insN FW.n x _ y).1 hy).imp id (fun h => (List.mem_filter.1 h).1)
  have hdel : (d :: mb :: fpOf (delN FW.n x.n L)).Nodup := h.apart.sublist (((fpOf_del x.n L).cons_cons mb).cons_cons d)
  have hsz : w'.ownsMap Tryz.prog 9 ptrR mb (putN FW.n x L).length (dirD (putN FW.n x L)) := by
    obtain ⟨es, clock, hb0, F0, hs0, hD⟩ := hdir
    refine ⟨es, clock, hb0, F0, ?_, hD⟩
    have e1 := congrArg Maps.size hD
    rw [dirD_size] at e1
    rw [e1]
    show es.size ≤ List.length _
    rw [length_sorted]
    simp
  refine h.dir_set ?_ hsz hc (fun y hy => (hmem y hy).elim (fun e => .inl (e ▸ hx)) .inr) ?_ (fun b hb' => ?_) hs hb ?_
  · rw [h.files, putN_map FW.n F.n FW.f (fun _ => rfl)]
  · have e : (d :: mb :: fpOf (putN FW.n x L)).Perm (fpOne x ++ (d :: mb :: fpOf (delN FW.n x.n L))) := by
      refine ((hperm.cons mb).cons d).trans ?_
      refine List.Perm.trans (List.Perm.cons d (List.perm_middle.symm)) ?_
      exact List.perm_middle.symm
    rw [e.nodup_iff, List.nodup_append]
    exact ⟨hnd, hdel, fun a ha b hb' e => hfr a ha (e ▸ hb')⟩
  · rcases List.mem_append.1 (hperm.mem_iff.1 hb') with h1 | h1
    · exact hsx b h1
    · exact hs b (h.sub b (by simp [(fpOf_del x.n L).subset h1]))
  · show usedF (insN F.n x.f (delN F.n x.n M.fs)) ≤ M.room
    rw [usedF_ins]
    exact hu

/-- A file is taken out. -/
theorem DiskAt.out {S : Nat → Prop} {w w' : World} {d mb : Nat} {p : Int} {L : List FW} {M : DM} (h : DiskAt S w d mb p L M) (n : List UInt8) (hdir : w'.ownsMap Tryz.prog 9 ptrR mb L.length (dirD (delN FW.n n L)))
    (hc : Chg (fun b => b = mb) w w') : DiskAt S w' d mb p (delN FW.n n L) { M with fs := delN F.n n M.fs } := by
  have hsz : w'.ownsMap Tryz.prog 9 ptrR mb (delN FW.n n L).length (dirD (delN FW.n n L)) := by
    obtain ⟨es, clock, hb0, F0, hs0, hD⟩ := hdir
    refine ⟨es, clock, hb0, F0, ?_, hD⟩
    have e1 := congrArg Maps.size hD
    rw [dirD_size] at e1
    rw [e1]
    show es.size ≤ List.length _
    rw [length_sorted]
    simp
  refine h.dir_set ?_ hsz hc (fun y hy => .inr (List.mem_filter.1 hy).1) (h.apart.sublist (((fpOf_del n L).cons_cons mb).cons_cons d)) (fun b hb' => h.sub b (by simp [(fpOf_del n L).subset hb'])) (fun _ h => h)
    (fun b hb' => Nat.lt_of_lt_of_le (h.bound b hb') hc.size) (Nat.le_trans (usedF_del n _) h.used)
  rw [h.files, delN_map FW.n F.n FW.f (fun _ => rfl)]
end Go.Proofs.YtmiepigieajpcaaGreat

/- The walk of a disk's Create. -/
namespace Go.Proofs.YtmiepigieajpcaaGreat
open Go.RowKit Go.Maps Go.Shelf

/-- What a change answers and leaves. -/
def ActEnd (S : Nat → Prop) (w : World) (d : Nat) (r : DM × Int) (e : Ending) (w' : World) : Prop := e = .returned (.int .i64 r.2) ∧ Step S w d r.1 w'

theorem Step.after {S : Nat → Prop} {w w1 w2 : World} {d : Nat} {M : DM} (hc : Chg S w w1) (h : Step S w1 d M w2) : Step S w d M w2 := by
  obtain ⟨S', hD, hs, hc2⟩ := h
  exact ⟨S', hD, fun b hb => (hs b hb).imp id (fun h => Nat.le_trans hc.size h), hc.same hc2⟩

/-- .. where new memory has been made ahead. -/
theorem Step.behind {S : Nat → Prop} {w w1 w2 : World} {d : Nat} {M : DM} (hb : Below w.heap.size w w1) (h : Step S w1 d M w2) : Step S w d M w2 := h.after (Chg.of_below hb)

theorem own_nil (w : World) : w.ownsRow 0 5 1 (.slice none 0 0) 0 (u8s []) := World.ownsRow_nil w 0 _ 1

theorem fileOk_new (w : World) (n : List UInt8) : FileOk (w.alloc (.cells #[.slice none 0 0, .int .i64 0] 140)) ⟨⟨n, [], 0⟩, w.heap.size, .slice none 0 0⟩ :=
  ⟨heap_alloc_new _ _, own_nil _, (fun _ h => by cases h), Nat.le_refl _⟩

set_option maxRecDepth 100000 in
set_option maxHeartbeats 3200000 in
theorem create1_any {S : Nat → Prop} {w : World} {d mb : Nat} {p : Int} {L : List FW} {M : DM} (h : DiskAt S w d mb p L M) (n : List UInt8) (hn : n.length ≤ 9223372036854775807) (hL : M.fs.length < 1000000) (bd bn : Nat)
    (hbd : w.cell? ⟨bd, 0, none⟩ = some (.pointer (some ⟨d, 0, none⟩))) (hbn : w.cell? ⟨bn, 0, none⟩ = some (encStr n)) :
    Calls Tryz.prog 82 #[fileV (findN FW.n n L), .pointer (some ⟨bd, 0, none⟩), .pointer (some ⟨bn, 0, none⟩)] w
      (ActEnd S w d (match findN F.n n M.fs with | some _ => (M, 7) | none => ({ M with fs := putN F.n ⟨n, [], 0⟩ M.fs }, 0))) := by
  have hfd : findN F.n n M.fs = (findN FW.n n L).map FW.f := by rw [h.files]; exact findN_map FW.n F.n FW.f (fun _ => rfl) n L
  have hlen : L.length < 1000000 := by have := congrArg List.length h.files; rw [List.length_map] at this; omega
  rw [hfd]
  cases hf : findN FW.n n L with
  | some x =>
    have H := Lib.hid h
    clear h hfd hf hL hlen
    unfold fileV
    go_enter Tryz.func82, Tryz.ntmps82
    go_wp2
    go_ret
    exact ⟨rfl, Step.same ⟨mb, p, L, H.out⟩ (Chg.refl _ _)⟩
  | none =>
    obtain ⟨c0, c1, c2, c3, fr⟩ := h.cells
    have hok := fileOk_new w n
    have hd1 := (h.dir.alloc (.cells #[.slice none 0 0, .int .i64 0] 140)).drew
    obtain ⟨w2, hrun, hown, hg⟩ := hd1.update mapKey Tryz.underlying116 (by rw [maxLen_nat]; omega) (keyN n hn) (val := .pointer (some ⟨w.heap.size, 0, none⟩)) (d := .lit (.int .i64 (w.heap.size : Int))) (ps := []) rfl
    rw [show (dirD L).put (.string n) (.lit (.int .i64 (w.heap.size : Int))) = dirD (putN FW.n ⟨⟨n, [], 0⟩, w.heap.size, .slice none 0 0⟩ L) from dirD_put ⟨⟨n, [], 0⟩, w.heap.size, .slice none 0 0⟩ L] at hown
    have hc1 : Chg (fun b => b = mb) w w2 := ((Chg.alloc _ w _).same (Chg.drew _ _)).same (Chg.grown hg (fun k hk => by cases hk; exact .inl rfl))
    have hmbS : S mb := h.sub mb (by simp)
    have hlt : w.heap.size < w2.heap.size := Nat.lt_of_lt_of_le (by show w.heap.size < (w.alloc _).heap.size; simp) hg.size
    have hnS : ∀ b, S b → b < w.heap.size := h.bound
    have hfin : DiskAt (fun b => S b ∨ b = w.heap.size) w2 d mb p (putN FW.n ⟨⟨n, [], 0⟩, w.heap.size, .slice none 0 0⟩ L) { M with fs := putN F.n ⟨n, [], 0⟩ M.fs } := by
      refine h.put ⟨⟨n, [], 0⟩, w.heap.size, .slice none 0 0⟩ hown hc1 ?_ ?_ (List.nodup_cons.2 ⟨by simp [Value.ownBlock], List.nodup_nil⟩) ?_ (fun b hb => .inl hb) ?_ ?_
      · refine hok.keep (fun b hb => hg.block b ?_ ?_)
        · have e : b = w.heap.size := by simpa [fpOne, Value.ownBlock] using hb
          rw [e]; show w.heap.size < (w.alloc _).heap.size; simp
        · have e : b = w.heap.size := by simpa [fpOne, Value.ownBlock] using hb
          intro e2
          cases e2
          exact absurd (hnS _ hmbS) (by omega)
      · intro b hb hb2
        have e : b = w.heap.size := by simpa [fpOne, Value.ownBlock] using hb
        have : S b := h.sub b (((fpOf_del n L).cons_cons mb).cons_cons d |>.subset hb2)
        exact absurd (hnS _ this) (by omega)
      · intro b hb
        have e : b = w.heap.size := by simpa [fpOne, Value.ownBlock] using hb
        exact .inr e
      · rintro b (hb | rfl)
        · exact Nat.lt_trans (hnS b hb) hlt
        · exact hlt
      · show 0 + usedF (delN F.n n M.fs) ≤ M.room
        have := usedF_del n M.fs
        have := h.used
        omega
    have Hend := Lib.hid (show Step S w d { M with fs := putN F.n ⟨n, [], 0⟩ M.fs } w2 from ⟨_, ⟨mb, p, _, hfin⟩, fun b hb => hb.imp id (fun e => Nat.le_of_eq e.symm), ⟨hc1.os, hc1.tape, hc1.output, hc1.size, fun b hb hns => hc1.block b hb (fun e => hns (e ▸ hmbS))⟩⟩)
    have k1 := (Chg.alloc (fun _ => False) w (.cells #[.slice none 0 0, .int .i64 0] 140)).cell hbd (fun h => h)
    have k2 := (Chg.alloc (fun _ => False) w (.cells #[.slice none 0 0, .int .i64 0] 140)).cell hbn (fun h => h)
    have k3 := (Chg.alloc (fun _ => False) w (.cells #[.slice none 0 0, .int .i64 0] 140)).cell c1 (fun h => h)
    clear h hfd hf hL hlen hd1 hown hg hc1 hmbS hlt hnS hfin hok fr c0 c2 c3
    unfold fileV
    go_enter Tryz.func82, Tryz.ntmps82
    go_wp2
    go_region
    go_wp2
    go_ret
    exact ⟨rfl, Hend.out⟩

theorem stepQ {S : Nat → Prop} {w w1 w2 : World} {d : Nat} {r : DM × Int} {e : Ending} (hc : Chg S w w1) (h : ActEnd S w1 d r e w2) : ActEnd S w d r e w2 := ⟨h.1, Step.after hc h.2⟩

set_option maxRecDepth 100000 in
set_option maxHeartbeats 3200000 in
theorem create_any {S : Nat → Prop} {w : World} {d : Nat} {M : DM} (h : DiskIn S w d M) (n : List UInt8) (hn : n.length ≤ 9223372036854775807) (hL : M.fs.length < 1000000) :
    Calls Tryz.prog 35 #[.pointer (some ⟨d, 0, none⟩), encStr n] w (ActEnd S w d (createM n M)) := by
  obtain ⟨mb, p, L, h⟩ := h
  have hb := ((Below.refl w.heap.size w).alloc (Nat.le_refl _) (.cells #[.pointer (some ⟨d, 0, none⟩)] 23)).alloc (o := .cells #[encStr n] 9) (by simp)
  have h2 := h.below hb
  have hbd : ((w.alloc (.cells #[.pointer (some ⟨d, 0, none⟩)] 23)).alloc (.cells #[encStr n] 9)).cell? ⟨w.heap.size, 0, none⟩ = some (.pointer (some ⟨d, 0, none⟩)) := by
    refine (Chg.alloc (fun _ => False) _ _).cell (cell_of_row _ _ _ _ _ (0, 0) (heap_alloc_new _ _)) (fun h => h)
  have hbn : ((w.alloc (.cells #[.pointer (some ⟨d, 0, none⟩)] 23)).alloc (.cells #[encStr n] 9)).cell? ⟨w.heap.size + 1, 0, none⟩ = some (encStr n) := by
    have := cell_of_row ((w.alloc (.cells #[.pointer (some ⟨d, 0, none⟩)] 23)).alloc (.cells #[encStr n] 9)) (w.heap.size + 1) 0 #[encStr n] 9 (0, 0) (by have := heap_alloc_new (w.alloc (.cells #[.pointer (some ⟨d, 0, none⟩)] 23)) (.cells #[encStr n] 9); simpa using this)
    exact this
  have hS0 : ∀ b, w.heap.size ≤ b → ¬ S b := fun b hb hs => absurd (h.bound b hs) (by omega)
  have HC := Lib.hid (carry_any h2 n hn 82 #[.pointer (some ⟨w.heap.size, 0, none⟩), .pointer (some ⟨w.heap.size + 1, 0, none⟩)] (by exact enters_of Tryz.func82 (by kernel_rfl) rfl) (ActEnd S w d (createM n M))
    (fun w' hD hc hdn => ⟨by unfold createM chgM; rw [if_pos hdn], by unfold createM chgM; rw [if_pos hdn]; exact Step.behind hb (Step.same hD hc)⟩)
    (fun w' hD hc hdn hnm => ⟨by unfold createM chgM; rw [if_neg (by rw [hdn]; decide), if_neg (by rw [hnm]; decide)], by unfold createM chgM; rw [if_neg (by rw [hdn]; decide), if_neg (by rw [hnm]; decide)]; exact Step.behind hb (Step.same hD hc)⟩)
    (fun p' w' hD hc hdn hnm => by
      have hl : (failM M).fs.length < 1000000 := by
        have e : (failM M).fs = M.fs := by unfold failM; split <;> (try split) <;> rfl
        rw [e]; exact hL
      refine (create1_any hD n hn hl _ _ (hc.cell hbd (hS0 _ (Nat.le_refl _))) (hc.cell hbn (hS0 _ (Nat.le_succ _)))).mono ?_
      rintro e w'' ⟨he, hst⟩
      refine ⟨⟨_, he⟩, ?_⟩
      unfold createM chgM
      rw [if_neg (by rw [hdn]; decide), if_pos hnm]
      exact ⟨he, Step.behind hb (Step.after hc hst)⟩))
  clear h h2 hb hbd hbn hS0
  go_enter Tryz.func35, Tryz.ntmps35
  go_wp2_with fail
  refine HC.out.mono ?_
  rintro e w' hq
  have Hq := Lib.hid hq
  obtain ⟨rfl, _⟩ := hq
  go_wp2
  go_ret
  exact Hq.out
end Go.Proofs.YtmiepigieajpcaaGreat

