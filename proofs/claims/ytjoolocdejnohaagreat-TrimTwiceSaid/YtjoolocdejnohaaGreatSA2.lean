import Derived.Test.YtjoolocdejnohaaGreatSA1
import Derived.StillTailTactics
import Derived.Shelf.Abstract
import Derived.Laws.Entries
import Derived.Deep.RegionHeld
import Derived.Outline
import Derived.Laws.EntriesVeiled
/- The walk of a disk's carryOut, whatever the change does. -/
namespace Go.Proofs.YtjoolocdejnohaaGreat
open Go.RowKit Go.Maps

set_option maxRecDepth 100000 in
set_option maxHeartbeats 3200000 in
theorem carry_any {S : Nat → Prop} {w : World} {d mb : Nat} {p : Int} {L : List FW} {M : DM} (h : DiskAt S w d mb p L M) (n : List UInt8) (hn : n.length ≤ 9223372036854775807)
    (k : Nat) (caps : Array Value) (hent : ∀ args w, (callFunc k args).run Tryz.prog w = .ok (.enter k args) w) (Q : Ending → World → Prop)
    (H10 : ∀ w', DiskIn S w' d (failM M) → Chg S w w' → (failM M).down = true → Q (.returned (.int .i64 10)) w')
    (H6 : ∀ w', DiskIn S w' d (failM M) → Chg S w w' → (failM M).down = false → named n = false → Q (.returned (.int .i64 6)) w')
    (HF : ∀ p' w', DiskAt S w' d mb p' L (failM M) → Chg S w w' → (failM M).down = false → named n = true → Calls Tryz.prog k (#[fileV (findN FW.n n L)] ++ caps) w' fun e w'' => (∃ v, e = .returned v) ∧ Q e w'') :
    Calls Tryz.prog 81 #[.pointer (some ⟨d, 0, none⟩), .agg #[encStr n, .func (.func k) #[] caps]] w Q := by
  have h1 := h.below ((Below.refl w.heap.size w).alloc (Nat.le_refl _) (.cells #[encStr n, .func (.func k) #[] caps] 143))
  have Hc1 := Lib.hid (Chg.alloc S w (.cells #[encStr n, .func (.func k) #[] caps] 143))
  have HFl := Lib.hid (fails_any h1)
  have HP := Lib.hid (fun w => possible_any n w)
  have hb : ¬ S w.heap.size := fun hs => absurd (h.bound _ hs) (Nat.lt_irrefl _)
  have Hb := Lib.hid hb
  have k0 : (w.alloc (.cells #[encStr n, .func (.func k) #[] caps] 143)).cell? ⟨w.heap.size, 0, none⟩ = some (encStr n) := cell_of_row _ _ _ _ _ (0, 0) (heap_alloc_new _ _)
  have k1 : (w.alloc (.cells #[encStr n, .func (.func k) #[] caps] 143)).cell? ⟨w.heap.size, 1, none⟩ = some (.func (.func k) #[] caps) := cell_of_row _ _ _ _ _ (0, 0) (heap_alloc_new _ _)
  have K0 := Lib.hid k0
  have K1 := Lib.hid k1
  have H10' := Lib.hid H10
  have H6' := Lib.hid H6
  have HF' := Lib.hid HF
  clear h h1 hb k0 k1 H10 H6 HF
  go_enter Tryz.func81, Tryz.ntmps81
  go_wp2_with fail
  refine HFl.out.mono ?_
  rintro e w1 ⟨rfl, ⟨p', hD⟩, hc, hsz⟩
  have HD := Lib.hid hD
  have Hc := Lib.hid (Hc1.out.same hc)
  have c0 := hc.cell K0.out Hb.out
  have c1 := hc.cell K1.out Hb.out
  obtain ⟨_, d1, _, _, _⟩ := hD.cells
  have hlk := hD.look n hn
  clear hD hc hsz
  cases hdn : (failM M).down with
  | true =>
    have Hdn := Lib.hid hdn
    clear hdn
    go_wp2
    exact H10'.out _ ⟨mb, p', L, HD.out⟩ Hc.out Hdn.out
  | false =>
    have Hdn := Lib.hid hdn
    clear hdn
    go_wp2_with fail
    refine (HP.out _).mono ?_
    rintro e w2 ⟨rfl, rfl⟩
    cases hnm : named n with
    | false =>
      have Hnm := Lib.hid hnm
      clear hnm
      go_wp2
      exact H6'.out _ ⟨mb, p', L, HD.out⟩ Hc.out Hdn.out Hnm.out
    | true =>
      have Hnm := Lib.hid hnm
      clear hnm
      go_wp2
      refine wp_region_still_tail 9 (by kernel_rfl) (by kernel_rfl) ?_
      simp only [List.take_succ_cons, List.take_zero, List.drop_succ_cons, List.drop_zero]
      have HD3 := Lib.hid (HD.out.below (Chg.below (S := fun _ => False) (Chg.drew _ w2) (fun _ h => h.elim) (Nat.le_refl _)))
      have Hc3 := Lib.hid (Hc.out.same (Chg.drew S w2))
      have c0 : w2.drew.cell? ⟨w.heap.size, 0, none⟩ = some (encStr n) := c0
      have c1 : w2.drew.cell? ⟨w.heap.size, 1, none⟩ = some (.func (.func k) #[] caps) := c1
      have d1 : w2.drew.cell? ⟨d, 1, none⟩ = some (.map (some mb)) := d1
      have hlk : (Instr.lookup 116 (.map (some mb)) (encStr n) false).run Tryz.prog w2.drew = .ok (fileV (findN FW.n n L)) w2.drew := HD3.out.look n hn
      change wpStill _ _ w2.drew (fun a' => wpList _ _ _ _ a' w2.drew) _ _
      have HF3 := Lib.hid (HF'.out p' w2.drew HD3.out Hc3.out Hdn.out Hnm.out)
      clear HD Hc HFl Hc1 HD3 Hc3 H10' H6' HF'
      generalize w2.drew = w3 at *
      repeat still_step
      refine wpStill_nil ?_
      go_wp2_with fail
      refine HF3.out.mono ?_
      rintro e w4 ⟨⟨v, rfl⟩, hq⟩
      have Hq := Lib.hid hq
      clear hq
      go_wp2
      exact Hq.out
end Go.Proofs.YtjoolocdejnohaaGreat

/- A disk's directory changes: a file is put in, taken out, or has another content. -/
namespace Go.Proofs.YtjoolocdejnohaaGreat
open Go.RowKit Go.Maps

theorem usedF_cons (x : F) (l : List F) : usedF (x :: l) = x.b.length + usedF l := by simp [usedF]
theorem usedF_perm {l l' : List F} (h : l.Perm l') : usedF l = usedF l' := (h.map _).sum_nat
theorem usedF_ins (x : F) (l : List F) : usedF (insN F.n x l) = x.b.length + usedF l := by rw [usedF_perm (perm_insN F.n x l), usedF_cons]
theorem usedF_del (n : List UInt8) : ∀ l : List F, usedF (delN F.n n l) ≤ usedF l
  | [] => Nat.le_refl _
  | y :: r => by
    have ih := usedF_del n r
    unfold delN at *
    rw [List.filter_cons]
    split
    · rw [usedF_cons, usedF_cons]; omega
    · rw [usedF_cons]; omega
theorem usedF_del_find {n : List UInt8} : ∀ {l : List F} {x : F}, findN F.n n l = some x → usedF (delN F.n n l) + x.b.length ≤ usedF l
  | [], x, h => by cases h
  | y :: r, x, h => by
    unfold findN at h
    rw [List.find?_cons] at h
    unfold delN
    rw [List.filter_cons]
    cases hy : y.n == n with
    | true =>
      rw [hy] at h
      simp only [Option.some.injEq] at h
      subst h
      rw [if_neg (by simp), usedF_cons]
      have := usedF_del n r
      unfold delN at this
      omega
    | false =>
      rw [hy] at h
      have ih := usedF_del_find (l := r) (n := n) (x := x) h
      unfold delN at ih
      rw [if_pos (by simp), usedF_cons, usedF_cons]
      omega

theorem fpOf_perm {L L' : List FW} (h : L.Perm L') : (fpOf L).Perm (fpOf L') := h.flatMap_right _
theorem fpOf_ins (x : FW) (L : List FW) : (fpOf (insN FW.n x L)).Perm (fpOne x ++ fpOf L) := by
  have := fpOf_perm (perm_insN FW.n x L)
  rwa [show fpOf (x :: L) = fpOne x ++ fpOf L from List.flatMap_cons ..] at this
theorem fpOf_sub {L L' : List FW} (h : L'.Sublist L) : (fpOf L').Sublist (fpOf L) := by
  unfold fpOf
  induction h with
  | slnil => exact List.Sublist.refl _
  | cons a h ih => rw [List.flatMap_cons]; exact List.Sublist.trans ih (List.sublist_append_right _ _)
  | cons_cons a h ih => rw [List.flatMap_cons, List.flatMap_cons]; exact List.Sublist.append (List.Sublist.refl _) ih
theorem fpOf_del (n : List UInt8) (L : List FW) : (fpOf (delN FW.n n L)).Sublist (fpOf L) := fpOf_sub (List.filter_sublist ..)

/-- Another directory. -/
theorem DiskAt.dir_set {S S' : Nat → Prop} {w w' : World} {d mb : Nat} {p : Int} {L L' : List FW} {M : DM} {fs : List F} (h : DiskAt S w d mb p L M) (hf : fs = L'.map FW.f) (hdir : w'.ownsMap Tryz.prog 9 ptrR mb L'.length (dirD L'))
    (hc : Chg (fun b => b = mb) w w') (hok : ∀ x ∈ L', FileOk w' x ∨ x ∈ L) (hap : (d :: mb :: fpOf L').Nodup) (hsub : ∀ b ∈ fpOf L', S' b) (hs : ∀ b, S b → S' b) (hb : ∀ b, S' b → b < w'.heap.size) (hu : usedF fs ≤ M.room) :
    DiskAt S' w' d mb p L' { M with fs := fs } := by
  have hnd := List.nodup_cons.1 h.apart
  have hnm := (List.nodup_cons.1 hnd.2).1
  have hdm : d ≠ mb := fun e => hnd.1 (by simp [e])
  refine ⟨hf, (hc.block d (h.bound d (h.sub d (by simp))) hdm).trans h.head, h.plan, h.lo, h.hi, hdir, fun x hx => ?_, hap, fun b hb' => ?_, hb, hu, h.room⟩
  · rcases hok x hx with h1 | h1
    · exact h1
    · exact (h.ok x h1).keep (fun b hb' => hc.block b (h.bound b (h.sub b (by simp [mem_fpOf h1 hb']))) (fun e => hnm (e ▸ mem_fpOf h1 hb')))
  · rcases List.mem_cons.1 hb' with e | e
    · rw [e]; exact hs d (h.sub d (by simp))
    · rcases List.mem_cons.1 e with e | e
      · rw [e]; exact hs mb (h.sub mb (by simp))
      · exact hsub b e

/-- A file is put in. -/
theorem DiskAt.put {S S' : Nat → Prop} {w w' : World} {d mb : Nat} {p : Int} {L : List FW} {M : DM} (h : DiskAt S w d mb p L M) (x : FW) (hdir : w'.ownsMap Tryz.prog 9 ptrR mb (L.length + 1) (dirD (putN FW.n x L)))
    (hc : Chg (fun b => b = mb) w w') (hx : FileOk w' x) (hfr : ∀ b ∈ fpOne x, b ∉ d :: mb :: fpOf (delN FW.n x.n L)) (hnd : (fpOne x).Nodup) (hsx : ∀ b ∈ fpOne x, S' b) (hs : ∀ b, S b → S' b) (hb : ∀ b, S' b → b < w'.heap.size)
    (hu : x.f.b.length + usedF (delN F.n x.n M.fs) ≤ M.room) : DiskAt S' w' d mb p (putN FW.n x L) { M with fs := putN F.n x.f M.fs } := by
  have hperm : (fpOf (putN FW.n x L)).Perm (fpOne x ++ fpOf (delN FW.n x.n L)) := fpOf_ins x _
  have hmem : ∀ y ∈ putN FW.n x L, y = x ∨ y ∈ L := fun y hy => ((mem_insN FW.n x _ y).1 hy).imp id (fun h => (List.mem_filter.1 h).1)
  have hdel : (d :: mb :: fpOf (delN FW.n x.n L)).Nodup := h.apart.sublist (((fpOf_del x.n L).cons_cons mb).cons_cons d)
  have hsz : w'.ownsMap Tryz.prog 9 ptrR mb (putN FW.n x L).length (dirD (putN FW.n x L)) := by
    obtain ⟨es, clock, hb0, F0, hs0, hD⟩ := hdir
    refine ⟨es, clock, hb0, F0, ?_, hD⟩
    have e1 := congrArg Maps.size hD
    rw [dirD_size] at e1
    rw [e1]
    show es.size ≤ List.length _
    rw [length_sorted]
    simp
  refine h.dir_set ?_ hsz hc (fun y hy => (hmem y hy).elim (fun e => .inl (e ▸ hx)) .inr) ?_ (fun b hb' => ?_) hs hb ?_
  · rw [h.files, putN_map FW.n F.n FW.f (fun _ => rfl)]
  · have e : (d :: mb :: fpOf (putN FW.n x L)).Perm (fpOne x ++ (d :: mb :: fpOf (delN FW.n x.n L))) := by
      refine ((hperm.cons mb).cons d).trans ?_
      refine List.Perm.trans (List.Perm.cons d (List.perm_middle.symm)) ?_
      exact List.perm_middle.symm
    rw [e.nodup_iff, List.nodup_append]
    exact ⟨hnd, hdel, fun a ha b hb' e => hfr a ha (e ▸ hb')⟩
  · rcases List.mem_append.1 (hperm.mem_iff.1 hb') with h1 | h1
    · exact hsx b h1
    · exact hs b (h.sub b (by simp [(fpOf_del x.n L).subset h1]))
  · show usedF (insN F.n x.f (delN F.n x.n M.fs)) ≤ M.room
    rw [usedF_ins]
    exact hu

/-- A file is taken out. -/
theorem DiskAt.out {S : Nat → Prop} {w w' : World} {d mb : Nat} {p : Int} {L : List FW} {M : DM} (h : DiskAt S w d mb p L M) (n : List UInt8) (hdir : w'.ownsMap Tryz.prog 9 ptrR mb L.length (dirD (delN FW.n n L)))
    (hc : Chg (fun b => b = mb) w w') : DiskAt S w' d mb p (delN FW.n n L) { M with fs := delN F.n n M.fs } := by
  have hsz : w'.ownsMap Tryz.prog 9 ptrR mb (delN FW.n n L).length (dirD (delN FW.n n L)) := by
    obtain ⟨es, clock, hb0, F0, hs0, hD⟩ := hdir
    refine ⟨es, clock, hb0, F0, ?_, hD⟩
    have e1 := congrArg Maps.size hD
    rw [dirD_size] at e1
    rw [e1]
    show es.size ≤ List.length _
    rw [length_sorted]
    simp
  refine h.dir_set ?_ hsz hc (fun y hy => .inr (List.mem_filter.1 hy).1) (h.apart.sublist (((fpOf_del n L).cons_cons mb).cons_cons d)) (fun b hb' => h.sub b (by simp [(fpOf_del n L).subset hb'])) (fun _ h => h)
    (fun b hb' => Nat.lt_of_lt_of_le (h.bound b hb') hc.size) (Nat.le_trans (usedF_del n _) h.used)
  rw [h.files, delN_map FW.n F.n FW.f (fun _ => rfl)]
end Go.Proofs.YtjoolocdejnohaaGreat

/- The walk of a disk's Create. -/
namespace Go.Proofs.YtjoolocdejnohaaGreat
open Go.RowKit Go.Maps Go.Shelf

/-- What a change answers and leaves. -/
def ActEnd (S : Nat → Prop) (w : World) (d : Nat) (r : DM × Int) (e : Ending) (w' : World) : Prop := e = .returned (.int .i64 r.2) ∧ Step S w d r.1 w'

theorem Step.after {S : Nat → Prop} {w w1 w2 : World} {d : Nat} {M : DM} (hc : Chg S w w1) (h : Step S w1 d M w2) : Step S w d M w2 := by
  obtain ⟨S', hD, hs, hc2⟩ := h
  exact ⟨S', hD, fun b hb => (hs b hb).imp id (fun h => Nat.le_trans hc.size h), hc.same hc2⟩

/-- .. where new memory has been made ahead. -/
theorem Step.behind {S : Nat → Prop} {w w1 w2 : World} {d : Nat} {M : DM} (hb : Below w.heap.size w w1) (h : Step S w1 d M w2) : Step S w d M w2 := h.after (Chg.of_below hb)

theorem own_nil (w : World) : w.ownsRow 0 5 1 (.slice none 0 0) 0 (u8s []) := World.ownsRow_nil w 0 _ 1

theorem fileOk_new (w : World) (n : List UInt8) : FileOk (w.alloc (.cells #[.slice none 0 0, .int .i64 0] 140)) ⟨⟨n, [], 0⟩, w.heap.size, .slice none 0 0⟩ :=
  ⟨heap_alloc_new _ _, own_nil _, (fun _ h => by cases h), Nat.le_refl _⟩

set_option maxRecDepth 100000 in
set_option maxHeartbeats 3200000 in
theorem create1_any {S : Nat → Prop} {w : World} {d mb : Nat} {p : Int} {L : List FW} {M : DM} (h : DiskAt S w d mb p L M) (n : List UInt8) (hn : n.length ≤ 9223372036854775807) (hL : M.fs.length < 1000000) (bd bn : Nat)
    (hbd : w.cell? ⟨bd, 0, none⟩ = some (.pointer (some ⟨d, 0, none⟩))) (hbn : w.cell? ⟨bn, 0, none⟩ = some (encStr n)) :
    Calls Tryz.prog 82 #[fileV (findN FW.n n L), .pointer (some ⟨bd, 0, none⟩), .pointer (some ⟨bn, 0, none⟩)] w
      (ActEnd S w d (match findN F.n n M.fs with | some _ => (M, 7) | none => ({ M with fs := putN F.n ⟨n, [], 0⟩ M.fs }, 0))) := by
  have hfd : findN F.n n M.fs = (findN FW.n n L).map FW.f := by rw [h.files]; exact findN_map FW.n F.n FW.f (fun _ => rfl) n L
  have hlen : L.length < 1000000 := by have := congrArg List.length h.files; rw [List.length_map] at this; omega
  rw [hfd]
  cases hf : findN FW.n n L with
  | some x =>
    have H := Lib.hid h
    clear h hfd hf hL hlen
    unfold fileV
    go_enter Tryz.func82, Tryz.ntmps82
    go_wp2
    go_ret
    exact ⟨rfl, Step.same ⟨mb, p, L, H.out⟩ (Chg.refl _ _)⟩
  | none =>
    obtain ⟨c0, c1, c2, c3, fr⟩ := h.cells
    have hok := fileOk_new w n
    have hd1 := (h.dir.alloc (.cells #[.slice none 0 0, .int .i64 0] 140)).drew
    obtain ⟨w2, hrun, hown, hg⟩ := hd1.update mapKey Tryz.underlying116 (by rw [maxLen_nat]; omega) (keyN n hn) (val := .pointer (some ⟨w.heap.size, 0, none⟩)) (d := .lit (.int .i64 (w.heap.size : Int))) (ps := []) rfl
    rw [show (dirD L).put (.string n) (.lit (.int .i64 (w.heap.size : Int))) = dirD (putN FW.n ⟨⟨n, [], 0⟩, w.heap.size, .slice none 0 0⟩ L) from dirD_put ⟨⟨n, [], 0⟩, w.heap.size, .slice none 0 0⟩ L] at hown
    have hc1 : Chg (fun b => b = mb) w w2 := ((Chg.alloc _ w _).same (Chg.drew _ _)).same (Chg.grown hg (fun k hk => by cases hk; exact .inl rfl))
    have hmbS : S mb := h.sub mb (by simp)
    have hlt : w.heap.size < w2.heap.size := Nat.lt_of_lt_of_le (by show w.heap.size < (w.alloc _).heap.size; simp) hg.size
    have hnS : ∀ b, S b → b < w.heap.size := h.bound
    have hfin : DiskAt (fun b => S b ∨ b = w.heap.size) w2 d mb p (putN FW.n ⟨⟨n, [], 0⟩, w.heap.size, .slice none 0 0⟩ L) { M with fs := putN F.n ⟨n, [], 0⟩ M.fs } := by
      refine h.put ⟨⟨n, [], 0⟩, w.heap.size, .slice none 0 0⟩ hown hc1 ?_ ?_ (List.nodup_cons.2 ⟨by simp [Value.ownBlock], List.nodup_nil⟩) ?_ (fun b hb => .inl hb) ?_ ?_
      · refine hok.keep (fun b hb => hg.block b ?_ ?_)
        · have e : b = w.heap.size := by simpa [fpOne, Value.ownBlock] using hb
          rw [e]; show w.heap.size < (w.alloc _).heap.size; simp
        · have e : b = w.heap.size := by simpa [fpOne, Value.ownBlock] using hb
          intro e2
          cases e2
          exact absurd (hnS _ hmbS) (by omega)
      · intro b hb hb2
        have e : b = w.heap.size := by simpa [fpOne, Value.ownBlock] using hb
        have : S b := h.sub b (((fpOf_del n L).cons_cons mb).cons_cons d |>.subset hb2)
        exact absurd (hnS _ this) (by omega)
      · intro b hb
        have e : b = w.heap.size := by simpa [fpOne, Value.ownBlock] using hb
        exact .inr e
      · rintro b (hb | rfl)
        · exact Nat.lt_trans (hnS b hb) hlt
        · exact hlt
      · show 0 + usedF (delN F.n n M.fs) ≤ M.room
        have := usedF_del n M.fs
        have := h.used
        omega
    have Hend := Lib.hid (show Step S w d { M with fs := putN F.n ⟨n, [], 0⟩ M.fs } w2 from ⟨_, ⟨mb, p, _, hfin⟩, fun b hb => hb.imp id (fun e => Nat.le_of_eq e.symm), ⟨hc1.os, hc1.tape, hc1.output, hc1.size, fun b hb hns => hc1.block b hb (fun e => hns (e ▸ hmbS))⟩⟩)
    have k1 := (Chg.alloc (fun _ => False) w (.cells #[.slice none 0 0, .int .i64 0] 140)).cell hbd (fun h => h)
    have k2 := (Chg.alloc (fun _ => False) w (.cells #[.slice none 0 0, .int .i64 0] 140)).cell hbn (fun h => h)
    have k3 := (Chg.alloc (fun _ => False) w (.cells #[.slice none 0 0, .int .i64 0] 140)).cell c1 (fun h => h)
    clear h hfd hf hL hlen hd1 hown hg hc1 hmbS hlt hnS hfin hok fr c0 c2 c3
    unfold fileV
    go_enter Tryz.func82, Tryz.ntmps82
    go_wp2
    go_region
    go_wp2
    go_ret
    exact ⟨rfl, Hend.out⟩

set_option maxRecDepth 100000 in
set_option maxHeartbeats 3200000 in
theorem create_any {S : Nat → Prop} {w : World} {d : Nat} {M : DM} (h : DiskIn S w d M) (n : List UInt8) (hn : n.length ≤ 9223372036854775807) (hL : M.fs.length < 1000000) :
    Calls Tryz.prog 35 #[.pointer (some ⟨d, 0, none⟩), encStr n] w (ActEnd S w d (createM n M)) := by
  obtain ⟨mb, p, L, h⟩ := h
  have hb := ((Below.refl w.heap.size w).alloc (Nat.le_refl _) (.cells #[.pointer (some ⟨d, 0, none⟩)] 23)).alloc (o := .cells #[encStr n] 9) (by simp)
  have h2 := h.below hb
  have hbd : ((w.alloc (.cells #[.pointer (some ⟨d, 0, none⟩)] 23)).alloc (.cells #[encStr n] 9)).cell? ⟨w.heap.size, 0, none⟩ = some (.pointer (some ⟨d, 0, none⟩)) := by
    refine (Chg.alloc (fun _ => False) _ _).cell (cell_of_row _ _ _ _ _ (0, 0) (heap_alloc_new _ _)) (fun h => h)
  have hbn : ((w.alloc (.cells #[.pointer (some ⟨d, 0, none⟩)] 23)).alloc (.cells #[encStr n] 9)).cell? ⟨w.heap.size + 1, 0, none⟩ = some (encStr n) := by
    have := cell_of_row ((w.alloc (.cells #[.pointer (some ⟨d, 0, none⟩)] 23)).alloc (.cells #[encStr n] 9)) (w.heap.size + 1) 0 #[encStr n] 9 (0, 0) (by have := heap_alloc_new (w.alloc (.cells #[.pointer (some ⟨d, 0, none⟩)] 23)) (.cells #[encStr n] 9); simpa using this)
    exact this
  have hS0 : ∀ b, w.heap.size ≤ b → ¬ S b := fun b hb hs => absurd (h.bound b hs) (by omega)
  have HC := Lib.hid (carry_any h2 n hn 82 #[.pointer (some ⟨w.heap.size, 0, none⟩), .pointer (some ⟨w.heap.size + 1, 0, none⟩)] (by exact enters_of Tryz.func82 (by kernel_rfl) rfl) (ActEnd S w d (createM n M))
    (fun w' hD hc hdn => ⟨by unfold createM chgM; rw [if_pos hdn], by unfold createM chgM; rw [if_pos hdn]; exact Step.behind hb (Step.same hD hc)⟩)
    (fun w' hD hc hdn hnm => ⟨by unfold createM chgM; rw [if_neg (by rw [hdn]; decide), if_neg (by rw [hnm]; decide)], by unfold createM chgM; rw [if_neg (by rw [hdn]; decide), if_neg (by rw [hnm]; decide)]; exact Step.behind hb (Step.same hD hc)⟩)
    (fun p' w' hD hc hdn hnm => by
      have hl : (failM M).fs.length < 1000000 := by
        have e : (failM M).fs = M.fs := by unfold failM; split <;> (try split) <;> rfl
        rw [e]; exact hL
      refine (create1_any hD n hn hl _ _ (hc.cell hbd (hS0 _ (Nat.le_refl _))) (hc.cell hbn (hS0 _ (Nat.le_succ _)))).mono ?_
      rintro e w'' ⟨he, hst⟩
      refine ⟨⟨_, he⟩, ?_⟩
      unfold createM chgM
      rw [if_neg (by rw [hdn]; decide), if_pos hnm]
      exact ⟨he, Step.behind hb (Step.after hc hst)⟩))
  clear h h2 hb hbd hbn hS0
  go_enter Tryz.func35, Tryz.ntmps35
  go_wp2_with fail
  refine HC.out.mono ?_
  rintro e w' hq
  have Hq := Lib.hid hq
  obtain ⟨rfl, _⟩ := hq
  go_wp2
  go_ret
  exact Hq.out
end Go.Proofs.YtjoolocdejnohaaGreat

/- The walk of a disk's Used. -/
namespace Go.Proofs.YtjoolocdejnohaaGreat
open Go.RowKit Go.Maps

theorem DiskAt.names {S : Nat → Prop} {w : World} {d mb : Nat} {p : Int} {L : List FW} {M : DM} (h : DiskAt S w d mb p L M) : L.Pairwise fun x y => x.n ≠ y.n := by
  obtain ⟨es, he, hp, _⟩ := h.dir.entries mapKey
  have e : es = L.map ent := (DataW.map.inj he).symm
  rw [e, List.pairwise_map] at hp
  exact hp.imp (fun hne e => hne (congrArg Lit.string e))

/-- The bytes of the files whose keys are no longer to come. -/
def metW (left : Lit → Bool) (L : List FW) : Nat := ((L.filter fun x => !left (.string x.n)).map fun x => x.f.b.length).sum

theorem metW_cons (left : Lit → Bool) (x : FW) (L : List FW) : metW left (x :: L) = (if left (.string x.n) = true then 0 else x.f.b.length) + metW left L := by
  unfold metW
  rw [List.filter_cons]
  cases left (.string x.n) <;> simp

theorem metW_le (left : Lit → Bool) : ∀ L : List FW, metW left L ≤ usedF (L.map FW.f)
  | [] => Nat.le_refl _
  | x :: L => by
    have ih := metW_le left L
    rw [metW_cons, List.map_cons]
    show _ ≤ ((x.f :: L.map FW.f).map fun f => f.b.length).sum
    rw [List.map_cons, List.sum_cons]
    unfold usedF at ih
    split <;> omega

theorem metW_none {left : Lit → Bool} : ∀ {L : List FW}, (∀ x ∈ L, left (.string x.n) = true) → metW left L = 0
  | [], _ => rfl
  | x :: L, h => by rw [metW_cons, if_pos (h x (by simp)), metW_none (fun y hy => h y (by simp [hy]))]

theorem metW_all {left : Lit → Bool} : ∀ {L : List FW}, (∀ kl, left kl = false) → metW left L = usedF (L.map FW.f)
  | [], _ => rfl
  | x :: L, h => by
    rw [metW_cons, if_neg (by rw [h]; decide), metW_all h, List.map_cons]
    show _ = ((x.f :: L.map FW.f).map fun f => f.b.length).sum
    rw [List.map_cons, List.sum_cons]
    rfl

theorem metW_skip {left : Lit → Bool} {n : List UInt8} : ∀ {L : List FW}, (∀ x ∈ L, x.n ≠ n) → metW (fun z => left z && !z.sameKey (.string n)) L = metW left L
  | [], _ => rfl
  | x :: L, h => by
    rw [metW_cons, metW_cons, metW_skip (fun y hy => h y (by simp [hy]))]
    have e : (Lit.string x.n).sameKey (.string n) = false := by
      show (x.n == n) = false
      exact beq_eq_false_iff_ne.2 (h x (by simp))
    rw [e, Bool.not_false, Bool.and_true]

theorem metW_step {left : Lit → Bool} {x0 : FW} : ∀ {L : List FW}, (L.Pairwise fun x y => x.n ≠ y.n) → x0 ∈ L → left (.string x0.n) = true → metW (fun z => left z && !z.sameKey (.string x0.n)) L = metW left L + x0.f.b.length
  | [], _, h, _ => by cases h
  | x :: L, hp, hx, hl => by
    obtain ⟨hp1, hp2⟩ := List.pairwise_cons.1 hp
    rw [metW_cons, metW_cons]
    rcases List.mem_cons.1 hx with e | hx
    · rw [← e, metW_skip (fun y hy => fun e2 => hp1 y hy (by rw [← e]; exact e2.symm)), if_pos hl]
      have e3 : (Lit.string x0.n).sameKey (.string x0.n) = true := by show (x0.n == x0.n) = true; exact beq_self_eq_true _
      rw [if_neg (by rw [e3]; simp)]
      omega
    · have e3 : (Lit.string x.n).sameKey (.string x0.n) = false := by
        show (x.n == x0.n) = false
        exact beq_eq_false_iff_ne.2 (hp1 x0 hx)
      rw [metW_step hp2 hx hl, e3, Bool.not_false, Bool.and_true]
      omega

/-- A pointer to a file, or nil. -/
def ptrV : Option Nat → Value
  | none => .pointer none
  | some b => .pointer (some ⟨b, 0, none⟩)

theorem ptrR_inv {v : Value} {y : DataW Unit × List MemPlace} (h : ptrR v = some y) : ∃ c, v = ptrV c := by
  unfold ptrR at h
  split at h
  · exact ⟨none, rfl⟩
  · exact ⟨some _, rfl⟩
  · cases h

theorem found_of_at {n : List UInt8} {L : List FW} {y : DataW Unit} (h : ∀ z, (dirD L).atKey (.string n) z = y) : ∃ x ∈ L, x.n = n ∧ y = .lit (.int .i64 (x.blk : Int)) := by
  have h1 := h .nil
  have h2 := h (.lit (.bool true))
  rw [dirD_at] at h1 h2
  cases hf : findN FW.n n L with
  | none =>
    rw [hf] at h1 h2
    rw [← h1] at h2
    cases h2
  | some x =>
    rw [hf] at h1
    exact ⟨x, (findN_some hf).1, (findN_some hf).2, h1.symm⟩

theorem ptr_found {c : Option Nat} {x : FW} {ps : List MemPlace} (h : ptrR (ptrV c) = some (.lit (.int .i64 (x.blk : Int)), ps)) : c = some x.blk := by
  cases c with
  | none => cases h
  | some b =>
    have h1 : (DataW.lit (.int .i64 (b : Int)) : DataW Unit) = .lit (.int .i64 (x.blk : Int)) := by
      have := Option.some.inj h
      exact congrArg Prod.fst this
    have h2 := Lit.int.inj (DataW.lit.inj h1)
    have : b = x.blk := by omega
    rw [this]

theorem own_len {w : World} {base n : Nat} {e : TypeId} {v : Value} {xs : List Value} (h : w.ownsRow base e 1 v n xs) : ∃ a c, v = .slice a n c ∧ n ≤ c ∧ c ≤ 9223372036854775807 := by
  rcases h.2 with ⟨rfl, rfl⟩ | ⟨g, cap, cur, rfl, _, _, h1, h2, _⟩
  · exact ⟨none, 0, rfl, Nat.le_refl _, by omega⟩
  · exact ⟨_, cap, rfl, h1, by rw [maxLen_nat] at h2; exact h2⟩

set_option maxRecDepth 100000 in
set_option maxHeartbeats 3200000 in
theorem used_any {S : Nat → Prop} {w : World} {d : Nat} {M : DM} (h : DiskIn S w d M) :
    Calls Tryz.prog 43 #[.pointer (some ⟨d, 0, none⟩)] w fun e w' => e = .returned (.int .i64 (usedF M.fs : Int)) ∧ Below w.heap.size w w' := by
  obtain ⟨mb, p, L, h⟩ := h
  obtain ⟨c0, c1, c2, c3, fr⟩ := h.cells
  have H := Lib.hid h
  have hown := h.dir
  have Hu := Lib.hid (show usedF M.fs < 9223372036854775808 from Nat.lt_of_le_of_lt h.used h.room)
  have Hf := Lib.hid h.files
  have Hmb := Lib.hid (h.bound mb (h.sub mb (by simp)))
  clear h fr c0 c2 c3
  go_enter Tryz.func43, Tryz.ntmps43
  go_wp2_with (first
    | (at_range; refine wpList_range_own _ rfl _ 116 rfl 9 125 mapKey Tryz.underlying116 _ mb L.length _ rfl hown ?_; intro w0 hrg0 hg0 hs0)
    | go_in)
  go_frame
  go_loopw [3, 5] (fun i _ wr => ∃ (left : Lit → Bool) (cnt : Nat), i = .int .i64 (metW left L : Int) ∧ wr.ranges Tryz.prog 9 ptrR mb w.heap.size L.length (dirD L) left cnt ∧ Below w.heap.size w wr)
    (fun _ _ wr => wr.rangeLeft mb w.heap.size)
  case atStart =>
    refine ⟨_, _, ?_, hrg0, (Below.refl _ _).grown (hg0.but none) (Nat.le_refl _) (fun j hj => by cases hj)⟩
    rw [metW_none (fun x hx => ?_)]
    · rfl
    · show (L.map ent).any _ = true
      rw [List.any_eq_true]
      exact ⟨ent x, List.mem_map.2 ⟨x, hx, rfl⟩, by show (x.n == x.n) = true; exact beq_self_eq_true _⟩
  case round =>
    obtain ⟨left, cnt, rfl, hrg, hbw⟩ := hrel
    have Hbw := Lib.hid hbw
    clear hbw
    have hml := metW_le left L
    rw [← Hf.out] at hml
    have hml2 := Hu.out
    go_wp2_with (first
      | (at_next; refine wpList_next_ranges _ rfl _ rfl 9 mapKey ptrR encStr ptrV (fun key kl hk => by obtain ⟨x, hx, _⟩ := Maps.keyOf_str Tryz.underlying9 hk; exact ⟨x, hx⟩) (fun v y hv => ptrR_inv hv) mb w.heap.size L.length _ _ _ rfl hrg ?_ ?_)
      | go_in)
    · intro _ hl0
      have Hend := Lib.hid (show metW left L = usedF M.fs from by rw [metW_all hl0, Hf.out])
      clear hl0
      go_wp2
      go_ret
      exact ⟨by rw [← Hend.out]; rfl, Hbw.out⟩
    · intro x c kl yd yp w2 cnt2 hkey hlk hv hat hrg2 hlt hg2 hs2 hen
      obtain ⟨x', ex, rfl, _⟩ := Maps.keyOf_str Tryz.underlying9 hkey
      obtain rfl : x = x' := encStr_inj ex
      clear ex
      obtain ⟨x0, hx0, rfl, rfl⟩ := found_of_at hat
      obtain rfl := ptr_found hv
      have hb2 := Hbw.out.grown hg2 Hbw.out.size (fun j hj => by cases hj; exact Nat.le_refl _)
      have Hb2 := Lib.hid hb2
      have hok2 := (H.out.below hb2).ok x0 hx0
      obtain ⟨f0, _, _⟩ := hok2.cells
      obtain ⟨a, cp, hv0, _, _⟩ := own_len hok2.row
      rw [hv0] at f0
      have Hst := Lib.hid (metW_step H.out.names hx0 hlk)
      have hle : metW (fun z => left z && !z.sameKey (.string x0.n)) L ≤ usedF M.fs := by rw [Hf.out]; exact metW_le _ _
      rw [metW_step H.out.names hx0 hlk] at hle
      have hsum : (metW left L : Int) + (x0.f.b.length : Int) < 9223372036854775808 := by omega
      have hsum0 : (0 : Int) ≤ (metW left L : Int) + (x0.f.b.length : Int) := by omega
      clear hs2 hkey hlk hv hat hx0 hb2 hok2 hv0 hle hml hml2 hg2
      unfold ptrV at hen ⊢
      go_wp2
      go_roundw
      case rel => exact ⟨_, cnt2, by rw [Hst.out]; go_num, hrg2, Hb2.out⟩
      case measure => rw [hrg2.left_eq, hrg.left_eq]; exact hlt
end Go.Proofs.YtjoolocdejnohaaGreat

/- The walks of a disk's onFile; a change of a file, whatever it does. -/
namespace Go.Proofs.YtjoolocdejnohaaGreat
open Go.RowKit Go.Maps Go.Shelf

set_option maxRecDepth 100000 in
set_option maxHeartbeats 3200000 in
theorem onfile_any (n : List UInt8) (k : Nat) (caps : Array Value) (w : World) :
    Calls Tryz.prog 100 #[encStr n, .func (.func k) #[] caps] w fun e w' => e = .returned (.agg #[encStr n, .func (.func 142) #[] #[.pointer (some ⟨w.heap.size, 0, none⟩)]]) ∧
      Below w.heap.size w w' ∧ w'.cell? ⟨w.heap.size, 0, none⟩ = some (.func (.func k) #[] caps) ∧ w.heap.size < w'.heap.size := by
  have hb := ((Below.refl w.heap.size w).alloc (Nat.le_refl _) (.cells #[.func (.func k) #[] caps] 141)).alloc (by simp) (.cells #[encStr n, .func (.func 142) #[] #[.pointer (some ⟨w.heap.size, 0, none⟩)]] 143)
  have Hb := Lib.hid hb
  have hc : ((w.alloc (.cells #[.func (.func k) #[] caps] 141)).alloc (.cells #[encStr n, .func (.func 142) #[] #[.pointer (some ⟨w.heap.size, 0, none⟩)]] 143)).cell? ⟨w.heap.size, 0, none⟩ = some (.func (.func k) #[] caps) :=
    (Chg.alloc (fun _ => False) _ _).cell (cell_of_row _ _ _ _ _ (0, 0) (heap_alloc_new _ _)) (fun h => h)
  have Hc := Lib.hid hc
  have Hsz := Lib.hid (show w.heap.size < ((w.alloc (.cells #[.func (.func k) #[] caps] 141)).alloc (.cells #[encStr n, .func (.func 142) #[] #[.pointer (some ⟨w.heap.size, 0, none⟩)]] 143)).heap.size from by simp; omega)
  clear hb hc
  go_enter Tryz.func100, Tryz.ntmps100
  go_wp2
  refine bodyPost_ret (v := .agg #[encStr n, .func (.func 142) #[] #[.pointer (some ⟨w.heap.size, 0, none⟩)]]) (by simp [results, Tryz.results100, go_sem]) rfl ⟨rfl, Hb.out, Hc.out, Hsz.out⟩

set_option maxRecDepth 100000 in
set_option maxHeartbeats 3200000 in
theorem onfile1_any (x : Option FW) (b k : Nat) (caps : Array Value) (w : World) (hent : ∀ args w, (callFunc k args).run Tryz.prog w = .ok (.enter k args) w) (hc : w.cell? ⟨b, 0, none⟩ = some (.func (.func k) #[] caps)) (Q : Ending → World → Prop)
    (H6 : x = none → Q (.returned (.int .i64 6)) w) (HF : ∀ y, x = some y → Calls Tryz.prog k (#[.pointer (some ⟨y.blk, 0, none⟩)] ++ caps) w fun e w' => (∃ v, e = .returned v) ∧ Q e w') :
    Calls Tryz.prog 142 #[fileV x, .pointer (some ⟨b, 0, none⟩)] w fun e w' => (∃ v, e = .returned v) ∧ Q e w' := by
  cases x with
  | none =>
    have H := Lib.hid (H6 rfl)
    clear H6 HF
    unfold fileV
    go_enter Tryz.func142, Tryz.ntmps142
    go_wp2
    go_ret
    exact ⟨⟨_, rfl⟩, H.out⟩
  | some y =>
    have H := Lib.hid (HF y rfl)
    clear H6 HF
    unfold fileV
    go_enter Tryz.func142, Tryz.ntmps142
    go_wp2_with fail
    refine H.out.mono ?_
    rintro e w4 ⟨⟨v, rfl⟩, hq⟩
    have Hq := Lib.hid hq
    clear hq
    go_wp2
    go_ret
    exact ⟨⟨_, rfl⟩, Hq.out⟩
end Go.Proofs.YtjoolocdejnohaaGreat

/- A file of a disk has another content. -/
namespace Go.Proofs.YtjoolocdejnohaaGreat
open Go.RowKit Go.Maps

theorem fpOf_mid (A B : List FW) (x : FW) : (fpOf (A ++ x :: B)).Perm (fpOne x ++ fpOf (A ++ B)) := by
  have h1 : (A ++ x :: B).Perm (x :: (A ++ B)) := List.perm_middle
  have := fpOf_perm h1
  rwa [show fpOf (x :: (A ++ B)) = fpOne x ++ fpOf (A ++ B) from List.flatMap_cons ..] at this

theorem apart_mid (d mb : Nat) (A B : List FW) (x : FW) : (d :: mb :: fpOf (A ++ x :: B)).Perm (fpOne x ++ (d :: mb :: fpOf (A ++ B))) := by
  refine (((fpOf_mid A B x).cons mb).cons d).trans ?_
  exact List.Perm.trans (List.Perm.cons d (List.perm_middle.symm)) List.perm_middle.symm

theorem setN_mid {A B : List FW} {x x' : FW} (hn : x.n = x'.n) (h : ∀ y ∈ A ++ B, y.n ≠ x'.n) : setN FW.n x' (A ++ x :: B) = A ++ x' :: B := by
  have hs : ∀ l : List FW, (∀ y ∈ l, y.n ≠ x'.n) → setN FW.n x' l = l := by
    intro l hl
    unfold setN
    rw [List.map_congr_left (g := id) (fun y hy => by rw [if_neg (by rw [beq_iff_eq]; exact hl y hy)]; rfl), List.map_id]
  have hA := hs A (fun y hy => h y (by simp [hy]))
  have hB := hs B (fun y hy => h y (by simp [hy]))
  unfold setN at *
  rw [List.map_append, List.map_cons, hA, hB, if_pos (by rw [beq_iff_eq]; exact hn)]

theorem used_mid (A B : List FW) (x : FW) : usedF ((A ++ x :: B).map FW.f) = x.f.b.length + usedF ((A ++ B).map FW.f) := by
  have h1 : (A ++ x :: B).Perm (x :: (A ++ B)) := List.perm_middle
  rw [usedF_perm (h1.map FW.f), List.map_cons, usedF_cons]

/-- The content of the file x is now f', in the slice v'. -/
theorem DiskAt.file_set {S S' : Nat → Prop} {w w' : World} {d mb : Nat} {p : Int} {L : List FW} {M : DM} (h : DiskAt S w d mb p L M) {x : FW} (hx : x ∈ L) (f' : F) (v' : Value) (hn : f'.n = x.f.n)
    (hok : FileOk w' ⟨f', x.blk, v'⟩) (hc : Chg (fun b => b ∈ fpOne x) w w') (hv : v'.ownBlock = none ∨ v'.ownBlock = x.v.ownBlock ∨ ∃ g, v'.ownBlock = some g ∧ w.heap.size ≤ g ∧ S' g)
    (hs : ∀ b, S b → S' b) (hb : ∀ b, S' b → b < w'.heap.size) (hu : usedF M.fs + f'.b.length ≤ M.room + x.f.b.length) :
    DiskAt S' w' d mb p (setN FW.n ⟨f', x.blk, v'⟩ L) { M with fs := setN F.n f' M.fs } := by
  obtain ⟨A, B, rfl⟩ := List.append_of_mem hx
  have hnm := h.names
  have hne : ∀ y ∈ A ++ B, y.n ≠ x.n := by
    intro y hy
    rw [List.pairwise_append] at hnm
    obtain ⟨_, h2, h3⟩ := hnm
    rcases List.mem_append.1 hy with hy | hy
    · exact h3 y hy x (by simp)
    · exact fun e => (List.pairwise_cons.1 h2).1 y hy e.symm
  have hset := setN_mid (A := A) (B := B) (x := x) (x' := ⟨f', x.blk, v'⟩) hn.symm (fun y hy => by show y.n ≠ f'.n; rw [hn]; exact hne y hy)
  rw [hset]
  have hap := (apart_mid d mb A B x).nodup_iff.1 h.apart
  obtain ⟨n1, n2, n3⟩ := List.nodup_append.1 hap
  have hrest : ∀ b ∈ d :: mb :: fpOf (A ++ B), S b := fun b hb => h.sub b ((apart_mid d mb A B x).mem_iff.2 (List.mem_append_right _ hb))
  have hfpx : ∀ b ∈ fpOne x, S b := fun b hb => h.sub b ((apart_mid d mb A B x).mem_iff.2 (List.mem_append_left _ hb))
  have hkeep : ∀ b ∈ d :: mb :: fpOf (A ++ B), w'.heap[b]? = w.heap[b]? := fun b hb => hc.block b (h.bound b (hrest b hb)) (fun hbx => n3 b hbx b hb rfl)
  have hfp' : ∀ b ∈ fpOne ⟨f', x.blk, v'⟩, b ∈ fpOne x ∨ (w.heap.size ≤ b ∧ S' b) := by
    intro b hb
    rcases List.mem_cons.1 hb with e | hb
    · exact .inl (by rw [e]; exact List.mem_cons_self ..)
    · rcases hv with hv | hv | ⟨g, hv, hg, hgS⟩
      · rw [show (⟨f', x.blk, v'⟩ : FW).v.ownBlock = none from hv] at hb; cases hb
      · rw [show (⟨f', x.blk, v'⟩ : FW).v.ownBlock = x.v.ownBlock from hv] at hb
        exact .inl (List.mem_cons_of_mem _ hb)
      · rw [show (⟨f', x.blk, v'⟩ : FW).v.ownBlock = some g from hv] at hb
        have e : b = g := by simpa using hb
        rw [e]; exact .inr ⟨hg, hgS⟩
  have hnd' : (fpOne ⟨f', x.blk, v'⟩).Nodup := by
    refine List.nodup_cons.2 ⟨fun hb => ?_, by cases (⟨f', x.blk, v'⟩ : FW).v.ownBlock <;> simp⟩
    rcases hv with hv | hv | ⟨g, hv, hg, _⟩
    · rw [show (⟨f', x.blk, v'⟩ : FW).v.ownBlock = none from hv] at hb; cases hb
    · rw [show (⟨f', x.blk, v'⟩ : FW).v.ownBlock = x.v.ownBlock from hv] at hb
      exact (List.nodup_cons.1 n1).1 hb
    · rw [show (⟨f', x.blk, v'⟩ : FW).v.ownBlock = some g from hv] at hb
      have e : x.blk = g := by simpa using hb
      have := h.bound x.blk (hfpx x.blk (List.mem_cons_self ..))
      omega
  have hmemAB : ∀ y ∈ A ++ x :: B, y ∈ A ++ B ∨ y = x := by
    intro y hy
    simp only [List.mem_append, List.mem_cons] at hy ⊢
    rcases hy with hy | hy | hy
    · exact .inl (.inl hy)
    · exact .inr hy
    · exact .inl (.inr hy)
  have hent : dirD (A ++ ⟨f', x.blk, v'⟩ :: B) = dirD (A ++ x :: B) := by
    unfold dirD
    rw [List.map_append, List.map_append, List.map_cons, List.map_cons]
    have e : ent ⟨f', x.blk, v'⟩ = ent x := by show (Lit.string f'.n, _) = (Lit.string x.f.n, _); rw [hn]
    rw [e]
  have hfs : setN F.n f' M.fs = (A ++ ⟨f', x.blk, v'⟩ :: B).map FW.f := by
    rw [h.files, ← hset, setN_map FW.n F.n FW.f (fun _ => rfl)]
  refine ⟨hfs, (hkeep d (by simp)).trans h.head, h.plan, h.lo, h.hi, ?_, ?_, ?_, ?_, hb, ?_, h.room⟩
  · rw [hent]
    have := map_of_heap h.dir (hkeep mb (by simp))
    have e : (A ++ x :: B).length = (A ++ ⟨f', x.blk, v'⟩ :: B).length := by simp
    rw [← e]
    exact this
  · intro y hy
    simp only [List.mem_append, List.mem_cons] at hy
    have hyAB : y = ⟨f', x.blk, v'⟩ ∨ y ∈ A ++ B := by
      rcases hy with hy | hy | hy
      · exact .inr (by simp [hy])
      · exact .inl hy
      · exact .inr (by simp [hy])
    rcases hyAB with e | hy2
    · rw [e]; exact hok
    · have hyL : y ∈ A ++ x :: B := by simp only [List.mem_append, List.mem_cons] at hy2 ⊢; rcases hy2 with h1 | h1 <;> simp [h1]
      exact (h.ok y hyL).keep (fun b hb' => hkeep b (by simp [mem_fpOf hy2 hb']))
  · refine (apart_mid d mb A B ⟨f', x.blk, v'⟩).nodup_iff.2 (List.nodup_append.2 ⟨hnd', n2, fun a ha b hb' e => ?_⟩)
    rcases hfp' a ha with h1 | ⟨h1, _⟩
    · exact n3 a h1 b hb' e
    · have := h.bound b (hrest b hb')
      omega
  · intro b hb'
    rcases List.mem_append.1 ((apart_mid d mb A B ⟨f', x.blk, v'⟩).mem_iff.1 hb') with h1 | h1
    · rcases hfp' b h1 with h2 | h2
      · exact hs b (hfpx b h2)
      · exact h2.2
    · exact hs b (hrest b h1)
  · show usedF (setN F.n f' M.fs) ≤ M.room
    rw [hfs, used_mid]
    have h1 := hu
    rw [h.files, used_mid] at h1
    show f'.b.length + _ ≤ M.room
    omega
end Go.Proofs.YtjoolocdejnohaaGreat

