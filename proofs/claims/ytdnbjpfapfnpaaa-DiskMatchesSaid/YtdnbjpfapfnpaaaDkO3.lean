/- The walks of a disk's Sync and Append. -/
import Derived.Test.YtdnbjpfapfnpaaaDkO2
import Derived.Test.YtdnbjpfapfnpaaaDkS
import Derived.Outline
import Derived.Laws.OwnMore
namespace Go.Proofs.Ytdnbjpfapfnpaaa
open Go.RowKit Go.Maps Go.Shelf

theorem failM_fs (M : DM) : (failM M).fs = M.fs := by unfold failM; split <;> (try split) <;> rfl

/-- carryOut of a change that onFile has made. -/
theorem change_any {S : Nat → Prop} {w : World} {d : Nat} {M : DM} (h : DiskIn S w d M) (n : List UInt8) (hn : n.length ≤ 9223372036854775807) (k b : Nat) (caps : Array Value)
    (hent : ∀ args w, (callFunc k args).run Try.prog w = .ok (.enter k args) w) (hb : w.cell? ⟨b, 0, none⟩ = some (.func (.func k) #[] caps)) (hS : ¬ S b) (act : F → DM → DM × Int)
    (HF : ∀ mb p L w' x, DiskAt S w' d mb p L (failM M) → Chg S w w' → findN FW.n n L = some x → Calls Try.prog k (#[.pointer (some ⟨x.blk, 0, none⟩)] ++ caps) w' (ActEnd S w' d (act x.f (failM M)))) :
    Calls Try.prog 29 #[.pointer (some ⟨d, 0, none⟩), .agg #[encStr n, .func (.func 46) #[] #[.pointer (some ⟨b, 0, none⟩)]]] w (ActEnd S w d (chgM M n (onM n act))) := by
  obtain ⟨mb, p, L, h⟩ := h
  refine carry_any h n hn 46 #[.pointer (some ⟨b, 0, none⟩)] (by exact enters_of Try.func46 (by kernel_rfl) rfl) _ ?_ ?_ ?_
  · intro w' hD hc hdn
    unfold chgM
    rw [if_pos hdn]
    exact ⟨rfl, Step.same hD hc⟩
  · intro w' hD hc hdn hnm
    unfold chgM
    rw [if_neg (by rw [hdn]; decide), if_neg (by rw [hnm]; decide)]
    exact ⟨rfl, Step.same hD hc⟩
  · intro p' w' hD hc hdn hnm
    have e : chgM M n (onM n act) = onM n act (failM M) := by unfold chgM; rw [if_neg (by rw [hdn]; decide), if_pos hnm]
    have e2 : onM n act (failM M) = match (findN FW.n n L).map FW.f with | none => (failM M, 6) | some f => act f (failM M) := by
      unfold onM
      rw [hD.files, findN_map FW.n F.n FW.f (fun _ => rfl)]
      cases (findN FW.n n L).map FW.f <;> rfl
    rw [e, e2]
    refine onfile1_any (findN FW.n n L) b k caps w' hent (hc.cell hb hS) _ (fun hx => ?_) (fun y hy => ?_)
    · rw [hx]
      exact ⟨rfl, Step.same ⟨mb, p', L, hD⟩ hc⟩
    · rw [hy]
      refine (HF mb p' L w' y hD hc hy).mono ?_
      rintro e w'' ⟨he, hst⟩
      exact ⟨⟨_, he⟩, he, Step.after hc hst⟩

theorem setN_name {x : FW} {n : List UInt8} {L : List FW} (h : findN FW.n n L = some x) : x ∈ L ∧ x.f.n = n := findN_some h

set_option maxRecDepth 100000 in
set_option maxHeartbeats 3200000 in
theorem sync1_any {S : Nat → Prop} {w : World} {d mb : Nat} {p : Int} {L : List FW} {M : DM} (h : DiskAt S w d mb p L M) (n : List UInt8) {x : FW} (hx : findN FW.n n L = some x) :
    Calls Try.prog 35 #[.pointer (some ⟨x.blk, 0, none⟩)] w (ActEnd S w d ({ M with fs := setN F.n ⟨n, x.f.b, x.f.b.length⟩ M.fs }, 0)) := by
  obtain ⟨hxL, rfl⟩ := setN_name hx
  have hok := h.ok x hxL
  obtain ⟨f0, f1, fr⟩ := hok.cells
  obtain ⟨a, cp, hv, hle, hcm⟩ := own_len hok.row
  have fr1 := fr 1
  have hSx : S x.blk := h.sub _ (by simp [mem_fpOf hxL (List.mem_cons_self ..)])
  have hb2 : (w.setCell ⟨x.blk, 1, none⟩ (.int .i64 (x.f.b.length : Int))).heap[x.blk]? = some (.cells #[x.v, .int .i64 (x.f.b.length : Int)] 70 (0, 0)) := by
    have := set_head (i := 1) hok.blk (.int .i64 (x.f.b.length : Int))
    simpa using this
  have hne : ∀ b, x.v.ownBlock = some b → b ≠ x.blk := by
    intro b hb e
    have hnd : (fpOne x).Nodup := by
      obtain ⟨A, B, rfl⟩ := List.append_of_mem hxL
      exact (List.nodup_append.1 ((apart_mid d mb A B x).nodup_iff.1 h.apart)).1
    exact (List.nodup_cons.1 hnd).1 (by rw [hb, e]; simp)
  have hC : ∀ T : Nat → Prop, T x.blk → Chg T w (w.setCell ⟨x.blk, 1, none⟩ (.int .i64 (x.f.b.length : Int))) := fun T hT => Chg.set T w hT _
  have hE := h.file_set hxL ⟨x.f.n, x.f.b, x.f.b.length⟩ x.v rfl (w' := w.setCell ⟨x.blk, 1, none⟩ (.int .i64 (x.f.b.length : Int)))
    ⟨hb2, row_of_heap hok.row (fun b hb => (hC (fun b => b = x.blk) rfl).block b (h.bound b (h.sub b (by simp [mem_fpOf hxL (show b ∈ fpOne x by simp [fpOne, hb])]))) (hne b hb)), hok.byte, Nat.le_refl _⟩
    (hC _ (List.mem_cons_self ..)) (.inr (.inl rfl)) (fun b h => h) (fun b hb => by simpa using h.bound b hb) (by have := h.used; show usedF M.fs + x.f.b.length ≤ _; omega)
  have HE := Lib.hid (show Step S w d { M with fs := setN F.n ⟨x.f.n, x.f.b, x.f.b.length⟩ M.fs } (w.setCell ⟨x.blk, 1, none⟩ (.int .i64 (x.f.b.length : Int))) from Step.same ⟨mb, p, _, hE⟩ (hC S hSx))
  rw [hv] at f0
  clear h hx hxL hok fr hv hle hcm hSx hb2 hne hC hE
  go_enter Try.func35, Try.ntmps35
  go_wp2
  go_ret
  exact ⟨rfl, HE.out⟩

set_option maxRecDepth 100000 in
set_option maxHeartbeats 3200000 in
theorem sync_any {S : Nat → Prop} {w : World} {d : Nat} {M : DM} (h : DiskIn S w d M) (n : List UInt8) (hn : n.length ≤ 9223372036854775807) :
    Calls Try.prog 18 #[.pointer (some ⟨d, 0, none⟩), encStr n] w (ActEnd S w d (syncM n M)) := by
  have HO := Lib.hid (onfile_any n 35 #[] w)
  have hS0 : ¬ S w.heap.size := fun hs => by obtain ⟨_, _, _, h⟩ := h; exact absurd (h.bound _ hs) (Nat.lt_irrefl _)
  have HC := Lib.hid (fun (w1 : World) (hb : Below w.heap.size w w1) (hc : w1.cell? ⟨w.heap.size, 0, none⟩ = some (.func (.func 35) #[] #[])) =>
    change_any (h.below hb) n hn 35 w.heap.size #[] (by exact enters_of Try.func35 (by kernel_rfl) rfl) hc hS0 (fun f M => ({ M with fs := setN F.n ⟨n, f.b, f.b.length⟩ M.fs }, 0))
      (fun mb p L w' x hD _ hx => sync1_any hD n hx))
  clear h hS0
  go_enter Try.func18, Try.ntmps18
  go_wp2_with fail
  refine HO.out.mono ?_
  rintro e w1 ⟨rfl, hb, hc, _⟩
  have HC1 := Lib.hid (HC.out w1 hb hc)
  have Hb := Lib.hid hb
  clear hb hc
  go_wp2_with fail
  refine HC1.out.mono ?_
  rintro e w' hq
  have Hq := Lib.hid hq
  obtain ⟨rfl, _⟩ := hq
  go_wp2
  go_ret
  exact ⟨Hq.out.1, Step.behind Hb.out Hq.out.2⟩
end Go.Proofs.Ytdnbjpfapfnpaaa
