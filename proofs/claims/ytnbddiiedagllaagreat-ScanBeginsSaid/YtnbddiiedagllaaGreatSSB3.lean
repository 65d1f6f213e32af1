import Derived.Test.YtnbddiiedagllaaGreatSSB2
import Derived.Deep.RegionHeld
import Derived.Outline
import Derived.Laws.EntriesVeiled
import Derived.Laws.OwnMore
import Derived.Deep.RegionLaw
import Derived.Deep.AppendLies
import Derived.Test.YtnbddiiedagllaaGreatSSB1
/- The walks of a disk's onFile; a change of a file, whatever it does. -/
namespace Go.Proofs.YtnbddiiedagllaaGreat
open Go.RowKit Go.Maps Go.Shelf

set_option maxRecDepth 100000 in
set_option maxHeartbeats 3200000 in
theorem onfile_any (n : List UInt8) (k : Nat) (caps : Array Value) (w : World) :
  Calls Tryz.prog 100 #[encStr n, .func (.func k) #[] caps] w fun e w' => e = .returned (.agg #[encStr n, .func (.func 142) #[] #[.pointer (some ⟨w.heap.size, 0, none⟩)]]) ∧
   Below w.heap.size w w' ∧ w'.cell? ⟨w.heap.size, 0, none⟩ = some (.func (.func k) #[] caps) ∧ w.heap.size < w'.heap.size := by
 have hb := ((Below.refl w.heap.size w).alloc (Nat.le_refl _) (.cells #[.func (.func k) #[] caps] 141)).alloc (by simp) (.cells #[encStr n, .func (.func 142) #[] #[.pointer (some ⟨w.heap.size, 0, none⟩)]] 143)
 have Hb := Lib.hid hb
 have hc : ((w.alloc (.cells #[.func (.func k) #[] caps] 141)).alloc (.cells #[encStr n, .func (.func 142) #[] #[.pointer (some ⟨w.heap.size, 0, none⟩)]] 143)).cell? ⟨w.heap.size, 0, none⟩ = some (.func (.func k) #[] caps) :=
  (Chg.alloc (fun _ => False) _ _).cell (cell_of_row _ _ _ _ _ (0, 0) (heap_alloc_new _ _)) (fun h => h)
 have Hc := Lib.hid hc
 have Hsz := Lib.hid (show w.heap.size < ((w.alloc (.cells #[.func (.func k) #[] caps] 141)).alloc (.cells #[encStr n, .func (.func 142) #[] #[.pointer (some ⟨w.heap.size, 0, none⟩)]] 143)).heap.size from by simp; omega)
 clear hb hc
 go_enter Tryz.func100, Tryz.ntmps100
 go_wp2
 refine bodyPost_ret (v := .agg #[encStr n, .func (.func 142) #[] #[.pointer (some ⟨w.heap.size, 0, none⟩)]]) (by simp [results, Tryz.results100, go_sem]) rfl ⟨rfl, Hb.out, Hc.out, Hsz.out⟩

set_option maxRecDepth 100000 in
set_option maxHeartbeats 3200000 in
theorem onfile1_any (x : Option FW) (b k : Nat) (caps : Array Value) (w : World) (hent : ∀ args w, (callFunc k args).run Tryz.prog w = .ok (.enter k args) w) (hc : w.cell? ⟨b, 0, none⟩ = some (.func (.func k) #[] caps)) (Q : Ending → World → Prop)
  (H6 : x = none → Q (.returned (.int .i64 6)) w) (HF : ∀ y, x = some y → Calls Tryz.prog k (#[.pointer (some ⟨y.blk, 0, none⟩)] ++ caps) w fun e w' => (∃ v, e = .returned v) ∧ Q e w') :
  Calls Tryz.prog 142 #[fileV x, .pointer (some ⟨b, 0, none⟩)] w fun e w' => (∃ v, e = .returned v) ∧ Q e w' := by
 cases x with
 | none =>
  have H := Lib.hid (H6 rfl)
  clear H6 HF
  unfold fileV
  go_enter Tryz.func142, Tryz.ntmps142
  go_wp2
  go_ret
  exact ⟨⟨_, rfl⟩, H.out⟩
 | some y =>
  have H := Lib.hid (HF y rfl)
  clear H6 HF
  unfold fileV
  go_enter Tryz.func142, Tryz.ntmps142
  go_wp2_with fail
  refine H.out.mono ?_
  rintro e w4 ⟨⟨v, rfl⟩, hq⟩
  have Hq := Lib.hid hq
  clear hq
  go_wp2
  go_ret
  exact ⟨⟨_, rfl⟩, Hq.out⟩
end Go.Proofs.YtnbddiiedagllaaGreat

/- A file of a disk has another content. -/
namespace Go.Proofs.YtnbddiiedagllaaGreat
open Go.RowKit Go.Maps

theorem fpOf_mid (A B : List FW) (x : FW) : (fpOf (A ++ x :: B)).Perm (fpOne x ++ fpOf (A ++ B)) := by
 have h1 : (A ++ x :: B).Perm (x :: (A ++ B)) := List.perm_middle
 have := fpOf_perm h1
 rwa [show fpOf (x :: (A ++ B)) = fpOne x ++ fpOf (A ++ B) from List.flatMap_cons ..] at this

theorem apart_mid (d mb : Nat) (A B : List FW) (x : FW) : (d :: mb :: fpOf (A ++ x :: B)).Perm (fpOne x ++ (d :: mb :: fpOf (A ++ B))) := by
 refine (((fpOf_mid A B x).cons mb).cons d).trans ?_
 exact List.Perm.trans (List.Perm.cons d (List.perm_middle.symm)) List.perm_middle.symm

theorem setN_mid {A B : List FW} {x x' : FW} (hn : x.n = x'.n) (h : ∀ y ∈ A ++ B, y.n ≠ x'.n) : setN FW.n x' (A ++ x :: B) = A ++ x' :: B := by
 have hs : ∀ l : List FW, (∀ y ∈ l, y.n ≠ x'.n) → setN FW.n x' l = l := by
  intro l hl
  unfold setN
  rw [List.map_congr_left (g := id) (fun y hy => by rw [if_neg (by rw [beq_iff_eq]; exact hl y hy)]; rfl), List.map_id]
 have hA := hs A (fun y hy => h y (by simp [hy]))
 have hB := hs B (fun y hy => h y (by simp [hy]))
 unfold setN at *
 rw [List.map_append, List.map_cons, hA, hB, if_pos (by rw [beq_iff_eq]; exact hn)]

theorem used_mid (A B : List FW) (x : FW) : usedF ((A ++ x :: B).map FW.f) = x.f.b.length + usedF ((A ++ B).map FW.f) := by
 have h1 : (A ++ x :: B).Perm (x :: (A ++ B)) := List.perm_middle
 rw [usedF_perm (h1.map FW.f), List.map_cons, usedF_cons]

theorem DiskAt.file_set {S S' : Nat → Prop} {w w' : World} {d mb : Nat} {p : Int} {L : List FW} {M : DM} (h : DiskAt S w d mb p L M) {x : FW} (hx : x ∈ L) (f' : F) (v' : Value) (hn : f'.n = x.f.n)
  (hok : FileOk w' ⟨f', x.blk, v'⟩) (hc : Chg (fun b => b ∈ fpOne x) w w') (hv : v'.ownBlock = none ∨ v'.ownBlock = x.v.ownBlock ∨ ∃ g, v'.ownBlock = some g ∧ w.heap.size ≤ g ∧ S' g)
  (hs : ∀ b, S b → S' b) (hb : ∀ b, S' b → b < w'.heap.size) (hu : usedF M.fs + f'.b.length ≤ M.room + x.f.b.length) :
  DiskAt S' w' d mb p (setN FW.n ⟨f', x.blk, v'⟩ L) { M with fs := setN F.n f' M.fs } := by
 obtain ⟨A, B, rfl⟩ := List.append_of_mem hx
 have hnm := h.names
 have hne : ∀ y ∈ A ++ B, y.n ≠ x.n := by
  intro y hy
  rw [List.pairwise_append] at hnm
  obtain ⟨_, h2, h3⟩ := hnm
  rcases List.mem_append.1 hy with hy | hy
  ·exact h3 y hy x (by simp)
  ·exact fun e => (List.pairwise_cons.1 h2).1 y hy e.symm
 have hset := setN_mid (A := A) (B := B) (x := x) (x' := ⟨f', x.blk, v'⟩) hn.symm (fun y hy => by show y.n ≠ f'.n; rw [hn]; exact hne y hy)
 rw [hset]
 have hap := (apart_mid d mb A B x).nodup_iff.1 h.apart
 obtain ⟨n1, n2, n3⟩ := List.nodup_append.1 hap
 have hrest : ∀ b ∈ d :: mb :: fpOf (A ++ B), S b := fun b hb => h.sub b ((apart_mid d mb A B x).mem_iff.2 (List.mem_append_right _ hb))
 have hfpx : ∀ b ∈ fpOne x, S b := fun b hb => h.sub b ((apart_mid d mb A B x).mem_iff.2 (List.mem_append_left _ hb))
 have hkeep : ∀ b ∈ d :: mb :: fpOf (A ++ B), w'.heap[b]? = w.heap[b]? := fun b hb => hc.block b (h.bound b (hrest b hb)) (fun hbx => n3 b hbx b hb rfl)
 have hfp' : ∀ b ∈ fpOne ⟨f', x.blk, v'⟩, b ∈ fpOne x ∨ (w.heap.size ≤ b ∧ S' b) := by
  intro b hb
  rcases List.mem_cons.1 hb with e | hb
  ·exact .inl (by rw [e]; exact List.mem_cons_self ..)
  ·rcases hv with hv | hv | ⟨g, hv, hg, hgS⟩
   ·rw [show (⟨f', x.blk, v'⟩ : FW).v.ownBlock = none from hv] at hb; cases hb
   ·rw [show (⟨f', x.blk, v'⟩ : FW).v.ownBlock = x.v.ownBlock from hv] at hb
    exact .inl (List.mem_cons_of_mem _ hb)
   ·rw [show (⟨f', x.blk, v'⟩ : FW).v.ownBlock = some g from hv] at hb
    have e : b = g := by simpa using hb
    rw [e]; exact .inr ⟨hg, hgS⟩
 have hnd' : (fpOne ⟨f', x.blk, v'⟩).Nodup := by
  refine List.nodup_cons.2 ⟨fun hb => ?_, by cases (⟨f', x.blk, v'⟩ : FW).v.ownBlock <;> simp⟩
  rcases hv with hv | hv | ⟨g, hv, hg, _⟩
  ·rw [show (⟨f', x.blk, v'⟩ : FW).v.ownBlock = none from hv] at hb; cases hb
  ·rw [show (⟨f', x.blk, v'⟩ : FW).v.ownBlock = x.v.ownBlock from hv] at hb
   exact (List.nodup_cons.1 n1).1 hb
  ·rw [show (⟨f', x.blk, v'⟩ : FW).v.ownBlock = some g from hv] at hb
   have e : x.blk = g := by simpa using hb
   have := h.bound x.blk (hfpx x.blk (List.mem_cons_self ..))
   omega
 have hmemAB : ∀ y ∈ A ++ x :: B, y ∈ A ++ B ∨ y = x := by
  intro y hy
  simp only [List.mem_append, List.mem_cons] at hy ⊢
  rcases hy with hy | hy | hy
  ·exact .inl (.inl hy)
  ·exact .inr hy
  ·exact .inl (.inr hy)
 have hent : dirD (A ++ ⟨f', x.blk, v'⟩ :: B) = dirD (A ++ x :: B) := by
  unfold dirD
  rw [List.map_append, List.map_append, List.map_cons, List.map_cons]
  have e : ent ⟨f', x.blk, v'⟩ = ent x := by show (Lit.string f'.n, _) = (Lit.string x.f.n, _); rw [hn]
  rw [e]
 have hfs : setN F.n f' M.fs = (A ++ ⟨f', x.blk, v'⟩ :: B).map FW.f := by
  rw [h.files, ← hset, setN_map FW.n F.n FW.f (fun _ => rfl)]
 refine ⟨hfs, (hkeep d (by simp)).trans h.head, h.plan, h.lo, h.hi, ?_, ?_, ?_, ?_, hb, ?_, h.room⟩
 ·rw [hent]
  have := map_of_heap h.dir (hkeep mb (by simp))
  have e : (A ++ x :: B).length = (A ++ ⟨f', x.blk, v'⟩ :: B).length := by simp
  rw [← e]
  exact this
 ·intro y hy
  simp only [List.mem_append, List.mem_cons] at hy
  have hyAB : y = ⟨f', x.blk, v'⟩ ∨ y ∈ A ++ B := by
   rcases hy with hy | hy | hy
   ·exact .inr (by simp [hy])
   ·exact .inl hy
   ·exact .inr (by simp [hy])
  rcases hyAB with e | hy2
  ·rw [e]; exact hok
  ·have hyL : y ∈ A ++ x :: B := by simp only [List.mem_append, List.mem_cons] at hy2 ⊢; rcases hy2 with h1 | h1 <;> simp [h1]
   exact (h.ok y hyL).keep (fun b hb' => hkeep b (by simp [mem_fpOf hy2 hb']))
 ·refine (apart_mid d mb A B ⟨f', x.blk, v'⟩).nodup_iff.2 (List.nodup_append.2 ⟨hnd', n2, fun a ha b hb' e => ?_⟩)
  rcases hfp' a ha with h1 | ⟨h1, _⟩
  ·exact n3 a h1 b hb' e
  ·have := h.bound b (hrest b hb')
   omega
 ·intro b hb'
  rcases List.mem_append.1 ((apart_mid d mb A B ⟨f', x.blk, v'⟩).mem_iff.1 hb') with h1 | h1
  ·rcases hfp' b h1 with h2 | h2
   ·exact hs b (hfpx b h2)
   ·exact h2.2
  ·exact hs b (hrest b h1)
 ·show usedF (setN F.n f' M.fs) ≤ M.room
  rw [hfs, used_mid]
  have h1 := hu
  rw [h.files, used_mid] at h1
  show f'.b.length + _ ≤ M.room
  omega
end Go.Proofs.YtnbddiiedagllaaGreat

/- The walks of a disk's Sync and Append. -/
namespace Go.Proofs.YtnbddiiedagllaaGreat
open Go.RowKit Go.Maps Go.Shelf

theorem failM_fs (M : DM) : (failM M).fs = M.fs := by unfold failM; split <;> (try split) <;> rfl

theorem change_any {S : Nat → Prop} {w : World} {d : Nat} {M : DM} (h : DiskIn S w d M) (n : List UInt8) (hn : n.length ≤ 9223372036854775807) (k b : Nat) (caps : Array Value)
  (hent : ∀ args w, (callFunc k args).run Tryz.prog w = .ok (.enter k args) w) (hb : w.cell? ⟨b, 0, none⟩ = some (.func (.func k) #[] caps)) (hS : ¬ S b) (act : F → DM → DM × Int)
  (HF : ∀ mb p L w' x, DiskAt S w' d mb p L (failM M) → Chg S w w' → findN FW.n n L = some x → Calls Tryz.prog k (#[.pointer (some ⟨x.blk, 0, none⟩)] ++ caps) w' (ActEnd S w' d (act x.f (failM M)))) :
  Calls Tryz.prog 81 #[.pointer (some ⟨d, 0, none⟩), .agg #[encStr n, .func (.func 142) #[] #[.pointer (some ⟨b, 0, none⟩)]]] w (ActEnd S w d (chgM M n (onM n act))) := by
 obtain ⟨mb, p, L, h⟩ := h
 refine carry_any h n hn 142 #[.pointer (some ⟨b, 0, none⟩)] (by exact enters_of Tryz.func142 (by kernel_rfl) rfl) _ ?_ ?_ ?_
 ·intro w' hD hc hdn
  unfold chgM
  rw [if_pos hdn]
  exact ⟨rfl, Step.same hD hc⟩
 ·intro w' hD hc hdn hnm
  unfold chgM
  rw [if_neg (by rw [hdn]; decide), if_neg (by rw [hnm]; decide)]
  exact ⟨rfl, Step.same hD hc⟩
 ·intro p' w' hD hc hdn hnm
  have e : chgM M n (onM n act) = onM n act (failM M) := by unfold chgM; rw [if_neg (by rw [hdn]; decide), if_pos hnm]
  have e2 : onM n act (failM M) = match (findN FW.n n L).map FW.f with | none => (failM M, 6) | some f => act f (failM M) := by
   unfold onM
   rw [hD.files, findN_map FW.n F.n FW.f (fun _ => rfl)]
   cases (findN FW.n n L).map FW.f <;> rfl
  rw [e, e2]
  refine onfile1_any (findN FW.n n L) b k caps w' hent (hc.cell hb hS) _ (fun hx => ?_) (fun y hy => ?_)
  ·rw [hx]
   exact ⟨rfl, Step.same ⟨mb, p', L, hD⟩ hc⟩
  ·rw [hy]
   refine (HF mb p' L w' y hD hc hy).mono ?_
   rintro e w'' ⟨he, hst⟩
   exact ⟨⟨_, he⟩, he, Step.after hc hst⟩

theorem setN_name {x : FW} {n : List UInt8} {L : List FW} (h : findN FW.n n L = some x) : x ∈ L ∧ x.f.n = n := findN_some h

set_option maxRecDepth 100000 in
set_option maxHeartbeats 3200000 in
theorem sync1_any {S : Nat → Prop} {w : World} {d mb : Nat} {p : Int} {L : List FW} {M : DM} (h : DiskAt S w d mb p L M) (n : List UInt8) {x : FW} (hx : findN FW.n n L = some x) :
  Calls Tryz.prog 102 #[.pointer (some ⟨x.blk, 0, none⟩)] w (ActEnd S w d ({ M with fs := setN F.n ⟨n, x.f.b, x.f.b.length⟩ M.fs }, 0)) := by
 obtain ⟨hxL, rfl⟩ := setN_name hx
 have hok := h.ok x hxL
 obtain ⟨f0, f1, fr⟩ := hok.cells
 obtain ⟨a, cp, hv, hle, hcm⟩ := own_len hok.row
 have fr1 := fr 1
 have hSx : S x.blk := h.sub _ (by simp [mem_fpOf hxL (List.mem_cons_self ..)])
 have hb2 : (w.setCell ⟨x.blk, 1, none⟩ (.int .i64 (x.f.b.length : Int))).heap[x.blk]? = some (.cells #[x.v, .int .i64 (x.f.b.length : Int)] 140 (0, 0)) := by
  have := set_head (i := 1) hok.blk (.int .i64 (x.f.b.length : Int))
  simpa using this
 have hne : ∀ b, x.v.ownBlock = some b → b ≠ x.blk := by
  intro b hb e
  have hnd : (fpOne x).Nodup := by
   obtain ⟨A, B, rfl⟩ := List.append_of_mem hxL
   exact (List.nodup_append.1 ((apart_mid d mb A B x).nodup_iff.1 h.apart)).1
  exact (List.nodup_cons.1 hnd).1 (by rw [hb, e]; simp)
 have hC : ∀ T : Nat → Prop, T x.blk → Chg T w (w.setCell ⟨x.blk, 1, none⟩ (.int .i64 (x.f.b.length : Int))) := fun T hT => Chg.set T w hT _
 have hE := h.file_set hxL ⟨x.f.n, x.f.b, x.f.b.length⟩ x.v rfl (w' := w.setCell ⟨x.blk, 1, none⟩ (.int .i64 (x.f.b.length : Int)))
  ⟨hb2, row_of_heap hok.row (fun b hb => (hC (fun b => b = x.blk) rfl).block b (h.bound b (h.sub b (by simp [mem_fpOf hxL (show b ∈ fpOne x by simp [fpOne, hb])]))) (hne b hb)), hok.byte, Nat.le_refl _⟩
  (hC _ (List.mem_cons_self ..)) (.inr (.inl rfl)) (fun b h => h) (fun b hb => by simpa using h.bound b hb) (by have := h.used; show usedF M.fs + x.f.b.length ≤ _; omega)
 have HE := Lib.hid (show Step S w d { M with fs := setN F.n ⟨x.f.n, x.f.b, x.f.b.length⟩ M.fs } (w.setCell ⟨x.blk, 1, none⟩ (.int .i64 (x.f.b.length : Int))) from Step.same ⟨mb, p, _, hE⟩ (hC S hSx))
 rw [hv] at f0
 clear h hx hxL hok fr hv hle hcm hSx hb2 hne hC hE
 go_enter Tryz.func102, Tryz.ntmps102
 go_wp2
 go_ret
 exact ⟨rfl, HE.out⟩

set_option maxRecDepth 100000 in
set_option maxHeartbeats 3200000 in
theorem sync_any {S : Nat → Prop} {w : World} {d : Nat} {M : DM} (h : DiskIn S w d M) (n : List UInt8) (hn : n.length ≤ 9223372036854775807) :
  Calls Tryz.prog 56 #[.pointer (some ⟨d, 0, none⟩), encStr n] w (ActEnd S w d (syncM n M)) := by
 have HO := Lib.hid (onfile_any n 102 #[] w)
 have hS0 : ¬ S w.heap.size := fun hs => by obtain ⟨_, _, _, h⟩ := h; exact absurd (h.bound _ hs) (Nat.lt_irrefl _)
 have HC := Lib.hid (fun (w1 : World) (hb : Below w.heap.size w w1) (hc : w1.cell? ⟨w.heap.size, 0, none⟩ = some (.func (.func 102) #[] #[])) =>
  change_any (h.below hb) n hn 102 w.heap.size #[] (by exact enters_of Tryz.func102 (by kernel_rfl) rfl) hc hS0 (fun f M => ({ M with fs := setN F.n ⟨n, f.b, f.b.length⟩ M.fs }, 0))
   (fun mb p L w' x hD _ hx => sync1_any hD n hx))
 clear h hS0
 go_enter Tryz.func56, Tryz.ntmps56
 go_wp2_with fail
 refine HO.out.mono ?_
 rintro e w1 ⟨rfl, hb, hc, _⟩
 have HC1 := Lib.hid (HC.out w1 hb hc)
 have Hb := Lib.hid hb
 clear hb hc
 go_wp2_with fail
 refine HC1.out.mono ?_
 rintro e w' hq
 have Hq := Lib.hid hq
 obtain ⟨rfl, _⟩ := hq
 go_wp2
 go_ret
 exact ⟨Hq.out.1, Step.behind Hb.out Hq.out.2⟩
end Go.Proofs.YtnbddiiedagllaaGreat

/- The walk of a disk's Append. -/
namespace Go.Proofs.YtnbddiiedagllaaGreat
open Go.RowKit Go.Maps Go.Shelf

theorem run_append_any {P : Program} (w : World) (t ty : TypeId) (e : TypeId) (ht : P.underlying t = some (.slice e)) (hinfo : (P.info? e).map (fun i => (i.zero, i.size, i.bytes)) = some (some (.int .u8 0), 1, 1))
  (v : Value) (n : Nat) (l : List Nat) (hown : w.ownsRow 0 e 1 v n (u8s l)) (p : Option Addr) (m c : Nat) (l' : List Nat) (hB : Bytes w p m c l') (hbytes : n + m ≤ 140737488355328) :
  ∃ v' w', (Builtin.append_ #[t, t] ty #[v, .slice p m c]).run P w = .ok v' w' ∧ w'.ownsRow 0 e 1 v' (n + m) (u8s (l ++ l')) ∧ w.grownBy w' v.ownBlock ∧ (v'.ownBlock = v.ownBlock ∨ v'.ownBlock = some w.heap.size) := by
 obtain ⟨i, hi, hz, hsz, hby⟩ := info_parts hinfo
 cases p with
 | none =>
  obtain rfl : c = 0 := hB.nil rfl
  obtain rfl : m = 0 := by have := hB.le; omega
  obtain rfl : l' = [] := List.length_eq_zero_iff.1 hB.len
  exact ⟨v, w, run_append_owned_none (P := P) (w := w) 0 t ty e i 1 ht hi v n (u8s l) hown, by simpa using hown, ⟨rfl, rfl, rfl, Nat.le_refl _, fun _ _ _ => rfl⟩, .inl rfl⟩
 | some ad =>
  obtain ⟨v', w', hr, h2, h3, _, h5⟩ := run_append_own_at (P := P) w 0 t ty e i (.int .u8 0) 1 1 ht hi hz hsz hby rfl (by omega) v n (u8s l) hown ad m c (u8s l') (by simp [u8s, hB.len]) (fun j u hu => by
   obtain ⟨hj, rfl⟩ := u8s_get hu
   have hj' : j < m := by rw [← hB.len]; exact hj
   obtain ⟨b, o', e1, hc⟩ := hB.cell (by omega)
   cases e1
   have hadd : (⟨b, o', none⟩ : Addr).add j = ⟨b, o' + j, none⟩ := by unfold Addr.add; split <;> simp_all
   rw [hadd]
   exact hc j hj') (u8s_one l') (by rw [maxLen_nat]; omega) (by omega) (Nat.zero_le _)
  exact ⟨v', w', hr, by rw [u8s_append]; exact h2, h3, h5⟩

theorem step_append_run {P : Program} {w w2 : World} {ops : Array Oper} {o : Oper} {a : Act} {K : Act → World → Prop} {Q : Exit → Act → World → Prop} {E : Prop} (hgd : o.guard = none) (s x : Operand) (t : TypeId)
  (ho : o.op = .call { callee := .builtin .append, args := #[s, x], argTypes := #[t, t] }) {v vx v' : Value} (hs : a.eval s = v) (hx : a.eval x = vx) (hr : (Builtin.append_ #[t, t] o.type #[v, vx]).run P w = .ok v' w2)
  (h : K (a.put o.dst v') w2) : if Region.wanted o (yielded ops a.tmps) = true then Oper.wp P o a w K Q else E := by
 rw [if_pos (by unfold Region.wanted; rw [hgd])]
 unfold Oper.wp execOp
 simp only [ho, resolve, invoke, builtin, Sem.run_bind, Sem.run_pure, Result.andThen_ok, List.map_toArray, List.map_cons, List.map_nil, hs, hx, hr]
 exact h

set_option maxRecDepth 100000 in
set_option maxHeartbeats 6400000 in
theorem append1_any {S : Nat → Prop} {w : World} {d mb : Nat} {p : Int} {L : List FW} {M : DM} (h : DiskAt S w d mb p L M) (n : List UInt8) {x : FW} (hx : findN FW.n n L = some x) (bs bd : Nat) (pa : Option Addr) (m c : Nat) (l : List Nat)
  (hbs : w.cell? ⟨bs, 0, none⟩ = some (.slice pa m c)) (hbd : w.cell? ⟨bd, 0, none⟩ = some (.pointer (some ⟨d, 0, none⟩))) (hB : Bytes w pa m c l) (hlim : usedF M.fs + l.length ≤ 140737488355328) :
  Calls Tryz.prog 101 #[.pointer (some ⟨x.blk, 0, none⟩), .pointer (some ⟨bs, 0, none⟩), .pointer (some ⟨bd, 0, none⟩)] w
   (ActEnd S w d (if usedF M.fs + l.length ≤ M.room then ({ M with fs := setN F.n ⟨n, x.f.b ++ l, x.f.d⟩ M.fs }, 0) else (M, 5))) := by
 obtain ⟨hxL, rfl⟩ := setN_name hx
 obtain ⟨c0, c1, c2, c3, _⟩ := h.cells
 have HU := Lib.hid (fun (w1 : World) (hb : Below w.heap.size w w1) => used_any (S := S) (w := w1) (d := d) (M := M) ⟨mb, p, L, h.below hb⟩)
 have H := Lib.hid h
 have HK := Lib.hid (fun (w1 : World) (hb : Below w.heap.size w w1) => show w1.cell? ⟨bs, 0, none⟩ = some (.slice pa m c) ∧ w1.cell? ⟨bd, 0, none⟩ = some (.pointer (some ⟨d, 0, none⟩)) ∧ w1.cell? ⟨d, 0, none⟩ = some (.int .i64 (M.room : Int)) from
  ⟨(Chg.of_below (S := fun _ => False) hb).cell hbs (fun h => h), (Chg.of_below (S := fun _ => False) hb).cell hbd (fun h => h), (Chg.of_below (S := fun _ => False) hb).cell c0 (fun h => h)⟩)
 have HB := Lib.hid hB
 have Hx := Lib.hid hxL
 have hlen := hB.len
 have hmx := hB.max
 have hused := h.used
 have hroom := h.room
 have Hlim := Lib.hid hlim
 clear h hB hx hxL c1 c2 c3 hlim
 by_cases hfit : usedF M.fs + l.length ≤ M.room
 ·rw [if_pos hfit]
  have hcnd : ¬ ((M.room : Int) - (usedF M.fs : Int) < (m : Int)) := by omega
  have hwr : IntKind.i64.wrap ((M.room : Int) - (usedF M.fs : Int)) = (M.room : Int) - (usedF M.fs : Int) := wrap_small _ (by omega) (by omega)
  have hu2 : usedF M.fs + (x.f.b ++ l).length ≤ M.room + x.f.b.length := by rw [List.length_append]; omega
  have Hu2 := Lib.hid hu2
  clear hfit hused hroom hu2
  generalize (usedF M.fs : Int) = uz at *
  go_enter Tryz.func101, Tryz.ntmps101
  go_wp2
  go_region_held (fun w' => w'.cell? ⟨bs, 0, none⟩ = some (.slice pa m c) ∧ w'.cell? ⟨bd, 0, none⟩ = some (.pointer (some ⟨d, 0, none⟩)) ∧ w'.cell? ⟨d, 0, none⟩ = some (.int .i64 (M.room : Int)))
   (first | exact HK.out _ ((Below.refl _ _).drew) | exact HK.out _ hb1)
   (first | (go_at_call 43; (with_reducible refine (HU.out _ ((Below.refl _ _).drew)).mono ?_); rintro e w1 ⟨rfl, hb0⟩; have hb1 : Below w.heap.size w w1 := ((Below.refl w.heap.size w).drew).trans hb0; clear hb0))
  all_goals go_wp2
  have hD1 := H.out.below hb1
  have hok1 := hD1.ok x Hx.out
  obtain ⟨f0, _, fr⟩ := hok1.cells
  obtain ⟨a, cp, hv, _, _⟩ := own_len hok1.row
  obtain ⟨k1, _, _⟩ := HK.out w1 hb1
  have hxu : x.f.b.length ≤ usedF M.fs := by
   obtain ⟨A, B, hL⟩ := List.append_of_mem Hx.out
   have := used_mid A B x
   rw [← hL, ← H.out.files] at this
   omega
  obtain ⟨v', w2, hr, hrow, hg, hat⟩ := run_append_any (P := Tryz.prog) w1.drew 58 58 5 Tryz.underlying58 info_u8 x.v x.f.b.length x.f.b (row_of_heap hok1.row (fun _ _ => rfl)) pa m c l (HB.out.grow (hb1.trans ((Below.refl _ _).drew))) (by have := Hlim.out; have := HB.out.len; omega)
  have hSfp : ∀ b ∈ fpOne x, S b := fun b hb => H.out.sub b (by simp [mem_fpOf Hx.out hb])
  have hnd : (fpOne x).Nodup := by
   obtain ⟨A, B, hL⟩ := List.append_of_mem Hx.out
   have h1 := H.out.apart
   rw [hL] at h1
   exact (List.nodup_append.1 ((apart_mid d mb A B x).nodup_iff.1 h1)).1
  have hne : some x.blk ≠ x.v.ownBlock := fun e => (List.nodup_cons.1 hnd).1 (by rw [← e]; simp)
  have hlt1 : x.blk < w1.drew.heap.size := Nat.lt_of_lt_of_le (H.out.bound _ (hSfp _ (List.mem_cons_self ..))) hb1.size
  have hblk2 : w2.heap[x.blk]? = some (.cells #[x.v, .int .i64 (x.f.d : Int)] 140 (0, 0)) := (hg.block _ hlt1 hne).trans hok1.blk
  have g0 : w2.cell? ⟨x.blk, 0, none⟩ = some x.v := by rw [cell_of_row _ _ _ _ _ _ hblk2]; rfl
  have g1 : w2.frozen? ⟨x.blk, 0, none⟩ = false := by simp [World.frozen?, hblk2]
  have hfin : Step S w d { M with fs := setN F.n ⟨x.f.n, x.f.b ++ l, x.f.d⟩ M.fs } (w2.setCell ⟨x.blk, 0, none⟩ v') := by
   have hblk3 := set_head (i := 0) hblk2 v'
   have hsz2 : w1.heap.size ≤ w2.heap.size := hg.size
   have hvb : ∀ b, v'.ownBlock = some b → b < w2.heap.size ∧ b ≠ x.blk := by
    intro b hb
    refine ⟨(hrow.lt b hb).2, fun e => ?_⟩
    rcases hat with h1 | h1
    ·exact hne (by rw [← h1, hb, e])
    ·rw [hb] at h1
     have e2 : b = w1.drew.heap.size := Option.some.inj h1
     omega
   have hc12 : Chg (fun b => b ∈ fpOne x) w1 (w2.setCell ⟨x.blk, 0, none⟩ v') := by
    have h1 : Chg (fun b => b ∈ fpOne x) w1 w2 := (Chg.drew _ w1).same (Chg.grown hg (fun k hk => .inl (List.mem_cons_of_mem _ (by rw [hk]; simp))))
    exact h1.same (Chg.set _ _ (List.mem_cons_self ..) _)
   have hE := hD1.file_set (S' := fun b => S b ∨ (w.heap.size ≤ b ∧ b < w2.heap.size)) Hx.out ⟨x.f.n, x.f.b ++ l, x.f.d⟩ v' rfl (w' := w2.setCell ⟨x.blk, 0, none⟩ v')
    ⟨by simpa using hblk3, by
     have h3 : (x.f.b ++ l).length = x.f.b.length + m := by rw [List.length_append, HB.out.len]
     show World.ownsRow _ _ _ _ _ (x.f.b ++ l).length _
     rw [h3]
     exact row_of_heap hrow (fun b hb => Below.heap_setCell w2 ⟨x.blk, 0, none⟩ v' b (hvb b hb).2), fun c hc => (List.mem_append.1 hc).elim (hok1.byte c) (HB.out.byte c), by
     show x.f.d ≤ (x.f.b ++ l).length
     have := hok1.dur
     rw [List.length_append]
     omega⟩ hc12
    (by
     rcases hat with h1 | h1
     ·exact .inr (.inl h1)
     ·exact .inr (.inr ⟨w1.heap.size, h1, Nat.le_refl _, .inr ⟨hb1.size, (hvb _ h1).1⟩⟩))
    (fun b hb => .inl hb) (fun b hb => by
     rw [World.size_setCell]
     rcases hb with hb | hb
     ·have := H.out.bound b hb
      have := hb1.size
      omega
     ·exact hb.2) Hu2.out
   refine ⟨_, ⟨mb, p, _, hE⟩, fun b hb => hb.imp id (fun h => h.1), (Chg.of_below hb1).trans hc12 (fun b hb => .inl (hSfp b hb))⟩
  obtain ⟨a2, c2, hv2, _, _⟩ := own_len hrow
  rw [hv2] at hr hfin
  have Hfin := Lib.hid hfin
  rw [hv] at hr f0 g0
  have fr0 := fr 0
  clear hfin hrow hg hat hv2 hSfp hnd hne hlt1 hblk2 hxu hok1 hD1 hv fr hb1
  have Hr := Lib.hid hr
  clear hr
  go_region_law (first | refine step_append_run rfl (.tmp 19) (.tmp 20) 58 rfl (by simp [Act.eval]) (by simp [Act.eval]) Hr.out ?_)
  all_goals go_wp2
  all_goals go_ret
  all_goals exact ⟨rfl, Hfin.out⟩
 ·rw [if_neg hfit]
  have hcnd : (M.room : Int) - (usedF M.fs : Int) < (m : Int) := by omega
  have hwr : IntKind.i64.wrap ((M.room : Int) - (usedF M.fs : Int)) = (M.room : Int) - (usedF M.fs : Int) := wrap_small _ (by omega) (by omega)
  clear hfit hused hroom
  generalize (usedF M.fs : Int) = uz at *
  go_enter Tryz.func101, Tryz.ntmps101
  go_wp2
  go_region_held (fun w' => w'.cell? ⟨bs, 0, none⟩ = some (.slice pa m c) ∧ w'.cell? ⟨bd, 0, none⟩ = some (.pointer (some ⟨d, 0, none⟩)) ∧ w'.cell? ⟨d, 0, none⟩ = some (.int .i64 (M.room : Int)))
   (first | exact HK.out _ ((Below.refl _ _).drew) | exact HK.out _ hb1)
   (first | (go_at_call 43; (with_reducible refine (HU.out _ ((Below.refl _ _).drew)).mono ?_); rintro e w1 ⟨rfl, hb0⟩; have hb1 : Below w.heap.size w w1 := ((Below.refl w.heap.size w).drew).trans hb0; clear hb0))
  all_goals go_wp2
  all_goals go_ret
  all_goals exact ⟨rfl, Step.same ⟨mb, p, L, H.out.below hb1⟩ (Chg.of_below hb1)⟩

theorem Bytes.chg {S : Nat → Prop} {w w' : World} {a : Option Addr} {n c : Nat} {l : List Nat} (h : Bytes w a n c l) (hc : Chg S w w') (ha : 0 < n → ∀ x, a = some x → ¬ S x.block) : Bytes w' a n c l := by
 rcases Nat.eq_zero_or_pos n with rfl | hn
 ·obtain rfl : l = [] := List.length_eq_zero_iff.1 h.len
  exact ⟨rfl, h.le, h.capmax, h.byte, h.nil, fun h => absurd h (Nat.lt_irrefl _)⟩
 ·refine h.keep fun p hp hpa => ?_
  obtain ⟨b, o, rfl, _⟩ := h.cell hn
  have e := hpa _ rfl
  exact World.cell?_of_block (hc.block p.block hp (by rw [e]; exact ha hn _ rfl))

theorem onfile_at (n : List UInt8) (k : Nat) (caps : Array Value) (b : Nat) (w : World) (hb : w.heap.size = b) :
  Calls Tryz.prog 100 #[encStr n, .func (.func k) #[] caps] w fun e w' => e = .returned (.agg #[encStr n, .func (.func 142) #[] #[.pointer (some ⟨b, 0, none⟩)]]) ∧
   Below b w w' ∧ w'.cell? ⟨b, 0, none⟩ = some (.func (.func k) #[] caps) := by
 subst hb
 exact (onfile_any n k caps w).mono fun e w' h => ⟨h.1, h.2.1, h.2.2.1⟩

set_option maxRecDepth 100000 in
set_option maxHeartbeats 6400000 in
theorem append_any {S : Nat → Prop} {w : World} {d : Nat} {M : DM} (h : DiskIn S w d M) (n : List UInt8) (hn : n.length ≤ 9223372036854775807) (pa : Option Addr) (m c : Nat) (l : List Nat) (hB : Bytes w pa m c l) (hap : 0 < m → ∀ a, pa = some a → ¬ S a.block) (hlim : usedF M.fs + l.length ≤ 140737488355328) :
  Calls Tryz.prog 55 #[.pointer (some ⟨d, 0, none⟩), encStr n, .slice pa m c] w (ActEnd S w d (appendM n l M)) := by
 have hb : Below w.heap.size w ((w.alloc (.cells #[.pointer (some ⟨d, 0, none⟩)] 23)).alloc (.cells #[.slice pa m c] 58)) := ((Below.refl w.heap.size w).alloc (Nat.le_refl _) _).alloc (by simp) _
 have hbd : ((w.alloc (.cells #[.pointer (some ⟨d, 0, none⟩)] 23)).alloc (.cells #[.slice pa m c] 58)).cell? ⟨w.heap.size, 0, none⟩ = some (.pointer (some ⟨d, 0, none⟩)) :=
  (Chg.alloc (fun _ => False) _ _).cell (cell_of_row _ _ _ _ _ (0, 0) (heap_alloc_new _ _)) (fun h => h)
 have hbs : ((w.alloc (.cells #[.pointer (some ⟨d, 0, none⟩)] 23)).alloc (.cells #[.slice pa m c] 58)).cell? ⟨w.heap.size + 1, 0, none⟩ = some (.slice pa m c) := by
  have := cell_of_row ((w.alloc (.cells #[.pointer (some ⟨d, 0, none⟩)] 23)).alloc (.cells #[.slice pa m c] 58)) (w.heap.size + 1) 0 #[.slice pa m c] 58 (0, 0) (by have := heap_alloc_new (w.alloc (.cells #[.pointer (some ⟨d, 0, none⟩)] 23)) (.cells #[.slice pa m c] 58); simpa using this)
  exact this
 have hsz : ((w.alloc (.cells #[.pointer (some ⟨d, 0, none⟩)] 23)).alloc (.cells #[.slice pa m c] 58)).heap.size = w.heap.size + 2 := by simp
 have hS0 : ∀ b, w.heap.size ≤ b → ¬ S b := fun b hb hs => by obtain ⟨_, _, _, h⟩ := h; exact absurd (h.bound b hs) (by omega)
 have HO := Lib.hid (fun (w1 : World) (h1 : w1.heap.size = w.heap.size + 2) => onfile_at n 101 #[.pointer (some ⟨w.heap.size + 1, 0, none⟩), .pointer (some ⟨w.heap.size, 0, none⟩)] (w.heap.size + 2) w1 h1)
 have HC := Lib.hid (fun (w1 : World) (hb1 : Below (w.heap.size + 2) ((w.alloc (.cells #[.pointer (some ⟨d, 0, none⟩)] 23)).alloc (.cells #[.slice pa m c] 58)) w1) (hc : w1.cell? ⟨w.heap.size + 2, 0, none⟩ = some (.func (.func 101) #[] #[.pointer (some ⟨w.heap.size + 1, 0, none⟩), .pointer (some ⟨w.heap.size, 0, none⟩)])) =>
  (change_any ((h.below hb).below (by rw [hsz]; exact hb1)) n hn 101 (w.heap.size + 2) #[.pointer (some ⟨w.heap.size + 1, 0, none⟩), .pointer (some ⟨w.heap.size, 0, none⟩)] (by exact enters_of Tryz.func101 (by kernel_rfl) rfl) hc (hS0 _ (by omega))
   (fun f M => if usedF M.fs + l.length ≤ M.room then ({ M with fs := setN F.n ⟨n, f.b ++ l, f.d⟩ M.fs }, 0) else (M, 5))
   (fun mb p L w' x hD hcc hx => append1_any hD n hx (w.heap.size + 1) w.heap.size pa m c l
    (hcc.cell ((Chg.of_below (S := fun _ => False) (by rw [hsz]; exact hb1)).cell hbs (fun h => h)) (hS0 _ (Nat.le_succ _))) (hcc.cell ((Chg.of_below (S := fun _ => False) (by rw [hsz]; exact hb1)).cell hbd (fun h => h)) (hS0 _ (Nat.le_refl _)))
    (((hB.grow hb).grow (by rw [hsz]; exact hb1)).chg hcc hap)
    (by rw [failM_fs]; exact hlim))).mono (fun e w2 (hq : ActEnd S w1 d (appendM n l M) e w2) => show e = .returned (.int .i64 (appendM n l M).2) ∧ Step S w d (appendM n l M).1 w2 ∧ w2.cell? ⟨w.heap.size, 0, none⟩ = some (.pointer (some ⟨d, 0, none⟩)) from ⟨hq.1, Step.behind hb (Step.behind (by rw [hsz]; exact hb1) hq.2), by
   obtain ⟨_, _, _, hcc⟩ := hq.2
   exact hcc.cell ((Chg.of_below (S := fun _ => False) (by rw [hsz]; exact hb1)).cell hbd (fun h => h)) (hS0 _ (Nat.le_refl _))⟩))
 have HK := Lib.hid (fun (w1 : World) (hb1 : Below (w.heap.size + 2) ((w.alloc (.cells #[.pointer (some ⟨d, 0, none⟩)] 23)).alloc (.cells #[.slice pa m c] 58)) w1) => show w1.cell? ⟨w.heap.size, 0, none⟩ = some (.pointer (some ⟨d, 0, none⟩)) from (Chg.of_below (S := fun _ => False) (by rw [hsz]; exact hb1)).cell hbd (fun h => h))
 have Hsz := Lib.hid (show ((w.alloc (.cells #[.pointer (some ⟨d, 0, none⟩)] 23)).alloc (.cells #[.slice pa m c] 58)).drew.heap.size = w.heap.size + 2 from hsz)
 clear h hb hbd hbs hsz hS0 hB hap hlim
 go_enter Tryz.func55, Tryz.ntmps55
 go_wp2
 go_region_held (fun w' => w'.cell? ⟨w.heap.size, 0, none⟩ = some (.pointer (some ⟨d, 0, none⟩)))
  (first | exact HK.out _ ((Below.refl _ _).drew) | exact HK.out _ hb1 | exact hk2)
  (first
   | (go_at_call 100; (with_reducible refine (HO.out _ Hsz.out).mono ?_); rintro e w1 ⟨rfl, hb0, hc1⟩; have hb1 := ((Below.refl (w.heap.size + 2) ((w.alloc (.cells #[.pointer (some ⟨d, 0, none⟩)] 23)).alloc (.cells #[.slice pa m c] 58))).drew).trans hb0; have HC1 := Lib.hid (HC.out w1 hb1 hc1); clear hb0 hc1)
   | (go_at_call 81; (with_reducible refine HC1.out.mono ?_); rintro e w2 ⟨rfl, hq, hk2⟩; have Hq := Lib.hid hq; clear hq))
 all_goals go_wp2
 all_goals go_ret
 all_goals exact ⟨rfl, Hq.out⟩
end Go.Proofs.YtnbddiiedagllaaGreat

/- The walk of slices.Clone of bytes. -/
namespace Go.Proofs.YtnbddiiedagllaaGreat
open Go.RowKit

theorem clone_nil (w : World) : Calls Tryz.prog 97 #[.slice none 0 0] w (NewBytes w []) := by
 have hq := fun (w : World) (a : Option Addr) (n c : Nat) => Lib.run_eql_slice_nil (P := Tryz.prog) w 58 5 a n c 0 0 Tryz.underlying58
 go_enter Tryz.func97, Tryz.ntmps97
 go_wp2
 go_ret
 exact ⟨_, rfl, World.ownsRow_nil _ _ _ _, Below.refl _ _⟩

theorem clone_some (a : Addr) (n cap : Nat) (l : List Nat) (w : World) (hl : Bytes w (some a) n cap l) (hn : n ≤ 140737488355328) : Calls Tryz.prog 97 #[.slice (some a) n cap] w (NewBytes w l) := by
 have hl := Lib.hid (hl.grow (w' := w.alloc (.cells #[] 5)) ((Below.refl _ _).alloc (Nat.le_refl _) _))
 have hown : (w.alloc (.cells #[] 5)).ownsRow w.heap.size 5 1 (.slice (some ⟨w.heap.size, 0, none⟩) 0 0) 0 (u8s []) := World.ownsRow_made w #[] 0 (Nat.le_refl _) (Nat.zero_le _) rfl
 have hown := Lib.hid hown
 rename_i hl0 hown0; clear hl0 hown0
 have hq := fun (w : World) (a : Option Addr) (n c : Nat) => Lib.run_eql_slice_nil (P := Tryz.prog) w 58 5 a n c 0 0 Tryz.underlying58
 have hbel : Below w.heap.size w (w.alloc (.cells #[] 5)) := (Below.refl _ _).alloc (Nat.le_refl _) _
 go_enter Tryz.func97, Tryz.ntmps97
 go_wp2_with (at_builtin; refine wpList_append_bytes _ rfl _ _ 58 rfl w.heap.size 5 Tryz.underlying58 info_u8 _ _ _ rfl hown.out (some a) n cap l rfl hl.out (by omega) hbel.size ?_; intro v' w1 g1 g2)
 go_ret
 refine ⟨_, rfl, ?_, hbel.grown g2 hbel.size (fun k hk => (hown.out.lt k hk).1)⟩
 rw [hl.out.len]
 simpa using g1

theorem clone_any (a : Option Addr) (n cap : Nat) (l : List Nat) (w : World) (hl : Bytes w a n cap l) (hn : n ≤ 140737488355328) : Calls Tryz.prog 97 #[.slice a n cap] w (NewBytes w l) := by
 cases a with
 | none =>
  obtain rfl : cap = 0 := hl.nil rfl
  obtain rfl : n = 0 := by have := hl.le; omega
  obtain rfl : l = [] := List.length_eq_zero_iff.1 hl.len
  exact clone_nil w
 | some a => exact clone_some a n cap l w hl hn

end Go.Proofs.YtnbddiiedagllaaGreat

