import Derived.Test.YtnbddiiedagllaaGreatSSL29
import Derived.Test.YtnbddiiedagllaaGreatSSL34
import Derived.Test.YtnbddiiedagllaaGreatSSL25
import Derived.Test.YtnbddiiedagllaaGreatSSL35
import Derived.Test.YtnbddiiedagllaaGreatSSL33
import Derived.Test.YtnbddiiedagllaaGreatSSL30
import Derived.Deep.RegionHeld3
/- Disks on which no failure is planned stay up; the numbers of a disk's segments; what is found is found. -/
namespace Go.Proofs.YtnbddiiedagllaaGreat
open Go.RowKit Go.Maps

def Up (M : DM) : Prop := M.down = false ∧ M.plan = 0

theorem up_fail {M : DM} (h : Up M) : Up (failM M) := by
 unfold failM
 rw [if_neg (by rw [h.1]; decide), if_neg (by rw [h.2]; decide)]
 exact ⟨h.1, by show M.plan - 1 = 0; rw [h.2]⟩

theorem up_chg {M : DM} (h : Up M) {nm : List UInt8} {act : DM → DM × Int} (ha : ∀ M', Up M' → Up (act M').1) : Up (chgM M nm act).1 := by
 unfold chgM
 split
 ·exact up_fail h
 ·split
  ·exact ha _ (up_fail h)
  ·exact up_fail h

theorem up_on {M : DM} (h : Up M) {nm : List UInt8} {act : F → DM → DM × Int} (ha : ∀ f, Up (act f M).1) : Up (onM nm act M).1 := by
 unfold onM
 split
 ·exact h
 ·exact ha _

theorem up_step {M : DM} (h : Up M) (k : Int) (nm tt : List UInt8) (bs : List Nat) : Up (stepM k nm tt bs M).1 := by
 unfold stepM
 split
 ·exact up_chg h fun M' h' => by
   split
   ·exact h'
   ·exact ⟨h'.1, h'.2⟩
 ·split
  ·exact up_chg h fun M' h' => up_on h' fun f => by
    split
    ·exact ⟨h'.1, h'.2⟩
    ·exact h'
  ·split
   ·exact up_chg h fun M' h' => up_on h' fun f => ⟨h'.1, h'.2⟩
   ·split
    ·exact up_chg h fun M' h' => up_on h' fun f => by
      split
      ·exact ⟨h'.1, h'.2⟩
      ·exact h'
    ·exact up_chg h fun M' h' => up_on h' fun f => ⟨h'.1, h'.2⟩

theorem up_steps : ∀ (l : List SO) {M : DM}, Up M → Up (stepsM l M).1
 | [], _, h => h
 | x :: l, M, h => by
  have h1 := up_step h x.k x.nm x.tt x.bs
  unfold stepsM
  split
  ·exact up_steps l h1
  ·exact h1

theorem segs_ex (M : DM) : ∃ out, SegsOf M out := by
 obtain ⟨h1, h2⟩ := compact_sorted ((M.fs.map fun f => ((segNum (nmL f.n) : Nat) : Int)).filter fun x => decide (0 < x))
 refine ⟨_, h1, fun x => ?_⟩
 rw [h2, List.mem_filter, List.mem_map]
 constructor
 ·rintro ⟨⟨f, hf, rfl⟩, h0⟩
  have h0 := of_decide_eq_true h0
  exact ⟨nmL f.n, List.mem_map.2 ⟨f, hf, rfl⟩, by omega, rfl⟩
 ·rintro ⟨l, hl, h0, rfl⟩
  obtain ⟨f, hf, rfl⟩ := List.mem_map.1 hl
  exact ⟨⟨f, hf, rfl⟩, decide_eq_true (by omega)⟩

theorem foundAt_grow {B : Nat} {w w' : World} {ps : List PS} {k : Nat} {x : FD} (h : FoundAt B w ps k x) (hb : Below w.heap.size w w') : FoundAt B w' ps k x := by
 obtain ⟨h1, h2, ⟨h0, h3, h4, h5, h6⟩, h7⟩ := h
 exact ⟨h1.grow hb, h2.grow hb, ⟨h0, h3, h4.grow hb, h5, h6⟩, h7⟩

theorem findQ_grow {B : Nat} {ps : List PS} (x : FD) (z : Int) (w1 w2 : World) (h : FindQ B ps x z w1) (hb : Below w1.heap.size w1 w2) : FindQ B ps x z w2 := by
 rcases h with h | ⟨k, hF, h | ⟨hg, hz, ha⟩⟩
 ·exact .inl h
 ·exact .inr ⟨k, hF, .inl h⟩
 ·exact .inr ⟨k, hF, .inr ⟨hg, hz, foundAt_grow ha hb⟩⟩

theorem findQ_log {B : Nat} {ps : List PS} {x : FD} {z : Int} {w : World} (h : FindQ B ps x z w) : ∃ y, IsLog ps y ∧ z = y.z ∧ x.tn = (y.torn : Int) ∧ x.rn = y.recs.length ∧ Parts w x.ra x.rn x.rc y.recs := by
 have hnil : Parts w none 0 0 ([] : List (List Nat)) := by
  obtain ⟨a, c, e, hp⟩ := (OwnParts.nil w 0).parts
  cases e
  exact hp
 rcases h with ⟨h0, rfl, rfl⟩ | ⟨k, hF, ⟨hg, rfl, rfl⟩ | ⟨hg, rfl, h1, h2, ⟨h0, h3, h4, h5, h6⟩, h7⟩⟩
 ·exact ⟨⟨0, [], 0⟩, .inl ⟨h0, rfl⟩, rfl, rfl, rfl, hnil⟩
 ·exact ⟨⟨11, [], 0⟩, .inr ⟨k, Nat.lt_of_le_of_lt (Nat.zero_le _) hF.1, hF, .inl ⟨hg, rfl⟩⟩, rfl, rfl, rfl, hnil⟩
 ·obtain ⟨a, c, e, hp⟩ := h1.own.parts
  injection e with e1 e2 e3
  refine ⟨⟨0, recsL (ps.drop k), (ps[ps.length - 1]'(by omega)).t.length⟩, .inr ⟨k, h0, hF, .inr ⟨hg, rfl⟩⟩, rfl, h6, e2, ?_⟩
  rw [e1, e2, e3]
  exact hp
end Go.Proofs.YtnbddiiedagllaaGreat

/- What Open leaves of a disk, in size and names. -/
namespace Go.Proofs.YtnbddiiedagllaaGreat
open Go.RowKit Go.Maps

theorem stepsM_neat' : ∀ (ops : List SO) {M : DM} {N U : Nat}, Neat M N U → Neat (stepsM ops M).1 (N + ops.length) (U + (ops.map fun x => x.bs.length).sum)
 | [], _, _, _, h => h
 | x :: ops, M, N, U, h => by
  have h1 := stepM_neat h x.k x.nm x.tt x.bs
  have e : stepsM (x :: ops) M = if (soM x M).2 = 0 then stepsM ops (soM x M).1 else soM x M := rfl
  rw [e, List.map_cons, List.sum_cons, List.length_cons]
  split
  ·exact (stepsM_neat' ops h1).mono (by omega) (by omega)
  ·exact h1.mono (by omega) (by omega)

theorem asc_sub' : ∀ (xs ys : List Int), xs.Pairwise (· < ·) → (∀ x ∈ xs, x ∈ ys) → xs.length ≤ ys.length
 | [], _, _, _ => Nat.zero_le _
 | x :: xs, ys, hp, hs => by
  obtain ⟨h1, h2⟩ := List.pairwise_cons.1 hp
  have hx := hs x (List.mem_cons_self ..)
  have ih := asc_sub' xs (ys.erase x) h2 (fun y hy => by
   have hne : y ≠ x := fun e => by have := h1 y hy; omega
   exact (List.mem_erase_of_ne hne).2 (hs y (List.mem_cons_of_mem _ hy)))
  rw [List.length_erase_of_mem hx] at ih
  have : 0 < ys.length := List.length_pos_of_mem hx
  rw [List.length_cons]
  omega

theorem segs_many {M : DM} {ps : List PS} (hA : AllOf M ps) : ps.length ≤ M.fs.length := by
 have h1 := asc_sub' (ps.map PS.n) (M.fs.map fun f => ((segNum (nmL f.n) : Nat) : Int)) (allOf_asc hA) (fun x hx => by
  obtain ⟨l, hl, _, rfl⟩ := (hA.1.2 x).1 hx
  obtain ⟨f, hf, rfl⟩ := List.mem_map.1 hl
  exact List.mem_map.2 ⟨f, hf, rfl⟩)
 rw [List.length_map, List.length_map] at h1
 exact h1

def Named (M : DM) : Prop := ∀ f ∈ M.fs, f.n.length ≤ 9223372036854775807

theorem mem_setN' {x y : F} {fs : List F} (h : y ∈ setN F.n x fs) : y = x ∨ y ∈ fs := by
 unfold setN at h
 obtain ⟨z, hz, rfl⟩ := List.mem_map.1 h
 by_cases e : (F.n z == F.n x) = true
 ·rw [if_pos e]; exact .inl rfl
 ·rw [if_neg e]; exact .inr hz

theorem named_step {M : DM} (h : Named M) (k : Int) {nm tt : List UInt8} (bs : List Nat) (h1 : nm.length ≤ 9223372036854775807) (h2 : tt.length ≤ 9223372036854775807) : Named (stepM k nm tt bs M).1 := by
 have chg : ∀ {act : DM → DM × Int}, (∀ M', M'.fs = M.fs → Named (act M').1) → Named (chgM M nm act).1 := by
  intro act ha
  have hf : Named (failM M) := by unfold Named; rw [failM_fs' M]; exact h
  unfold chgM
  split
  ·exact hf
  ·split
   ·exact ha _ (failM_fs' M)
   ·exact hf
 have on : ∀ {M' : DM} {act : F → DM → DM × Int}, M'.fs = M.fs → (∀ f, Named (act f M').1) → Named (onM nm act M').1 := by
  intro M' act he ha
  unfold onM
  split
  ·unfold Named; rw [he]; exact h
  ·exact ha _
 have put : ∀ {x : F} {fs : List F}, x.n.length ≤ 9223372036854775807 → (∀ f ∈ fs, f.n.length ≤ 9223372036854775807) → ∀ f ∈ putN F.n x fs, f.n.length ≤ 9223372036854775807 := by
  intro x fs hx hfs f hf
  unfold putN at hf
  rcases (mem_insN F.n _ _ _).1 hf with rfl | hf
  ·exact hx
  ·unfold delN at hf
   exact hfs f (List.mem_filter.1 hf).1
 have set : ∀ {x : F} {fs : List F}, x.n.length ≤ 9223372036854775807 → (∀ f ∈ fs, f.n.length ≤ 9223372036854775807) → ∀ f ∈ setN F.n x fs, f.n.length ≤ 9223372036854775807 := by
  intro x fs hx hfs f hf
  rcases mem_setN' hf with rfl | hf
  ·exact hx
  ·exact hfs f hf
 have del : ∀ {fs : List F}, (∀ f ∈ fs, f.n.length ≤ 9223372036854775807) → ∀ f ∈ delN F.n nm fs, f.n.length ≤ 9223372036854775807 := by
  intro fs hfs f hf
  unfold delN at hf
  exact hfs f (List.mem_filter.1 hf).1
 unfold stepM
 split
 ·exact chg fun M' e => by
   have hM : Named M' := by unfold Named; rw [e]; exact h
   split
   ·exact hM
   ·exact put h1 hM
 ·split
  ·exact chg fun M' e => on e fun f => by
    have hM : Named M' := by unfold Named; rw [e]; exact h
    split
    ·exact set h1 hM
    ·exact hM
  ·split
   ·exact chg fun M' e => on e fun f => by
     have hM : Named M' := by unfold Named; rw [e]; exact h
     exact set h1 hM
   ·split
    ·exact chg fun M' e => on e fun f => by
      have hM : Named M' := by unfold Named; rw [e]; exact h
      split
      ·exact put h2 (del hM)
      ·exact hM
    ·exact chg fun M' e => on e fun f => by
      have hM : Named M' := by unfold Named; rw [e]; exact h
      exact del hM

theorem named_steps : ∀ (ops : List SO) {M : DM}, Named M → (∀ x ∈ ops, x.nm.length ≤ 9223372036854775807 ∧ x.tt.length ≤ 9223372036854775807) → Named (stepsM ops M).1
 | [], _, h, _ => h
 | x :: ops, M, h, ho => by
  have h1 := named_step h x.k x.bs (ho x (List.mem_cons_self ..)).1 (ho x (List.mem_cons_self ..)).2
  have e : stepsM (x :: ops) M = if (soM x M).2 = 0 then stepsM ops (soM x M).1 else soM x M := rfl
  rw [e]
  split
  ·exact named_steps ops h1 (fun y hy => ho y (List.mem_cons_of_mem _ hy))
  ·exact h1

end Go.Proofs.YtnbddiiedagllaaGreat

/- The walks of the steps of a compaction on a disk of the call's own. -/
namespace Go.Proofs.YtnbddiiedagllaaGreat
open Go.RowKit Go.Maps Go.Shelf

attribute [local go_sem ↓] Go.wp_at_zero Go.wp_at_succ

def compV (d : Nat) (n : Int) (p : Option Addr) (m c : Nat) : Value := .agg #[.pointer (some ⟨d, 0, none⟩), .int .i64 n, .slice p m c]
def compO (d : Nat) (n : Int) (p : Option Addr) (m c : Nat) : Obj := .cells #[.pointer (some ⟨d, 0, none⟩), .int .i64 n, .slice p m c] 150

theorem tfile_any (N : Nat) (w : World) (h1 : 1 ≤ N) (hN : N ≤ 99999999) :
  Calls Tryz.prog 98 #[.int .i64 (N : Int)] w fun e w' => e = .returned (encStr (nmB N)) ∧ Below w.heap.size w w' := by
 have HI := Lib.hid (fun w1 => segname_yes N w1 h1 hN)
 clear h1 hN
 go_enter Tryz.func98, Tryz.ntmps98
 go_wp2_with fail
 refine (HI.out _).mono ?_
 rintro e w' ⟨rfl, hb⟩
 have Hb := Lib.hid hb
 clear hb
 go_wp2
 go_ret
 exact ⟨rfl, Hb.out⟩

theorem box3c {w : World} {B : Nat} {v0 v1 v2 : Value} {t : TypeId} (h : w.heap[B]? = some (.cells #[v0, v1, v2] t (0, 0))) :
  w.cell? ⟨B, 0, none⟩ = some v0 ∧ w.cell? ⟨B, 1, none⟩ = some v1 ∧ w.cell? ⟨B, 2, none⟩ = some v2 ∧ ∀ i, w.frozen? ⟨B, i, none⟩ = false := by
 refine ⟨?_, ?_, ?_, fun i => by simp [World.frozen?, h]⟩ <;> (rw [cell_of_row _ _ _ _ _ (0, 0) h]; rfl)

theorem OwnEnd.past {w0 : World} {X Y : Nat → Prop} {w w1 : World} {d : Nat} {M : DM} (hX : ∀ b, X b → b < w.heap.size) (h0 : w0.heap.size ≤ w.heap.size) (hb : Below w.heap.size w w1) (hY : ∀ b, X b → Y b) {w' : World} (h : OwnEnd w0 Y w1 d M w') : OwnEnd w0 X w d M w' := by
 obtain ⟨h1, h2, h3, h4⟩ := h
 exact ⟨h1.sub hY, fun b hx => (h2 b (hY b hx)).trans (hb.block b (hX b hx)), (hb.mono h0).trans h3, Nat.le_trans hb.size h4⟩

section
variable {w0 : World} {X : Nat → Prop} {w : World} {d : Nat} {M : DM}

theorem comp_box (h : Own w0 X w d M) (n : Int) (p : Option Addr) (m c : Nat) : ∃ w1, w1 = w.alloc (compO d n p m c) ∧ Below w.heap.size w w1 ∧ w.heap.size < w1.heap.size ∧ Own w0 (fun b => X b ∨ b = w.heap.size) w1 d M ∧ w1.heap[w.heap.size]? = some (compO d n p m c) := by
 have hb : Below w.heap.size w (w.alloc (compO d n p m c)) := (Below.refl _ _).alloc (Nat.le_refl _) _
 exact ⟨_, rfl, hb, by simp, h.more hb (fun b hb => hb.elim .inl (fun e => .inr ⟨by omega, by rw [World.size_alloc]; omega⟩)), heap_alloc_new _ _⟩

set_option maxRecDepth 100000 in
theorem t_create (h : Own w0 X w d M) (hL : M.fs.length < 1000000) (n : Int) (p : Option Addr) (m c : Nat) :
  Calls Tryz.prog 131 #[compV d n p m c] w (OwnAct w0 X w d (createM newB M)) := by
 obtain ⟨w1, hw1, hb1, hz1, hO1, hB1⟩ := comp_box h n p m c
 have HA := Lib.hid (own_create hO1 newB (by decide) hL)
 have hk := Lib.hid (fun w' => OwnEnd.past (w' := w') (M := (createM newB M).1) (d := d) h.blocks h.base.size hb1 (Y := fun b => X b ∨ b = w.heap.size) (fun b => .inl))
 unfold compO at hw1 hB1
 obtain ⟨k0, k1, k2, kf⟩ := box3c hB1
 have Hw1 := Lib.hid hw1
 clear h hw1 hb1 hz1 hO1 hB1 hL
 unfold compV
 go_enter Tryz.func131, Tryz.ntmps131
 go_wp2_with fail
 rw [← Hw1.out]
 refine HA.out.mono ?_
 rintro e w5 ⟨rfl, hq⟩
 have Hq := Lib.hid hq
 clear hq k0 k1 k2 kf
 go_wp2
 go_ret
 exact ⟨rfl, hk.out _ Hq.out⟩

set_option maxRecDepth 100000 in
theorem t_sync (h : Own w0 X w d M) (n : Int) (p : Option Addr) (m c : Nat) :
  Calls Tryz.prog 133 #[compV d n p m c] w (OwnAct w0 X w d (syncM newB M)) := by
 obtain ⟨w1, hw1, hb1, hz1, hO1, hB1⟩ := comp_box h n p m c
 have HA := Lib.hid (own_sync hO1 newB (by decide))
 have hk := Lib.hid (fun w' => OwnEnd.past (w' := w') (M := (syncM newB M).1) (d := d) h.blocks h.base.size hb1 (Y := fun b => X b ∨ b = w.heap.size) (fun b => .inl))
 unfold compO at hw1 hB1
 obtain ⟨k0, k1, k2, kf⟩ := box3c hB1
 have Hw1 := Lib.hid hw1
 clear h hw1 hb1 hz1 hO1 hB1
 unfold compV
 go_enter Tryz.func133, Tryz.ntmps133
 go_wp2_with fail
 rw [← Hw1.out]
 refine HA.out.mono ?_
 rintro e w5 ⟨rfl, hq⟩
 have Hq := Lib.hid hq
 clear hq k0 k1 k2 kf
 go_wp2
 go_ret
 exact ⟨rfl, hk.out _ Hq.out⟩

set_option maxRecDepth 100000 in
theorem t_fill (h : Own w0 X w d M) (n : Int) (p : Option Addr) (m c : Nat) (l : List Nat) (hB : Bytes w p m c l) (hp : 0 < m → ∀ a, p = some a → X a.block) (hlim : usedF M.fs + l.length ≤ 140737488355328) :
  Calls Tryz.prog 132 #[compV d n p m c] w (OwnAct w0 X w d (appendM newB l M)) := by
 obtain ⟨w1, hw1, hb1, hz1, hO1, hB1⟩ := comp_box h n p m c
 have HA := Lib.hid (own_append hO1 newB (by decide) p m c l (hB.grow hb1) (fun h0 a ha => .inl (.inl (hp h0 a ha))) hlim)
 have hk := Lib.hid (fun w' => OwnEnd.past (w' := w') (M := (appendM newB l M).1) (d := d) h.blocks h.base.size hb1 (Y := fun b => X b ∨ b = w.heap.size) (fun b => .inl))
 unfold compO at hw1 hB1
 obtain ⟨k0, k1, k2, kf⟩ := box3c hB1
 have Hw1 := Lib.hid hw1
 clear h hw1 hb1 hz1 hO1 hB1 hB hp hlim
 unfold compV
 go_enter Tryz.func132, Tryz.ntmps132
 go_wp2_with fail
 rw [← Hw1.out]
 refine HA.out.mono ?_
 rintro e w5 ⟨rfl, hq⟩
 have Hq := Lib.hid hq
 clear hq k0 k1 k2 kf
 go_wp2
 go_ret
 exact ⟨rfl, hk.out _ Hq.out⟩

set_option maxRecDepth 100000 in
theorem t_clear (h : Own w0 X w d M) (hL : M.fs.length ≤ 1000000) (hL2 : M.fs.length < 1000000) (n : Int) (p : Option Addr) (m c : Nat) :
  Calls Tryz.prog 130 #[compV d n p m c] w (OwnAct w0 X w d (stepsM (cleanM [newB] M) M)) := by
 obtain ⟨w1, hw1, hb1, hz1, hO1, hB1⟩ := comp_box h n p m c
 have HL := Lib.hid (own_list hO1 hL2)
 have HO := Lib.hid hO1
 have hk := Lib.hid (fun M' w' => OwnEnd.past (w' := w') (M := M') (d := d) h.blocks h.base.size hb1 (Y := fun b => X b ∨ b = w.heap.size) (fun b => .inl))
 unfold compO at hw1 hB1
 obtain ⟨k0, k1, k2, kf⟩ := box3c hB1
 have Hw1 := Lib.hid hw1
 have HB1 := Lib.hid hB1
 have Hfl := Lib.hid hL
 clear h hw1 hb1 hz1 hO1 hB1 hL hL2
 unfold compV
 go_enter Tryz.func130, Tryz.ntmps130
 go_wp2_with fail
 rw [← Hw1.out]
 clear Hw1
 refine HL.out.mono ?_
 rintro e w2 ⟨v2, rfl, hown2, hb2⟩
 obtain ⟨p2, k2', rfl, hCn⟩ := contains_any hown2 Hfl.out
 have HCn := Lib.hid (hCn newB w2 (Below.refl _ _))
 have hO2 := HO.out.below hb2
 obtain ⟨q0, q1, q2, qf⟩ := box3c ((hb2.block _ (Array.getElem?_eq_some_iff.1 HB1.out).1).trans HB1.out)
 have Hend := Lib.hid (fun M' w' (hE : OwnEnd w0 (fun b => X b ∨ b = w.heap.size) w2 d M' w') => hk.out M' w' (OwnEnd.past HO.out.blocks HO.out.base.size hb2 (fun _ h => h) hE))
 have HRm := Lib.hid (own_remove hO2 newB (by decide))
 have HO2 := Lib.hid hO2
 clear k0 k1 k2 kf hown2 hCn hb2 hk HB1 HO hO2 HL
 go_wp2_with fail
 refine HCn.out.mono ?_
 rintro e w3 ⟨rfl, rfl⟩
 by_cases hc : newB ∈ M.fs.map F.n
 ·have hct : decide (newB ∈ M.fs.map F.n) = true := decide_eq_true hc
  have e1 : cleanM [newB] M = [⟨5, newB, [], []⟩] := by
   have := cleanM_snoc [] newB M
   rw [if_pos hc] at this
   exact this
  have HE := Lib.hid (show stepsM (cleanM [newB] M) M = removeM newB M from by
   rw [e1]
   show (if (removeM newB M).2 = 0 then ((removeM newB M).1, (0 : Int)) else removeM newB M) = removeM newB M
   split
   ·next hz => rw [← hz]
   ·rfl)
  rw [hct]
  clear hct e1 hc
  go_wp2_with fail
  refine HRm.out.mono ?_
  rintro e w4 ⟨rfl, hq⟩
  have Hq := Lib.hid hq
  clear hq q0 q1 q2 qf
  go_wp2
  go_ret
  rw [HE.out]
  exact ⟨rfl, Hend.out _ _ Hq.out⟩
 ·have hct : decide (newB ∈ M.fs.map F.n) = false := decide_eq_false hc
  have HE := Lib.hid (show stepsM (cleanM [newB] M) M = (M, 0) from by
   have := cleanM_snoc [] newB M
   rw [if_neg hc] at this
   have e1 : cleanM [newB] M = [] := this
   rw [e1]
   rfl)
  rw [hct]
  clear hct hc q0 q1 q2 qf
  go_wp2
  go_ret
  rw [HE.out]
  exact ⟨rfl, Hend.out _ _ ⟨HO2.out, fun _ _ => rfl, Below.refl _ _, Nat.le_refl _⟩⟩

set_option maxRecDepth 100000 in
theorem t_number (h : Own w0 X w d M) (hL : M.fs.length < 1000000) (N : Nat) (h1 : 1 ≤ N) (hN : N ≤ 99999999) (p : Option Addr) (m c : Nat) :
  Calls Tryz.prog 134 #[compV d (N : Int) p m c] w (OwnAct w0 X w d (renameM newB (nmB N) M)) := by
 obtain ⟨w1, hw1, hb1, hz1, hO1, hB1⟩ := comp_box h (N : Int) p m c
 have HR := Lib.hid (fun W (hW : Below w1.heap.size w1 W) => (show Calls Tryz.prog 157 #[.pointer (some ⟨d, 0, none⟩), .string ⟨#[110, 101, 119]⟩, encStr (nmB N)] W (OwnAct w0 (fun b => X b ∨ b = w.heap.size) W d (renameM newB (nmB N) M)) from own_rename (hO1.below hW) newB (nmB N) (by decide) (by rw [nmB_length]; decide) hL))
 have HFl := Lib.hid (fun W => tfile_any N W h1 hN)
 have hk := Lib.hid (fun W (hW : Below w1.heap.size w1 W) w' (hE : OwnEnd w0 (fun b => X b ∨ b = w.heap.size) W d (renameM newB (nmB N) M).1 w') => OwnEnd.past (w' := w') (M := (renameM newB (nmB N) M).1) (d := d) h.blocks h.base.size (hb1.trans (hW.mono hb1.size)) (Y := fun b => X b ∨ b = w.heap.size) (fun b => .inl) hE)
 unfold compO at hw1 hB1
 have HB := Lib.hid (fun W (hW : Below w1.heap.size w1 W) => (show W.cell? ⟨w.heap.size, 0, none⟩ = some (.pointer (some ⟨d, 0, none⟩)) ∧ W.cell? ⟨w.heap.size, 1, none⟩ = some (.int .i64 (N : Int)) from by
  obtain ⟨k0, k1, _⟩ := box3c ((hW.block _ (Array.getElem?_eq_some_iff.1 hB1).1).trans hB1)
  exact ⟨k0, k1⟩))
 have Hw1 := Lib.hid hw1
 clear h hw1 hb1 hz1 hO1 hB1 hL h1 hN
 unfold compV
 go_enter Tryz.func134, Tryz.ntmps134
 go_wp2_with fail
 rw [← Hw1.out]
 clear Hw1
 go_region_held3 (fun w' => w'.cell? ⟨w.heap.size, 0, none⟩ = some (.pointer (some ⟨d, 0, none⟩)) ∧ w'.cell? ⟨w.heap.size, 1, none⟩ = some (.int .i64 (N : Int)))
  (first | exact hs7 | exact HB.out _ hb6 | exact HB.out _ (Below.drew (Below.refl _ _)))
  (first
   | (go_at_call 98; (with_reducible refine (HFl.out _).mono ?_); rintro e w6 ⟨rfl, hb0⟩; have hb6 : Below w1.heap.size w1 w6 := (Below.drew (Below.refl _ _)).trans hb0; clear hb0)
   | (go_at_call 157; (with_reducible refine (HR.out _ hb6).mono ?_); rintro e w7 ⟨rfl, hq⟩; have Hq := Lib.hid (hk.out _ hb6 _ hq); have hx7 := hq.2.1 _ (.inr rfl); have hs7 : w7.cell? ⟨w.heap.size, 0, none⟩ = some (.pointer (some ⟨d, 0, none⟩)) ∧ w7.cell? ⟨w.heap.size, 1, none⟩ = some (.int .i64 (N : Int)) := ⟨(World.cell?_of_block (a := ⟨w.heap.size, 0, none⟩) hx7).trans (HB.out _ hb6).1, (World.cell?_of_block (a := ⟨w.heap.size, 1, none⟩) hx7).trans (HB.out _ hb6).2⟩; clear hq hx7))
 go_wp2
 go_ret
 exact ⟨rfl, Hq.out⟩

theorem filter_upto {l : List Int} (ha : Asc l) {n : Int} {j : Nat} (hj : j ≤ l.length) (h1 : ∀ i (h : i < l.length), i < j → l[i] < n) (h2 : j = l.length ∨ ∃ h : j < l.length, n ≤ l[j]) : l.filter (fun x => decide (x < n)) = l.take j := by
 have e : l.filter (fun x => decide (x < n)) = (l.take j ++ l.drop j).filter fun x => decide (x < n) := by rw [List.take_append_drop]
 rw [e, List.filter_append]
 have e1 : (l.take j).filter (fun x => decide (x < n)) = l.take j := by
  rw [List.filter_eq_self]
  intro x hx
  obtain ⟨i, hi, rfl⟩ := List.getElem_of_mem hx
  rw [List.length_take] at hi
  rw [List.getElem_take]
  exact decide_eq_true (h1 i (by omega) (by omega))
 have e2 : (l.drop j).filter (fun x => decide (x < n)) = [] := by
  rw [List.filter_eq_nil_iff]
  intro x hx
  obtain ⟨i, hi, rfl⟩ := List.getElem_of_mem hx
  rw [List.length_drop] at hi
  rw [List.getElem_drop]
  rcases h2 with h2 | ⟨h, h2⟩
  ·omega
  ·have : l[j] ≤ l[j + i] := by
    rcases Nat.eq_zero_or_pos i with h0 | h0
    ·subst h0; exact Int.le_refl _
    ·have := (List.pairwise_iff_getElem.1 ha) j (j + i) h (by omega) (by omega)
     omega
   simp only [decide_eq_true_eq]
   omega
 rw [e1, e2, List.append_nil]

def rmOps (l : List Int) : List SO := l.map fun x => ⟨5, nmB x.toNat, [], []⟩

theorem rmOps_take {l : List Int} {j : Nat} (h : j < l.length) : rmOps (l.take (j + 1)) = rmOps (l.take j) ++ [⟨5, nmB l[j].toNat, [], []⟩] := by
 unfold rmOps
 rw [List.take_succ_eq_append_getElem h, List.map_append]
 rfl

theorem stepsM_one (x : SO) (M : DM) : stepsM [x] M = soM x M := by
 show (if (soM x M).2 = 0 then ((soM x M).1, (0 : Int)) else soM x M) = soM x M
 split
 ·next hz => rw [← hz]
 ·rfl

theorem old_fail {out : List Int} {n : Nat} {j : Nat} (h : ∀ i (h : i < out.length), i < j → out[i] < (n : Int)) : oldOps out n = rmOps (out.take j) ++ rmOps ((out.drop j).filter fun x => decide (x < (n : Int))) := by
 have e1 : (out.take j).filter (fun x => decide (x < (n : Int))) = out.take j := by
  rw [List.filter_eq_self]
  intro x hx
  obtain ⟨i, hi, rfl⟩ := List.getElem_of_mem hx
  rw [List.length_take] at hi
  rw [List.getElem_take]
  exact decide_eq_true (h i (by omega) (by omega))
 have e : out.filter (fun x => decide (x < (n : Int))) = out.take j ++ (out.drop j).filter fun x => decide (x < (n : Int)) := by
  conv => lhs; rw [← List.take_append_drop j out]
  rw [List.filter_append, e1]
 unfold oldOps rmOps
 rw [e, List.map_append]

theorem OwnEnd.then {Y : Nat → Prop} {w1 w2 : World} {M1 M2 : DM} (h1 : OwnEnd w0 Y w d M1 w1) (h2 : OwnEnd w0 Y w1 d M2 w2) : OwnEnd w0 Y w d M2 w2 :=
 ⟨h2.1, fun b hb => (h2.2.1 b hb).trans (h1.2.1 b hb), h1.2.2.1.trans h2.2.2.1, Nat.le_trans h1.2.2.2 h2.2.2.2⟩

theorem stepsM_prefix {a b : List SO} {M : DM} (h : (stepsM a M).2 ≠ 0) : stepsM (a ++ b) M = stepsM a M := by rw [stepsM_append, if_neg h]
theorem stepsM_next {a b : List SO} {M M' : DM} (h : stepsM a M = (M', 0)) : stepsM (a ++ b) M = stepsM b M' := by rw [stepsM_append, h, if_pos rfl]

def OldRel (w0 : World) (Y : Nat → Prop) (d : Nat) (w : World) (M : DM) (out : List Int) (n : Int) (i : Value) (wr : World) : Prop :=
 ∃ (j : Nat) (M' : DM), j ≤ out.length ∧ i = .int .i64 (j : Int) ∧ (∀ i (h : i < out.length), i < j → out[i] < n) ∧ stepsM (rmOps (out.take j)) M = (M', 0) ∧ OwnEnd w0 Y w d M' wr

set_option maxRecDepth 100000 in
set_option maxHeartbeats 3200000 in
theorem t_old (h : Own w0 X w d M) (hL : M.fs.length ≤ 1000) (hnm : Named M) {out : List Int} (ho : SegsOf M out) (N : Nat) (p : Option Addr) (m c : Nat) :
  Calls Tryz.prog 135 #[compV d (N : Int) p m c] w (OwnAct w0 X w d (stepsM (oldOps out N) M)) := by
 have hpos : ∀ x ∈ out, 1 ≤ x ∧ x ≤ 99999999 := by
  intro x hx
  obtain ⟨l, _, h1, rfl⟩ := (ho.2 x).1 hx
  have := segNum_le l
  omega
 obtain ⟨w1, hw1, hb1, hz1, hO1, hB1⟩ := comp_box h (N : Int) p m c
 have HLi := Lib.hid (own_list hO1 (by omega))
 have HFl := Lib.hid (fun K W h1 h2 => tfile_any K W h1 h2)
 have hk := Lib.hid (fun M' w' => OwnEnd.past (w' := w') (M := M') (d := d) h.blocks h.base.size hb1 (Y := fun b => X b ∨ b = w.heap.size) (fun b => .inl))
 unfold compO at hw1 hB1
 have HO := Lib.hid hO1
 have Hw1 := Lib.hid hw1
 have HB1 := Lib.hid hB1
 have Hnm := Lib.hid hnm
 have Hpos := Lib.hid hpos
 have Ho := Lib.hid ho
 clear h hw1 hb1 hz1 hO1 hB1 hnm hpos ho
 obtain ⟨k0, k1, k2, kf⟩ := box3c HB1.out
 unfold compV
 go_enter Tryz.func135, Tryz.ntmps135
 go_wp2_with fail
 rw [← Hw1.out]
 clear Hw1
 refine HLi.out.mono ?_
 rintro e w3 ⟨v3, rfl, hown, hb3⟩
 obtain ⟨p3, k3, rfl, hS3⟩ := strs_row hown (fun n hn => by obtain ⟨f, hf, rfl⟩ := List.mem_map.1 hn; exact Hnm.out f hf)
 have HSl := Lib.hid (seglist_any p3 M.fs.length k3 _ w3 hS3 hL)
 have Hb3 := Lib.hid hb3
 clear hown hS3 hb3 k0 k1 k2 kf HLi
 go_wp2_with fail
 refine HSl.out.mono ?_
 rintro e w4 ⟨v4, out', rfl, hasc, hmem, hol, hown4, hb4⟩
 have hmap : (M.fs.map F.n).map nmL = M.fs.map fun f => nmL f.n := by rw [List.map_map]; rfl
 rw [hmap] at hmem
 obtain rfl : out' = out := segsOf_uniq ⟨hasc, hmem⟩ Ho.out
 obtain ⟨p4, k4, rfl, hI4⟩ := own_ints hown4
 have hb41 := Hb3.out.trans (hb4.mono Hb3.out.size)
 have hol2 : out'.length ≤ 1000 := by
  rw [List.length_map, List.length_map] at hol
  omega
 have hO4 : Own w0 (fun b => (X b ∨ b = w.heap.size) ∨ (w1.heap.size ≤ b ∧ b < w4.heap.size)) w4 d M := HO.out.more hb41 (fun b hb => hb)
 have HEnd := Lib.hid (fun M' w' (hE : OwnEnd w0 (fun b => (X b ∨ b = w.heap.size) ∨ (w1.heap.size ≤ b ∧ b < w4.heap.size)) w4 d M' w') => hk.out M' w' (OwnEnd.past HO.out.blocks HO.out.base.size hb41 (fun _ h => .inl h) hE))
 have HI := Lib.hid hI4
 have HO4 := Lib.hid hO4
 have HB4 := Lib.hid ((hb41.block _ (Array.getElem?_eq_some_iff.1 HB1.out).1).trans HB1.out)
 have Hasc := Lib.hid hasc
 have hrow4 : ∀ b o, p4 = some ⟨b, o, none⟩ → w1.heap.size ≤ b ∧ b < w4.heap.size := by
  rintro b o rfl
  obtain ⟨g1, g2⟩ := hown4.lt b rfl
  exact ⟨Nat.le_trans Hb3.out.size g1, g2⟩
 have Hrow4 := Lib.hid hrow4
 clear hmap hmem hasc hol hown4 hb4 hb41 hI4 hO4 HB1 HO hk hrow4
 go_wp2_with fail
 go_loopw [11] (fun i wr => OldRel w0 (fun b => (X b ∨ b = w.heap.size) ∨ (w1.heap.size ≤ b ∧ b < w4.heap.size)) d w4 M out' (N : Int) i wr) (fun i _ => out'.length - (intOf i).toNat)
 case atStart => exact ⟨0, M, Nat.zero_le _, rfl, fun i h h0 => absurd h0 (Nat.not_lt_zero _), rfl, HO4.out, fun _ _ => rfl, Below.refl _ _, Nat.le_refl _⟩
 case round =>
  obtain ⟨j, M', hj, rfl, hall, hst, hE⟩ := hrel
  have hbx := (hE.2.1 _ (.inl (.inr rfl))).trans HB4.out
  obtain ⟨k0, k1, k2, kf⟩ := box3c hbx
  by_cases hlt : j < out'.length
  ·obtain ⟨b, o, rfl, hc⟩ := HI.out.cell (by omega)
   have hcj := (World.cell?_of_block (a := ⟨b, o + j, none⟩) (hE.2.1 b (.inr (Hrow4.out b o rfl)))).trans (hc j hlt)
   have hgj : out'.getD j 0 = out'[j] := by rw [List.getD_eq_getElem?_getD, List.getElem?_eq_getElem hlt]; rfl
   rw [hgj] at hcj
   obtain ⟨p1, p2⟩ := Hpos.out out'[j] (List.getElem_mem hlt)
   have hji : (j : Int) < (out'.length : Int) := by omega
   have hbrk := fun (h : (N : Int) ≤ out'[j]) => filter_upto Hasc.out hj hall (.inr ⟨hlt, h⟩)
   have hmore : out'[j] < (N : Int) → ∀ i (h : i < out'.length), i < j + 1 → out'[i] < (N : Int) := fun hy i h hi => by
    by_cases e : i = j
    ·subst e; exact hy
    ·exact hall i h (by omega)
   have htk := rmOps_take hlt
   clear hgj hc
   have Hj : Hid (out'[j] = out'[j]) := Lib.hid rfl
   generalize hy0 : out'[j] = y at *
   have Hy0 := Lib.hid hy0
   clear hy0 Hj
   obtain ⟨K, rfl⟩ : ∃ K : Nat, y = (K : Int) := ⟨y.toNat, by omega⟩
   rw [Int.toNat_natCast] at htk
   have Hlt := Lib.hid hlt
   have HE := Lib.hid hE
   by_cases hy : (K : Int) < (N : Int)
   ·obtain ⟨r, hr⟩ : ∃ r, r = removeM (nmB K) M' := ⟨_, rfl⟩
    have hone : stepsM (rmOps (out'.take (j + 1))) M = r := by
     rw [htk, stepsM_next hst, stepsM_one, hr]
     rfl
    have HF := Lib.hid (fun (hz : r.2 ≠ 0) => (show stepsM (oldOps out' N) M = r from by
     rw [old_fail (hmore hy), stepsM_prefix (by rw [hone]; exact hz), hone]))
    have HN := Lib.hid (fun (hz : r.2 = 0) => (show stepsM (rmOps (out'.take (j + 1))) M = (r.1, 0) from by rw [hone, ← hz]))
    have Hmore := Lib.hid (hmore hy)
    have HR := Lib.hid (fun W (hW : Below wr.heap.size wr W) => (show Calls Tryz.prog 152 #[.pointer (some ⟨d, 0, none⟩), encStr (nmB K)] W (OwnAct w0 (fun b => (X b ∨ b = w.heap.size) ∨ (w1.heap.size ≤ b ∧ b < w4.heap.size)) W d r) from by
     rw [hr]
     exact own_remove (hE.1.below hW) (nmB K) (by rw [nmB_length]; decide)))
    have Hx := Lib.hid (fun W (hW : Below wr.heap.size wr W) w' (q : OwnEnd w0 (fun b => (X b ∨ b = w.heap.size) ∨ (w1.heap.size ≤ b ∧ b < w4.heap.size)) W d r.1 w') => hE.then (OwnEnd.past hE.1.blocks hE.1.base.size hW (fun _ h => h) q))
    have HB := Lib.hid (fun W (hW : Below wr.heap.size wr W) => cell_keep hW k0)
    have HFk := Lib.hid (fun W => HFl.out K W (by omega) (by omega))
    have hy1 : ¬ (N : Int) ≤ (K : Int) := by omega
    clear hbx hst hE hall hbrk hmore htk hone hr hlt Hy0
    go_wp2_with fail
    go_region_held3 (fun w' => w'.cell? ⟨w.heap.size, 0, none⟩ = some (.pointer (some ⟨d, 0, none⟩)))
     (first | exact hs7 | exact HB.out _ hb6 | exact HB.out _ (Below.drew (Below.refl _ _)))
     (first
      | (go_at_call 98; (with_reducible refine (HFk.out _).mono ?_); rintro e w6 ⟨rfl, hb0⟩; have hb6 : Below wr.heap.size wr w6 := (Below.drew (Below.refl _ _)).trans hb0; clear hb0)
      | (go_at_call 152; (with_reducible refine (HR.out _ hb6).mono ?_); rintro e w7 ⟨rfl, hq⟩; have Hq := Lib.hid (Hx.out _ hb6 _ hq); have hx7 := hq.2.1 _ (.inl (.inr rfl)); have hs7 : w7.cell? ⟨w.heap.size, 0, none⟩ = some (.pointer (some ⟨d, 0, none⟩)) := (World.cell?_of_block (a := ⟨w.heap.size, 0, none⟩) hx7).trans (HB.out _ hb6); clear hq hx7))
    by_cases hz : r.2 = 0
    ·have hz1 : (r.2 != 0) = false := by simp [hz]
     have HN2 := Lib.hid (HN.out hz)
     clear hz
     go_wp2
     go_roundw
     case rel => exact ⟨j + 1, r.1, Hlt.out, by go_num, Hmore.out, HN2.out, Hq.out⟩
     case measure => simp [intOf]; have := Hlt.out; omega
    ·have hz1 : (r.2 != 0) = true := by simp [hz]
     have HF2 := Lib.hid (HF.out hz)
     clear hz
     go_wp2
     go_ret
     rw [HF2.out]
     exact ⟨rfl, HEnd.out _ _ Hq.out⟩
   ·have HF := Lib.hid (show stepsM (oldOps out' N) M = (M', 0) from by
     unfold oldOps
     rw [hbrk (by omega)]
     exact hst)
    have hy1 : (N : Int) ≤ (K : Int) := by omega
    clear hbx hst hE hall hbrk hmore htk hlt Hy0
    go_wp2
    go_ret
    rw [HF.out]
    exact ⟨rfl, HEnd.out _ _ HE.out⟩
  ·obtain rfl : j = out'.length := by omega
   have hji : ¬ (out'.length : Int) < (out'.length : Int) := by omega
   have HF := Lib.hid (show stepsM (oldOps out' N) M = (M', 0) from by
    unfold oldOps
    rw [filter_upto Hasc.out hj hall (.inl rfl)]
    exact hst)
   have HE := Lib.hid hE
   clear hbx hst hE hall hlt
   go_wp2
   go_ret
   rw [HF.out]
   exact ⟨rfl, HEnd.out _ _ HE.out⟩
end
end Go.Proofs.YtnbddiiedagllaaGreat

