import Derived.Test.YtnbddiiedagllaaGreatSSB23
import Derived.Test.YtnbddiiedagllaaGreatSSB7
/- The walk of a log's take, whatever its steps do; a log in memory. -/
namespace Go.Proofs.YtnbddiiedagllaaGreat
open Go.RowKit Go.Maps Go.Shelf

structure StepD where
 k : Nat
 caps : Array Value
 n : Int
 s : Int
 z : Int

def StepD.cells (x : StepD) : Array Value := #[.func (.func x.k) #[] x.caps, .int .i64 x.n, .int .i64 x.s, .int .i64 x.z]

def TakeStep (g B : Nat) (x : StepD) (Q : Ending → World → Prop) (J : World → Prop) (e : Ending) (w : World) : Prop :=
 ∃ code : Int, e = .returned (.int .i64 code) ∧ (code ≠ 0 → Q (.returned (.int .i64 code)) w) ∧
  (code = 0 → w.heap[B]? = some (.cells x.cells 135 (0, 0)) ∧ (∃ cs, w.heap[g]? = some (.cells cs 129 (0, 0)) ∧ cs.size = 5) ∧ J (((w.setCell ⟨g, 0, none⟩ (.int .i64 x.n)).setCell ⟨g, 1, none⟩ (.int .i64 x.s)).setCell ⟨g, 2, none⟩ (.int .i64 x.z)))

set_option maxRecDepth 100000 in
set_option maxHeartbeats 3200000 in
theorem take_any (g sb n cap : Nat) (L : List StepD) (hn : L.length = n) (hm : n ≤ 1000) (J : Nat → World → Prop) (Q : Ending → World → Prop) (w : World)
  (hent : ∀ (j : Nat) (hj : j < L.length) args w, (callFunc L[j].k args).run Tryz.prog w = .ok (.enter L[j].k args) w) (h0 : J 0 w)
  (hrow : ∀ (j : Nat) (hj : j < L.length) w', J j w' → w'.cell? ⟨sb, j * 4, none⟩ = some (.func (.func L[j].k) #[] L[j].caps) ∧ w'.cell? ⟨sb, j * 4 + 1, none⟩ = some (.int .i64 L[j].n) ∧ w'.cell? ⟨sb, j * 4 + 2, none⟩ = some (.int .i64 L[j].s) ∧ w'.cell? ⟨sb, j * 4 + 3, none⟩ = some (.int .i64 L[j].z))
  (hstep : ∀ (j : Nat) (hj : j < L.length) w', J j w' → Calls Tryz.prog L[j].k L[j].caps (w'.alloc (.cells L[j].cells 135)) (TakeStep g w'.heap.size L[j] Q (J (j + 1))))
  (hend : ∀ w', J n w' → Q (.returned (.int .i64 0)) w') :
  Calls Tryz.prog 78 #[.pointer (some ⟨g, 0, none⟩), .slice (some ⟨sb, 0, none⟩) n cap] w Q := by
 have HN := Lib.hid hn
 have HEnt := Lib.hid hent
 have H0 := Lib.hid h0
 have HRow := Lib.hid hrow
 have HStep := Lib.hid hstep
 have HEnd := Lib.hid hend
 clear hn hent h0 hrow hstep hend
 have hst := fun w a k ts caps m => store_func Tryz.prog w a k ts caps m
 go_enter Tryz.func78, Tryz.ntmps78
 go_wp2
 go_loopw [10] (fun i wr => ∃ j : Nat, j ≤ n ∧ i = .int .i64 (j : Int) ∧ J j wr) (fun i _ => n - (intOf i).toNat)
 case atStart => exact ⟨0, Nat.zero_le _, rfl, H0.out⟩
 case round =>
  obtain ⟨j, hj, rfl, hJ⟩ := hrel
  by_cases hlt : j < n
  ·have hjl : j < L.length := by rw [HN.out]; exact hlt
   obtain ⟨r0, r1, r2, r3⟩ := HRow.out j hjl wr hJ
   have he := HEnt.out j hjl
   have HS := Lib.hid (HStep.out j hjl wr hJ)
   unfold StepD.cells at HS
   have Hlt := Lib.hid hlt
   have hji : (j : Int) < (n : Int) := by omega
   clear hJ
   generalize hLj : L[j] = x at *
   obtain ⟨k, caps, xn, xs, xz⟩ := x
   simp only at *
   clear hLj
   go_wp2_with fail
   refine HS.out.mono ?_
   rintro e w2 ⟨code, rfl, h1, h2⟩
   by_cases hc : code = 0
   ·subst hc
    obtain ⟨hB, ⟨cs, hg, hcs⟩, hJ2⟩ := h2 rfl
    have hb0 : w2.cell? ⟨wr.heap.size, 0, none⟩ = some (.func (.func k) #[] caps) := by rw [cell_of_row _ _ _ _ _ (0, 0) hB]; rfl
    have hb1 : w2.cell? ⟨wr.heap.size, 1, none⟩ = some (.int .i64 xn) := by rw [cell_of_row _ _ _ _ _ (0, 0) hB]; rfl
    have hb2 : w2.cell? ⟨wr.heap.size, 2, none⟩ = some (.int .i64 xs) := by rw [cell_of_row _ _ _ _ _ (0, 0) hB]; rfl
    have hb3 : w2.cell? ⟨wr.heap.size, 3, none⟩ = some (.int .i64 xz) := by rw [cell_of_row _ _ _ _ _ (0, 0) hB]; rfl
    obtain ⟨v0, v1, v2, v3, v4, rfl⟩ : ∃ v0 v1 v2 v3 v4, cs = #[v0, v1, v2, v3, v4] := by
     match cs, hcs with
     | ⟨[v0, v1, v2, v3, v4]⟩, _ => exact ⟨v0, v1, v2, v3, v4, rfl⟩
    have hg0 : w2.cell? ⟨g, 0, none⟩ = some v0 := by rw [cell_of_row _ _ _ _ _ (0, 0) hg]; rfl
    have hg1 : w2.cell? ⟨g, 1, none⟩ = some v1 := by rw [cell_of_row _ _ _ _ _ (0, 0) hg]; rfl
    have hg2 : w2.cell? ⟨g, 2, none⟩ = some v2 := by rw [cell_of_row _ _ _ _ _ (0, 0) hg]; rfl
    have hgf : ∀ i, w2.frozen? ⟨g, i, none⟩ = false := fun i => by simp [World.frozen?, hg]
    have HJ2 := Lib.hid hJ2
    clear h1 h2 hB hg hcs hJ2
    go_wp2
    go_roundw
    case rel => exact ⟨j + 1, Hlt.out, by go_num, HJ2.out⟩
    case measure => simp [intOf]; omega
   ·have HQ := Lib.hid (h1 hc)
    have hc1 : (code == 0) = false := by simpa using hc
    have hc2 : (code != 0) = true := by simpa using hc
    clear h1 h2 hc
    go_wp2
    exact HQ.out
  ·obtain rfl : j = n := by omega
   have HJ := Lib.hid hJ
   have hji : ¬ (j : Int) < (j : Int) := by omega
   clear hJ
   go_wp2
   exact HEnd.out _ HJ.out
end Go.Proofs.YtnbddiiedagllaaGreat

/- The walks of a disk's Remove and Rename. -/
namespace Go.Proofs.YtnbddiiedagllaaGreat
open Go.RowKit Go.Maps Go.Shelf

set_option maxRecDepth 100000 in
set_option maxHeartbeats 3200000 in
theorem remove1_any {S : Nat → Prop} {w : World} {d mb : Nat} {p : Int} {L : List FW} {M : DM} (h : DiskAt S w d mb p L M) (n : List UInt8) (hn : n.length ≤ 9223372036854775807) (v0 : Value) (bd bn : Nat)
  (hbd : w.cell? ⟨bd, 0, none⟩ = some (.pointer (some ⟨d, 0, none⟩))) (hbn : w.cell? ⟨bn, 0, none⟩ = some (encStr n)) :
  Calls Tryz.prog 179 #[v0, .pointer (some ⟨bd, 0, none⟩), .pointer (some ⟨bn, 0, none⟩)] w (ActEnd S w d ({ M with fs := delN F.n n M.fs }, 0)) := by
 obtain ⟨_, c1, _, _, _⟩ := h.cells
 have hd1 := h.drew
 obtain ⟨w2, hrun, hown, hturn⟩ := hd1.dir.drop mapKey Tryz.underlying116 (keyN n hn) 0
 rw [dirD_del] at hown
 have hc : Chg (fun b => b = mb) w.drew w2 := Chg.grown hturn.grown (fun k hk => by cases hk; exact .inl rfl)
 have hE := hd1.out n hown hc
 have hSm : S mb := h.sub mb (by simp)
 have HE := Lib.hid (show Step S w d { M with fs := delN F.n n M.fs } w2 from Step.same ⟨mb, p, _, hE⟩ ((Chg.drew S w).same ⟨hc.os, hc.tape, hc.output, hc.size, fun b hb hns => hc.block b hb (fun e => hns (e ▸ hSm))⟩))
 clear h hd1 hown hturn hc hE hSm
 go_enter Tryz.func179, Tryz.ntmps179
 go_wp2
 go_region
 go_wp2
 go_ret
 exact ⟨rfl, HE.out⟩

theorem delN_sub {A B : List FW} {x : FW} {n : List UInt8} (hn : x.n = n) : (delN FW.n n (A ++ x :: B)).Sublist (A ++ B) := by
 unfold delN
 rw [List.filter_append, List.filter_cons, if_neg (by rw [hn]; simp)]
 exact List.Sublist.append (List.filter_sublist ..) (List.filter_sublist ..)

set_option maxRecDepth 100000 in
set_option maxHeartbeats 6400000 in
theorem rename1_any {S : Nat → Prop} {w : World} {d mb : Nat} {p : Int} {L : List FW} {M : DM} (h : DiskAt S w d mb p L M) (n t : List UInt8) (hn : n.length ≤ 9223372036854775807) (ht : t.length ≤ 9223372036854775807) (hL : M.fs.length < 1000000)
  {x : FW} (hx : findN FW.n n L = some x) (bt bd bn : Nat) (hbt : w.cell? ⟨bt, 0, none⟩ = some (encStr t)) (hbd : w.cell? ⟨bd, 0, none⟩ = some (.pointer (some ⟨d, 0, none⟩))) (hbn : w.cell? ⟨bn, 0, none⟩ = some (encStr n))
  (hSt : ¬ S bt) (hSd : ¬ S bd) :
  Calls Tryz.prog 180 #[.pointer (some ⟨x.blk, 0, none⟩), .pointer (some ⟨bt, 0, none⟩), .pointer (some ⟨bd, 0, none⟩), .pointer (some ⟨bn, 0, none⟩)] w
   (ActEnd S w d (if named t = true then ({ M with fs := putN F.n ⟨t, x.f.b, x.f.d⟩ (delN F.n n M.fs) }, 0) else (M, 6))) := by
 have HP := Lib.hid (possible_any t w)
 cases hnt : named t with
 | false =>
  rw [if_neg (by decide)]
  have Hnt := Lib.hid hnt
  have H := Lib.hid h
  rw [hnt] at HP
  clear h hnt hx hL
  go_enter Tryz.func180, Tryz.ntmps180
  go_wp2_with fail
  refine HP.out.mono ?_
  rintro e w' ⟨rfl, rfl⟩
  go_wp2
  go_ret
  exact ⟨rfl, Step.same ⟨mb, p, L, H.out⟩ (Chg.refl _ _)⟩
 | true =>
  rw [if_pos rfl]
  rw [hnt] at HP
  obtain ⟨_, c1, _, _, _⟩ := h.cells
  obtain ⟨hxL, hxn⟩ := setN_name hx
  have hd1 := h.drew
  obtain ⟨w2, hrun, hown, hturn⟩ := hd1.dir.drop mapKey Tryz.underlying116 (keyN n hn) 0
  rw [dirD_del] at hown
  have hc : Chg (fun b => b = mb) w.drew w2 := Chg.grown hturn.grown (fun k hk => by cases hk; exact .inl rfl)
  have h1 := (hd1.out n hown hc).drew
  have hlen : L.length = M.fs.length := by have := congrArg List.length h.files; rw [List.length_map] at this; exact this.symm
  have hdl : (delN FW.n n L).length ≤ L.length := List.length_filter_le ..
  obtain ⟨w3, hrun3, hown3, hg3⟩ := h1.dir.update mapKey Tryz.underlying116 (by rw [maxLen_nat]; omega) (keyN t ht) (val := .pointer (some ⟨x.blk, 0, none⟩)) (d := .lit (.int .i64 (x.blk : Int))) (ps := []) rfl
  rw [show (dirD (delN FW.n n L)).put (.string t) (.lit (.int .i64 (x.blk : Int))) = dirD (putN FW.n ⟨⟨t, x.f.b, x.f.d⟩, x.blk, x.v⟩ (delN FW.n n L)) from dirD_put ⟨⟨t, x.f.b, x.f.d⟩, x.blk, x.v⟩ _] at hown3
  have hc3 : Chg (fun b => b = mb) w2.drew w3 := Chg.grown hg3 (fun k hk => by cases hk; exact .inl rfl)
  have hc13 : Chg (fun b => b = mb) w w3 := (((Chg.drew _ w).same hc).same (Chg.drew _ w2)).same hc3
  obtain ⟨A, B, hAB⟩ := List.append_of_mem hxL
  have hap := h.apart
  rw [hAB] at hap
  obtain ⟨n1, n2, n3⟩ := List.nodup_append.1 ((apart_mid d mb A B x).nodup_iff.1 hap)
  have hSfp : ∀ b ∈ fpOne x, S b := fun b hb => h.sub b (by simp [mem_fpOf hxL hb])
  have hmbx : ∀ b ∈ fpOne x, b ≠ mb := fun b hb e => n3 b hb mb (by simp) e
  have hok3 : FileOk w3 ⟨⟨t, x.f.b, x.f.d⟩, x.blk, x.v⟩ := by
   have h2 := (h.ok x hxL).keep (w' := w3) (fun b hb => hc13.block b (h.bound b (hSfp b hb)) (hmbx b hb))
   exact ⟨h2.blk, h2.row, h2.byte, h2.dur⟩
  have hE := h1.put (S' := S) ⟨⟨t, x.f.b, x.f.d⟩, x.blk, x.v⟩ hown3 hc3 hok3 (fun b hb hb2 => by
    have hsub : (delN FW.n t (delN FW.n n L)).Sublist (A ++ B) := (List.filter_sublist ..).trans (by rw [hAB]; exact delN_sub hxn)
    exact n3 b hb b ((((fpOf_sub hsub).cons_cons mb).cons_cons d).subset hb2) rfl) n1 hSfp (fun b h => h) (fun b hb => Nat.lt_of_lt_of_le (h.bound b hb) hc13.size) (by
    have u1 := usedF_del t (delN F.n n M.fs)
    have u2 : usedF (delN F.n n M.fs) + x.f.b.length ≤ usedF M.fs := usedF_del_find (x := x.f) (by rw [h.files, findN_map FW.n F.n FW.f (fun _ => rfl), hx]; rfl)
    have := h.used
    show x.f.b.length + usedF (delN F.n t (delN F.n n M.fs)) ≤ M.room
    omega)
  have hSm : S mb := h.sub mb (by simp)
  have HE := Lib.hid (show Step S w d { M with fs := putN F.n ⟨t, x.f.b, x.f.d⟩ (delN F.n n M.fs) } w3 from Step.same ⟨mb, p, _, hE⟩ ⟨hc13.os, hc13.tape, hc13.output, hc13.size, fun b hb hns => hc13.block b hb (fun e => hns (e ▸ hSm))⟩)
  have k1 := hc.cell (w := w.drew) hbd (fun e => hSd (by rw [show bd = mb from e]; exact hSm))
  have k2 := hc.cell (w := w.drew) hbt (fun e => hSt (by rw [show bt = mb from e]; exact hSm))
  obtain ⟨_, k3, _, _, _⟩ := (hd1.out n hown hc).cells
  clear h hd1 hown hturn hc h1 hown3 hg3 hc3 hc13 hAB hap n1 n2 n3 hSfp hmbx hok3 hE hSm hxL hx hL hlen hdl hSt hSd hnt
  go_enter Tryz.func180, Tryz.ntmps180
  go_wp2_with fail
  refine HP.out.mono ?_
  rintro e w' ⟨rfl, rfl⟩
  go_wp2
  go_region
  go_wp2
  go_region
  go_wp2
  go_ret
  exact ⟨rfl, HE.out⟩
end Go.Proofs.YtnbddiiedagllaaGreat

/- A nil disk. -/
namespace Go.Proofs.YtnbddiiedagllaaGreat
open Go.RowKit Go.Maps Go.Shelf

theorem cell_under {w w' : World} {k : Nat} (hb : Below k w w') {a : Addr} {v : Value} (hc : w.cell? a = some v) (hk : a.block < k) : w'.cell? a = some v := by
 rw [World.cell?_of_block (hb.block a.block hk)]
 exact hc

end Go.Proofs.YtnbddiiedagllaaGreat

/- The walks of a disk's Remove and Rename, whole. -/
namespace Go.Proofs.YtnbddiiedagllaaGreat
open Go.RowKit Go.Maps Go.Shelf

set_option maxRecDepth 100000 in
set_option maxHeartbeats 6400000 in
theorem remove_any {S : Nat → Prop} {w : World} {d : Nat} {M : DM} (h : DiskIn S w d M) (n : List UInt8) (hn : n.length ≤ 9223372036854775807) :
  Calls Tryz.prog 152 #[.pointer (some ⟨d, 0, none⟩), encStr n] w (ActEnd S w d (removeM n M)) := by
 have hb : Below w.heap.size w ((w.alloc (.cells #[.pointer (some ⟨d, 0, none⟩)] 23)).alloc (.cells #[encStr n] 9)) := (((Below.refl w.heap.size w).alloc (Nat.le_refl _) (.cells #[.pointer (some ⟨d, 0, none⟩)] 23)).alloc (by simp) (.cells #[encStr n] 9))
 have hcd : ((w.alloc (.cells #[.pointer (some ⟨d, 0, none⟩)] 23)).alloc (.cells #[encStr n] 9)).cell? ⟨w.heap.size, 0, none⟩ = some (.pointer (some ⟨d, 0, none⟩)) := by
  refine (Chg.alloc (fun _ => False) _ _).cell ?_ (fun h => h)
  exact cell_of_row _ _ _ _ _ (0, 0) (heap_alloc_new _ _)
 have hcn : ((w.alloc (.cells #[.pointer (some ⟨d, 0, none⟩)] 23)).alloc (.cells #[encStr n] 9)).cell? ⟨w.heap.size + 1, 0, none⟩ = some (encStr n) := by
  have := cell_of_row ((w.alloc (.cells #[.pointer (some ⟨d, 0, none⟩)] 23)).alloc (.cells #[encStr n] 9)) (w.heap.size + 1) 0 #[encStr n] 9 (0, 0) (by have := heap_alloc_new (w.alloc (.cells #[.pointer (some ⟨d, 0, none⟩)] 23)) (.cells #[encStr n] 9); simpa using this)
  exact this
 have hsz : ((w.alloc (.cells #[.pointer (some ⟨d, 0, none⟩)] 23)).alloc (.cells #[encStr n] 9)).heap.size = w.heap.size + 2 := by simp
 have hS0 : ∀ b, w.heap.size ≤ b → ¬ S b := fun b hb hs => by obtain ⟨_, _, _, h⟩ := h; exact absurd (h.bound b hs) (by omega)
 have HO := Lib.hid (fun (w1 : World) (h1 : w1.heap.size = w.heap.size + 2) => onfile_at n 179 #[.pointer (some ⟨w.heap.size, 0, none⟩), .pointer (some ⟨w.heap.size + 1, 0, none⟩)] (w.heap.size + 2) w1 h1)
 have HC := Lib.hid (fun (w1 : World) (hb1 : Below (w.heap.size + 2) ((w.alloc (.cells #[.pointer (some ⟨d, 0, none⟩)] 23)).alloc (.cells #[encStr n] 9)) w1) (hc : w1.cell? ⟨w.heap.size + 2, 0, none⟩ = some (.func (.func 179) #[] #[.pointer (some ⟨w.heap.size, 0, none⟩), .pointer (some ⟨w.heap.size + 1, 0, none⟩)])) =>
  (change_any ((h.below hb).below (by rw [hsz]; exact hb1)) n hn 179 (w.heap.size + 2) #[.pointer (some ⟨w.heap.size, 0, none⟩), .pointer (some ⟨w.heap.size + 1, 0, none⟩)] (by exact enters_of Tryz.func179 (by kernel_rfl) rfl) hc (hS0 _ (by omega))
   (fun _ M => ({ M with fs := delN F.n n M.fs }, 0))
   (fun mb p L w' x hD hcc hx => remove1_any hD n hn _ _ _ (hcc.cell (cell_under hb1 hcd (by show w.heap.size < w.heap.size + 2; omega)) (hS0 _ (by show w.heap.size ≤ w.heap.size; omega))) (hcc.cell (cell_under hb1 hcn (by show w.heap.size + 1 < w.heap.size + 2; omega)) (hS0 _ (by show w.heap.size ≤ w.heap.size + 1; omega))))).mono (fun e w2 (hq : ActEnd S w1 d (removeM n M) e w2) => show e = .returned (.int .i64 (removeM n M).2) ∧ Step S w d (removeM n M).1 w2 ∧ w2.cell? ⟨w.heap.size, 0, none⟩ = some (.pointer (some ⟨d, 0, none⟩)) ∧ w2.cell? ⟨w.heap.size + 1, 0, none⟩ = some (encStr n) from ⟨hq.1, Step.behind hb (Step.behind (by rw [hsz]; exact hb1) hq.2), by
   obtain ⟨_, _, _, hcc⟩ := hq.2
   exact ⟨(hcc.cell (cell_under hb1 hcd (by show w.heap.size < w.heap.size + 2; omega)) (hS0 _ (by show w.heap.size ≤ w.heap.size; omega))), (hcc.cell (cell_under hb1 hcn (by show w.heap.size + 1 < w.heap.size + 2; omega)) (hS0 _ (by show w.heap.size ≤ w.heap.size + 1; omega)))⟩⟩))
 have HK := Lib.hid (fun (w1 : World) (hb1 : Below (w.heap.size + 2) ((w.alloc (.cells #[.pointer (some ⟨d, 0, none⟩)] 23)).alloc (.cells #[encStr n] 9)) w1) => show w1.cell? ⟨w.heap.size, 0, none⟩ = some (.pointer (some ⟨d, 0, none⟩)) ∧ w1.cell? ⟨w.heap.size + 1, 0, none⟩ = some (encStr n) from ⟨cell_under hb1 hcd (by show w.heap.size < w.heap.size + 2; omega), cell_under hb1 hcn (by show w.heap.size + 1 < w.heap.size + 2; omega)⟩)
 have Hsz := Lib.hid (show ((w.alloc (.cells #[.pointer (some ⟨d, 0, none⟩)] 23)).alloc (.cells #[encStr n] 9)).drew.heap.size = w.heap.size + 2 from hsz)
 clear h hb hcd hcn hsz hS0
 go_enter Tryz.func152, Tryz.ntmps152
 go_wp2
 go_region_held (fun w' => w'.cell? ⟨w.heap.size, 0, none⟩ = some (.pointer (some ⟨d, 0, none⟩)) ∧ w'.cell? ⟨w.heap.size + 1, 0, none⟩ = some (encStr n))
  (first | exact HK.out _ ((Below.refl _ _).drew) | exact HK.out _ hb1 | exact hk2)
  (first
   | (go_at_call 100; (with_reducible refine (HO.out _ Hsz.out).mono ?_); rintro e w1 ⟨rfl, hb0, hc1⟩; have hb1 := ((Below.refl (w.heap.size + 2) ((w.alloc (.cells #[.pointer (some ⟨d, 0, none⟩)] 23)).alloc (.cells #[encStr n] 9))).drew).trans hb0; have HC1 := Lib.hid (HC.out w1 hb1 hc1); clear hb0 hc1)
   | (go_at_call 81; (with_reducible refine HC1.out.mono ?_); rintro e w2 ⟨rfl, hq, hk2⟩; have Hq := Lib.hid hq; clear hq))
 all_goals go_wp2
 all_goals go_ret
 all_goals exact ⟨rfl, Hq.out⟩

set_option maxRecDepth 100000 in
set_option maxHeartbeats 6400000 in
theorem rename_any {S : Nat → Prop} {w : World} {d : Nat} {M : DM} (h : DiskIn S w d M) (n t : List UInt8) (hn : n.length ≤ 9223372036854775807) (ht : t.length ≤ 9223372036854775807) (hL : M.fs.length < 1000000) :
  Calls Tryz.prog 157 #[.pointer (some ⟨d, 0, none⟩), encStr n, encStr t] w (ActEnd S w d (renameM n t M)) := by
 have hb : Below w.heap.size w (((w.alloc (.cells #[.pointer (some ⟨d, 0, none⟩)] 23)).alloc (.cells #[encStr n] 9)).alloc (.cells #[encStr t] 9)) := ((((Below.refl w.heap.size w).alloc (Nat.le_refl _) (.cells #[.pointer (some ⟨d, 0, none⟩)] 23)).alloc (by simp) (.cells #[encStr n] 9)).alloc (by simp; omega) (.cells #[encStr t] 9))
 have hcd : (((w.alloc (.cells #[.pointer (some ⟨d, 0, none⟩)] 23)).alloc (.cells #[encStr n] 9)).alloc (.cells #[encStr t] 9)).cell? ⟨w.heap.size, 0, none⟩ = some (.pointer (some ⟨d, 0, none⟩)) := by
  refine (Chg.alloc (fun _ => False) _ _).cell ?_ (fun h => h)
  refine (Chg.alloc (fun _ => False) _ _).cell ?_ (fun h => h)
  exact cell_of_row _ _ _ _ _ (0, 0) (heap_alloc_new _ _)
 have hcn : (((w.alloc (.cells #[.pointer (some ⟨d, 0, none⟩)] 23)).alloc (.cells #[encStr n] 9)).alloc (.cells #[encStr t] 9)).cell? ⟨w.heap.size + 1, 0, none⟩ = some (encStr n) := by
  refine (Chg.alloc (fun _ => False) _ _).cell ?_ (fun h => h)
  have := cell_of_row ((w.alloc (.cells #[.pointer (some ⟨d, 0, none⟩)] 23)).alloc (.cells #[encStr n] 9)) (w.heap.size + 1) 0 #[encStr n] 9 (0, 0) (by have := heap_alloc_new (w.alloc (.cells #[.pointer (some ⟨d, 0, none⟩)] 23)) (.cells #[encStr n] 9); simpa using this)
  exact this
 have hct : (((w.alloc (.cells #[.pointer (some ⟨d, 0, none⟩)] 23)).alloc (.cells #[encStr n] 9)).alloc (.cells #[encStr t] 9)).cell? ⟨w.heap.size + 1 + 1, 0, none⟩ = some (encStr t) := by
  have := cell_of_row (((w.alloc (.cells #[.pointer (some ⟨d, 0, none⟩)] 23)).alloc (.cells #[encStr n] 9)).alloc (.cells #[encStr t] 9)) (w.heap.size + 1 + 1) 0 #[encStr t] 9 (0, 0) (by have := heap_alloc_new ((w.alloc (.cells #[.pointer (some ⟨d, 0, none⟩)] 23)).alloc (.cells #[encStr n] 9)) (.cells #[encStr t] 9); simpa using this)
  exact this
 have hsz : (((w.alloc (.cells #[.pointer (some ⟨d, 0, none⟩)] 23)).alloc (.cells #[encStr n] 9)).alloc (.cells #[encStr t] 9)).heap.size = w.heap.size + 3 := by simp
 have hS0 : ∀ b, w.heap.size ≤ b → ¬ S b := fun b hb hs => by obtain ⟨_, _, _, h⟩ := h; exact absurd (h.bound b hs) (by omega)
 have HO := Lib.hid (fun (w1 : World) (h1 : w1.heap.size = w.heap.size + 3) => onfile_at n 180 #[.pointer (some ⟨w.heap.size + 1 + 1, 0, none⟩), .pointer (some ⟨w.heap.size, 0, none⟩), .pointer (some ⟨w.heap.size + 1, 0, none⟩)] (w.heap.size + 3) w1 h1)
 have HC := Lib.hid (fun (w1 : World) (hb1 : Below (w.heap.size + 3) (((w.alloc (.cells #[.pointer (some ⟨d, 0, none⟩)] 23)).alloc (.cells #[encStr n] 9)).alloc (.cells #[encStr t] 9)) w1) (hc : w1.cell? ⟨w.heap.size + 3, 0, none⟩ = some (.func (.func 180) #[] #[.pointer (some ⟨w.heap.size + 1 + 1, 0, none⟩), .pointer (some ⟨w.heap.size, 0, none⟩), .pointer (some ⟨w.heap.size + 1, 0, none⟩)])) =>
  (change_any ((h.below hb).below (by rw [hsz]; exact hb1)) n hn 180 (w.heap.size + 3) #[.pointer (some ⟨w.heap.size + 1 + 1, 0, none⟩), .pointer (some ⟨w.heap.size, 0, none⟩), .pointer (some ⟨w.heap.size + 1, 0, none⟩)] (by exact enters_of Tryz.func180 (by kernel_rfl) rfl) hc (hS0 _ (by omega))
   (fun f M => if named t = true then ({ M with fs := putN F.n ⟨t, f.b, f.d⟩ (delN F.n n M.fs) }, 0) else (M, 6))
   (fun mb p L w' x hD hcc hx => rename1_any hD n t hn ht (by rw [failM_fs]; exact hL) hx _ _ _ (hcc.cell (cell_under hb1 hct (by show w.heap.size + 1 + 1 < w.heap.size + 3; omega)) (hS0 _ (by show w.heap.size ≤ w.heap.size + 1 + 1; omega))) (hcc.cell (cell_under hb1 hcd (by show w.heap.size < w.heap.size + 3; omega)) (hS0 _ (by show w.heap.size ≤ w.heap.size; omega))) (hcc.cell (cell_under hb1 hcn (by show w.heap.size + 1 < w.heap.size + 3; omega)) (hS0 _ (by show w.heap.size ≤ w.heap.size + 1; omega))) (hS0 _ (by omega)) (hS0 _ (by omega)))).mono (fun e w2 (hq : ActEnd S w1 d (renameM n t M) e w2) => show e = .returned (.int .i64 (renameM n t M).2) ∧ Step S w d (renameM n t M).1 w2 ∧ w2.cell? ⟨w.heap.size, 0, none⟩ = some (.pointer (some ⟨d, 0, none⟩)) ∧ w2.cell? ⟨w.heap.size + 1, 0, none⟩ = some (encStr n) from ⟨hq.1, Step.behind hb (Step.behind (by rw [hsz]; exact hb1) hq.2), by
   obtain ⟨_, _, _, hcc⟩ := hq.2
   exact ⟨(hcc.cell (cell_under hb1 hcd (by show w.heap.size < w.heap.size + 3; omega)) (hS0 _ (by show w.heap.size ≤ w.heap.size; omega))), (hcc.cell (cell_under hb1 hcn (by show w.heap.size + 1 < w.heap.size + 3; omega)) (hS0 _ (by show w.heap.size ≤ w.heap.size + 1; omega)))⟩⟩))
 have HK := Lib.hid (fun (w1 : World) (hb1 : Below (w.heap.size + 3) (((w.alloc (.cells #[.pointer (some ⟨d, 0, none⟩)] 23)).alloc (.cells #[encStr n] 9)).alloc (.cells #[encStr t] 9)) w1) => show w1.cell? ⟨w.heap.size, 0, none⟩ = some (.pointer (some ⟨d, 0, none⟩)) ∧ w1.cell? ⟨w.heap.size + 1, 0, none⟩ = some (encStr n) from ⟨cell_under hb1 hcd (by show w.heap.size < w.heap.size + 3; omega), cell_under hb1 hcn (by show w.heap.size + 1 < w.heap.size + 3; omega)⟩)
 have Hsz := Lib.hid (show (((w.alloc (.cells #[.pointer (some ⟨d, 0, none⟩)] 23)).alloc (.cells #[encStr n] 9)).alloc (.cells #[encStr t] 9)).drew.heap.size = w.heap.size + 3 from hsz)
 clear h hb hcd hcn hct hsz hS0 hL
 go_enter Tryz.func157, Tryz.ntmps157
 go_wp2
 go_region_held (fun w' => w'.cell? ⟨w.heap.size, 0, none⟩ = some (.pointer (some ⟨d, 0, none⟩)) ∧ w'.cell? ⟨w.heap.size + 1, 0, none⟩ = some (encStr n))
  (first | exact HK.out _ ((Below.refl _ _).drew) | exact HK.out _ hb1 | exact hk2)
  (first
   | (go_at_call 100; (with_reducible refine (HO.out _ Hsz.out).mono ?_); rintro e w1 ⟨rfl, hb0, hc1⟩; have hb1 := ((Below.refl (w.heap.size + 3) (((w.alloc (.cells #[.pointer (some ⟨d, 0, none⟩)] 23)).alloc (.cells #[encStr n] 9)).alloc (.cells #[encStr t] 9))).drew).trans hb0; have HC1 := Lib.hid (HC.out w1 hb1 hc1); clear hb0 hc1)
   | (go_at_call 81; (with_reducible refine HC1.out.mono ?_); rintro e w2 ⟨rfl, hq, hk2⟩; have Hq := Lib.hid hq; clear hq))
 all_goals go_wp2
 all_goals go_ret
 all_goals exact ⟨rfl, Hq.out⟩

theorem own_remove {w0 : World} {X : Nat → Prop} {w : World} {d : Nat} {M : DM} (h : Own w0 X w d M) (n : List UInt8) (hn : n.length ≤ 9223372036854775807) :
  Calls Tryz.prog 152 #[.pointer (some ⟨d, 0, none⟩), .string ⟨n.toArray⟩] w (OwnAct w0 X w d (removeM n M)) := by
 obtain ⟨S, hD, hS, hX, h0⟩ := h
 exact (remove_any hD n hn).mono fun e w' hq => ⟨hq.1, Own.step hS hX h0 hq.2⟩

theorem own_rename {w0 : World} {X : Nat → Prop} {w : World} {d : Nat} {M : DM} (h : Own w0 X w d M) (n t : List UInt8) (hn : n.length ≤ 9223372036854775807) (ht : t.length ≤ 9223372036854775807) (hL : M.fs.length < 1000000) :
  Calls Tryz.prog 157 #[.pointer (some ⟨d, 0, none⟩), .string ⟨n.toArray⟩, .string ⟨t.toArray⟩] w (OwnAct w0 X w d (renameM n t M)) := by
 obtain ⟨S, hD, hS, hX, h0⟩ := h
 exact (rename_any hD n t hn ht hL).mono fun e w' hq => ⟨hq.1, Own.step hS hX h0 hq.2⟩
end Go.Proofs.YtnbddiiedagllaaGreat

/- The walks of what a log's steps do: a change of its disk. -/
namespace Go.Proofs.YtnbddiiedagllaaGreat
open Go.RowKit Go.Maps Go.Shelf

theorem OwnEnd.behind {w0 : World} {X : Nat → Prop} {w w1 : World} {d : Nat} {M : DM} {w' : World} (hb : Below w.heap.size w w1) (h0 : w0.heap.size ≤ w.heap.size) (hX : ∀ b, X b → b < w.heap.size) (h : OwnEnd w0 X w1 d M w') : OwnEnd w0 X w d M w' := by
 obtain ⟨h1, h2, h3, h4⟩ := h
 exact ⟨h1, fun b hb' => (h2 b hb').trans (hb.block b (hX b hb')), (hb.mono h0).trans h3, Nat.le_trans hb.size h4⟩

theorem Own.blocks {w0 : World} {X : Nat → Prop} {w : World} {d : Nat} {M : DM} (h : Own w0 X w d M) : ∀ b, X b → b < w.heap.size := by obtain ⟨_, _, _, h, _⟩ := h; exact h

theorem nmB_len (N : Nat) : (nmB N).length ≤ 9223372036854775807 := by
 unfold nmB
 rw [List.length_map, nameL_len]
 decide

set_option maxRecDepth 100000 in
set_option maxHeartbeats 3200000 in
theorem do_append {w0 : World} {X : Nat → Prop} {w : World} {d : Nat} {M : DM} (h : Own w0 X w d M) (g N b1 b2 b3 : Nat) (p : Option Addr) (m c : Nat) (l : List Nat) (k1 : w.cell? ⟨b1, 0, none⟩ = some (.pointer (some ⟨g, 0, none⟩))) (k2 : w.cell? ⟨b2, 0, none⟩ = some (encStr (nmB N)))
  (k3 : w.cell? ⟨b3, 0, none⟩ = some (.slice p m c)) (g3 : w.cell? ⟨g, 3, none⟩ = some (.pointer (some ⟨d, 0, none⟩))) (hB : Bytes w p m c l) (hap : 0 < m → ∀ a, p = some a → X a.block ∨ a.block < w0.heap.size) (hlim : usedF M.fs + l.length ≤ 140737488355328) :
  Calls Tryz.prog 124 #[.pointer (some ⟨b1, 0, none⟩), .pointer (some ⟨b2, 0, none⟩), .pointer (some ⟨b3, 0, none⟩)] w (OwnAct w0 X w d (appendM (nmB N) l M)) := by
 have hbd : Below w.heap.size w w.drew := (Below.refl _ _).drew
 have hO := h.below hbd
 have HA := Lib.hid (own_append hO (nmB N) (nmB_len N) p m c l (hB.grow hbd) hap hlim)
 have Hend := Lib.hid (fun w' (hq : OwnEnd w0 X w.drew d (appendM (nmB N) l M).1 w') => OwnEnd.behind hbd h.base.size h.blocks hq)
 have k1 : w.drew.cell? ⟨b1, 0, none⟩ = some (.pointer (some ⟨g, 0, none⟩)) := k1
 have k2 : w.drew.cell? ⟨b2, 0, none⟩ = some (encStr (nmB N)) := k2
 have k3 : w.drew.cell? ⟨b3, 0, none⟩ = some (.slice p m c) := k3
 have g3 : w.drew.cell? ⟨g, 3, none⟩ = some (.pointer (some ⟨d, 0, none⟩)) := g3
 clear hB hap hlim h hO hbd
 go_enter Tryz.func124, Tryz.ntmps124
 go_wp2
 refine wp_region_still_tail 6 (by kernel_rfl) (by kernel_rfl) ?_
 simp only [List.take_succ_cons, List.take_zero, List.drop_succ_cons, List.drop_zero]
 change wpStill _ _ w.drew (fun a' => wpList _ _ _ _ a' w.drew) _ _
 generalize w.drew = w4 at *
 repeat still_step
 refine wpStill_nil ?_
 go_wp2_with fail
 refine HA.out.mono ?_
 rintro e w5 ⟨rfl, hq⟩
 have Hq := Lib.hid (Hend.out _ hq)
 clear hq
 go_wp2
 go_ret
 exact ⟨rfl, Hq.out⟩

set_option maxRecDepth 100000 in
set_option maxHeartbeats 3200000 in
theorem do_sync {w0 : World} {X : Nat → Prop} {w : World} {d : Nat} {M : DM} (h : Own w0 X w d M) (g N b1 b2 : Nat) (k1 : w.cell? ⟨b1, 0, none⟩ = some (.pointer (some ⟨g, 0, none⟩))) (k2 : w.cell? ⟨b2, 0, none⟩ = some (encStr (nmB N)))
  (g3 : w.cell? ⟨g, 3, none⟩ = some (.pointer (some ⟨d, 0, none⟩))) :
  Calls Tryz.prog 125 #[.pointer (some ⟨b1, 0, none⟩), .pointer (some ⟨b2, 0, none⟩)] w (OwnAct w0 X w d (syncM (nmB N) M)) := by
 have hbd : Below w.heap.size w w.drew := (Below.refl _ _).drew
 have hO := h.below hbd
 have HA := Lib.hid (own_sync hO (nmB N) (nmB_len N))
 have Hend := Lib.hid (fun w' (hq : OwnEnd w0 X w.drew d (syncM (nmB N) M).1 w') => OwnEnd.behind hbd h.base.size h.blocks hq)
 have k1 : w.drew.cell? ⟨b1, 0, none⟩ = some (.pointer (some ⟨g, 0, none⟩)) := k1
 have k2 : w.drew.cell? ⟨b2, 0, none⟩ = some (encStr (nmB N)) := k2
 have g3 : w.drew.cell? ⟨g, 3, none⟩ = some (.pointer (some ⟨d, 0, none⟩)) := g3
 clear h hO hbd
 go_enter Tryz.func125, Tryz.ntmps125
 go_wp2
 refine wp_region_still_tail 5 (by kernel_rfl) (by kernel_rfl) ?_
 simp only [List.take_succ_cons, List.take_zero, List.drop_succ_cons, List.drop_zero]
 change wpStill _ _ w.drew (fun a' => wpList _ _ _ _ a' w.drew) _ _
 generalize w.drew = w4 at *
 repeat still_step
 refine wpStill_nil ?_
 go_wp2_with fail
 refine HA.out.mono ?_
 rintro e w5 ⟨rfl, hq⟩
 have Hq := Lib.hid (Hend.out _ hq)
 clear hq
 go_wp2
 go_ret
 exact ⟨rfl, Hq.out⟩

set_option maxRecDepth 100000 in
set_option maxHeartbeats 3200000 in
theorem do_create {w0 : World} {X : Nat → Prop} {w : World} {d : Nat} {M : DM} (h : Own w0 X w d M) (g N b1 b2 : Nat) (k1 : w.cell? ⟨b1, 0, none⟩ = some (.pointer (some ⟨g, 0, none⟩))) (k2 : w.cell? ⟨b2, 0, none⟩ = some (encStr (nmB N)))
  (g3 : w.cell? ⟨g, 3, none⟩ = some (.pointer (some ⟨d, 0, none⟩))) (hL : M.fs.length < 1000000) :
  Calls Tryz.prog 160 #[.pointer (some ⟨b1, 0, none⟩), .pointer (some ⟨b2, 0, none⟩)] w (OwnAct w0 X w d (createM (nmB N) M)) := by
 have hbd : Below w.heap.size w w.drew := (Below.refl _ _).drew
 have hO := h.below hbd
 have HA := Lib.hid (own_create hO (nmB N) (nmB_len N) hL)
 have Hend := Lib.hid (fun w' (hq : OwnEnd w0 X w.drew d (createM (nmB N) M).1 w') => OwnEnd.behind hbd h.base.size h.blocks hq)
 have k1 : w.drew.cell? ⟨b1, 0, none⟩ = some (.pointer (some ⟨g, 0, none⟩)) := k1
 have k2 : w.drew.cell? ⟨b2, 0, none⟩ = some (encStr (nmB N)) := k2
 have g3 : w.drew.cell? ⟨g, 3, none⟩ = some (.pointer (some ⟨d, 0, none⟩)) := g3
 clear h hO hbd
 go_enter Tryz.func160, Tryz.ntmps160
 go_wp2
 refine wp_region_still_tail 5 (by kernel_rfl) (by kernel_rfl) ?_
 simp only [List.take_succ_cons, List.take_zero, List.drop_succ_cons, List.drop_zero]
 change wpStill _ _ w.drew (fun a' => wpList _ _ _ _ a' w.drew) _ _
 generalize w.drew = w4 at *
 repeat still_step
 refine wpStill_nil ?_
 go_wp2_with fail
 refine HA.out.mono ?_
 rintro e w5 ⟨rfl, hq⟩
 have Hq := Lib.hid (Hend.out _ hq)
 clear hq
 go_wp2
 go_ret
 exact ⟨rfl, Hq.out⟩
end Go.Proofs.YtnbddiiedagllaaGreat

