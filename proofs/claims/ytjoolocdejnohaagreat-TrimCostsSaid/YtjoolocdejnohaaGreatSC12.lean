import Derived.Test.YtjoolocdejnohaaGreatSC11
import Derived.Test.YtjoolocdejnohaaGreatSC4
import Derived.Deep.Upon
/- The walks of a disk's Remove and Rename. -/
namespace Go.Proofs.YtjoolocdejnohaaGreat
open Go.RowKit Go.Maps Go.Shelf

set_option maxRecDepth 100000 in
set_option maxHeartbeats 3200000 in
theorem remove1_any {S : Nat → Prop} {w : World} {d mb : Nat} {p : Int} {L : List FW} {M : DM} (h : DiskAt S w d mb p L M) (n : List UInt8) (hn : n.length ≤ 9223372036854775807) (v0 : Value) (bd bn : Nat)
    (hbd : w.cell? ⟨bd, 0, none⟩ = some (.pointer (some ⟨d, 0, none⟩))) (hbn : w.cell? ⟨bn, 0, none⟩ = some (encStr n)) :
    Calls Tryz.prog 179 #[v0, .pointer (some ⟨bd, 0, none⟩), .pointer (some ⟨bn, 0, none⟩)] w (ActEnd S w d ({ M with fs := delN F.n n M.fs }, 0)) := by
  obtain ⟨_, c1, _, _, _⟩ := h.cells
  have hd1 := h.drew
  obtain ⟨w2, hrun, hown, hturn⟩ := hd1.dir.drop mapKey Tryz.underlying116 (keyN n hn) 0
  rw [dirD_del] at hown
  have hc : Chg (fun b => b = mb) w.drew w2 := Chg.grown hturn.grown (fun k hk => by cases hk; exact .inl rfl)
  have hE := hd1.out n hown hc
  have hSm : S mb := h.sub mb (by simp)
  have HE := Lib.hid (show Step S w d { M with fs := delN F.n n M.fs } w2 from Step.same ⟨mb, p, _, hE⟩ ((Chg.drew S w).same ⟨hc.os, hc.tape, hc.output, hc.size, fun b hb hns => hc.block b hb (fun e => hns (e ▸ hSm))⟩))
  clear h hd1 hown hturn hc hE hSm
  go_enter Tryz.func179, Tryz.ntmps179
  go_wp2
  go_region
  go_wp2
  go_ret
  exact ⟨rfl, HE.out⟩

theorem delN_sub {A B : List FW} {x : FW} {n : List UInt8} (hn : x.n = n) : (delN FW.n n (A ++ x :: B)).Sublist (A ++ B) := by
  unfold delN
  rw [List.filter_append, List.filter_cons, if_neg (by rw [hn]; simp)]
  exact List.Sublist.append (List.filter_sublist ..) (List.filter_sublist ..)

set_option maxRecDepth 100000 in
set_option maxHeartbeats 6400000 in
theorem rename1_any {S : Nat → Prop} {w : World} {d mb : Nat} {p : Int} {L : List FW} {M : DM} (h : DiskAt S w d mb p L M) (n t : List UInt8) (hn : n.length ≤ 9223372036854775807) (ht : t.length ≤ 9223372036854775807) (hL : M.fs.length < 1000000)
    {x : FW} (hx : findN FW.n n L = some x) (bt bd bn : Nat) (hbt : w.cell? ⟨bt, 0, none⟩ = some (encStr t)) (hbd : w.cell? ⟨bd, 0, none⟩ = some (.pointer (some ⟨d, 0, none⟩))) (hbn : w.cell? ⟨bn, 0, none⟩ = some (encStr n))
    (hSt : ¬ S bt) (hSd : ¬ S bd) :
    Calls Tryz.prog 180 #[.pointer (some ⟨x.blk, 0, none⟩), .pointer (some ⟨bt, 0, none⟩), .pointer (some ⟨bd, 0, none⟩), .pointer (some ⟨bn, 0, none⟩)] w
      (ActEnd S w d (if named t = true then ({ M with fs := putN F.n ⟨t, x.f.b, x.f.d⟩ (delN F.n n M.fs) }, 0) else (M, 6))) := by
  have HP := Lib.hid (possible_any t w)
  cases hnt : named t with
  | false =>
    rw [if_neg (by decide)]
    have Hnt := Lib.hid hnt
    have H := Lib.hid h
    rw [hnt] at HP
    clear h hnt hx hL
    go_enter Tryz.func180, Tryz.ntmps180
    go_wp2_with fail
    refine HP.out.mono ?_
    rintro e w' ⟨rfl, rfl⟩
    go_wp2
    go_ret
    exact ⟨rfl, Step.same ⟨mb, p, L, H.out⟩ (Chg.refl _ _)⟩
  | true =>
    rw [if_pos rfl]
    rw [hnt] at HP
    obtain ⟨_, c1, _, _, _⟩ := h.cells
    obtain ⟨hxL, hxn⟩ := setN_name hx
    have hd1 := h.drew
    obtain ⟨w2, hrun, hown, hturn⟩ := hd1.dir.drop mapKey Tryz.underlying116 (keyN n hn) 0
    rw [dirD_del] at hown
    have hc : Chg (fun b => b = mb) w.drew w2 := Chg.grown hturn.grown (fun k hk => by cases hk; exact .inl rfl)
    have h1 := (hd1.out n hown hc).drew
    have hlen : L.length = M.fs.length := by have := congrArg List.length h.files; rw [List.length_map] at this; exact this.symm
    have hdl : (delN FW.n n L).length ≤ L.length := List.length_filter_le ..
    obtain ⟨w3, hrun3, hown3, hg3⟩ := h1.dir.update mapKey Tryz.underlying116 (by rw [maxLen_nat]; omega) (keyN t ht) (val := .pointer (some ⟨x.blk, 0, none⟩)) (d := .lit (.int .i64 (x.blk : Int))) (ps := []) rfl
    rw [show (dirD (delN FW.n n L)).put (.string t) (.lit (.int .i64 (x.blk : Int))) = dirD (putN FW.n ⟨⟨t, x.f.b, x.f.d⟩, x.blk, x.v⟩ (delN FW.n n L)) from dirD_put ⟨⟨t, x.f.b, x.f.d⟩, x.blk, x.v⟩ _] at hown3
    have hc3 : Chg (fun b => b = mb) w2.drew w3 := Chg.grown hg3 (fun k hk => by cases hk; exact .inl rfl)
    have hc13 : Chg (fun b => b = mb) w w3 := (((Chg.drew _ w).same hc).same (Chg.drew _ w2)).same hc3
    obtain ⟨A, B, hAB⟩ := List.append_of_mem hxL
    have hap := h.apart
    rw [hAB] at hap
    obtain ⟨n1, n2, n3⟩ := List.nodup_append.1 ((apart_mid d mb A B x).nodup_iff.1 hap)
    have hSfp : ∀ b ∈ fpOne x, S b := fun b hb => h.sub b (by simp [mem_fpOf hxL hb])
    have hmbx : ∀ b ∈ fpOne x, b ≠ mb := fun b hb e => n3 b hb mb (by simp) e
    have hok3 : FileOk w3 ⟨⟨t, x.f.b, x.f.d⟩, x.blk, x.v⟩ := by
      have h2 := (h.ok x hxL).keep (w' := w3) (fun b hb => hc13.block b (h.bound b (hSfp b hb)) (hmbx b hb))
      exact ⟨h2.blk, h2.row, h2.byte, h2.dur⟩
    have hE := h1.put (S' := S) ⟨⟨t, x.f.b, x.f.d⟩, x.blk, x.v⟩ hown3 hc3 hok3 (fun b hb hb2 => by
        have hsub : (delN FW.n t (delN FW.n n L)).Sublist (A ++ B) := (List.filter_sublist ..).trans (by rw [hAB]; exact delN_sub hxn)
        exact n3 b hb b ((((fpOf_sub hsub).cons_cons mb).cons_cons d).subset hb2) rfl) n1 hSfp (fun b h => h) (fun b hb => Nat.lt_of_lt_of_le (h.bound b hb) hc13.size) (by
        have u1 := usedF_del t (delN F.n n M.fs)
        have u2 : usedF (delN F.n n M.fs) + x.f.b.length ≤ usedF M.fs := usedF_del_find (x := x.f) (by rw [h.files, findN_map FW.n F.n FW.f (fun _ => rfl), hx]; rfl)
        have := h.used
        show x.f.b.length + usedF (delN F.n t (delN F.n n M.fs)) ≤ M.room
        omega)
    have hSm : S mb := h.sub mb (by simp)
    have HE := Lib.hid (show Step S w d { M with fs := putN F.n ⟨t, x.f.b, x.f.d⟩ (delN F.n n M.fs) } w3 from Step.same ⟨mb, p, _, hE⟩ ⟨hc13.os, hc13.tape, hc13.output, hc13.size, fun b hb hns => hc13.block b hb (fun e => hns (e ▸ hSm))⟩)
    have k1 := hc.cell (w := w.drew) hbd (fun e => hSd (by rw [show bd = mb from e]; exact hSm))
    have k2 := hc.cell (w := w.drew) hbt (fun e => hSt (by rw [show bt = mb from e]; exact hSm))
    obtain ⟨_, k3, _, _, _⟩ := (hd1.out n hown hc).cells
    clear h hd1 hown hturn hc h1 hown3 hg3 hc3 hc13 hAB hap n1 n2 n3 hSfp hmbx hok3 hE hSm hxL hx hL hlen hdl hSt hSd hnt
    go_enter Tryz.func180, Tryz.ntmps180
    go_wp2_with fail
    refine HP.out.mono ?_
    rintro e w' ⟨rfl, rfl⟩
    go_wp2
    go_region
    go_wp2
    go_region
    go_wp2
    go_ret
    exact ⟨rfl, HE.out⟩
end Go.Proofs.YtjoolocdejnohaaGreat

/- A nil disk. -/
namespace Go.Proofs.YtjoolocdejnohaaGreat
open Go.RowKit Go.Maps Go.Shelf

/-- One code, and new memory alone. -/
def CodeEnd (w : World) (k : Int) (e : Ending) (w' : World) : Prop := e = .returned (.int .i64 k) ∧ Below w.heap.size w w'

theorem carry_nil (n : List UInt8) (k : Nat) (caps : Array Value) (w : World) : Calls Tryz.prog 81 #[.pointer none, .agg #[encStr n, .func (.func k) #[] caps]] w (CodeEnd w 1) := by
  have Hb := Lib.hid ((Below.refl w.heap.size w).alloc (Nat.le_refl _) (.cells #[encStr n, .func (.func k) #[] caps] 143))
  go_enter Tryz.func81, Tryz.ntmps81
  go_wp2
  go_ret
  exact ⟨rfl, Hb.out⟩

theorem cell_under {w w' : World} {k : Nat} (hb : Below k w w') {a : Addr} {v : Value} (hc : w.cell? a = some v) (hk : a.block < k) : w'.cell? a = some v := by
  rw [World.cell?_of_block (hb.block a.block hk)]
  exact hc

set_option maxRecDepth 100000 in
set_option maxHeartbeats 3200000 in
theorem append_nil (n : List UInt8) (p : Option Addr) (m c : Nat) (w : World) : Calls Tryz.prog 55 #[.pointer none, .string ⟨n.toArray⟩, .slice p m c] w (CodeEnd w 1) := by
  have hb : Below w.heap.size w ((w.alloc (.cells #[.pointer none] 23)).alloc (.cells #[.slice p m c] 58)).drew := (((Below.refl w.heap.size w).alloc (Nat.le_refl _) (.cells #[.pointer none] 23)).alloc (by simp) (.cells #[.slice p m c] 58)).drew
  have hk0 : ((w.alloc (.cells #[.pointer none] 23)).alloc (.cells #[.slice p m c] 58)).drew.cell? ⟨w.heap.size, 0, none⟩ = some (.pointer none) :=
    (Chg.alloc (fun _ => False) _ _).cell (cell_of_row _ _ _ _ _ (0, 0) (heap_alloc_new _ _)) (fun h => h)
  have hsz : ((w.alloc (.cells #[.pointer none] 23)).alloc (.cells #[.slice p m c] 58)).drew.heap.size = w.heap.size + 2 := by show ((w.alloc _).alloc _).heap.size = _; simp
  have HO := Lib.hid (fun (w1 : World) (h1 : w1.heap.size = w.heap.size + 2) => onfile_at n 101 #[.pointer (some ⟨w.heap.size + 1, 0, none⟩), .pointer (some ⟨w.heap.size, 0, none⟩)] (w.heap.size + 2) w1 h1)
  have HC := Lib.hid (fun w1 => carry_nil n 142 #[.pointer (some ⟨w.heap.size + 2, 0, none⟩)] w1)
  have Hb := Lib.hid hb
  have HK := Lib.hid (fun (w1 : World) (hb1 : Below (w.heap.size + 2) ((w.alloc (.cells #[.pointer none] 23)).alloc (.cells #[.slice p m c] 58)).drew w1) => cell_under hb1 hk0 (by show w.heap.size < w.heap.size + 2; omega))
  have Hsz := Lib.hid hsz
  clear hb hk0 hsz
  change Calls _ _ #[.pointer none, encStr n, .slice p m c] _ _
  go_enter Tryz.func55, Tryz.ntmps55
  go_wp2
  go_region_held (fun w' => w'.cell? ⟨w.heap.size, 0, none⟩ = some (.pointer none))
    (first | exact HK.out _ (Below.refl _ _) | exact HK.out _ hb1 | exact HK.out _ hb2)
    (first
      | (go_at_call 100; (with_reducible refine (HO.out _ Hsz.out).mono ?_); rintro e w1 ⟨rfl, hb1, _⟩; have hs1 := Hsz.out ▸ hb1.size; have HC1 := Lib.hid (HC.out w1))
      | (go_at_call 81; (with_reducible refine HC1.out.mono ?_); rintro e w2 ⟨rfl, hb0⟩; have hb2 := hb1.trans (hb0.mono hs1); clear hb0))
  all_goals go_wp2
  all_goals go_ret
  all_goals exact ⟨rfl, Hb.out.trans (hb2.mono (Nat.le_add_right _ _))⟩

theorem list_nil (w : World) : Calls Tryz.prog 41 #[.pointer none] w fun e w' => e = .returned (.slice none 0 0) ∧ w' = w := by
  go_enter Tryz.func41, Tryz.ntmps41
  go_wp2
  go_ret
  exact ⟨rfl, rfl⟩
end Go.Proofs.YtjoolocdejnohaaGreat

/- The walks of a disk's Remove and Rename, whole. -/
namespace Go.Proofs.YtjoolocdejnohaaGreat
open Go.RowKit Go.Maps Go.Shelf

set_option maxRecDepth 100000 in
set_option maxHeartbeats 6400000 in
theorem remove_any {S : Nat → Prop} {w : World} {d : Nat} {M : DM} (h : DiskIn S w d M) (n : List UInt8) (hn : n.length ≤ 9223372036854775807) :
    Calls Tryz.prog 152 #[.pointer (some ⟨d, 0, none⟩), encStr n] w (ActEnd S w d (removeM n M)) := by
  have hb : Below w.heap.size w ((w.alloc (.cells #[.pointer (some ⟨d, 0, none⟩)] 23)).alloc (.cells #[encStr n] 9)) := (((Below.refl w.heap.size w).alloc (Nat.le_refl _) (.cells #[.pointer (some ⟨d, 0, none⟩)] 23)).alloc (by simp) (.cells #[encStr n] 9))
  have hcd : ((w.alloc (.cells #[.pointer (some ⟨d, 0, none⟩)] 23)).alloc (.cells #[encStr n] 9)).cell? ⟨w.heap.size, 0, none⟩ = some (.pointer (some ⟨d, 0, none⟩)) := by
    refine (Chg.alloc (fun _ => False) _ _).cell ?_ (fun h => h)
    exact cell_of_row _ _ _ _ _ (0, 0) (heap_alloc_new _ _)
  have hcn : ((w.alloc (.cells #[.pointer (some ⟨d, 0, none⟩)] 23)).alloc (.cells #[encStr n] 9)).cell? ⟨w.heap.size + 1, 0, none⟩ = some (encStr n) := by
    have := cell_of_row ((w.alloc (.cells #[.pointer (some ⟨d, 0, none⟩)] 23)).alloc (.cells #[encStr n] 9)) (w.heap.size + 1) 0 #[encStr n] 9 (0, 0) (by have := heap_alloc_new (w.alloc (.cells #[.pointer (some ⟨d, 0, none⟩)] 23)) (.cells #[encStr n] 9); simpa using this)
    exact this
  have hsz : ((w.alloc (.cells #[.pointer (some ⟨d, 0, none⟩)] 23)).alloc (.cells #[encStr n] 9)).heap.size = w.heap.size + 2 := by simp
  have hS0 : ∀ b, w.heap.size ≤ b → ¬ S b := fun b hb hs => by obtain ⟨_, _, _, h⟩ := h; exact absurd (h.bound b hs) (by omega)
  have HO := Lib.hid (fun (w1 : World) (h1 : w1.heap.size = w.heap.size + 2) => onfile_at n 179 #[.pointer (some ⟨w.heap.size, 0, none⟩), .pointer (some ⟨w.heap.size + 1, 0, none⟩)] (w.heap.size + 2) w1 h1)
  have HC := Lib.hid (fun (w1 : World) (hb1 : Below (w.heap.size + 2) ((w.alloc (.cells #[.pointer (some ⟨d, 0, none⟩)] 23)).alloc (.cells #[encStr n] 9)) w1) (hc : w1.cell? ⟨w.heap.size + 2, 0, none⟩ = some (.func (.func 179) #[] #[.pointer (some ⟨w.heap.size, 0, none⟩), .pointer (some ⟨w.heap.size + 1, 0, none⟩)])) =>
    (change_any ((h.below hb).below (by rw [hsz]; exact hb1)) n hn 179 (w.heap.size + 2) #[.pointer (some ⟨w.heap.size, 0, none⟩), .pointer (some ⟨w.heap.size + 1, 0, none⟩)] (by exact enters_of Tryz.func179 (by kernel_rfl) rfl) hc (hS0 _ (by omega))
      (fun _ M => ({ M with fs := delN F.n n M.fs }, 0))
      (fun mb p L w' x hD hcc hx => remove1_any hD n hn _ _ _ (hcc.cell (cell_under hb1 hcd (by show w.heap.size < w.heap.size + 2; omega)) (hS0 _ (by show w.heap.size ≤ w.heap.size; omega))) (hcc.cell (cell_under hb1 hcn (by show w.heap.size + 1 < w.heap.size + 2; omega)) (hS0 _ (by show w.heap.size ≤ w.heap.size + 1; omega))))).mono (fun e w2 (hq : ActEnd S w1 d (removeM n M) e w2) => show e = .returned (.int .i64 (removeM n M).2) ∧ Step S w d (removeM n M).1 w2 ∧ w2.cell? ⟨w.heap.size, 0, none⟩ = some (.pointer (some ⟨d, 0, none⟩)) ∧ w2.cell? ⟨w.heap.size + 1, 0, none⟩ = some (encStr n) from ⟨hq.1, Step.behind hb (Step.behind (by rw [hsz]; exact hb1) hq.2), by
      obtain ⟨_, _, _, hcc⟩ := hq.2
      exact ⟨(hcc.cell (cell_under hb1 hcd (by show w.heap.size < w.heap.size + 2; omega)) (hS0 _ (by show w.heap.size ≤ w.heap.size; omega))), (hcc.cell (cell_under hb1 hcn (by show w.heap.size + 1 < w.heap.size + 2; omega)) (hS0 _ (by show w.heap.size ≤ w.heap.size + 1; omega)))⟩⟩))
  have HK := Lib.hid (fun (w1 : World) (hb1 : Below (w.heap.size + 2) ((w.alloc (.cells #[.pointer (some ⟨d, 0, none⟩)] 23)).alloc (.cells #[encStr n] 9)) w1) => show w1.cell? ⟨w.heap.size, 0, none⟩ = some (.pointer (some ⟨d, 0, none⟩)) ∧ w1.cell? ⟨w.heap.size + 1, 0, none⟩ = some (encStr n) from ⟨cell_under hb1 hcd (by show w.heap.size < w.heap.size + 2; omega), cell_under hb1 hcn (by show w.heap.size + 1 < w.heap.size + 2; omega)⟩)
  have Hsz := Lib.hid (show ((w.alloc (.cells #[.pointer (some ⟨d, 0, none⟩)] 23)).alloc (.cells #[encStr n] 9)).drew.heap.size = w.heap.size + 2 from hsz)
  clear h hb hcd hcn hsz hS0
  go_enter Tryz.func152, Tryz.ntmps152
  go_wp2
  go_region_held (fun w' => w'.cell? ⟨w.heap.size, 0, none⟩ = some (.pointer (some ⟨d, 0, none⟩)) ∧ w'.cell? ⟨w.heap.size + 1, 0, none⟩ = some (encStr n))
    (first | exact HK.out _ ((Below.refl _ _).drew) | exact HK.out _ hb1 | exact hk2)
    (first
      | (go_at_call 100; (with_reducible refine (HO.out _ Hsz.out).mono ?_); rintro e w1 ⟨rfl, hb0, hc1⟩; have hb1 := ((Below.refl (w.heap.size + 2) ((w.alloc (.cells #[.pointer (some ⟨d, 0, none⟩)] 23)).alloc (.cells #[encStr n] 9))).drew).trans hb0; have HC1 := Lib.hid (HC.out w1 hb1 hc1); clear hb0 hc1)
      | (go_at_call 81; (with_reducible refine HC1.out.mono ?_); rintro e w2 ⟨rfl, hq, hk2⟩; have Hq := Lib.hid hq; clear hq))
  all_goals go_wp2
  all_goals go_ret
  all_goals exact ⟨rfl, Hq.out⟩

set_option maxRecDepth 100000 in
set_option maxHeartbeats 6400000 in
theorem rename_any {S : Nat → Prop} {w : World} {d : Nat} {M : DM} (h : DiskIn S w d M) (n t : List UInt8) (hn : n.length ≤ 9223372036854775807) (ht : t.length ≤ 9223372036854775807) (hL : M.fs.length < 1000000) :
    Calls Tryz.prog 157 #[.pointer (some ⟨d, 0, none⟩), encStr n, encStr t] w (ActEnd S w d (renameM n t M)) := by
  have hb : Below w.heap.size w (((w.alloc (.cells #[.pointer (some ⟨d, 0, none⟩)] 23)).alloc (.cells #[encStr n] 9)).alloc (.cells #[encStr t] 9)) := ((((Below.refl w.heap.size w).alloc (Nat.le_refl _) (.cells #[.pointer (some ⟨d, 0, none⟩)] 23)).alloc (by simp) (.cells #[encStr n] 9)).alloc (by simp; omega) (.cells #[encStr t] 9))
  have hcd : (((w.alloc (.cells #[.pointer (some ⟨d, 0, none⟩)] 23)).alloc (.cells #[encStr n] 9)).alloc (.cells #[encStr t] 9)).cell? ⟨w.heap.size, 0, none⟩ = some (.pointer (some ⟨d, 0, none⟩)) := by
    refine (Chg.alloc (fun _ => False) _ _).cell ?_ (fun h => h)
    refine (Chg.alloc (fun _ => False) _ _).cell ?_ (fun h => h)
    exact cell_of_row _ _ _ _ _ (0, 0) (heap_alloc_new _ _)
  have hcn : (((w.alloc (.cells #[.pointer (some ⟨d, 0, none⟩)] 23)).alloc (.cells #[encStr n] 9)).alloc (.cells #[encStr t] 9)).cell? ⟨w.heap.size + 1, 0, none⟩ = some (encStr n) := by
    refine (Chg.alloc (fun _ => False) _ _).cell ?_ (fun h => h)
    have := cell_of_row ((w.alloc (.cells #[.pointer (some ⟨d, 0, none⟩)] 23)).alloc (.cells #[encStr n] 9)) (w.heap.size + 1) 0 #[encStr n] 9 (0, 0) (by have := heap_alloc_new (w.alloc (.cells #[.pointer (some ⟨d, 0, none⟩)] 23)) (.cells #[encStr n] 9); simpa using this)
    exact this
  have hct : (((w.alloc (.cells #[.pointer (some ⟨d, 0, none⟩)] 23)).alloc (.cells #[encStr n] 9)).alloc (.cells #[encStr t] 9)).cell? ⟨w.heap.size + 1 + 1, 0, none⟩ = some (encStr t) := by
    have := cell_of_row (((w.alloc (.cells #[.pointer (some ⟨d, 0, none⟩)] 23)).alloc (.cells #[encStr n] 9)).alloc (.cells #[encStr t] 9)) (w.heap.size + 1 + 1) 0 #[encStr t] 9 (0, 0) (by have := heap_alloc_new ((w.alloc (.cells #[.pointer (some ⟨d, 0, none⟩)] 23)).alloc (.cells #[encStr n] 9)) (.cells #[encStr t] 9); simpa using this)
    exact this
  have hsz : (((w.alloc (.cells #[.pointer (some ⟨d, 0, none⟩)] 23)).alloc (.cells #[encStr n] 9)).alloc (.cells #[encStr t] 9)).heap.size = w.heap.size + 3 := by simp
  have hS0 : ∀ b, w.heap.size ≤ b → ¬ S b := fun b hb hs => by obtain ⟨_, _, _, h⟩ := h; exact absurd (h.bound b hs) (by omega)
  have HO := Lib.hid (fun (w1 : World) (h1 : w1.heap.size = w.heap.size + 3) => onfile_at n 180 #[.pointer (some ⟨w.heap.size + 1 + 1, 0, none⟩), .pointer (some ⟨w.heap.size, 0, none⟩), .pointer (some ⟨w.heap.size + 1, 0, none⟩)] (w.heap.size + 3) w1 h1)
  have HC := Lib.hid (fun (w1 : World) (hb1 : Below (w.heap.size + 3) (((w.alloc (.cells #[.pointer (some ⟨d, 0, none⟩)] 23)).alloc (.cells #[encStr n] 9)).alloc (.cells #[encStr t] 9)) w1) (hc : w1.cell? ⟨w.heap.size + 3, 0, none⟩ = some (.func (.func 180) #[] #[.pointer (some ⟨w.heap.size + 1 + 1, 0, none⟩), .pointer (some ⟨w.heap.size, 0, none⟩), .pointer (some ⟨w.heap.size + 1, 0, none⟩)])) =>
    (change_any ((h.below hb).below (by rw [hsz]; exact hb1)) n hn 180 (w.heap.size + 3) #[.pointer (some ⟨w.heap.size + 1 + 1, 0, none⟩), .pointer (some ⟨w.heap.size, 0, none⟩), .pointer (some ⟨w.heap.size + 1, 0, none⟩)] (by exact enters_of Tryz.func180 (by kernel_rfl) rfl) hc (hS0 _ (by omega))
      (fun f M => if named t = true then ({ M with fs := putN F.n ⟨t, f.b, f.d⟩ (delN F.n n M.fs) }, 0) else (M, 6))
      (fun mb p L w' x hD hcc hx => rename1_any hD n t hn ht (by rw [failM_fs]; exact hL) hx _ _ _ (hcc.cell (cell_under hb1 hct (by show w.heap.size + 1 + 1 < w.heap.size + 3; omega)) (hS0 _ (by show w.heap.size ≤ w.heap.size + 1 + 1; omega))) (hcc.cell (cell_under hb1 hcd (by show w.heap.size < w.heap.size + 3; omega)) (hS0 _ (by show w.heap.size ≤ w.heap.size; omega))) (hcc.cell (cell_under hb1 hcn (by show w.heap.size + 1 < w.heap.size + 3; omega)) (hS0 _ (by show w.heap.size ≤ w.heap.size + 1; omega))) (hS0 _ (by omega)) (hS0 _ (by omega)))).mono (fun e w2 (hq : ActEnd S w1 d (renameM n t M) e w2) => show e = .returned (.int .i64 (renameM n t M).2) ∧ Step S w d (renameM n t M).1 w2 ∧ w2.cell? ⟨w.heap.size, 0, none⟩ = some (.pointer (some ⟨d, 0, none⟩)) ∧ w2.cell? ⟨w.heap.size + 1, 0, none⟩ = some (encStr n) from ⟨hq.1, Step.behind hb (Step.behind (by rw [hsz]; exact hb1) hq.2), by
      obtain ⟨_, _, _, hcc⟩ := hq.2
      exact ⟨(hcc.cell (cell_under hb1 hcd (by show w.heap.size < w.heap.size + 3; omega)) (hS0 _ (by show w.heap.size ≤ w.heap.size; omega))), (hcc.cell (cell_under hb1 hcn (by show w.heap.size + 1 < w.heap.size + 3; omega)) (hS0 _ (by show w.heap.size ≤ w.heap.size + 1; omega)))⟩⟩))
  have HK := Lib.hid (fun (w1 : World) (hb1 : Below (w.heap.size + 3) (((w.alloc (.cells #[.pointer (some ⟨d, 0, none⟩)] 23)).alloc (.cells #[encStr n] 9)).alloc (.cells #[encStr t] 9)) w1) => show w1.cell? ⟨w.heap.size, 0, none⟩ = some (.pointer (some ⟨d, 0, none⟩)) ∧ w1.cell? ⟨w.heap.size + 1, 0, none⟩ = some (encStr n) from ⟨cell_under hb1 hcd (by show w.heap.size < w.heap.size + 3; omega), cell_under hb1 hcn (by show w.heap.size + 1 < w.heap.size + 3; omega)⟩)
  have Hsz := Lib.hid (show (((w.alloc (.cells #[.pointer (some ⟨d, 0, none⟩)] 23)).alloc (.cells #[encStr n] 9)).alloc (.cells #[encStr t] 9)).drew.heap.size = w.heap.size + 3 from hsz)
  clear h hb hcd hcn hct hsz hS0 hL
  go_enter Tryz.func157, Tryz.ntmps157
  go_wp2
  go_region_held (fun w' => w'.cell? ⟨w.heap.size, 0, none⟩ = some (.pointer (some ⟨d, 0, none⟩)) ∧ w'.cell? ⟨w.heap.size + 1, 0, none⟩ = some (encStr n))
    (first | exact HK.out _ ((Below.refl _ _).drew) | exact HK.out _ hb1 | exact hk2)
    (first
      | (go_at_call 100; (with_reducible refine (HO.out _ Hsz.out).mono ?_); rintro e w1 ⟨rfl, hb0, hc1⟩; have hb1 := ((Below.refl (w.heap.size + 3) (((w.alloc (.cells #[.pointer (some ⟨d, 0, none⟩)] 23)).alloc (.cells #[encStr n] 9)).alloc (.cells #[encStr t] 9))).drew).trans hb0; have HC1 := Lib.hid (HC.out w1 hb1 hc1); clear hb0 hc1)
      | (go_at_call 81; (with_reducible refine HC1.out.mono ?_); rintro e w2 ⟨rfl, hq, hk2⟩; have Hq := Lib.hid hq; clear hq))
  all_goals go_wp2
  all_goals go_ret
  all_goals exact ⟨rfl, Hq.out⟩

theorem own_remove {w0 : World} {X : Nat → Prop} {w : World} {d : Nat} {M : DM} (h : Own w0 X w d M) (n : List UInt8) (hn : n.length ≤ 9223372036854775807) :
    Calls Tryz.prog 152 #[.pointer (some ⟨d, 0, none⟩), .string ⟨n.toArray⟩] w (OwnAct w0 X w d (removeM n M)) := by
  obtain ⟨S, hD, hS, hX, h0⟩ := h
  exact (remove_any hD n hn).mono fun e w' hq => ⟨hq.1, Own.step hS hX h0 hq.2⟩

theorem own_rename {w0 : World} {X : Nat → Prop} {w : World} {d : Nat} {M : DM} (h : Own w0 X w d M) (n t : List UInt8) (hn : n.length ≤ 9223372036854775807) (ht : t.length ≤ 9223372036854775807) (hL : M.fs.length < 1000000) :
    Calls Tryz.prog 157 #[.pointer (some ⟨d, 0, none⟩), .string ⟨n.toArray⟩, .string ⟨t.toArray⟩] w (OwnAct w0 X w d (renameM n t M)) := by
  obtain ⟨S, hD, hS, hX, h0⟩ := h
  exact (rename_any hD n t hn ht hL).mono fun e w' hq => ⟨hq.1, Own.step hS hX h0 hq.2⟩
end Go.Proofs.YtjoolocdejnohaaGreat

/- The walks of newHead and number: four bytes of a number, and back. -/
namespace Go.Proofs.YtjoolocdejnohaaGreat
open Go.RowKit Crc

def headV (n : Nat) : Array Value := (u8s (little n)).toArray
theorem headV_size (n : Nat) : (headV n).size = 4 := by simp [headV, u8s, little]
theorem headV_one (n : Nat) : (headV n).all (·.oneCell') = true := by simp [headV, u8s, little, Value.oneCell']
theorem head_info : (Tryz.prog.info? 182).map (·.size) = some 4 := by kernel_rfl
theorem head_infoV (n : Nat) : (Tryz.prog.info? 182).map (·.size) = some (headV n).size := by rw [headV_size]; exact head_info

def headCell (n k j : Nat) : Value := if j < k then .int .u8 ((little n).getD j 0 : Nat) else .int .u8 0

theorem row_head {w : World} {b : Nat} {t : TypeId} {n : Nat} (h : w.rowIs b t 4 (headCell n 4)) : w.heap[b]? = some (.cells (headV n) t (0, 0)) := by
  obtain ⟨c, hc, hs, hi⟩ := h
  have e : c = headV n := by
    apply Array.ext_getElem?
    intro i
    by_cases h : i < 4
    · rw [hi i h, headCell, if_pos h]
      rcases i with _ | _ | _ | _ | i
      all_goals first | rfl | omega
    · rw [Array.getElem?_eq_none (by omega), Array.getElem?_eq_none (by rw [headV_size]; omega)]
  rw [hc, e]

def HeadRel (w : World) (n : Nat) (i : Value) (wr : World) : Prop :=
  ∃ k : Nat, k ≤ 4 ∧ i = .int .i64 k ∧ wr.rowIs (w.heap.size + 1) 182 4 (headCell n k) ∧ wr.rowIs w.heap.size 182 4 (fun _ => .int .u8 0) ∧ Below w.heap.size w wr

theorem headRel_start (w : World) (n : Nat) : HeadRel w n (.int .i64 0) ((w.alloc (.cells #[.int .u8 0, .int .u8 0, .int .u8 0, .int .u8 0] 182)).alloc (.cells #[.int .u8 0, .int .u8 0, .int .u8 0, .int .u8 0] 182)) := by
  have hz : ∀ (v : World), (v.alloc (.cells #[.int .u8 0, .int .u8 0, .int .u8 0, .int .u8 0] 182)).rowIs v.heap.size 182 4 (fun _ => .int .u8 0) := fun v =>
    World.rowIs_alloc v _ _ _ (fun i hi => by
      have hi : i < 4 := hi
      rcases i with _ | _ | _ | _ | i
      all_goals first | rfl | omega)
  refine ⟨0, Nat.zero_le _, rfl, ?_, (hz w).alloc _, ((Below.refl _ _).alloc (Nat.le_refl _) _).alloc (by simp) _⟩
  have h := hz (w.alloc (.cells #[.int .u8 0, .int .u8 0, .int .u8 0, .int .u8 0] 182))
  rw [show ∀ o, (w.alloc o).heap.size = w.heap.size + 1 from fun o => by simp] at h
  exact h.congr (fun j _ => by simp [headCell])

theorem headRel_step {w wr : World} {k n : Nat} {z : Int} (hk : k < 4) (hz : z = ((little n).getD k 0 : Nat)) (hrow : wr.rowIs (w.heap.size + 1) 182 4 (headCell n k)) (hres : wr.rowIs w.heap.size 182 4 (fun _ => .int .u8 0)) (hbel : Below w.heap.size w wr) :
    HeadRel w n (.int .i64 ((k : Int) + 1)) (wr.setCell ⟨w.heap.size + 1, k, none⟩ (.int .u8 z)) := by
  subst hz
  refine ⟨k + 1, by omega, by go_num, (hrow.set k _).congr (fun j _ => ?_), hres.setOther (by simp) _, hbel.setCell (by simp) _⟩
  unfold headCell
  by_cases h : j = k
  · subst h; simp
  · rw [if_neg h]
    by_cases h2 : j < k
    · rw [if_pos h2, if_pos (by omega)]
    · rw [if_neg h2, if_neg (by omega)]

set_option maxRecDepth 100000 in
theorem newHead_any (n : Nat) (w : World) (hn : n < 4294967296) :
    Calls Tryz.prog 120 #[.int .i64 (n : Int)] w fun e w' => e = .returned (.agg (headV n)) ∧ Below w.heap.size w w' := by
  go_enter Tryz.func120, Tryz.ntmps120
  go_wp2
  go_loopw [5] (fun i wr => HeadRel w n i wr) (fun i _ => 4 - (intOf i).toNat)
  case atStart => exact headRel_start w n
  case round =>
    obtain ⟨k, hk, rfl, hrow, hres, hbel⟩ := hrel
    by_cases hlt : k < 4
    · have Hc := Lib.hid (hrow.cell hlt)
      have hf := hrow.frozen k
      have hcell := Hc.out
      generalize headCell n k k = old at hcell
      clear Hc
      rcases (show k = 0 ∨ k = 1 ∨ k = 2 ∨ k = 3 by omega) with rfl | rfl | rfl | rfl
      · go_wp2
        go_roundw
        case rel => exact headRel_step (k := 0) (by omega) (by simp [little]) hrow hres hbel
        case measure => simp [intOf]
      · go_wp2
        go_roundw
        case rel => exact headRel_step (k := 1) (by omega) (by simp [little]) hrow hres hbel
        case measure => simp [intOf]
      · go_wp2
        go_roundw
        case rel => exact headRel_step (k := 2) (by omega) (by simp [little]) hrow hres hbel
        case measure => simp [intOf]
      · go_wp2
        go_roundw
        case rel => exact headRel_step (k := 3) (by omega) (by simp [little]) hrow hres hbel
        case measure => simp [intOf]
    · obtain rfl : k = 4 := by omega
      have g1 := row_head hrow
      obtain ⟨old, hg3, hold, _⟩ := hres
      have Hg3 := Lib.hid hg3
      clear hrow hlt hk hg3
      go_wp2_with (first
        | (refine wpList_load_row rfl 182 _ rfl (w.heap.size + 1) rfl 182 (headV n) (0, 0) _ g1 Tryz.underlying182 rfl (head_infoV n) ?_)
        | (refine wpList_store_row rfl 182 _ _ rfl w.heap.size (headV n) rfl rfl 182 old Hg3.out (head_infoV n) (by rw [hold, headV_size]) (headV_one n) ?_))
      exact bodyPost_ret (v := .agg (headV n)) (results_cell_row (p := 2) (ty := 182) rfl _ _ w.heap.size 182 (headV n) (0, 0) _ rfl (setRow_heap _ _ _ _ _ _ Hg3.out) Tryz.underlying182 rfl (head_infoV n)) rfl
        ⟨rfl, below_setRow hbel (Nat.le_refl _) _⟩

/-- The number behind k bytes. -/
def part4 (b : Nat → Nat) : Nat → Nat
  | 0 => 0
  | 1 => b 0
  | 2 => b 0 + 256 * b 1
  | 3 => b 0 + 256 * b 1 + 65536 * b 2
  | _ => b 0 + 256 * b 1 + 65536 * b 2 + 16777216 * b 3

theorem or_up {a x s : Nat} (ha : a < 2 ^ s) (h : a + x * 2 ^ s < 4294967296) : bits .or .u32 (a : Int) ((x * 2 ^ s : Nat) : Int) = ((a + x * 2 ^ s : Nat) : Int) := by
  rw [u32_or_nat a (x * 2 ^ s) (by omega) (by omega)]
  congr 1
  rw [Nat.or_comm, Nat.mul_comm x, ← Nat.two_pow_add_eq_or_of_lt ha]
  omega

theorem or_part (b : Nat → Nat) (hb : ∀ i, b i < 256) : ∀ k, k < 4 → bits .or .u32 (part4 b k : Int) ((b k : Int) * 2 ^ (8 * k)) = (part4 b (k + 1) : Int) := by
  intro k hk
  have h0 := hb 0
  have h1 := hb 1
  have h2 := hb 2
  have h3 := hb 3
  have e : ((b k : Int) * 2 ^ (8 * k)) = ((b k * 2 ^ (8 * k) : Nat) : Int) := by simp
  rw [e]
  rcases (show k = 0 ∨ k = 1 ∨ k = 2 ∨ k = 3 by omega) with rfl | rfl | rfl | rfl
  · rw [or_up (by show 0 < 2 ^ (8 * 0); decide) (by simp [part4]; omega)]; simp [part4]
  · rw [or_up (by simp [part4]; omega) (by simp [part4]; omega)]; simp [part4]; omega
  · rw [or_up (by simp [part4]; omega) (by simp [part4]; omega)]; simp [part4]; omega
  · rw [or_up (by simp [part4]; omega) (by simp [part4]; omega)]; simp [part4]; omega

theorem at_head (b : Nat → Nat) (w : World) (k : Nat) (hk : k < 4) :
    (Instr.index 182 (.agg #[.int .u8 (b 0 : Nat), .int .u8 (b 1 : Nat), .int .u8 (b 2 : Nat), .int .u8 (b 3 : Nat)]) (.int .i64 (k : Int))).run Tryz.prog w = .ok (.int .u8 (b k : Nat)) w := by
  rcases (show k = 0 ∨ k = 1 ∨ k = 2 ∨ k = 3 by omega) with rfl | rfl | rfl | rfl
  · kernel_rfl
  · kernel_rfl
  · kernel_rfl
  · kernel_rfl

set_option maxRecDepth 100000 in
theorem number_any (b : Nat → Nat) (w : World) (hb : ∀ i, b i < 256) :
    Calls Tryz.prog 213 #[.agg #[.int .u8 (b 0 : Nat), .int .u8 (b 1 : Nat), .int .u8 (b 2 : Nat), .int .u8 (b 3 : Nat)]] w fun e w' => e = .returned (.int .u32 (part4 b 4 : Nat)) ∧ Below w.heap.size w w' := by
  have h0 := hb 0
  have h1 := hb 1
  have h2 := hb 2
  have h3 := hb 3
  go_enter Tryz.func213, Tryz.ntmps213
  go_wp2
  go_loop [3, 7] (fun x i => ∃ k : Nat, k ≤ 4 ∧ i = .int .i64 k ∧ x = .int .u32 (part4 b k : Nat)) (fun _ i => 4 - (intOf i).toNat)
  case atStart => exact ⟨0, by omega, rfl, rfl⟩
  case round =>
    obtain ⟨k, hk, rfl, rfl⟩ := hrel
    by_cases hlt : k < 4
    · rcases (show k = 0 ∨ k = 1 ∨ k = 2 ∨ k = 3 by omega) with rfl | rfl | rfl | rfl
      · have hix := fun w => at_head b w 0 (by omega)
        rw [show ((0 : Nat) : Int) = 0 from rfl] at hix
        go_wp2
        go_round
        case rel => exact ⟨1, by omega, by go_num, congrArg (Value.int .u32) (by have := or_part b hb 0 (by omega); simpa using this)⟩
        case measure => simp [intOf]
      · have hix := fun w => at_head b w 1 (by omega)
        rw [show ((1 : Nat) : Int) = 1 from rfl] at hix
        go_wp2
        go_round
        case rel => exact ⟨2, by omega, by go_num, congrArg (Value.int .u32) (or_part b hb 1 (by omega))⟩
        case measure => simp [intOf]
      · have hix := fun w => at_head b w 2 (by omega)
        rw [show ((2 : Nat) : Int) = 2 from rfl] at hix
        go_wp2
        go_round
        case rel => exact ⟨3, by omega, by go_num, congrArg (Value.int .u32) (or_part b hb 2 (by omega))⟩
        case measure => simp [intOf]
      · have hix := fun w => at_head b w 3 (by omega)
        rw [show ((3 : Nat) : Int) = 3 from rfl] at hix
        go_wp2
        go_round
        case rel => exact ⟨4, by omega, by go_num, congrArg (Value.int .u32) (or_part b hb 3 (by omega))⟩
        case measure => simp [intOf]
    · obtain rfl : k = 4 := by omega
      go_wp2
      go_ret
      exact ⟨rfl, (Below.refl _ _).alloc (Nat.le_refl _) _⟩
end Go.Proofs.YtjoolocdejnohaaGreat

/- The walks of Make, of the code and of the reference. -/
namespace Go.Proofs.YtjoolocdejnohaaGreat
open Go.RowKit Crc

section
variable {P : Program} (w : World)

/-- 'append(b[:n:n], p...)', whatever is appended. -/
theorem wpList_append_full {ops : Array Oper} {rest : List Oper} {o : Oper} {a : Act} {Q : Exit → Act → World → Prop} (hgd : o.guard = none) (s x : Operand) (t : TypeId)
    (ho : o.op = .call { callee := .builtin .append, args := #[s, x], argTypes := #[t, t] })
    (ht : P.underlying t = some (.slice 5)) (hinfo : (P.info? 5).map (fun i => (i.zero, i.size, i.bytes)) = some (some (.int .u8 0), 1, 1))
    (b : Option Addr) (n : Nat) (l : List Nat) (hs : a.eval s = .slice b n n) (hS : Bytes w b n n l)
    (p : Option Addr) (m c : Nat) (l' : List Nat) (hx : a.eval x = .slice p m c) (hB : Bytes w p m c l')
    (hbytes : n + m ≤ 140737488355328)
    (h : ∀ q k w', Bytes w' q (n + m) k (l ++ l') → Below w.heap.size w w' → wpList P ops Q rest (a.put o.dst (.slice q (n + m) k)) w') : wpList P ops Q (o :: rest) a w := by
  rcases Nat.eq_zero_or_pos m with rfl | hm
  · obtain ⟨i, hi, _, hsz, _⟩ := info_parts hinfo
    have hl' : l' = [] := List.length_eq_zero_iff.1 hB.len
    have hr : (Builtin.append_ #[t, t] o.type #[.slice b n n, .slice p 0 c]).run P w = .ok (.slice b n n) w := by
      refine run_append_nothing w t t o.type 5 i ht hi b n n (Nat.le_refl _) (.slice p 0 c) ?_
      cases p with
      | none => exact Src.ofNil w ht c
      | some ad => exact Src.ofSlice w ht ad 0 c [] (by simp) (fun j u h => by simp at h) (fun u h => by simp at h)
    refine wpList_plain hgd fun K hK => ?_
    unfold Oper.wp execOp
    simp only [ho, resolve, invoke, builtin, Sem.run_bind, Sem.run_pure, Result.andThen_ok, List.map_toArray, List.map_cons, List.map_nil, hs, hx, hr]
    refine hK _ _ (h b n w ?_ (Below.refl _ _))
    rw [hl', List.append_nil]
    exact hS
  · refine wpList_append_capped w hgd s x t ho 5 ht hinfo b n l hs hS p m c l' hx hB hm hbytes fun v' w' g1 g2 => ?_
    obtain ⟨q, k, rfl, hq⟩ := own_slice (l := l ++ l') g1 (fun y hy => by
      rcases List.mem_append.1 hy with hy | hy
      · exact hS.byte y hy
      · exact hB.byte y hy)
    exact h q k w' hq g2
end

theorem slice_headF (B : Nat) (w : World) : (Instr.sliceAt 182 (.pointer (some ⟨B, 0, none⟩)) none none none).run Tryz.prog w = .ok (.slice (some ⟨B, 0, none⟩) 4 4) w := by
  have e := run_sliceAt_array_all (P := Tryz.prog) w 182 ⟨B, 0, none⟩ (by kernel_rfl)
  have es : (sizeOf (Tryz.prog.elem 182)).run Tryz.prog w = .ok 1 w := by kernel_rfl
  rw [e, es, show Tryz.prog.arrayLen 182 = 4 by kernel_rfl]
  show Result.ok (slicedAt ⟨B, 0, none⟩ 0 4 4 1) w = _
  unfold slicedAt
  rw [if_neg (by decide)]
  simp [Addr.add]

theorem head_bytes {w : World} {B n : Nat} {t : TypeId} (hn : n < 4294967296) (h : w.heap[B]? = some (.cells (headV n) t (0, 0))) : Bytes w (some ⟨B, 0, none⟩) 4 4 (little n) := by
  refine ⟨rfl, Nat.le_refl _, by omega, little_lt hn, (fun h => by cases h), fun _ => ⟨B, 0, rfl, fun i hi => ?_⟩⟩
  rw [Nat.zero_add, cell_of_row w B i (headV n) t (0, 0) h]
  rcases i with _ | _ | _ | _ | i
  all_goals first | rfl | omega

/-- What Make answers. -/
def MakeEnd (w : World) (l : List Nat) (e : Ending) (w' : World) : Prop :=
  ∃ v, e = .returned (.tuple #[v, .bool true]) ∧ OwnBytes w w' v (frameL l)

theorem make_no (a : Option Addr) (n cap : Nat) (w : World) (hn : 1048576 < n) :
    Calls Tryz.prog 76 #[.slice a n cap] w fun e w' => e = .returned (.tuple #[.slice none 0 0, .bool false]) ∧ w = w' := by
  go_enter Tryz.func76, Tryz.ntmps76
  go_wp2
  go_ret2
  exact ⟨rfl, rfl⟩

theorem make_yes (a : Option Addr) (n cap : Nat) (l : List Nat) (w : World) (hl : Bytes w a n cap l) (hn : n ≤ 1048576) :
    Calls Tryz.prog 76 #[.slice a n cap] w (MakeEnd w l) := by
  have HB := Lib.hid hl
  clear hl
  have hsl := slice_headF
  go_enter Tryz.func76, Tryz.ntmps76
  go_wp2_with fail
  refine (newHead_any n w (by omega)).mono ?_
  rintro e w1 ⟨rfl, hb1⟩
  have Hn := Lib.hid (head_infoV n)
  have H1 := Lib.hid (headV_one n)
  have Hs := Lib.hid (headV_size n)
  have hba : Below w1.heap.size w1 (w1.alloc (.cells (headV n) 182)) := (Below.refl _ _).alloc (Nat.le_refl _) _
  have Hb2 := Lib.hid (hb1.trans (hba.mono hb1.size))
  have HH := Lib.hid (head_bytes (n := n) (by omega) (heap_alloc_new w1 (.cells (headV n) 182)))
  have HL := Lib.hid (HB.out.grow Hb2.out)
  have hlen : (little n ++ l).length = 4 + n := by rw [List.length_append, little_len, HB.out.len]
  have Hlen := Lib.hid hlen
  clear hba hlen
  go_wp2_with (first
    | (refine wpList_store_row rfl 182 _ _ rfl _ (headV n) rfl rfl 182 _ (heap_alloc_new _ _) Hn.out (by rw [Hs.out]; rfl) H1.out ?_; rw [World.setRow_alloc_new])
    | (at_builtin; refine wpList_append_full _ rfl _ _ 58 rfl Tryz.underlying58 info_u8 _ 4 (little n) rfl HH.out a n cap l rfl HL.out (by omega) ?_; intro q k w2 g1 g2))
  have Hb3 := Lib.hid (Hb2.out.trans (g2.mono Hb2.out.size))
  have HS := Lib.hid (seal_any q (4 + n) k (little n ++ l) w2 g1 (by omega))
  clear g1 g2
  go_wp2_with fail
  refine HS.out.mono ?_
  rintro e w3 ⟨v, rfl, hown, hb4⟩
  have hown : w3.ownsRow w2.heap.size 5 1 v (sealL (little n ++ l)).length (u8s (sealL (little n ++ l))) := hown
  have Hown := Lib.hid hown
  clear hown
  go_wp2
  go_ret2
  refine ⟨v, rfl, ?_, Hb3.out.trans (hb4.mono Hb3.out.size)⟩
  have e : frameL l = sealL (little n ++ l) := by unfold frameL; rw [HB.out.len]
  rw [e]
  exact own_base Hown.out Hb3.out.size

theorem rmake_no (a : Option Addr) (n cap : Nat) (w : World) (hn : 1048576 < n) :
    Calls Tryz.prog 72 #[.slice a n cap] w fun e w' => e = .returned (.tuple #[.slice none 0 0, .bool false]) ∧ w = w' := by
  go_enter Tryz.func72, Tryz.ntmps72
  go_wp2
  go_ret2
  exact ⟨rfl, rfl⟩

theorem rmake_yes (a : Option Addr) (n cap : Nat) (l : List Nat) (w : World) (hl : Bytes w a n cap l) (hn : n ≤ 1048576) :
    Calls Tryz.prog 72 #[.slice a n cap] w (MakeEnd w l) := by
  have HB := Lib.hid hl
  clear hl
  go_enter Tryz.func72, Tryz.ntmps72
  go_wp2_with fail
  refine (little_any n w (by omega)).mono ?_
  rintro e w1 ⟨v, rfl, hown, hb1⟩
  have Hown := Lib.hid hown
  have HL := Lib.hid (HB.out.grow hb1)
  clear hown
  go_wp2_with (at_builtin; refine wpList_append_bytes _ rfl _ _ 58 rfl w.heap.size 5 Tryz.underlying58 info_u8 _ _ _ rfl Hown.out a n cap l rfl HL.out (by rw [little_len]; omega) hb1.size ?_; intro v' w2 g1 g2)
  have Hb2 := Lib.hid (hb1.grown g2 hb1.size (fun k hk => (Hown.out.lt k hk).1))
  obtain ⟨p, cp, rfl, hC⟩ := own_slice g1 (fun y hy => by
      rcases List.mem_append.1 hy with hy | hy
      · exact little_lt (by omega) y hy
      · exact HB.out.byte y hy)
  have HS := Lib.hid (rseal_any p _ cp (little n ++ l) w2 hC (by rw [little_len]; omega))
  clear g1 g2 hC
  go_wp2_with fail
  refine HS.out.mono ?_
  rintro e w3 ⟨v, rfl, hown, hb4⟩
  have Hown := Lib.hid hown
  clear hown
  go_wp2
  go_ret2
  refine ⟨v, rfl, ?_, Hb2.out.trans (hb4.mono Hb2.out.size)⟩
  have e : frameL l = sealL (little n ++ l) := by unfold frameL; rw [HB.out.len]
  rw [e]
  exact own_base Hown.out Hb2.out.size
end Go.Proofs.YtjoolocdejnohaaGreat

