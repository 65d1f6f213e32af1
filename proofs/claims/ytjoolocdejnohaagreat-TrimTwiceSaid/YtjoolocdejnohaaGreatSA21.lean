import Derived.Test.YtjoolocdejnohaaGreatSA20
import Derived.Test.YtjoolocdejnohaaGreatSA7
/- The walk of a log's take, whatever its steps do; a log in memory. -/
namespace Go.Proofs.YtjoolocdejnohaaGreat
open Go.RowKit Go.Maps Go.Shelf

/-- A step: the function that it runs, what this has captured, and where the log goes on. -/
structure StepD where
  k : Nat
  caps : Array Value
  n : Int
  s : Int
  z : Int

def StepD.cells (x : StepD) : Array Value := #[.func (.func x.k) #[] x.caps, .int .i64 x.n, .int .i64 x.s, .int .i64 x.z]

/-- What a step leaves: a code other than 0, or the log's cells to be set. -/
def TakeStep (g B : Nat) (x : StepD) (Q : Ending → World → Prop) (J : World → Prop) (e : Ending) (w : World) : Prop :=
  ∃ code : Int, e = .returned (.int .i64 code) ∧ (code ≠ 0 → Q (.returned (.int .i64 code)) w) ∧
    (code = 0 → w.heap[B]? = some (.cells x.cells 135 (0, 0)) ∧ (∃ cs, w.heap[g]? = some (.cells cs 129 (0, 0)) ∧ cs.size = 5) ∧ J (((w.setCell ⟨g, 0, none⟩ (.int .i64 x.n)).setCell ⟨g, 1, none⟩ (.int .i64 x.s)).setCell ⟨g, 2, none⟩ (.int .i64 x.z)))

set_option maxRecDepth 100000 in
set_option maxHeartbeats 3200000 in
theorem take_any (g sb n cap : Nat) (L : List StepD) (hn : L.length = n) (hm : n ≤ 1000) (J : Nat → World → Prop) (Q : Ending → World → Prop) (w : World)
    (hent : ∀ (j : Nat) (hj : j < L.length) args w, (callFunc L[j].k args).run Tryz.prog w = .ok (.enter L[j].k args) w) (h0 : J 0 w)
    (hrow : ∀ (j : Nat) (hj : j < L.length) w', J j w' → w'.cell? ⟨sb, j * 4, none⟩ = some (.func (.func L[j].k) #[] L[j].caps) ∧ w'.cell? ⟨sb, j * 4 + 1, none⟩ = some (.int .i64 L[j].n) ∧ w'.cell? ⟨sb, j * 4 + 2, none⟩ = some (.int .i64 L[j].s) ∧ w'.cell? ⟨sb, j * 4 + 3, none⟩ = some (.int .i64 L[j].z))
    (hstep : ∀ (j : Nat) (hj : j < L.length) w', J j w' → Calls Tryz.prog L[j].k L[j].caps (w'.alloc (.cells L[j].cells 135)) (TakeStep g w'.heap.size L[j] Q (J (j + 1))))
    (hend : ∀ w', J n w' → Q (.returned (.int .i64 0)) w') :
    Calls Tryz.prog 78 #[.pointer (some ⟨g, 0, none⟩), .slice (some ⟨sb, 0, none⟩) n cap] w Q := by
  have HN := Lib.hid hn
  have HEnt := Lib.hid hent
  have H0 := Lib.hid h0
  have HRow := Lib.hid hrow
  have HStep := Lib.hid hstep
  have HEnd := Lib.hid hend
  clear hn hent h0 hrow hstep hend
  have hst := fun w a k ts caps m => store_func Tryz.prog w a k ts caps m
  go_enter Tryz.func78, Tryz.ntmps78
  go_wp2
  go_loopw [10] (fun i wr => ∃ j : Nat, j ≤ n ∧ i = .int .i64 (j : Int) ∧ J j wr) (fun i _ => n - (intOf i).toNat)
  case atStart => exact ⟨0, Nat.zero_le _, rfl, H0.out⟩
  case round =>
    obtain ⟨j, hj, rfl, hJ⟩ := hrel
    by_cases hlt : j < n
    · have hjl : j < L.length := by rw [HN.out]; exact hlt
      obtain ⟨r0, r1, r2, r3⟩ := HRow.out j hjl wr hJ
      have he := HEnt.out j hjl
      have HS := Lib.hid (HStep.out j hjl wr hJ)
      unfold StepD.cells at HS
      have Hlt := Lib.hid hlt
      have hji : (j : Int) < (n : Int) := by omega
      clear hJ
      generalize hLj : L[j] = x at *
      obtain ⟨k, caps, xn, xs, xz⟩ := x
      simp only at *
      clear hLj
      go_wp2_with fail
      refine HS.out.mono ?_
      rintro e w2 ⟨code, rfl, h1, h2⟩
      by_cases hc : code = 0
      · subst hc
        obtain ⟨hB, ⟨cs, hg, hcs⟩, hJ2⟩ := h2 rfl
        have hb0 : w2.cell? ⟨wr.heap.size, 0, none⟩ = some (.func (.func k) #[] caps) := by rw [cell_of_row _ _ _ _ _ (0, 0) hB]; rfl
        have hb1 : w2.cell? ⟨wr.heap.size, 1, none⟩ = some (.int .i64 xn) := by rw [cell_of_row _ _ _ _ _ (0, 0) hB]; rfl
        have hb2 : w2.cell? ⟨wr.heap.size, 2, none⟩ = some (.int .i64 xs) := by rw [cell_of_row _ _ _ _ _ (0, 0) hB]; rfl
        have hb3 : w2.cell? ⟨wr.heap.size, 3, none⟩ = some (.int .i64 xz) := by rw [cell_of_row _ _ _ _ _ (0, 0) hB]; rfl
        obtain ⟨v0, v1, v2, v3, v4, rfl⟩ : ∃ v0 v1 v2 v3 v4, cs = #[v0, v1, v2, v3, v4] := by
          match cs, hcs with
          | ⟨[v0, v1, v2, v3, v4]⟩, _ => exact ⟨v0, v1, v2, v3, v4, rfl⟩
        have hg0 : w2.cell? ⟨g, 0, none⟩ = some v0 := by rw [cell_of_row _ _ _ _ _ (0, 0) hg]; rfl
        have hg1 : w2.cell? ⟨g, 1, none⟩ = some v1 := by rw [cell_of_row _ _ _ _ _ (0, 0) hg]; rfl
        have hg2 : w2.cell? ⟨g, 2, none⟩ = some v2 := by rw [cell_of_row _ _ _ _ _ (0, 0) hg]; rfl
        have hgf : ∀ i, w2.frozen? ⟨g, i, none⟩ = false := fun i => by simp [World.frozen?, hg]
        have HJ2 := Lib.hid hJ2
        clear h1 h2 hB hg hcs hJ2
        go_wp2
        go_roundw
        case rel => exact ⟨j + 1, Hlt.out, by go_num, HJ2.out⟩
        case measure => simp [intOf]; omega
      · have HQ := Lib.hid (h1 hc)
        have hc1 : (code == 0) = false := by simpa using hc
        have hc2 : (code != 0) = true := by simpa using hc
        clear h1 h2 hc
        go_wp2
        exact HQ.out
    · obtain rfl : j = n := by omega
      have HJ := Lib.hid hJ
      have hji : ¬ (j : Int) < (j : Int) := by omega
      clear hJ
      go_wp2
      exact HEnd.out _ HJ.out
end Go.Proofs.YtjoolocdejnohaaGreat

/- The walks of a disk's Remove and Rename. -/
namespace Go.Proofs.YtjoolocdejnohaaGreat
open Go.RowKit Go.Maps Go.Shelf

set_option maxRecDepth 100000 in
set_option maxHeartbeats 3200000 in
theorem remove1_any {S : Nat → Prop} {w : World} {d mb : Nat} {p : Int} {L : List FW} {M : DM} (h : DiskAt S w d mb p L M) (n : List UInt8) (hn : n.length ≤ 9223372036854775807) (v0 : Value) (bd bn : Nat)
    (hbd : w.cell? ⟨bd, 0, none⟩ = some (.pointer (some ⟨d, 0, none⟩))) (hbn : w.cell? ⟨bn, 0, none⟩ = some (encStr n)) :
    Calls Tryz.prog 179 #[v0, .pointer (some ⟨bd, 0, none⟩), .pointer (some ⟨bn, 0, none⟩)] w (ActEnd S w d ({ M with fs := delN F.n n M.fs }, 0)) := by
  obtain ⟨_, c1, _, _, _⟩ := h.cells
  have hd1 := h.drew
  obtain ⟨w2, hrun, hown, hturn⟩ := hd1.dir.drop mapKey Tryz.underlying116 (keyN n hn) 0
  rw [dirD_del] at hown
  have hc : Chg (fun b => b = mb) w.drew w2 := Chg.grown hturn.grown (fun k hk => by cases hk; exact .inl rfl)
  have hE := hd1.out n hown hc
  have hSm : S mb := h.sub mb (by simp)
  have HE := Lib.hid (show Step S w d { M with fs := delN F.n n M.fs } w2 from Step.same ⟨mb, p, _, hE⟩ ((Chg.drew S w).same ⟨hc.os, hc.tape, hc.output, hc.size, fun b hb hns => hc.block b hb (fun e => hns (e ▸ hSm))⟩))
  clear h hd1 hown hturn hc hE hSm
  go_enter Tryz.func179, Tryz.ntmps179
  go_wp2
  go_region
  go_wp2
  go_ret
  exact ⟨rfl, HE.out⟩

theorem delN_sub {A B : List FW} {x : FW} {n : List UInt8} (hn : x.n = n) : (delN FW.n n (A ++ x :: B)).Sublist (A ++ B) := by
  unfold delN
  rw [List.filter_append, List.filter_cons, if_neg (by rw [hn]; simp)]
  exact List.Sublist.append (List.filter_sublist ..) (List.filter_sublist ..)

set_option maxRecDepth 100000 in
set_option maxHeartbeats 6400000 in
theorem rename1_any {S : Nat → Prop} {w : World} {d mb : Nat} {p : Int} {L : List FW} {M : DM} (h : DiskAt S w d mb p L M) (n t : List UInt8) (hn : n.length ≤ 9223372036854775807) (ht : t.length ≤ 9223372036854775807) (hL : M.fs.length < 1000000)
    {x : FW} (hx : findN FW.n n L = some x) (bt bd bn : Nat) (hbt : w.cell? ⟨bt, 0, none⟩ = some (encStr t)) (hbd : w.cell? ⟨bd, 0, none⟩ = some (.pointer (some ⟨d, 0, none⟩))) (hbn : w.cell? ⟨bn, 0, none⟩ = some (encStr n))
    (hSt : ¬ S bt) (hSd : ¬ S bd) :
    Calls Tryz.prog 180 #[.pointer (some ⟨x.blk, 0, none⟩), .pointer (some ⟨bt, 0, none⟩), .pointer (some ⟨bd, 0, none⟩), .pointer (some ⟨bn, 0, none⟩)] w
      (ActEnd S w d (if named t = true then ({ M with fs := putN F.n ⟨t, x.f.b, x.f.d⟩ (delN F.n n M.fs) }, 0) else (M, 6))) := by
  have HP := Lib.hid (possible_any t w)
  cases hnt : named t with
  | false =>
    rw [if_neg (by decide)]
    have Hnt := Lib.hid hnt
    have H := Lib.hid h
    rw [hnt] at HP
    clear h hnt hx hL
    go_enter Tryz.func180, Tryz.ntmps180
    go_wp2_with fail
    refine HP.out.mono ?_
    rintro e w' ⟨rfl, rfl⟩
    go_wp2
    go_ret
    exact ⟨rfl, Step.same ⟨mb, p, L, H.out⟩ (Chg.refl _ _)⟩
  | true =>
    rw [if_pos rfl]
    rw [hnt] at HP
    obtain ⟨_, c1, _, _, _⟩ := h.cells
    obtain ⟨hxL, hxn⟩ := setN_name hx
    have hd1 := h.drew
    obtain ⟨w2, hrun, hown, hturn⟩ := hd1.dir.drop mapKey Tryz.underlying116 (keyN n hn) 0
    rw [dirD_del] at hown
    have hc : Chg (fun b => b = mb) w.drew w2 := Chg.grown hturn.grown (fun k hk => by cases hk; exact .inl rfl)
    have h1 := (hd1.out n hown hc).drew
    have hlen : L.length = M.fs.length := by have := congrArg List.length h.files; rw [List.length_map] at this; exact this.symm
    have hdl : (delN FW.n n L).length ≤ L.length := List.length_filter_le ..
    obtain ⟨w3, hrun3, hown3, hg3⟩ := h1.dir.update mapKey Tryz.underlying116 (by rw [maxLen_nat]; omega) (keyN t ht) (val := .pointer (some ⟨x.blk, 0, none⟩)) (d := .lit (.int .i64 (x.blk : Int))) (ps := []) rfl
    rw [show (dirD (delN FW.n n L)).put (.string t) (.lit (.int .i64 (x.blk : Int))) = dirD (putN FW.n ⟨⟨t, x.f.b, x.f.d⟩, x.blk, x.v⟩ (delN FW.n n L)) from dirD_put ⟨⟨t, x.f.b, x.f.d⟩, x.blk, x.v⟩ _] at hown3
    have hc3 : Chg (fun b => b = mb) w2.drew w3 := Chg.grown hg3 (fun k hk => by cases hk; exact .inl rfl)
    have hc13 : Chg (fun b => b = mb) w w3 := (((Chg.drew _ w).same hc).same (Chg.drew _ w2)).same hc3
    obtain ⟨A, B, hAB⟩ := List.append_of_mem hxL
    have hap := h.apart
    rw [hAB] at hap
    obtain ⟨n1, n2, n3⟩ := List.nodup_append.1 ((apart_mid d mb A B x).nodup_iff.1 hap)
    have hSfp : ∀ b ∈ fpOne x, S b := fun b hb => h.sub b (by simp [mem_fpOf hxL hb])
    have hmbx : ∀ b ∈ fpOne x, b ≠ mb := fun b hb e => n3 b hb mb (by simp) e
    have hok3 : FileOk w3 ⟨⟨t, x.f.b, x.f.d⟩, x.blk, x.v⟩ := by
      have h2 := (h.ok x hxL).keep (w' := w3) (fun b hb => hc13.block b (h.bound b (hSfp b hb)) (hmbx b hb))
      exact ⟨h2.blk, h2.row, h2.byte, h2.dur⟩
    have hE := h1.put (S' := S) ⟨⟨t, x.f.b, x.f.d⟩, x.blk, x.v⟩ hown3 hc3 hok3 (fun b hb hb2 => by
        have hsub : (delN FW.n t (delN FW.n n L)).Sublist (A ++ B) := (List.filter_sublist ..).trans (by rw [hAB]; exact delN_sub hxn)
        exact n3 b hb b ((((fpOf_sub hsub).cons_cons mb).cons_cons d).subset hb2) rfl) n1 hSfp (fun b h => h) (fun b hb => Nat.lt_of_lt_of_le (h.bound b hb) hc13.size) (by
        have u1 := usedF_del t (delN F.n n M.fs)
        have u2 : usedF (delN F.n n M.fs) + x.f.b.length ≤ usedF M.fs := usedF_del_find (x := x.f) (by rw [h.files, findN_map FW.n F.n FW.f (fun _ => rfl), hx]; rfl)
        have := h.used
        show x.f.b.length + usedF (delN F.n t (delN F.n n M.fs)) ≤ M.room
        omega)
    have hSm : S mb := h.sub mb (by simp)
    have HE := Lib.hid (show Step S w d { M with fs := putN F.n ⟨t, x.f.b, x.f.d⟩ (delN F.n n M.fs) } w3 from Step.same ⟨mb, p, _, hE⟩ ⟨hc13.os, hc13.tape, hc13.output, hc13.size, fun b hb hns => hc13.block b hb (fun e => hns (e ▸ hSm))⟩)
    have k1 := hc.cell (w := w.drew) hbd (fun e => hSd (by rw [show bd = mb from e]; exact hSm))
    have k2 := hc.cell (w := w.drew) hbt (fun e => hSt (by rw [show bt = mb from e]; exact hSm))
    obtain ⟨_, k3, _, _, _⟩ := (hd1.out n hown hc).cells
    clear h hd1 hown hturn hc h1 hown3 hg3 hc3 hc13 hAB hap n1 n2 n3 hSfp hmbx hok3 hE hSm hxL hx hL hlen hdl hSt hSd hnt
    go_enter Tryz.func180, Tryz.ntmps180
    go_wp2_with fail
    refine HP.out.mono ?_
    rintro e w' ⟨rfl, rfl⟩
    go_wp2
    go_region
    go_wp2
    go_region
    go_wp2
    go_ret
    exact ⟨rfl, HE.out⟩
end Go.Proofs.YtjoolocdejnohaaGreat

/- A nil disk. -/
namespace Go.Proofs.YtjoolocdejnohaaGreat
open Go.RowKit Go.Maps Go.Shelf

/-- One code, and new memory alone. -/
def CodeEnd (w : World) (k : Int) (e : Ending) (w' : World) : Prop := e = .returned (.int .i64 k) ∧ Below w.heap.size w w'

theorem carry_nil (n : List UInt8) (k : Nat) (caps : Array Value) (w : World) : Calls Tryz.prog 81 #[.pointer none, .agg #[encStr n, .func (.func k) #[] caps]] w (CodeEnd w 1) := by
  have Hb := Lib.hid ((Below.refl w.heap.size w).alloc (Nat.le_refl _) (.cells #[encStr n, .func (.func k) #[] caps] 143))
  go_enter Tryz.func81, Tryz.ntmps81
  go_wp2
  go_ret
  exact ⟨rfl, Hb.out⟩

theorem cell_under {w w' : World} {k : Nat} (hb : Below k w w') {a : Addr} {v : Value} (hc : w.cell? a = some v) (hk : a.block < k) : w'.cell? a = some v := by
  rw [World.cell?_of_block (hb.block a.block hk)]
  exact hc

set_option maxRecDepth 100000 in
set_option maxHeartbeats 3200000 in
theorem append_nil (n : List UInt8) (p : Option Addr) (m c : Nat) (w : World) : Calls Tryz.prog 55 #[.pointer none, .string ⟨n.toArray⟩, .slice p m c] w (CodeEnd w 1) := by
  have hb : Below w.heap.size w ((w.alloc (.cells #[.pointer none] 23)).alloc (.cells #[.slice p m c] 58)).drew := (((Below.refl w.heap.size w).alloc (Nat.le_refl _) (.cells #[.pointer none] 23)).alloc (by simp) (.cells #[.slice p m c] 58)).drew
  have hk0 : ((w.alloc (.cells #[.pointer none] 23)).alloc (.cells #[.slice p m c] 58)).drew.cell? ⟨w.heap.size, 0, none⟩ = some (.pointer none) :=
    (Chg.alloc (fun _ => False) _ _).cell (cell_of_row _ _ _ _ _ (0, 0) (heap_alloc_new _ _)) (fun h => h)
  have hsz : ((w.alloc (.cells #[.pointer none] 23)).alloc (.cells #[.slice p m c] 58)).drew.heap.size = w.heap.size + 2 := by show ((w.alloc _).alloc _).heap.size = _; simp
  have HO := Lib.hid (fun (w1 : World) (h1 : w1.heap.size = w.heap.size + 2) => onfile_at n 101 #[.pointer (some ⟨w.heap.size + 1, 0, none⟩), .pointer (some ⟨w.heap.size, 0, none⟩)] (w.heap.size + 2) w1 h1)
  have HC := Lib.hid (fun w1 => carry_nil n 142 #[.pointer (some ⟨w.heap.size + 2, 0, none⟩)] w1)
  have Hb := Lib.hid hb
  have HK := Lib.hid (fun (w1 : World) (hb1 : Below (w.heap.size + 2) ((w.alloc (.cells #[.pointer none] 23)).alloc (.cells #[.slice p m c] 58)).drew w1) => cell_under hb1 hk0 (by show w.heap.size < w.heap.size + 2; omega))
  have Hsz := Lib.hid hsz
  clear hb hk0 hsz
  change Calls _ _ #[.pointer none, encStr n, .slice p m c] _ _
  go_enter Tryz.func55, Tryz.ntmps55
  go_wp2
  go_region_held (fun w' => w'.cell? ⟨w.heap.size, 0, none⟩ = some (.pointer none))
    (first | exact HK.out _ (Below.refl _ _) | exact HK.out _ hb1 | exact HK.out _ hb2)
    (first
      | (go_at_call 100; (with_reducible refine (HO.out _ Hsz.out).mono ?_); rintro e w1 ⟨rfl, hb1, _⟩; have hs1 := Hsz.out ▸ hb1.size; have HC1 := Lib.hid (HC.out w1))
      | (go_at_call 81; (with_reducible refine HC1.out.mono ?_); rintro e w2 ⟨rfl, hb0⟩; have hb2 := hb1.trans (hb0.mono hs1); clear hb0))
  all_goals go_wp2
  all_goals go_ret
  all_goals exact ⟨rfl, Hb.out.trans (hb2.mono (Nat.le_add_right _ _))⟩

end Go.Proofs.YtjoolocdejnohaaGreat

/- The walks of a disk's Remove and Rename, whole. -/
namespace Go.Proofs.YtjoolocdejnohaaGreat
open Go.RowKit Go.Maps Go.Shelf

set_option maxRecDepth 100000 in
set_option maxHeartbeats 6400000 in
theorem remove_any {S : Nat → Prop} {w : World} {d : Nat} {M : DM} (h : DiskIn S w d M) (n : List UInt8) (hn : n.length ≤ 9223372036854775807) :
    Calls Tryz.prog 152 #[.pointer (some ⟨d, 0, none⟩), encStr n] w (ActEnd S w d (removeM n M)) := by
  have hb : Below w.heap.size w ((w.alloc (.cells #[.pointer (some ⟨d, 0, none⟩)] 23)).alloc (.cells #[encStr n] 9)) := (((Below.refl w.heap.size w).alloc (Nat.le_refl _) (.cells #[.pointer (some ⟨d, 0, none⟩)] 23)).alloc (by simp) (.cells #[encStr n] 9))
  have hcd : ((w.alloc (.cells #[.pointer (some ⟨d, 0, none⟩)] 23)).alloc (.cells #[encStr n] 9)).cell? ⟨w.heap.size, 0, none⟩ = some (.pointer (some ⟨d, 0, none⟩)) := by
    refine (Chg.alloc (fun _ => False) _ _).cell ?_ (fun h => h)
    exact cell_of_row _ _ _ _ _ (0, 0) (heap_alloc_new _ _)
  have hcn : ((w.alloc (.cells #[.pointer (some ⟨d, 0, none⟩)] 23)).alloc (.cells #[encStr n] 9)).cell? ⟨w.heap.size + 1, 0, none⟩ = some (encStr n) := by
    have := cell_of_row ((w.alloc (.cells #[.pointer (some ⟨d, 0, none⟩)] 23)).alloc (.cells #[encStr n] 9)) (w.heap.size + 1) 0 #[encStr n] 9 (0, 0) (by have := heap_alloc_new (w.alloc (.cells #[.pointer (some ⟨d, 0, none⟩)] 23)) (.cells #[encStr n] 9); simpa using this)
    exact this
  have hsz : ((w.alloc (.cells #[.pointer (some ⟨d, 0, none⟩)] 23)).alloc (.cells #[encStr n] 9)).heap.size = w.heap.size + 2 := by simp
  have hS0 : ∀ b, w.heap.size ≤ b → ¬ S b := fun b hb hs => by obtain ⟨_, _, _, h⟩ := h; exact absurd (h.bound b hs) (by omega)
  have HO := Lib.hid (fun (w1 : World) (h1 : w1.heap.size = w.heap.size + 2) => onfile_at n 179 #[.pointer (some ⟨w.heap.size, 0, none⟩), .pointer (some ⟨w.heap.size + 1, 0, none⟩)] (w.heap.size + 2) w1 h1)
  have HC := Lib.hid (fun (w1 : World) (hb1 : Below (w.heap.size + 2) ((w.alloc (.cells #[.pointer (some ⟨d, 0, none⟩)] 23)).alloc (.cells #[encStr n] 9)) w1) (hc : w1.cell? ⟨w.heap.size + 2, 0, none⟩ = some (.func (.func 179) #[] #[.pointer (some ⟨w.heap.size, 0, none⟩), .pointer (some ⟨w.heap.size + 1, 0, none⟩)])) =>
    (change_any ((h.below hb).below (by rw [hsz]; exact hb1)) n hn 179 (w.heap.size + 2) #[.pointer (some ⟨w.heap.size, 0, none⟩), .pointer (some ⟨w.heap.size + 1, 0, none⟩)] (by exact enters_of Tryz.func179 (by kernel_rfl) rfl) hc (hS0 _ (by omega))
      (fun _ M => ({ M with fs := delN F.n n M.fs }, 0))
      (fun mb p L w' x hD hcc hx => remove1_any hD n hn _ _ _ (hcc.cell (cell_under hb1 hcd (by show w.heap.size < w.heap.size + 2; omega)) (hS0 _ (by show w.heap.size ≤ w.heap.size; omega))) (hcc.cell (cell_under hb1 hcn (by show w.heap.size + 1 < w.heap.size + 2; omega)) (hS0 _ (by show w.heap.size ≤ w.heap.size + 1; omega))))).mono (fun e w2 (hq : ActEnd S w1 d (removeM n M) e w2) => show e = .returned (.int .i64 (removeM n M).2) ∧ Step S w d (removeM n M).1 w2 ∧ w2.cell? ⟨w.heap.size, 0, none⟩ = some (.pointer (some ⟨d, 0, none⟩)) ∧ w2.cell? ⟨w.heap.size + 1, 0, none⟩ = some (encStr n) from ⟨hq.1, Step.behind hb (Step.behind (by rw [hsz]; exact hb1) hq.2), by
      obtain ⟨_, _, _, hcc⟩ := hq.2
      exact ⟨(hcc.cell (cell_under hb1 hcd (by show w.heap.size < w.heap.size + 2; omega)) (hS0 _ (by show w.heap.size ≤ w.heap.size; omega))), (hcc.cell (cell_under hb1 hcn (by show w.heap.size + 1 < w.heap.size + 2; omega)) (hS0 _ (by show w.heap.size ≤ w.heap.size + 1; omega)))⟩⟩))
  have HK := Lib.hid (fun (w1 : World) (hb1 : Below (w.heap.size + 2) ((w.alloc (.cells #[.pointer (some ⟨d, 0, none⟩)] 23)).alloc (.cells #[encStr n] 9)) w1) => show w1.cell? ⟨w.heap.size, 0, none⟩ = some (.pointer (some ⟨d, 0, none⟩)) ∧ w1.cell? ⟨w.heap.size + 1, 0, none⟩ = some (encStr n) from ⟨cell_under hb1 hcd (by show w.heap.size < w.heap.size + 2; omega), cell_under hb1 hcn (by show w.heap.size + 1 < w.heap.size + 2; omega)⟩)
  have Hsz := Lib.hid (show ((w.alloc (.cells #[.pointer (some ⟨d, 0, none⟩)] 23)).alloc (.cells #[encStr n] 9)).drew.heap.size = w.heap.size + 2 from hsz)
  clear h hb hcd hcn hsz hS0
  go_enter Tryz.func152, Tryz.ntmps152
  go_wp2
  go_region_held (fun w' => w'.cell? ⟨w.heap.size, 0, none⟩ = some (.pointer (some ⟨d, 0, none⟩)) ∧ w'.cell? ⟨w.heap.size + 1, 0, none⟩ = some (encStr n))
    (first | exact HK.out _ ((Below.refl _ _).drew) | exact HK.out _ hb1 | exact hk2)
    (first
      | (go_at_call 100; (with_reducible refine (HO.out _ Hsz.out).mono ?_); rintro e w1 ⟨rfl, hb0, hc1⟩; have hb1 := ((Below.refl (w.heap.size + 2) ((w.alloc (.cells #[.pointer (some ⟨d, 0, none⟩)] 23)).alloc (.cells #[encStr n] 9))).drew).trans hb0; have HC1 := Lib.hid (HC.out w1 hb1 hc1); clear hb0 hc1)
      | (go_at_call 81; (with_reducible refine HC1.out.mono ?_); rintro e w2 ⟨rfl, hq, hk2⟩; have Hq := Lib.hid hq; clear hq))
  all_goals go_wp2
  all_goals go_ret
  all_goals exact ⟨rfl, Hq.out⟩

set_option maxRecDepth 100000 in
set_option maxHeartbeats 6400000 in
theorem rename_any {S : Nat → Prop} {w : World} {d : Nat} {M : DM} (h : DiskIn S w d M) (n t : List UInt8) (hn : n.length ≤ 9223372036854775807) (ht : t.length ≤ 9223372036854775807) (hL : M.fs.length < 1000000) :
    Calls Tryz.prog 157 #[.pointer (some ⟨d, 0, none⟩), encStr n, encStr t] w (ActEnd S w d (renameM n t M)) := by
  have hb : Below w.heap.size w (((w.alloc (.cells #[.pointer (some ⟨d, 0, none⟩)] 23)).alloc (.cells #[encStr n] 9)).alloc (.cells #[encStr t] 9)) := ((((Below.refl w.heap.size w).alloc (Nat.le_refl _) (.cells #[.pointer (some ⟨d, 0, none⟩)] 23)).alloc (by simp) (.cells #[encStr n] 9)).alloc (by simp; omega) (.cells #[encStr t] 9))
  have hcd : (((w.alloc (.cells #[.pointer (some ⟨d, 0, none⟩)] 23)).alloc (.cells #[encStr n] 9)).alloc (.cells #[encStr t] 9)).cell? ⟨w.heap.size, 0, none⟩ = some (.pointer (some ⟨d, 0, none⟩)) := by
    refine (Chg.alloc (fun _ => False) _ _).cell ?_ (fun h => h)
    refine (Chg.alloc (fun _ => False) _ _).cell ?_ (fun h => h)
    exact cell_of_row _ _ _ _ _ (0, 0) (heap_alloc_new _ _)
  have hcn : (((w.alloc (.cells #[.pointer (some ⟨d, 0, none⟩)] 23)).alloc (.cells #[encStr n] 9)).alloc (.cells #[encStr t] 9)).cell? ⟨w.heap.size + 1, 0, none⟩ = some (encStr n) := by
    refine (Chg.alloc (fun _ => False) _ _).cell ?_ (fun h => h)
    have := cell_of_row ((w.alloc (.cells #[.pointer (some ⟨d, 0, none⟩)] 23)).alloc (.cells #[encStr n] 9)) (w.heap.size + 1) 0 #[encStr n] 9 (0, 0) (by have := heap_alloc_new (w.alloc (.cells #[.pointer (some ⟨d, 0, none⟩)] 23)) (.cells #[encStr n] 9); simpa using this)
    exact this
  have hct : (((w.alloc (.cells #[.pointer (some ⟨d, 0, none⟩)] 23)).alloc (.cells #[encStr n] 9)).alloc (.cells #[encStr t] 9)).cell? ⟨w.heap.size + 1 + 1, 0, none⟩ = some (encStr t) := by
    have := cell_of_row (((w.alloc (.cells #[.pointer (some ⟨d, 0, none⟩)] 23)).alloc (.cells #[encStr n] 9)).alloc (.cells #[encStr t] 9)) (w.heap.size + 1 + 1) 0 #[encStr t] 9 (0, 0) (by have := heap_alloc_new ((w.alloc (.cells #[.pointer (some ⟨d, 0, none⟩)] 23)).alloc (.cells #[encStr n] 9)) (.cells #[encStr t] 9); simpa using this)
    exact this
  have hsz : (((w.alloc (.cells #[.pointer (some ⟨d, 0, none⟩)] 23)).alloc (.cells #[encStr n] 9)).alloc (.cells #[encStr t] 9)).heap.size = w.heap.size + 3 := by simp
  have hS0 : ∀ b, w.heap.size ≤ b → ¬ S b := fun b hb hs => by obtain ⟨_, _, _, h⟩ := h; exact absurd (h.bound b hs) (by omega)
  have HO := Lib.hid (fun (w1 : World) (h1 : w1.heap.size = w.heap.size + 3) => onfile_at n 180 #[.pointer (some ⟨w.heap.size + 1 + 1, 0, none⟩), .pointer (some ⟨w.heap.size, 0, none⟩), .pointer (some ⟨w.heap.size + 1, 0, none⟩)] (w.heap.size + 3) w1 h1)
  have HC := Lib.hid (fun (w1 : World) (hb1 : Below (w.heap.size + 3) (((w.alloc (.cells #[.pointer (some ⟨d, 0, none⟩)] 23)).alloc (.cells #[encStr n] 9)).alloc (.cells #[encStr t] 9)) w1) (hc : w1.cell? ⟨w.heap.size + 3, 0, none⟩ = some (.func (.func 180) #[] #[.pointer (some ⟨w.heap.size + 1 + 1, 0, none⟩), .pointer (some ⟨w.heap.size, 0, none⟩), .pointer (some ⟨w.heap.size + 1, 0, none⟩)])) =>
    (change_any ((h.below hb).below (by rw [hsz]; exact hb1)) n hn 180 (w.heap.size + 3) #[.pointer (some ⟨w.heap.size + 1 + 1, 0, none⟩), .pointer (some ⟨w.heap.size, 0, none⟩), .pointer (some ⟨w.heap.size + 1, 0, none⟩)] (by exact enters_of Tryz.func180 (by kernel_rfl) rfl) hc (hS0 _ (by omega))
      (fun f M => if named t = true then ({ M with fs := putN F.n ⟨t, f.b, f.d⟩ (delN F.n n M.fs) }, 0) else (M, 6))
      (fun mb p L w' x hD hcc hx => rename1_any hD n t hn ht (by rw [failM_fs]; exact hL) hx _ _ _ (hcc.cell (cell_under hb1 hct (by show w.heap.size + 1 + 1 < w.heap.size + 3; omega)) (hS0 _ (by show w.heap.size ≤ w.heap.size + 1 + 1; omega))) (hcc.cell (cell_under hb1 hcd (by show w.heap.size < w.heap.size + 3; omega)) (hS0 _ (by show w.heap.size ≤ w.heap.size; omega))) (hcc.cell (cell_under hb1 hcn (by show w.heap.size + 1 < w.heap.size + 3; omega)) (hS0 _ (by show w.heap.size ≤ w.heap.size + 1; omega))) (hS0 _ (by omega)) (hS0 _ (by omega)))).mono (fun e w2 (hq : ActEnd S w1 d (renameM n t M) e w2) => show e = .returned (.int .i64 (renameM n t M).2) ∧ Step S w d (renameM n t M).1 w2 ∧ w2.cell? ⟨w.heap.size, 0, none⟩ = some (.pointer (some ⟨d, 0, none⟩)) ∧ w2.cell? ⟨w.heap.size + 1, 0, none⟩ = some (encStr n) from ⟨hq.1, Step.behind hb (Step.behind (by rw [hsz]; exact hb1) hq.2), by
      obtain ⟨_, _, _, hcc⟩ := hq.2
      exact ⟨(hcc.cell (cell_under hb1 hcd (by show w.heap.size < w.heap.size + 3; omega)) (hS0 _ (by show w.heap.size ≤ w.heap.size; omega))), (hcc.cell (cell_under hb1 hcn (by show w.heap.size + 1 < w.heap.size + 3; omega)) (hS0 _ (by show w.heap.size ≤ w.heap.size + 1; omega)))⟩⟩))
  have HK := Lib.hid (fun (w1 : World) (hb1 : Below (w.heap.size + 3) (((w.alloc (.cells #[.pointer (some ⟨d, 0, none⟩)] 23)).alloc (.cells #[encStr n] 9)).alloc (.cells #[encStr t] 9)) w1) => show w1.cell? ⟨w.heap.size, 0, none⟩ = some (.pointer (some ⟨d, 0, none⟩)) ∧ w1.cell? ⟨w.heap.size + 1, 0, none⟩ = some (encStr n) from ⟨cell_under hb1 hcd (by show w.heap.size < w.heap.size + 3; omega), cell_under hb1 hcn (by show w.heap.size + 1 < w.heap.size + 3; omega)⟩)
  have Hsz := Lib.hid (show (((w.alloc (.cells #[.pointer (some ⟨d, 0, none⟩)] 23)).alloc (.cells #[encStr n] 9)).alloc (.cells #[encStr t] 9)).drew.heap.size = w.heap.size + 3 from hsz)
  clear h hb hcd hcn hct hsz hS0 hL
  go_enter Tryz.func157, Tryz.ntmps157
  go_wp2
  go_region_held (fun w' => w'.cell? ⟨w.heap.size, 0, none⟩ = some (.pointer (some ⟨d, 0, none⟩)) ∧ w'.cell? ⟨w.heap.size + 1, 0, none⟩ = some (encStr n))
    (first | exact HK.out _ ((Below.refl _ _).drew) | exact HK.out _ hb1 | exact hk2)
    (first
      | (go_at_call 100; (with_reducible refine (HO.out _ Hsz.out).mono ?_); rintro e w1 ⟨rfl, hb0, hc1⟩; have hb1 := ((Below.refl (w.heap.size + 3) (((w.alloc (.cells #[.pointer (some ⟨d, 0, none⟩)] 23)).alloc (.cells #[encStr n] 9)).alloc (.cells #[encStr t] 9))).drew).trans hb0; have HC1 := Lib.hid (HC.out w1 hb1 hc1); clear hb0 hc1)
      | (go_at_call 81; (with_reducible refine HC1.out.mono ?_); rintro e w2 ⟨rfl, hq, hk2⟩; have Hq := Lib.hid hq; clear hq))
  all_goals go_wp2
  all_goals go_ret
  all_goals exact ⟨rfl, Hq.out⟩

theorem own_remove {w0 : World} {X : Nat → Prop} {w : World} {d : Nat} {M : DM} (h : Own w0 X w d M) (n : List UInt8) (hn : n.length ≤ 9223372036854775807) :
    Calls Tryz.prog 152 #[.pointer (some ⟨d, 0, none⟩), .string ⟨n.toArray⟩] w (OwnAct w0 X w d (removeM n M)) := by
  obtain ⟨S, hD, hS, hX, h0⟩ := h
  exact (remove_any hD n hn).mono fun e w' hq => ⟨hq.1, Own.step hS hX h0 hq.2⟩

theorem own_rename {w0 : World} {X : Nat → Prop} {w : World} {d : Nat} {M : DM} (h : Own w0 X w d M) (n t : List UInt8) (hn : n.length ≤ 9223372036854775807) (ht : t.length ≤ 9223372036854775807) (hL : M.fs.length < 1000000) :
    Calls Tryz.prog 157 #[.pointer (some ⟨d, 0, none⟩), .string ⟨n.toArray⟩, .string ⟨t.toArray⟩] w (OwnAct w0 X w d (renameM n t M)) := by
  obtain ⟨S, hD, hS, hX, h0⟩ := h
  exact (rename_any hD n t hn ht hL).mono fun e w' hq => ⟨hq.1, Own.step hS hX h0 hq.2⟩
end Go.Proofs.YtjoolocdejnohaaGreat

/- The walks of what a log's steps do: a change of its disk. -/
namespace Go.Proofs.YtjoolocdejnohaaGreat
open Go.RowKit Go.Maps Go.Shelf

theorem OwnEnd.behind {w0 : World} {X : Nat → Prop} {w w1 : World} {d : Nat} {M : DM} {w' : World} (hb : Below w.heap.size w w1) (h0 : w0.heap.size ≤ w.heap.size) (hX : ∀ b, X b → b < w.heap.size) (h : OwnEnd w0 X w1 d M w') : OwnEnd w0 X w d M w' := by
  obtain ⟨h1, h2, h3, h4⟩ := h
  exact ⟨h1, fun b hb' => (h2 b hb').trans (hb.block b (hX b hb')), (hb.mono h0).trans h3, Nat.le_trans hb.size h4⟩

theorem Own.blocks {w0 : World} {X : Nat → Prop} {w : World} {d : Nat} {M : DM} (h : Own w0 X w d M) : ∀ b, X b → b < w.heap.size := by obtain ⟨_, _, _, h, _⟩ := h; exact h

theorem nmB_len (N : Nat) : (nmB N).length ≤ 9223372036854775807 := by
  unfold nmB
  rw [List.length_map, nameL_len]
  decide

set_option maxRecDepth 100000 in
set_option maxHeartbeats 3200000 in
theorem do_append {w0 : World} {X : Nat → Prop} {w : World} {d : Nat} {M : DM} (h : Own w0 X w d M) (g N b1 b2 b3 : Nat) (p : Option Addr) (m c : Nat) (l : List Nat) (k1 : w.cell? ⟨b1, 0, none⟩ = some (.pointer (some ⟨g, 0, none⟩))) (k2 : w.cell? ⟨b2, 0, none⟩ = some (encStr (nmB N)))
    (k3 : w.cell? ⟨b3, 0, none⟩ = some (.slice p m c)) (g3 : w.cell? ⟨g, 3, none⟩ = some (.pointer (some ⟨d, 0, none⟩))) (hB : Bytes w p m c l) (hap : 0 < m → ∀ a, p = some a → X a.block ∨ a.block < w0.heap.size) (hlim : usedF M.fs + l.length ≤ 140737488355328) :
    Calls Tryz.prog 124 #[.pointer (some ⟨b1, 0, none⟩), .pointer (some ⟨b2, 0, none⟩), .pointer (some ⟨b3, 0, none⟩)] w (OwnAct w0 X w d (appendM (nmB N) l M)) := by
  have hbd : Below w.heap.size w w.drew := (Below.refl _ _).drew
  have hO := h.below hbd
  have HA := Lib.hid (own_append hO (nmB N) (nmB_len N) p m c l (hB.grow hbd) hap hlim)
  have Hend := Lib.hid (fun w' (hq : OwnEnd w0 X w.drew d (appendM (nmB N) l M).1 w') => OwnEnd.behind hbd h.base.size h.blocks hq)
  have k1 : w.drew.cell? ⟨b1, 0, none⟩ = some (.pointer (some ⟨g, 0, none⟩)) := k1
  have k2 : w.drew.cell? ⟨b2, 0, none⟩ = some (encStr (nmB N)) := k2
  have k3 : w.drew.cell? ⟨b3, 0, none⟩ = some (.slice p m c) := k3
  have g3 : w.drew.cell? ⟨g, 3, none⟩ = some (.pointer (some ⟨d, 0, none⟩)) := g3
  clear hB hap hlim h hO hbd
  go_enter Tryz.func124, Tryz.ntmps124
  go_wp2
  refine wp_region_still_tail 6 (by kernel_rfl) (by kernel_rfl) ?_
  simp only [List.take_succ_cons, List.take_zero, List.drop_succ_cons, List.drop_zero]
  change wpStill _ _ w.drew (fun a' => wpList _ _ _ _ a' w.drew) _ _
  generalize w.drew = w4 at *
  repeat still_step
  refine wpStill_nil ?_
  go_wp2_with fail
  refine HA.out.mono ?_
  rintro e w5 ⟨rfl, hq⟩
  have Hq := Lib.hid (Hend.out _ hq)
  clear hq
  go_wp2
  go_ret
  exact ⟨rfl, Hq.out⟩

set_option maxRecDepth 100000 in
set_option maxHeartbeats 3200000 in
theorem do_sync {w0 : World} {X : Nat → Prop} {w : World} {d : Nat} {M : DM} (h : Own w0 X w d M) (g N b1 b2 : Nat) (k1 : w.cell? ⟨b1, 0, none⟩ = some (.pointer (some ⟨g, 0, none⟩))) (k2 : w.cell? ⟨b2, 0, none⟩ = some (encStr (nmB N)))
    (g3 : w.cell? ⟨g, 3, none⟩ = some (.pointer (some ⟨d, 0, none⟩))) :
    Calls Tryz.prog 125 #[.pointer (some ⟨b1, 0, none⟩), .pointer (some ⟨b2, 0, none⟩)] w (OwnAct w0 X w d (syncM (nmB N) M)) := by
  have hbd : Below w.heap.size w w.drew := (Below.refl _ _).drew
  have hO := h.below hbd
  have HA := Lib.hid (own_sync hO (nmB N) (nmB_len N))
  have Hend := Lib.hid (fun w' (hq : OwnEnd w0 X w.drew d (syncM (nmB N) M).1 w') => OwnEnd.behind hbd h.base.size h.blocks hq)
  have k1 : w.drew.cell? ⟨b1, 0, none⟩ = some (.pointer (some ⟨g, 0, none⟩)) := k1
  have k2 : w.drew.cell? ⟨b2, 0, none⟩ = some (encStr (nmB N)) := k2
  have g3 : w.drew.cell? ⟨g, 3, none⟩ = some (.pointer (some ⟨d, 0, none⟩)) := g3
  clear h hO hbd
  go_enter Tryz.func125, Tryz.ntmps125
  go_wp2
  refine wp_region_still_tail 5 (by kernel_rfl) (by kernel_rfl) ?_
  simp only [List.take_succ_cons, List.take_zero, List.drop_succ_cons, List.drop_zero]
  change wpStill _ _ w.drew (fun a' => wpList _ _ _ _ a' w.drew) _ _
  generalize w.drew = w4 at *
  repeat still_step
  refine wpStill_nil ?_
  go_wp2_with fail
  refine HA.out.mono ?_
  rintro e w5 ⟨rfl, hq⟩
  have Hq := Lib.hid (Hend.out _ hq)
  clear hq
  go_wp2
  go_ret
  exact ⟨rfl, Hq.out⟩

set_option maxRecDepth 100000 in
set_option maxHeartbeats 3200000 in
theorem do_create {w0 : World} {X : Nat → Prop} {w : World} {d : Nat} {M : DM} (h : Own w0 X w d M) (g N b1 b2 : Nat) (k1 : w.cell? ⟨b1, 0, none⟩ = some (.pointer (some ⟨g, 0, none⟩))) (k2 : w.cell? ⟨b2, 0, none⟩ = some (encStr (nmB N)))
    (g3 : w.cell? ⟨g, 3, none⟩ = some (.pointer (some ⟨d, 0, none⟩))) (hL : M.fs.length < 1000000) :
    Calls Tryz.prog 160 #[.pointer (some ⟨b1, 0, none⟩), .pointer (some ⟨b2, 0, none⟩)] w (OwnAct w0 X w d (createM (nmB N) M)) := by
  have hbd : Below w.heap.size w w.drew := (Below.refl _ _).drew
  have hO := h.below hbd
  have HA := Lib.hid (own_create hO (nmB N) (nmB_len N) hL)
  have Hend := Lib.hid (fun w' (hq : OwnEnd w0 X w.drew d (createM (nmB N) M).1 w') => OwnEnd.behind hbd h.base.size h.blocks hq)
  have k1 : w.drew.cell? ⟨b1, 0, none⟩ = some (.pointer (some ⟨g, 0, none⟩)) := k1
  have k2 : w.drew.cell? ⟨b2, 0, none⟩ = some (encStr (nmB N)) := k2
  have g3 : w.drew.cell? ⟨g, 3, none⟩ = some (.pointer (some ⟨d, 0, none⟩)) := g3
  clear h hO hbd
  go_enter Tryz.func160, Tryz.ntmps160
  go_wp2
  refine wp_region_still_tail 5 (by kernel_rfl) (by kernel_rfl) ?_
  simp only [List.take_succ_cons, List.take_zero, List.drop_succ_cons, List.drop_zero]
  change wpStill _ _ w.drew (fun a' => wpList _ _ _ _ a' w.drew) _ _
  generalize w.drew = w4 at *
  repeat still_step
  refine wpStill_nil ?_
  go_wp2_with fail
  refine HA.out.mono ?_
  rintro e w5 ⟨rfl, hq⟩
  have Hq := Lib.hid (Hend.out _ hq)
  clear hq
  go_wp2
  go_ret
  exact ⟨rfl, Hq.out⟩
end Go.Proofs.YtjoolocdejnohaaGreat

/- A log in memory on a disk of the call's own; what a step leaves of it. -/
namespace Go.Proofs.YtjoolocdejnohaaGreat
open Go.RowKit Go.Maps Go.Shelf

theorem Own.cellset {w0 : World} {X : Nat → Prop} {w : World} {d : Nat} {M : DM} (h : Own w0 X w d M) {B : Nat} (hB : X B) (h0 : w0.heap.size ≤ B) (i : Nat) (v : Value) : Own w0 X (w.setCell ⟨B, i, none⟩ v) d M := by
  obtain ⟨S, hD, hS, hX, hb⟩ := h
  exact ⟨S, hD.aside (Chg.set (fun b => b = B) w rfl v) (fun b hs e => (hS b hs).2 (by rw [e]; exact hB)), hS, fun b hx => by simp; exact hX b hx, hb.setCell h0 v⟩

theorem Own.sub {w0 : World} {X Y : Nat → Prop} {w : World} {d : Nat} {M : DM} (h : Own w0 X w d M) (hY : ∀ b, Y b → X b) : Own w0 Y w d M := h.more (Below.refl _ _) fun b hb => .inl (hY b hb)

/-- The log at block g on the disk d is W; no block of Y is the disk's. -/
structure LogAt (w0 : World) (Y : Nat → Prop) (w : World) (g d : Nat) (W : WM) : Prop where
  own : Own w0 Y w d W.D
  inY : Y g
  new : w0.heap.size ≤ g
  cells : w.heap[g]? = some (.cells (logC W d) 129 (0, 0))

/-- What a call leaves of a log. -/
def LogEnd (w0 : World) (Y : Nat → Prop) (w : World) (g d : Nat) (W' : WM) (w' : World) : Prop :=
  LogAt w0 Y w' g d W' ∧ (∀ b, Y b → b ≠ g → w'.heap[b]? = w.heap[b]?) ∧ Below w0.heap.size w w' ∧ w.heap.size ≤ w'.heap.size

section
variable {w0 : World} {Y : Nat → Prop} {w : World} {g d : Nat} {W : WM}

theorem LogAt.lt (h : LogAt w0 Y w g d W) : g < w.heap.size := (Array.getElem?_eq_some_iff.1 h.cells).1

/-- Behind new memory, which is kept aside. -/
theorem LogAt.all (h : LogAt w0 Y w g d W) {w1 : World} (hb : Below w.heap.size w w1) : LogAt w0 (fun b => Y b ∨ (w.heap.size ≤ b ∧ b < w1.heap.size)) w1 g d W :=
  ⟨h.own.more hb fun _ hb => hb, .inl h.inY, h.new, (hb.block _ h.lt).trans h.cells⟩

theorem LogAt.below (h : LogAt w0 Y w g d W) {w1 : World} (hb : Below w.heap.size w w1) : LogAt w0 Y w1 g d W :=
  ⟨h.own.below hb, h.inY, h.new, (hb.block _ h.lt).trans h.cells⟩

theorem LogAt.refl (h : LogAt w0 Y w g d W) : LogEnd w0 Y w g d W w := ⟨h, fun _ _ _ => rfl, Below.refl _ _, Nat.le_refl _⟩

theorem LogAt.ended (h : LogAt w0 Y w g d W) {w1 : World} (hb : Below w.heap.size w w1) : LogEnd w0 Y w g d W w1 :=
  ⟨h.below hb, fun b hy _ => hb.block b (h.own.blocks b hy), hb.mono h.own.base.size, hb.size⟩

theorem LogEnd.behind (h : LogAt w0 Y w g d W) {Y1 : Nat → Prop} {w1 w2 : World} {W2 : WM} (hb : Below w.heap.size w w1) (hY : ∀ b, Y b → Y1 b) (he : LogEnd w0 Y1 w1 g d W2 w2) : LogEnd w0 Y w g d W2 w2 := by
  obtain ⟨h1, h2, h3, h4⟩ := he
  exact ⟨⟨h1.own.sub hY, h.inY, h1.new, h1.cells⟩, fun b hy hne => (h2 b (hY b hy) hne).trans (hb.block b (h.own.blocks b hy)), (hb.mono h.own.base.size).trans h3, Nat.le_trans hb.size h4⟩

theorem LogEnd.trans {w1 w2 : World} {W1 W2 : WM} (h1 : LogEnd w0 Y w g d W1 w1) (h2 : LogEnd w0 Y w1 g d W2 w2) : LogEnd w0 Y w g d W2 w2 :=
  ⟨h2.1, fun b hy hne => (h2.2.1 b hy hne).trans (h1.2.1 b hy hne), h1.2.2.1.trans h2.2.2.1, Nat.le_trans h1.2.2.2 h2.2.2.2⟩

theorem step_log (h : LogAt w0 Y w g d W) (x : StepD) (r : DM × Int) (W1 : WM) (hD : W1.D = r.1) (hxn : x.n = (W1.n : Int)) (hxs : x.s = (W1.size : Int)) (hxz : x.z = (W1.wait : Int)) (hm : W1.most = W.most)
    (hdo : ∀ (Z : Nat → Prop) w', (∀ b, Y b → Z b) → Own w0 Z w' d W.D → (∀ b, Y b → w'.heap[b]? = w.heap[b]?) → Calls Tryz.prog x.k x.caps w' (OwnAct w0 Z w' d r)) (Q : Ending → World → Prop) (J : World → Prop)
    (hQ : ∀ w', LogEnd w0 Y w g d { W with D := r.1 } w' → r.2 ≠ 0 → Q (.returned (.int .i64 r.2)) w') (hJ : ∀ w', LogEnd w0 Y w g d W1 w' → r.2 = 0 → J w') :
    Calls Tryz.prog x.k x.caps (w.alloc (.cells x.cells 135)) (TakeStep g w.heap.size x Q J) := by
  have hb : Below w.heap.size w (w.alloc (.cells x.cells 135)) := (Below.refl _ _).alloc (Nat.le_refl _) _
  have hA := h.all hb
  have hYs : ∀ b, Y b → b < w.heap.size := h.own.blocks
  refine (hdo _ _ (fun b hy => .inl hy) hA.own (fun b hy => hb.block b (hYs b hy))).mono ?_
  rintro e w2 ⟨rfl, ho, hk, hbb, hsz⟩
  have hkY : ∀ b, Y b → w2.heap[b]? = w.heap[b]? := fun b hy => (hk b (.inl hy)).trans (hb.block b (hYs b hy))
  have hg2 : w2.heap[g]? = some (.cells (logC W d) 129 (0, 0)) := (hkY g h.inY).trans h.cells
  have hbw : Below w0.heap.size w w2 := (hb.mono h.own.base.size).trans hbb
  refine ⟨r.2, rfl, fun hc => ?_, fun hc => ⟨?_, ⟨_, hg2, rfl⟩, ?_⟩⟩
  · exact hQ _ ⟨⟨ho.sub fun b hy => .inl hy, h.inY, h.new, hg2⟩, fun b hy _ => hkY b hy, hbw, Nat.le_trans hb.size hsz⟩ hc
  · exact (hk _ (.inr ⟨Nat.le_refl _, by simp⟩)).trans (heap_alloc_new _ _)
  · have hoY : Own w0 Y w2 d r.1 := ho.sub fun b hy => .inl hy
    have h1 := set_head (i := 0) hg2 (.int .i64 x.n)
    have h2 := set_head (i := 1) h1 (.int .i64 x.s)
    have h3 := set_head (i := 2) h2 (.int .i64 x.z)
    refine hJ _ ⟨⟨?_, h.inY, h.new, ?_⟩, fun b hy hne => ?_, ?_, ?_⟩ hc
    · rw [hD]
      exact ((hoY.cellset h.inY h.new 0 _).cellset h.inY h.new 1 _).cellset h.inY h.new 2 _
    · rw [h3, hxn, hxs, hxz]
      unfold logC
      rw [hm]
      rfl
    · repeat rw [Below.heap_setCell _ _ _ _ hne]
      exact hkY b hy
    · exact ((hbw.setCell h.new _).setCell h.new _).setCell h.new _
    · simp only [World.size_setCell]
      exact Nat.le_trans hb.size hsz

theorem step_row {x : StepD} {sb : Nat} {L : List StepD} {w' : World} {t : TypeId} (hrow : w'.heap[sb]? = some (.cells (L.flatMap fun x => x.cells.toList).toArray t (0, 0))) (j : Nat) (hj : L[j]? = some x) :
    w'.cell? ⟨sb, j * 4, none⟩ = some (.func (.func x.k) #[] x.caps) ∧ w'.cell? ⟨sb, j * 4 + 1, none⟩ = some (.int .i64 x.n) ∧ w'.cell? ⟨sb, j * 4 + 2, none⟩ = some (.int .i64 x.s) ∧ w'.cell? ⟨sb, j * 4 + 3, none⟩ = some (.int .i64 x.z) := by
  have key : ∀ (L : List StepD) (j : Nat), L[j]? = some x → ∀ i, i < 4 → (L.flatMap fun x => x.cells.toList)[j * 4 + i]? = x.cells.toList[i]? := by
    intro L
    induction L with
    | nil => intro j h; simp at h
    | cons y L ih =>
      intro j h i hi
      rw [List.flatMap_cons]
      have hl : y.cells.toList.length = 4 := rfl
      cases j with
      | zero =>
        have e : y = x := by simpa using h
        subst e
        rw [Nat.zero_mul, Nat.zero_add, List.getElem?_append_left (by omega)]
      | succ j =>
        rw [List.getElem?_append_right (by omega), hl, show (j + 1) * 4 + i - 4 = j * 4 + i by omega]
        exact ih j (by simpa using h) i hi
  have hc : ∀ i, i < 4 → w'.cell? ⟨sb, j * 4 + i, none⟩ = x.cells.toList[i]? := fun i hi => by
    rw [cell_of_row _ _ _ _ _ (0, 0) hrow, List.getElem?_toArray]
    exact key L j hj i hi
  exact ⟨hc 0 (by omega), hc 1 (by omega), hc 2 (by omega), hc 3 (by omega)⟩

/-- One step. -/
theorem take1_any (h : LogAt w0 Y w g d W) (sb cap : Nat) (x : StepD) (hent : ∀ args w, (callFunc x.k args).run Tryz.prog w = .ok (.enter x.k args) w) (r : DM × Int) (W1 : WM) (hD : W1.D = r.1) (hxn : x.n = (W1.n : Int)) (hxs : x.s = (W1.size : Int)) (hxz : x.z = (W1.wait : Int)) (hm : W1.most = W.most)
    (hrow : w.heap[sb]? = some (.cells ([x].flatMap fun x => x.cells.toList).toArray 135 (0, 0)))
    (hdo : ∀ (Z : Nat → Prop) w', (∀ b, Y b → Z b) → Own w0 Z w' d W.D → (∀ b, Y b → w'.heap[b]? = w.heap[b]?) → Calls Tryz.prog x.k x.caps w' (OwnAct w0 Z w' d r)) :
    Calls Tryz.prog 78 #[.pointer (some ⟨g, 0, none⟩), .slice (some ⟨sb, 0, none⟩) 1 cap] w fun e w' => e = .returned (.int .i64 r.2) ∧ LogEnd w0 Y w g d (if r.2 = 0 then W1 else { W with D := r.1 }) w' := by
  refine take_any g sb 1 cap [x] rfl (by omega) (fun j w' => (j = 0 ∧ w' = w) ∨ (j = 1 ∧ LogEnd w0 Y w g d W1 w' ∧ r.2 = 0)) _ w (fun j hj args w => ?_) (.inl ⟨rfl, rfl⟩) (fun j hj w' hJ => ?_) (fun j hj w' hJ => ?_) (fun w' hJ => ?_)
  · obtain rfl : j = 0 := by simp at hj; exact hj
    exact hent args w
  · obtain rfl : j = 0 := by simp at hj; exact hj
    rcases hJ with ⟨_, rfl⟩ | ⟨h1, _⟩
    · exact step_row hrow 0 rfl
    · omega
  · obtain rfl : j = 0 := by simp at hj; exact hj
    rcases hJ with ⟨_, rfl⟩ | ⟨h1, _⟩
    · refine step_log h x r W1 hD hxn hxs hxz hm hdo _ _ (fun w' hq hr => ⟨rfl, by rw [if_neg hr]; exact hq⟩) (fun w' hq hr => .inr ⟨rfl, hq, hr⟩)
    · omega
  · rcases hJ with ⟨h1, _⟩ | ⟨_, hq, hr⟩
    · omega
    · exact ⟨by rw [hr], by rw [if_pos hr]; exact hq⟩

/-- Two steps. -/
theorem take2_any (h : LogAt w0 Y w g d W) (sb cap : Nat) (hsb : Y sb) (hne : sb ≠ g) (x y : StepD) (hent : ∀ args w, (callFunc x.k args).run Tryz.prog w = .ok (.enter x.k args) w) (hent2 : ∀ args w, (callFunc y.k args).run Tryz.prog w = .ok (.enter y.k args) w)
    (r s : DM × Int) (W1 W2 : WM) (hD : W1.D = r.1) (hxn : x.n = (W1.n : Int)) (hxs : x.s = (W1.size : Int)) (hxz : x.z = (W1.wait : Int)) (hm : W1.most = W.most)
    (hD2 : W2.D = s.1) (hyn : y.n = (W2.n : Int)) (hys : y.s = (W2.size : Int)) (hyz : y.z = (W2.wait : Int)) (hm2 : W2.most = W1.most)
    (hrow : w.heap[sb]? = some (.cells ([x, y].flatMap fun x => x.cells.toList).toArray 135 (0, 0)))
    (hdo : ∀ (Z : Nat → Prop) w', (∀ b, Y b → Z b) → Own w0 Z w' d W.D → (∀ b, Y b → w'.heap[b]? = w.heap[b]?) → Calls Tryz.prog x.k x.caps w' (OwnAct w0 Z w' d r))
    (hdo2 : ∀ (Z : Nat → Prop) w1 w', (∀ b, Y b → Z b) → LogEnd w0 Y w g d W1 w1 → Own w0 Z w' d W1.D → (∀ b, Y b → w'.heap[b]? = w1.heap[b]?) → Calls Tryz.prog y.k y.caps w' (OwnAct w0 Z w' d s)) :
    Calls Tryz.prog 78 #[.pointer (some ⟨g, 0, none⟩), .slice (some ⟨sb, 0, none⟩) 2 cap] w fun e w' => e = .returned (.int .i64 (if r.2 = 0 then s.2 else r.2)) ∧ LogEnd w0 Y w g d (if r.2 = 0 then (if s.2 = 0 then W2 else { W1 with D := s.1 }) else { W with D := r.1 }) w' := by
  refine take_any g sb 2 cap [x, y] rfl (by omega) (fun j w' => (j = 0 ∧ w' = w) ∨ (j = 1 ∧ LogEnd w0 Y w g d W1 w' ∧ r.2 = 0) ∨ (j = 2 ∧ LogEnd w0 Y w g d W2 w' ∧ r.2 = 0 ∧ s.2 = 0)) _ w (fun j hj args w => ?_) (.inl ⟨rfl, rfl⟩) (fun j hj w' hJ => ?_) (fun j hj w' hJ => ?_) (fun w' hJ => ?_)
  · rcases (show j = 0 ∨ j = 1 by simp at hj; omega) with rfl | rfl
    · exact hent args w
    · exact hent2 args w
  · rcases (show j = 0 ∨ j = 1 by simp at hj; omega) with rfl | rfl
    · rcases hJ with ⟨_, rfl⟩ | ⟨h1, _⟩ | ⟨h1, _⟩
      · exact step_row hrow 0 rfl
      · omega
      · omega
    · rcases hJ with ⟨h1, _⟩ | ⟨_, hq, _⟩ | ⟨h1, _⟩
      · omega
      · exact step_row (L := [x, y]) ((hq.2.1 sb hsb hne).trans hrow) 1 rfl
      · omega
  · rcases (show j = 0 ∨ j = 1 by simp at hj; omega) with rfl | rfl
    · rcases hJ with ⟨_, rfl⟩ | ⟨h1, _⟩ | ⟨h1, _⟩
      · exact step_log h x r W1 hD hxn hxs hxz hm hdo _ _ (fun w' hq hr => ⟨by rw [if_neg hr], by rw [if_neg hr]; exact hq⟩) (fun w' hq hr => .inr (.inl ⟨rfl, hq, hr⟩))
      · omega
      · omega
    · rcases hJ with ⟨h1, _⟩ | ⟨_, hq, hr⟩ | ⟨h1, _⟩
      · omega
      · exact step_log hq.1 y s W2 hD2 hyn hys hyz hm2 (fun Z w'' hZ ho hk => hdo2 Z w' w'' hZ hq ho hk) _ _ (fun w'' hq2 hs => ⟨by rw [if_pos hr], by rw [if_pos hr, if_neg hs]; exact hq.trans hq2⟩)
          (fun w'' hq2 hs => .inr (.inr ⟨rfl, hq.trans hq2, hr, hs⟩))
      · omega
  · rcases hJ with ⟨h1, _⟩ | ⟨h1, _⟩ | ⟨_, hq, hr, hs⟩
    · omega
    · omega
    · exact ⟨by rw [if_pos hr, hs], by rw [if_pos hr, if_pos hs]; exact hq⟩
end
end Go.Proofs.YtjoolocdejnohaaGreat

