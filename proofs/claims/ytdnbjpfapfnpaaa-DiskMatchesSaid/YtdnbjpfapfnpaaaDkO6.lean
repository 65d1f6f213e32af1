/- The walks of a disk's Remove and Rename. -/
import Derived.Test.YtdnbjpfapfnpaaaDkOwn
namespace Go.Proofs.Ytdnbjpfapfnpaaa
open Go.RowKit Go.Maps Go.Shelf

set_option maxRecDepth 100000 in
set_option maxHeartbeats 3200000 in
theorem remove1_any {S : Nat → Prop} {w : World} {d mb : Nat} {p : Int} {L : List FW} {M : DM} (h : DiskAt S w d mb p L M) (n : List UInt8) (hn : n.length ≤ 9223372036854775807) (v0 : Value) (bd bn : Nat)
    (hbd : w.cell? ⟨bd, 0, none⟩ = some (.pointer (some ⟨d, 0, none⟩))) (hbn : w.cell? ⟨bn, 0, none⟩ = some (encStr n)) :
    Calls Try.prog 38 #[v0, .pointer (some ⟨bd, 0, none⟩), .pointer (some ⟨bn, 0, none⟩)] w (ActEnd S w d ({ M with fs := delN F.n n M.fs }, 0)) := by
  obtain ⟨_, c1, _, _, _⟩ := h.cells
  have hd1 := h.drew
  obtain ⟨w2, hrun, hown, hturn⟩ := hd1.dir.drop mapKey Try.underlying47 (keyN n hn) 0
  rw [dirD_del] at hown
  have hc : Chg (fun b => b = mb) w.drew w2 := Chg.grown hturn.grown (fun k hk => by cases hk; exact .inl rfl)
  have hE := hd1.out n hown hc
  have hSm : S mb := h.sub mb (by simp)
  have HE := Lib.hid (show Step S w d { M with fs := delN F.n n M.fs } w2 from Step.same ⟨mb, p, _, hE⟩ ((Chg.drew S w).same ⟨hc.os, hc.tape, hc.output, hc.size, fun b hb hns => hc.block b hb (fun e => hns (e ▸ hSm))⟩))
  clear h hd1 hown hturn hc hE hSm
  go_enter Try.func38, Try.ntmps38
  go_wp2
  go_region
  go_wp2
  go_ret
  exact ⟨rfl, HE.out⟩

theorem delN_sub {A B : List FW} {x : FW} {n : List UInt8} (hn : x.n = n) : (delN FW.n n (A ++ x :: B)).Sublist (A ++ B) := by
  unfold delN
  rw [List.filter_append, List.filter_cons, if_neg (by rw [hn]; simp)]
  exact List.Sublist.append (List.filter_sublist ..) (List.filter_sublist ..)

set_option maxRecDepth 100000 in
set_option maxHeartbeats 6400000 in
theorem rename1_any {S : Nat → Prop} {w : World} {d mb : Nat} {p : Int} {L : List FW} {M : DM} (h : DiskAt S w d mb p L M) (n t : List UInt8) (hn : n.length ≤ 9223372036854775807) (ht : t.length ≤ 9223372036854775807) (hL : M.fs.length < 1000000)
    {x : FW} (hx : findN FW.n n L = some x) (bt bd bn : Nat) (hbt : w.cell? ⟨bt, 0, none⟩ = some (encStr t)) (hbd : w.cell? ⟨bd, 0, none⟩ = some (.pointer (some ⟨d, 0, none⟩))) (hbn : w.cell? ⟨bn, 0, none⟩ = some (encStr n))
    (hSt : ¬ S bt) (hSd : ¬ S bd) :
    Calls Try.prog 36 #[.pointer (some ⟨x.blk, 0, none⟩), .pointer (some ⟨bt, 0, none⟩), .pointer (some ⟨bd, 0, none⟩), .pointer (some ⟨bn, 0, none⟩)] w
      (ActEnd S w d (if named t = true then ({ M with fs := putN F.n ⟨t, x.f.b, x.f.d⟩ (delN F.n n M.fs) }, 0) else (M, 6))) := by
  have HP := Lib.hid (possible_any t w)
  cases hnt : named t with
  | false =>
    rw [if_neg (by decide)]
    have Hnt := Lib.hid hnt
    have H := Lib.hid h
    rw [hnt] at HP
    clear h hnt hx hL
    go_enter Try.func36, Try.ntmps36
    go_wp2_with fail
    refine HP.out.mono ?_
    rintro e w' ⟨rfl, rfl⟩
    go_wp2
    go_ret
    exact ⟨rfl, Step.same ⟨mb, p, L, H.out⟩ (Chg.refl _ _)⟩
  | true =>
    rw [if_pos rfl]
    rw [hnt] at HP
    obtain ⟨_, c1, _, _, _⟩ := h.cells
    obtain ⟨hxL, hxn⟩ := setN_name hx
    have hd1 := h.drew
    obtain ⟨w2, hrun, hown, hturn⟩ := hd1.dir.drop mapKey Try.underlying47 (keyN n hn) 0
    rw [dirD_del] at hown
    have hc : Chg (fun b => b = mb) w.drew w2 := Chg.grown hturn.grown (fun k hk => by cases hk; exact .inl rfl)
    have h1 := (hd1.out n hown hc).drew
    have hlen : L.length = M.fs.length := by have := congrArg List.length h.files; rw [List.length_map] at this; exact this.symm
    have hdl : (delN FW.n n L).length ≤ L.length := List.length_filter_le ..
    obtain ⟨w3, hrun3, hown3, hg3⟩ := h1.dir.update mapKey Try.underlying47 (by rw [maxLen_nat]; omega) (keyN t ht) (val := .pointer (some ⟨x.blk, 0, none⟩)) (d := .lit (.int .i64 (x.blk : Int))) (ps := []) rfl
    rw [show (dirD (delN FW.n n L)).put (.string t) (.lit (.int .i64 (x.blk : Int))) = dirD (putN FW.n ⟨⟨t, x.f.b, x.f.d⟩, x.blk, x.v⟩ (delN FW.n n L)) from dirD_put ⟨⟨t, x.f.b, x.f.d⟩, x.blk, x.v⟩ _] at hown3
    have hc3 : Chg (fun b => b = mb) w2.drew w3 := Chg.grown hg3 (fun k hk => by cases hk; exact .inl rfl)
    have hc13 : Chg (fun b => b = mb) w w3 := (((Chg.drew _ w).same hc).same (Chg.drew _ w2)).same hc3
    obtain ⟨A, B, hAB⟩ := List.append_of_mem hxL
    have hap := h.apart
    rw [hAB] at hap
    obtain ⟨n1, n2, n3⟩ := List.nodup_append.1 ((apart_mid d mb A B x).nodup_iff.1 hap)
    have hSfp : ∀ b ∈ fpOne x, S b := fun b hb => h.sub b (by simp [mem_fpOf hxL hb])
    have hmbx : ∀ b ∈ fpOne x, b ≠ mb := fun b hb e => n3 b hb mb (by simp) e
    have hok3 : FileOk w3 ⟨⟨t, x.f.b, x.f.d⟩, x.blk, x.v⟩ := by
      have h2 := (h.ok x hxL).keep (w' := w3) (fun b hb => hc13.block b (h.bound b (hSfp b hb)) (hmbx b hb))
      exact ⟨h2.blk, h2.row, h2.byte, h2.dur⟩
    have hE := h1.put (S' := S) ⟨⟨t, x.f.b, x.f.d⟩, x.blk, x.v⟩ hown3 hc3 hok3 (fun b hb hb2 => by
        have hsub : (delN FW.n t (delN FW.n n L)).Sublist (A ++ B) := (List.filter_sublist ..).trans (by rw [hAB]; exact delN_sub hxn)
        exact n3 b hb b ((((fpOf_sub hsub).cons_cons mb).cons_cons d).subset hb2) rfl) n1 hSfp (fun b h => h) (fun b hb => Nat.lt_of_lt_of_le (h.bound b hb) hc13.size) (by
        have u1 := usedF_del t (delN F.n n M.fs)
        have u2 : usedF (delN F.n n M.fs) + x.f.b.length ≤ usedF M.fs := usedF_del_find (x := x.f) (by rw [h.files, findN_map FW.n F.n FW.f (fun _ => rfl), hx]; rfl)
        have := h.used
        show x.f.b.length + usedF (delN F.n t (delN F.n n M.fs)) ≤ M.room
        omega)
    have hSm : S mb := h.sub mb (by simp)
    have HE := Lib.hid (show Step S w d { M with fs := putN F.n ⟨t, x.f.b, x.f.d⟩ (delN F.n n M.fs) } w3 from Step.same ⟨mb, p, _, hE⟩ ⟨hc13.os, hc13.tape, hc13.output, hc13.size, fun b hb hns => hc13.block b hb (fun e => hns (e ▸ hSm))⟩)
    have k1 := hc.cell (w := w.drew) hbd (fun e => hSd (by rw [show bd = mb from e]; exact hSm))
    have k2 := hc.cell (w := w.drew) hbt (fun e => hSt (by rw [show bt = mb from e]; exact hSm))
    obtain ⟨_, k3, _, _, _⟩ := (hd1.out n hown hc).cells
    clear h hd1 hown hturn hc h1 hown3 hg3 hc3 hc13 hAB hap n1 n2 n3 hSfp hmbx hok3 hE hSm hxL hx hL hlen hdl hSt hSd hnt
    go_enter Try.func36, Try.ntmps36
    go_wp2_with fail
    refine HP.out.mono ?_
    rintro e w' ⟨rfl, rfl⟩
    go_wp2
    go_region
    go_wp2
    go_region
    go_wp2
    go_ret
    exact ⟨rfl, HE.out⟩
end Go.Proofs.Ytdnbjpfapfnpaaa
