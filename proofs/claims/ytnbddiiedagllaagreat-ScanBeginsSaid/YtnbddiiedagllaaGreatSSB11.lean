import Derived.Test.YtnbddiiedagllaaGreatSSB10
import Derived.Deep.RegionHeld3
/- The walk of the reference's Do: a file with another name. -/
namespace Go.Proofs.YtnbddiiedagllaaGreat
open Go.RowKit Go.Maps Go.Shelf

set_option maxRecDepth 100000 in
set_option maxHeartbeats 6400000 in
theorem rdo_rename {X : Nat → Prop} {w : World} {v : Value} {M : DM} (h : RefAt X w v M) (hX : ∀ b, X b → b < w.heap.size) (hA : Alive M) (nm to : List UInt8) (p : Option Addr) (l c2 : Nat) (hnml : nm.length ≤ 9223372036854775807) (hnm : named nm = true) (f : F) (hno : findN F.n nm M.fs = some f) (htol : to.length ≤ 9223372036854775807) (hto : named to = true) :
  Calls Tryz.prog 74 #[v, opV 4 nm to p l c2] w (DoEnd X w ({ failM M with fs := putN F.n ⟨to, f.b, f.d⟩ (delN F.n nm M.fs) }, 0)) := by
 obtain ⟨a, n, c, R, q, rfl, hR, hfs, hn, hwr, hmx, hq, hp1, hfd, HF0⟩ := do_start h hX hA 4 nm to p l c2
 obtain ⟨x, hxR, hxf⟩ : ∃ x, findN FR.n nm R = some x ∧ x.f = f := by
  rw [hno] at hfd
  cases hx : findN FR.n nm R with
  | none => rw [hx] at hfd; cases hfd
  | some x => rw [hx] at hfd; exact ⟨x, rfl, (Option.some.inj hfd).symm⟩
 obtain ⟨hxm, hxn⟩ := findN_some hxR
 have HF := Lib.hid HF0
 have HN := Lib.hid (show ∀ w, Calls Tryz.prog 117 #[.string ⟨nm.toArray⟩] w fun e w' => e = .returned (.bool true) ∧ w' = w from fun w => by rw [← hnm]; exact rnamed_any nm w hnml)
 have HT := Lib.hid (show ∀ w, Calls Tryz.prog 117 #[.string ⟨to.toArray⟩] w fun e w' => e = .returned (.bool true) ∧ w' = w from fun w => by rw [← hto]; exact rnamed_any to w htol)
 have HP := Lib.hid (show ∀ W, Below w.heap.size w W → Calls Tryz.prog 119 #[.slice a n c, .string ⟨nm.toArray⟩] W fun e w' => ∃ v, e = .returned v ∧ w'.ownsRow W.heap.size 97 3 v (delN FR.n nm R).length (flatF (delN FR.n nm R)) ∧ Below W.heap.size W w' from fun W hW =>
  rwithout_any (hR.below hX hW) (fun b hb => Nat.lt_of_lt_of_le (hX b hb) hW.size) hn nm)
 have HFi := Lib.hid (show ∀ W, Below w.heap.size w W → ∀ y ∈ delN FR.n nm R, FileB X W y from fun W hW y hy => (hR.below hX hW).files y (List.mem_filter.1 hy).1)
 have Hhx := Lib.hid (show ∀ W, Below w.heap.size w W → FileB X W ⟨⟨to, x.f.b, x.f.d⟩, x.pa, x.k⟩ from fun W hW => by
  have h1 := (hR.below hX hW).files x hxm
  exact ⟨h1.bytes, h1.form, h1.blk, h1.dur, htol⟩)
 have Hdl := Lib.hid (show (delN FR.n nm R).length ≤ 1000000 from by unfold delN; exact Nat.le_trans (List.length_filter_le ..) (by rw [hR.len]; exact hn))
 have HE := Lib.hid (show ∀ (Y : Nat → Prop) (w4 w5 : World) a4 n4 c4, RowF Y w4 a4 n4 c4 (putN FR.n ⟨⟨to, x.f.b, x.f.d⟩, x.pa, x.k⟩ (delN FR.n nm R)) → (∀ b, Y b → (X b ∨ w.heap.size ≤ b) ∧ b < w4.heap.size) → (∀ b, Y b → w5.heap[b]? = w4.heap[b]?) → w4.heap.size ≤ w5.heap.size → Below w.heap.size w w5 →
   DoEnd X w ({ failM M with fs := putN F.n ⟨to, f.b, f.d⟩ (delN F.n nm M.fs) }, 0) (.returned (.tuple #[refV (M.room : Int) a4 n4 c4 q false, .int .i64 0])) w5 from fun Y w4 w5 a4 n4 c4 h1 h2 h3 h4 h5 => do_close h1 h2 h3 h4 h5 (by rw [putN_map FR.n F.n FR.f (fun _ => rfl), delN_map FR.n F.n FR.f (fun _ => rfl), hfs, ← hxf]) (by rw [hA.eq]) (by rw [hA.eq, hq]) (by rw [hA.eq]; exact hA.down))
 have HX := Lib.hid hX
 have HR := Lib.hid (show ∀ W, Below w.heap.size w W → RowF X W a n c R from fun W hW => hR.below hX hW)
 have Hlen := Lib.hid hR.len
 have Hxm := Lib.hid hxm
 have Hxn := Lib.hid (show x.f.n = nm from hxn)
 have HxR := Lib.hid hxR
 have Hb := Lib.hid (doW_below w (M.room : Int) a n c q 4 nm to p l c2)
 have HC := Lib.hid (doW_cells w (M.room : Int) a n c q 4 nm to p l c2)
 clear hR hfs hX HF0 hq hA h hxm hxn hxR hfd hno hxf
 unfold refV at HE HF
 unfold refV opV
 generalize (M.plan : Int) = pl at *
 generalize (M.room : Int) = ro at *
 go_enter Tryz.func74, Tryz.ntmps74
 go_wp2_with fail
 change Calls _ _ _ (doW w ro a n c q 4 nm to p l c2) _
 refine HF.out.mono ?_
 rintro e w2 ⟨hb2, h2⟩
 have HC2 := Lib.hid (HC.out.below hb2)
 have hcs := HC2.out.all
 have Hb2 := Lib.hid (Hb.out.trans (hb2.mono Hb.out.size))
 obtain ⟨i, hi, rfl, hxi⟩ : ∃ (i : Nat) (hi : i < R.length), e = .returned (.int .i64 (i : Int)) ∧ R[i] = x := by
  rcases h2 with ⟨i, hi, e, h⟩ | ⟨_, h⟩
  ·exact ⟨i, hi, e, Option.some.inj (h.symm.trans HxR.out)⟩
  ·rw [HxR.out] at h; cases h
 have hin : (i : Int) < (n : Int) := by have := Hlen.out; omega
 have hz1 : ¬ (i : Int) < 0 := by omega
 obtain ⟨bb, oo, rfl, _, _⟩ := (HR.out _ Hb2.out).cell (by have := Hlen.out; omega)
 obtain ⟨k0, k1, k2⟩ := (HR.out _ Hb2.out).at i hi
 rw [hxi] at k0 k1 k2
 change w2.cell? ⟨bb, oo + i * 3, none⟩ = some (.string ⟨x.f.n.toArray⟩) at k0
 obtain ⟨⟨d0, d1, d2, d3⟩, ⟨o0, o1, o2, o3⟩, fd, fz, ⟨z0, z1, z2, z3⟩⟩ := hcs
 clear hb2 h2 hxi hi
 go_wp2_with fail
 refine (HN.out _).mono ?_
 rintro e w8 ⟨rfl, rfl⟩
 go_wp2_with fail
 refine (HT.out _).mono ?_
 rintro e w3 ⟨rfl, rfl⟩
 have Hb3 := Lib.hid (show ∀ o, Below w.heap.size w (w3.alloc o) from fun o => Hb2.out.alloc Hb2.out.size o)
 have HC3 := Lib.hid (show ∀ o, DoCells (w3.alloc o) w.heap.size ro (some ⟨bb, oo, none⟩) n c q 4 nm to p l c2 from fun o => HC2.out.below ((Below.refl _ _).alloc (Nat.le_refl _) o))
 have e0 := fun o => (HC3.out o).all.1.1
 have e1 := fun o => (HC3.out o).all.1.2.1
 have e2 := fun o => (HC3.out o).all.1.2.2.1
 have e3 := fun o => (HC3.out o).all.1.2.2.2
 have p0 := fun o => (HC3.out o).all.2.1.1
 have p1 := fun o => (HC3.out o).all.2.1.2.1
 have p2 := fun o => (HC3.out o).all.2.1.2.2.1
 have p3 := fun o => (HC3.out o).all.2.1.2.2.2
 have ge := fun o => (HC3.out o).all.2.2.1
 go_wp2_with fail
 refine (HP.out _ (Hb3.out _)).mono ?_
 rintro e w4 ⟨v4, rfl, hown, hb4⟩
 have Hb4 := Lib.hid ((Hb3.out _).trans (hb4.mono (Hb3.out _).size))
 have Hz := Lib.hid (show w.heap.size + 1 + 1 < w3.heap.size from (Array.getElem?_eq_some_iff.1 HC2.out.z).1)
 have hs3 : (w3.alloc (.cells #[.string ⟨x.f.n.toArray⟩, .slice x.pa x.f.b.length x.k, .int .i64 (x.f.d : Int)] 97)).heap.size = w3.heap.size + 1 := Array.size_push _
 obtain ⟨a4, c4, rfl, hR4⟩ := rowF_own (X := X) (Y := fun b => (b < w.heap.size ∨ w3.heap.size < b) ∧ b < w4.heap.size) hown (HFi.out _ Hb4.out) (fun b h => ⟨.inl (HX.out b h), by have := HX.out b h; have := Hb4.out.size; omega⟩) (fun b h1 h2 => ⟨.inr (by omega), h2⟩)
 have HR4 := Lib.hid hR4
 have HC4 := Lib.hid ((HC3.out _).below hb4)
 have hF0 := heap_alloc_new w3 (.cells #[.string ⟨x.f.n.toArray⟩, .slice x.pa x.f.b.length x.k, .int .i64 (x.f.d : Int)] 97)
 have hF4 : w4.heap[w3.heap.size]? = some (.cells #[.string ⟨x.f.n.toArray⟩, .slice x.pa x.f.b.length x.k, .int .i64 (x.f.d : Int)] 97 (0, 0)) := (hb4.block _ (by rw [hs3]; omega)).trans hF0
 have hCd : (w4.setCell ⟨w.heap.size, 1, none⟩ (.slice a4 (delN FR.n nm R).length c4)).heap[w.heap.size]? = some (.cells #[.int .i64 ro, .slice a4 (delN FR.n nm R).length c4, .int .i64 q, .bool false] 25 (0, 0)) := set_head (i := 1) HC4.out.d _
 have hCo : (w4.setCell ⟨w.heap.size, 1, none⟩ (.slice a4 (delN FR.n nm R).length c4)).heap[w.heap.size + 1]? = some (.cells #[.int .i64 4, .string ⟨nm.toArray⟩, .string ⟨to.toArray⟩, .slice p l c2] 101 (0, 0)) := (Below.heap_setCell _ _ _ _ (by simp)).trans HC4.out.o
 have hCz : (w4.setCell ⟨w.heap.size, 1, none⟩ (.slice a4 (delN FR.n nm R).length c4)).heap[w.heap.size + 1 + 1]? = some (.cells #[.int .i64 0, .slice none 0 0, .int .i64 0, .bool false] 25 (0, 0)) := (Below.heap_setCell _ _ _ _ (by simp; try omega)).trans HC4.out.z
 have HC5 := Lib.hid (show DoCells (w4.setCell ⟨w.heap.size, 1, none⟩ (.slice a4 (delN FR.n nm R).length c4)) w.heap.size ro a4 (delN FR.n nm R).length c4 q 4 nm to p l c2 from ⟨hCd, hCo, hCz⟩)
 have hF5 : (w4.setCell ⟨w.heap.size, 1, none⟩ (.slice a4 (delN FR.n nm R).length c4)).heap[w3.heap.size]? = some (.cells #[.string ⟨x.f.n.toArray⟩, .slice x.pa x.f.b.length x.k, .int .i64 (x.f.d : Int)] 97 (0, 0)) := (Below.heap_setCell _ _ _ _ (by have := Hz.out; simp; omega)).trans hF4
 have hF6 : ((w4.setCell ⟨w.heap.size, 1, none⟩ (.slice a4 (delN FR.n nm R).length c4)).setCell ⟨w3.heap.size, 0, none⟩ (.string ⟨to.toArray⟩)).heap[w3.heap.size]? = some (.cells #[.string ⟨to.toArray⟩, .slice x.pa x.f.b.length x.k, .int .i64 (x.f.d : Int)] 97 (0, 0)) := set_head (i := 0) hF5 _
 have HC6 := Lib.hid (show DoCells ((w4.setCell ⟨w.heap.size, 1, none⟩ (.slice a4 (delN FR.n nm R).length c4)).setCell ⟨w3.heap.size, 0, none⟩ (.string ⟨to.toArray⟩)) w.heap.size ro a4 (delN FR.n nm R).length c4 q 4 nm to p l c2 from
  ⟨(Below.heap_setCell _ _ _ _ (by have := Hz.out; simp; omega)).trans hCd, (Below.heap_setCell _ _ _ _ (by have := Hz.out; simp; omega)).trans hCo, (Below.heap_setCell _ _ _ _ (by have := Hz.out; simp; omega)).trans hCz⟩)
 have Hb6 := Lib.hid (show Below w.heap.size w ((w4.setCell ⟨w.heap.size, 1, none⟩ (.slice a4 (delN FR.n nm R).length c4)).setCell ⟨w3.heap.size, 0, none⟩ (.string ⟨to.toArray⟩)) from (Hb4.out.setCell (by simp) _).setCell (by have := Hz.out; simp; omega) _)
 have HR6 := Lib.hid (show RowF (fun b => b < ((w4.setCell ⟨w.heap.size, 1, none⟩ (.slice a4 (delN FR.n nm R).length c4)).setCell ⟨w3.heap.size, 0, none⟩ (.string ⟨to.toArray⟩)).heap.size) ((w4.setCell ⟨w.heap.size, 1, none⟩ (.slice a4 (delN FR.n nm R).length c4)).setCell ⟨w3.heap.size, 0, none⟩ (.string ⟨to.toArray⟩)) a4 (delN FR.n nm R).length c4 (delN FR.n nm R) from hR4.mono (fun b hb => by
  have := Hz.out
  rw [Below.heap_setCell _ _ _ _ (by simp; omega), Below.heap_setCell _ _ _ _ (by simp; omega)]) (fun b hb => by simpa using hb.2))
 have hfz6 : ∀ j, (w4.setCell ⟨w.heap.size, 1, none⟩ (.slice a4 (delN FR.n nm R).length c4)).frozen? ⟨w3.heap.size, j, none⟩ = false := fun j => by simp [World.frozen?, hF5]
 have hf60 : ((w4.setCell ⟨w.heap.size, 1, none⟩ (.slice a4 (delN FR.n nm R).length c4)).setCell ⟨w3.heap.size, 0, none⟩ (.string ⟨to.toArray⟩)).cell? ⟨w3.heap.size, 0, none⟩ = some (.string ⟨to.toArray⟩) := by rw [cell_of_row _ _ _ _ _ _ hF6]; rfl
 have hf61 : ((w4.setCell ⟨w.heap.size, 1, none⟩ (.slice a4 (delN FR.n nm R).length c4)).setCell ⟨w3.heap.size, 0, none⟩ (.string ⟨to.toArray⟩)).cell? ⟨w3.heap.size, 1, none⟩ = some (.slice x.pa x.f.b.length x.k) := by rw [cell_of_row _ _ _ _ _ _ hF6]; rfl
 have hf62 : ((w4.setCell ⟨w.heap.size, 1, none⟩ (.slice a4 (delN FR.n nm R).length c4)).setCell ⟨w3.heap.size, 0, none⟩ (.string ⟨to.toArray⟩)).cell? ⟨w3.heap.size, 2, none⟩ = some (.int .i64 (x.f.d : Int)) := by rw [cell_of_row _ _ _ _ _ _ hF6]; rfl
 have hf50 : (w4.setCell ⟨w.heap.size, 1, none⟩ (.slice a4 (delN FR.n nm R).length c4)).cell? ⟨w3.heap.size, 0, none⟩ = some (.string ⟨x.f.n.toArray⟩) := by rw [cell_of_row _ _ _ _ _ _ hF5]; rfl
 clear hown hR4 e0 e1 e2 e3 p0 p1 p2 p3 ge d0 d1 d2 d3 o0 o1 o2 o3 fd fz z0 z1 z2 z3 k0 k1 k2 hF0 hF4 hF5 hF6 hCd hCo hCz hs3 hb4
 obtain ⟨⟨d0, d1, d2, d3⟩, ⟨o0, o1, o2, o3⟩, fd, fz, ⟨z0, z1, z2, z3⟩⟩ := HC4.out.all
 obtain ⟨⟨d50, d51, d52, d53⟩, ⟨o50, o51, o52, o53⟩, fd5, fz5, _⟩ := HC5.out.all
 obtain ⟨⟨d60, d61, d62, d63⟩, ⟨o60, o61, o62, o63⟩, fd6, fz6, _⟩ := HC6.out.all
 have HP6 := Lib.hid (rput_any HR6.out (fun _ h => h) Hdl.out ⟨⟨to, x.f.b, x.f.d⟩, x.pa, x.k⟩ ((Hhx.out _ Hb6.out).mono (fun _ _ => rfl) (fun b hb => Nat.lt_of_lt_of_le (HX.out b hb) Hb6.out.size)))
 go_wp2_with fail
 refine HP6.out.mono ?_
 rintro e w7 ⟨v7, rfl, hown, hb7⟩
 have Hb7 := Lib.hid (Hb6.out.trans (hb7.mono Hb6.out.size))
 have HC7 := Lib.hid (HC6.out.below hb7)
 have Hz6 := Lib.hid (Array.getElem?_eq_some_iff.1 HC6.out.z).1
 obtain ⟨a7, c7, rfl, hR7⟩ := rowF_own (X := X) (Y := fun b => (X b ∨ w.heap.size + 1 + 1 < b) ∧ b < w7.heap.size) hown (put_files (Hhx.out _ Hb7.out) (HFi.out _ Hb7.out)) (fun b h => ⟨.inl h, by have := HX.out b h; have := Hb7.out.size; omega⟩) (fun b h1 h2 => ⟨.inr (by have := Hz6.out; omega), h2⟩)
 have HR7 := Lib.hid hR7
 clear hown hR7 hb7 d0 d1 d2 d3 o0 o1 o2 o3 fd fz z0 z1 z2 z3 d50 d51 d52 d53 o50 o51 o52 o53 fd5 fz5 d60 d61 d62 d63 o60 o61 o62 o63 fd6 fz6 hfz6 hf60 hf61 hf62 hf50
 obtain ⟨⟨d0, d1, d2, d3⟩, ⟨o0, o1, o2, o3⟩, fd, fz, ⟨z0, z1, z2, z3⟩⟩ := HC7.out.all
 generalize putN FR.n ⟨⟨to, x.f.b, x.f.d⟩, x.pa, x.k⟩ (delN FR.n nm R) = L at *
 generalize L.length = n7 at *
 go_wp2_with fail
 (try simp only [Exit.inBlock, Exit.then])
 refine bodyPost_ret ?_ rfl (HE.out _ _ _ _ _ _ HR7.out (fun b h => ⟨h.1.imp id (fun h => by omega), h.2⟩) ?_ ?_ ?_)
 ·rw [results_cell_tmp rfl]
  go_simp
 ·rintro b ⟨hb, _⟩
  have hb := hb.imp (HX.out b) id
  repeat rw [Below.heap_setCell _ _ _ _ (by simp; omega)]
 ·simp only [World.size_setCell]; exact Nat.le_refl _
 ·repeat (first | exact Hb7.out | refine Below.setCell ?_ (by simp; try omega) _)
end Go.Proofs.YtnbddiiedagllaaGreat

/- The walk of the reference's Do: bytes appended. -/
namespace Go.Proofs.YtnbddiiedagllaaGreat
open Go.RowKit Go.Maps Go.Shelf

set_option maxRecDepth 100000 in
set_option maxHeartbeats 6400000 in
theorem rdo_full {X : Nat → Prop} {w : World} {v : Value} {M : DM} (h : RefAt X w v M) (hX : ∀ b, X b → b < w.heap.size) (hA : Alive M) (nm to : List UInt8) (p : Option Addr) (l c2 : Nat) (hnml : nm.length ≤ 9223372036854775807) (hnm : named nm = true) (f : F) (hno : findN F.n nm M.fs = some f) (hub : usedF M.fs ≤ 140737488355328) (hlb : usedF M.fs + l ≤ 140737488355328) (hfull : M.room < usedF M.fs + l) :
  Calls Tryz.prog 74 #[v, opV 2 nm to p l c2] w (DoEnd X w (failM M, 5)) := by
 obtain ⟨a, n, c, R, q, rfl, hR, hfs, hn, hwr, hmx, hq, hp1, hfd, HF0⟩ := do_start h hX hA 2 nm to p l c2
 obtain ⟨x, hxR, hxf⟩ : ∃ x, findN FR.n nm R = some x ∧ x.f = f := by
  rw [hno] at hfd
  cases hx : findN FR.n nm R with
  | none => rw [hx] at hfd; cases hfd
  | some x => rw [hx] at hfd; exact ⟨x, rfl, (Option.some.inj hfd).symm⟩
 obtain ⟨hxm, hxn⟩ := findN_some hxR
 have HF := Lib.hid HF0
 have HN := Lib.hid (show ∀ w, Calls Tryz.prog 117 #[.string ⟨nm.toArray⟩] w fun e w' => e = .returned (.bool true) ∧ w' = w from fun w => by rw [← hnm]; exact rnamed_any nm w hnml)
 have HU := Lib.hid (show ∀ W, Below w.heap.size w W → Calls Tryz.prog 44 #[refV (M.room : Int) a n c q false] W fun e w' => e = .returned (.int .i64 (usedF M.fs : Int)) ∧ Below W.heap.size W w' from fun W hW => by
  have h1 := rused_any (hR.below hX hW) (fun b hb => Nat.lt_of_lt_of_le (hX b hb) hW.size) (M.room : Int) q false (by rw [hfs]; omega)
  rw [hfs] at h1
  exact h1)
 have hwr2 : IntKind.i64.wrap ((usedF M.fs : Int) + (l : Int)) = (usedF M.fs : Int) + (l : Int) := IntWalk.i64_in _ (by omega)
 have hcnd : (M.room : Int) < (usedF M.fs : Int) + (l : Int) := by omega
 have HE := Lib.hid (show ∀ (Y : Nat → Prop) (w4 w5 : World) a4 n4 c4, RowF Y w4 a4 n4 c4 (R) → (∀ b, Y b → (X b ∨ w.heap.size ≤ b) ∧ b < w4.heap.size) → (∀ b, Y b → w5.heap[b]? = w4.heap[b]?) → w4.heap.size ≤ w5.heap.size → Below w.heap.size w w5 →
   DoEnd X w (failM M, 5) (.returned (.tuple #[refV (M.room : Int) a4 n4 c4 q false, .int .i64 5])) w5 from fun Y w4 w5 a4 n4 c4 h1 h2 h3 h4 h5 => do_close h1 h2 h3 h4 h5 (by rw [hA.eq]; exact hfs) (by rw [hA.eq]) (by rw [hA.eq, hq]) (by rw [hA.eq]; exact hA.down))
 have HX := Lib.hid hX
 have HR := Lib.hid (show ∀ W, Below w.heap.size w W → RowF X W a n c R from fun W hW => hR.below hX hW)
 have Hlen := Lib.hid hR.len
 have Hxm := Lib.hid hxm
 have Hxn := Lib.hid (show x.f.n = nm from hxn)
 have HxR := Lib.hid hxR
 have Hb := Lib.hid (doW_below w (M.room : Int) a n c q 2 nm to p l c2)
 have HC := Lib.hid (doW_cells w (M.room : Int) a n c q 2 nm to p l c2)
 clear hub hlb hR hfs hX HF0 hq hA h hxm hxn hxR hfd hno hxf
 unfold refV at HE HF HU
 unfold refV opV
 generalize (M.plan : Int) = pl at *
 generalize (M.room : Int) = ro at *
 generalize (usedF M.fs : Int) = uz at *
 go_enter Tryz.func74, Tryz.ntmps74
 go_wp2_with fail
 change Calls _ _ _ (doW w ro a n c q 2 nm to p l c2) _
 refine HF.out.mono ?_
 rintro e w2 ⟨hb2, h2⟩
 have HC2 := Lib.hid (HC.out.below hb2)
 have hcs := HC2.out.all
 have Hb2 := Lib.hid (Hb.out.trans (hb2.mono Hb.out.size))
 obtain ⟨i, hi, rfl, hxi⟩ : ∃ (i : Nat) (hi : i < R.length), e = .returned (.int .i64 (i : Int)) ∧ R[i] = x := by
  rcases h2 with ⟨i, hi, e, h⟩ | ⟨_, h⟩
  ·exact ⟨i, hi, e, Option.some.inj (h.symm.trans HxR.out)⟩
  ·rw [HxR.out] at h; cases h
 have hin : (i : Int) < (n : Int) := by have := Hlen.out; omega
 have hz1 : ¬ (i : Int) < 0 := by omega
 obtain ⟨bb, oo, rfl, _, _⟩ := (HR.out _ Hb2.out).cell (by have := Hlen.out; omega)
 obtain ⟨k0, k1, k2⟩ := (HR.out _ Hb2.out).at i hi
 rw [hxi] at k0 k1 k2
 change w2.cell? ⟨bb, oo + i * 3, none⟩ = some (.string ⟨x.f.n.toArray⟩) at k0
 obtain ⟨⟨d0, d1, d2, d3⟩, ⟨o0, o1, o2, o3⟩, fd, fz, ⟨z0, z1, z2, z3⟩⟩ := hcs
 clear hb2 h2 hxi hi
 go_wp2_with fail
 refine (HN.out _).mono ?_
 rintro e w3 ⟨rfl, rfl⟩
 have Hb3 := Lib.hid (show ∀ o, Below w.heap.size w (w3.alloc o) from fun o => Hb2.out.alloc Hb2.out.size o)
 have HC3 := Lib.hid (show ∀ o, DoCells (w3.alloc o) w.heap.size ro (some ⟨bb, oo, none⟩) n c q 2 nm to p l c2 from fun o => HC2.out.below ((Below.refl _ _).alloc (Nat.le_refl _) o))
 have e0 := fun o => (HC3.out o).all.1.1
 have e1 := fun o => (HC3.out o).all.1.2.1
 have e2 := fun o => (HC3.out o).all.1.2.2.1
 have e3 := fun o => (HC3.out o).all.1.2.2.2
 have p0 := fun o => (HC3.out o).all.2.1.1
 have p1 := fun o => (HC3.out o).all.2.1.2.1
 have p2 := fun o => (HC3.out o).all.2.1.2.2.1
 have p3 := fun o => (HC3.out o).all.2.1.2.2.2
 have ge := fun o => (HC3.out o).all.2.2.1
 go_wp2_with fail
 have HK := Lib.hid (show ∀ w', Below (w3.alloc (.cells #[.string ⟨x.f.n.toArray⟩, .slice x.pa x.f.b.length x.k, .int .i64 (x.f.d : Int)] 97)).heap.size (w3.alloc (.cells #[.string ⟨x.f.n.toArray⟩, .slice x.pa x.f.b.length x.k, .int .i64 (x.f.d : Int)] 97)) w' → w'.cell? ⟨w.heap.size, 0, none⟩ = some (.int .i64 ro) ∧ w'.cell? ⟨w.heap.size, 1, none⟩ = some (.slice (some ⟨bb, oo, none⟩) n c) ∧ w'.cell? ⟨w.heap.size, 2, none⟩ = some (.int .i64 q) ∧ w'.cell? ⟨w.heap.size, 3, none⟩ = some (.bool false) ∧ w'.cell? ⟨w.heap.size + 1, 3, none⟩ = some (.slice p l c2) from fun w' hw => by
  have h1 := ((HC3.out _).below hw).all
  exact ⟨h1.1.1, h1.1.2.1, h1.1.2.2.1, h1.1.2.2.2, h1.2.1.2.2.2⟩)
 go_region_held (fun w' => w'.cell? ⟨w.heap.size, 0, none⟩ = some (.int .i64 ro) ∧ w'.cell? ⟨w.heap.size, 1, none⟩ = some (.slice (some ⟨bb, oo, none⟩) n c) ∧ w'.cell? ⟨w.heap.size, 2, none⟩ = some (.int .i64 q) ∧ w'.cell? ⟨w.heap.size, 3, none⟩ = some (.bool false) ∧ w'.cell? ⟨w.heap.size + 1, 3, none⟩ = some (.slice p l c2))
  (first | exact HK.out _ ((Below.refl _ _).drew) | exact HK.out _ hb1)
  (first | (go_at_call 44; (with_reducible refine (HU.out _ ((Hb3.out _).drew)).mono ?_); rintro e w4 ⟨rfl, hb0⟩; have hb1 : Below (w3.alloc (.cells #[.string ⟨x.f.n.toArray⟩, .slice x.pa x.f.b.length x.k, .int .i64 (x.f.d : Int)] 97)).heap.size (w3.alloc (.cells #[.string ⟨x.f.n.toArray⟩, .slice x.pa x.f.b.length x.k, .int .i64 (x.f.d : Int)] 97)) w4 := ((Below.refl _ _).drew).trans hb0; clear hb0))
 all_goals have Hb4 := Lib.hid ((Hb3.out _).trans (hb1.mono (Hb3.out _).size))
 all_goals obtain ⟨⟨d40, d41, d42, d43⟩, ⟨o40, o41, o42, o43⟩, fd4, fz4, _⟩ := ((HC3.out _).below hb1).all
 all_goals clear hb1
 all_goals go_wp2_with fail
 all_goals (try simp only [Exit.inBlock, Exit.then])
 all_goals refine bodyPost_ret ?_ rfl (HE.out X w4 _ _ _ _ (HR.out _ Hb4.out) (fun b h => ⟨.inl h, Nat.lt_of_lt_of_le (HX.out b h) Hb4.out.size⟩) ?_ ?_ ?_)
 ·rw [results_cell_tmp rfl]
  go_simp
 ·intro b hb
  have := HX.out b hb
  repeat rw [Below.heap_setCell _ _ _ _ (by simp; omega)]
 ·simp only [World.size_setCell]; exact Nat.le_refl _
 ·repeat (first | exact Hb4.out | refine Below.setCell ?_ (by simp; try omega) _)
end Go.Proofs.YtnbddiiedagllaaGreat

/- The walk of the reference's Do: bytes appended where there is room. -/
namespace Go.Proofs.YtnbddiiedagllaaGreat
open Go.RowKit Go.Maps Go.Shelf

theorem own_formedB {w : World} {base n c : Nat} {e : TypeId} {p : Option Addr} {xs : List Value} (h : w.ownsRow base e 1 (.slice p n c) n xs) : Formed p c := by
 rcases h.2 with ⟨e1, _⟩ | ⟨g, cap, cur, e1, _⟩
 ·cases e1; exact formed_none 0 rfl
 ·cases e1; exact formed_at _ _ _

theorem step_appendB {w : World} {base : Nat} {ops : Array Oper} {o : Oper} {a : Act} {K : Act → World → Prop} {Q : Exit → Act → World → Prop} {E' : Prop} (hgd : o.guard = none) (s x : Operand)
  (ho : o.op = .call { callee := .builtin .append, args := #[s, x], argTypes := #[58, 58] }) {v : Value} {l1 l2 : List Nat} (hs : a.eval s = v) (hown : w.ownsRow base 5 1 v l1.length (u8s l1))
  {p : Option Addr} {m c : Nat} (hx : a.eval x = .slice p m c) (hB : Bytes w p m c l2) (hlim : l1.length + m ≤ 140737488355328) (hbase : base ≤ w.heap.size)
  (h : ∀ v' w', w'.ownsRow base 5 1 v' (l1 ++ l2).length (u8s (l1 ++ l2)) → w.grownBy w' v.ownBlock → K (a.put o.dst v') w') : if Region.wanted o (yielded ops a.tmps) = true then Oper.wp Tryz.prog o a w K Q else E' := by
 have h0 : w.ownsRow 0 5 1 v l1.length (u8s l1) := own_base hown (Nat.zero_le _)
 obtain ⟨v', w', hr, h1, h2, h3⟩ := run_append_any (P := Tryz.prog) w 58 o.type 5 Tryz.underlying58 info_u8 v l1.length l1 h0 p m c l2 hB hlim
 have h4 : w'.ownsRow base 5 1 v' (l1 ++ l2).length (u8s (l1 ++ l2)) := by
  rw [List.length_append, hB.len]
  refine ⟨h1.1, h1.2.imp id ?_⟩
  rintro ⟨g, cap, cur, rfl, _, r⟩
  refine ⟨g, cap, cur, rfl, ?_, r⟩
  rcases h3 with e | e
  ·exact (hown.lt g (by rw [← e]; rfl)).1
  ·have e2 : g = w.heap.size := by simpa [Value.ownBlock] using e
   omega
 have hw : Region.wanted o (yielded ops a.tmps) = true := by simp [Region.wanted, hgd]
 rw [if_pos hw]
 unfold Oper.wp execOp
 simp only [ho, resolve, invoke, builtin, Sem.run_bind, Sem.run_pure, Result.andThen_ok, List.map_toArray, List.map_cons, List.map_nil, hs, hx, hr]
 exact h v' w' h4 h2

set_option maxRecDepth 100000 in
set_option maxHeartbeats 6400000 in
theorem rdo_append {X : Nat → Prop} {w : World} {v : Value} {M : DM} (h : RefAt X w v M) (hX : ∀ b, X b → b < w.heap.size) (hA : Alive M) (nm to : List UInt8) (p : Option Addr) (l c2 : Nat) (hnml : nm.length ≤ 9223372036854775807) (hnm : named nm = true) (f : F) (hno : findN F.n nm M.fs = some f) (hub : usedF M.fs ≤ 140737488355328) (hlb : usedF M.fs + l ≤ 140737488355328) (bs : List Nat) (hBy : ∀ W, Below w.heap.size w W → Bytes W p l c2 bs) (hfit : usedF M.fs + l ≤ M.room) :
  Calls Tryz.prog 74 #[v, opV 2 nm to p l c2] w (DoEnd X w ({ failM M with fs := putN F.n ⟨nm, f.b ++ bs, f.d⟩ M.fs }, 0)) := by
 obtain ⟨a, n, c, R, q, rfl, hR, hfs, hn, hwr, hmx, hq, hp1, hfd, HF0⟩ := do_start h hX hA 2 nm to p l c2
 obtain ⟨x, hxR, hxf⟩ : ∃ x, findN FR.n nm R = some x ∧ x.f = f := by
  rw [hno] at hfd
  cases hx : findN FR.n nm R with
  | none => rw [hx] at hfd; cases hfd
  | some x => rw [hx] at hfd; exact ⟨x, rfl, (Option.some.inj hfd).symm⟩
 obtain ⟨hxm, hxn⟩ := findN_some hxR
 have HF := Lib.hid HF0
 have HN := Lib.hid (show ∀ w, Calls Tryz.prog 117 #[.string ⟨nm.toArray⟩] w fun e w' => e = .returned (.bool true) ∧ w' = w from fun w => by rw [← hnm]; exact rnamed_any nm w hnml)
 have HU := Lib.hid (show ∀ W, Below w.heap.size w W → Calls Tryz.prog 44 #[refV (M.room : Int) a n c q false] W fun e w' => e = .returned (.int .i64 (usedF M.fs : Int)) ∧ Below W.heap.size W w' from fun W hW => by
  have h1 := rused_any (hR.below hX hW) (fun b hb => Nat.lt_of_lt_of_le (hX b hb) hW.size) (M.room : Int) q false (by rw [hfs]; omega)
  rw [hfs] at h1
  exact h1)
 have hwr2 : IntKind.i64.wrap ((usedF M.fs : Int) + (l : Int)) = (usedF M.fs : Int) + (l : Int) := IntWalk.i64_in _ (by omega)
 have hcnd : ¬ (M.room : Int) < (usedF M.fs : Int) + (l : Int) := by omega
 have Hxb := Lib.hid (show ∀ W, Below w.heap.size w W → Bytes W x.pa x.f.b.length x.k x.f.b from fun W hW => ((hR.below hX hW).files x hxm).bytes)
 have HBy := Lib.hid hBy
 have Hby := Lib.hid (show ∀ z ∈ ([] ++ x.f.b) ++ bs, z < 256 from fun z hz => by
  rw [List.nil_append] at hz
  rcases List.mem_append.1 hz with h | h
  ·exact (Hxb.out w (Below.refl _ _)).byte z h
  ·exact (hBy w (Below.refl _ _)).byte z h)
 have hxl : x.f.b.length ≤ usedF M.fs := by
  obtain ⟨A, B, hL⟩ := List.append_of_mem hxm
  rw [← hfs, hL, List.map_append, List.map_cons]
  unfold usedF
  simp
  omega
 have Hl1 := Lib.hid (show ([] : List Nat).length + x.f.b.length ≤ 140737488355328 from by rw [List.length_nil]; omega)
 have Hl2 := Lib.hid (show ([] ++ x.f.b).length + l ≤ 140737488355328 from by rw [List.nil_append]; omega)
 have Hfx0 := Lib.hid (show x.f.d ≤ x.f.b.length ∧ x.f.n.length ≤ 9223372036854775807 from ⟨(hR.files x hxm).dur, (hR.files x hxm).name⟩)
 clear hxl hBy
 have HE := Lib.hid (show ∀ (pa2 : Option Addr) (k2 : Nat) (Y : Nat → Prop) (w4 w5 : World) a4 n4 c4, RowF Y w4 a4 n4 c4 (putN FR.n ⟨⟨x.f.n, x.f.b ++ bs, x.f.d⟩, pa2, k2⟩ R) → (∀ b, Y b → (X b ∨ w.heap.size ≤ b) ∧ b < w4.heap.size) → (∀ b, Y b → w5.heap[b]? = w4.heap[b]?) → w4.heap.size ≤ w5.heap.size → Below w.heap.size w w5 →
   DoEnd X w ({ failM M with fs := putN F.n ⟨nm, f.b ++ bs, f.d⟩ M.fs }, 0) (.returned (.tuple #[refV (M.room : Int) a4 n4 c4 q false, .int .i64 0])) w5 from fun pa2 k2 Y w4 w5 a4 n4 c4 h1 h2 h3 h4 h5 => do_close h1 h2 h3 h4 h5 (by rw [putN_map FR.n F.n FR.f (fun _ => rfl), hfs, ← hxf, ← hxn]; rfl) (by rw [hA.eq]) (by rw [hA.eq, hq]) (by rw [hA.eq]; exact hA.down))
 have HX := Lib.hid hX
 have HR := Lib.hid (show ∀ W, Below w.heap.size w W → RowF X W a n c R from fun W hW => hR.below hX hW)
 have Hlen := Lib.hid hR.len
 have Hxm := Lib.hid hxm
 have Hxn := Lib.hid (show x.f.n = nm from hxn)
 have HxR := Lib.hid hxR
 have Hb := Lib.hid (doW_below w (M.room : Int) a n c q 2 nm to p l c2)
 have HC := Lib.hid (doW_cells w (M.room : Int) a n c q 2 nm to p l c2)
 clear hub hlb hR hfs hX HF0 hq hA h hxm hxn hxR hfd hno hxf
 unfold refV at HE HF HU
 unfold refV opV
 generalize (M.plan : Int) = pl at *
 generalize (M.room : Int) = ro at *
 generalize (usedF M.fs : Int) = uz at *
 go_enter Tryz.func74, Tryz.ntmps74
 go_wp2_with fail
 change Calls _ _ _ (doW w ro a n c q 2 nm to p l c2) _
 refine HF.out.mono ?_
 rintro e w2 ⟨hb2, h2⟩
 have HC2 := Lib.hid (HC.out.below hb2)
 have hcs := HC2.out.all
 have Hb2 := Lib.hid (Hb.out.trans (hb2.mono Hb.out.size))
 obtain ⟨i, hi, rfl, hxi⟩ : ∃ (i : Nat) (hi : i < R.length), e = .returned (.int .i64 (i : Int)) ∧ R[i] = x := by
  rcases h2 with ⟨i, hi, e, h⟩ | ⟨_, h⟩
  ·exact ⟨i, hi, e, Option.some.inj (h.symm.trans HxR.out)⟩
  ·rw [HxR.out] at h; cases h
 have hin : (i : Int) < (n : Int) := by have := Hlen.out; omega
 have hz1 : ¬ (i : Int) < 0 := by omega
 obtain ⟨bb, oo, rfl, _, _⟩ := (HR.out _ Hb2.out).cell (by have := Hlen.out; omega)
 obtain ⟨k0, k1, k2⟩ := (HR.out _ Hb2.out).at i hi
 rw [hxi] at k0 k1 k2
 change w2.cell? ⟨bb, oo + i * 3, none⟩ = some (.string ⟨x.f.n.toArray⟩) at k0
 obtain ⟨⟨d0, d1, d2, d3⟩, ⟨o0, o1, o2, o3⟩, fd, fz, ⟨z0, z1, z2, z3⟩⟩ := hcs
 clear hb2 h2 hxi hi
 go_wp2_with fail
 refine (HN.out _).mono ?_
 rintro e w3 ⟨rfl, rfl⟩
 have Hb3 := Lib.hid (show ∀ o, Below w.heap.size w (w3.alloc o) from fun o => Hb2.out.alloc Hb2.out.size o)
 have HC3 := Lib.hid (show ∀ o, DoCells (w3.alloc o) w.heap.size ro (some ⟨bb, oo, none⟩) n c q 2 nm to p l c2 from fun o => HC2.out.below ((Below.refl _ _).alloc (Nat.le_refl _) o))
 have e0 := fun o => (HC3.out o).all.1.1
 have e1 := fun o => (HC3.out o).all.1.2.1
 have e2 := fun o => (HC3.out o).all.1.2.2.1
 have e3 := fun o => (HC3.out o).all.1.2.2.2
 have p0 := fun o => (HC3.out o).all.2.1.1
 have p1 := fun o => (HC3.out o).all.2.1.2.1
 have p2 := fun o => (HC3.out o).all.2.1.2.2.1
 have p3 := fun o => (HC3.out o).all.2.1.2.2.2
 have ge := fun o => (HC3.out o).all.2.2.1
 go_wp2_with fail
 have HK := Lib.hid (show ∀ w', Below (w3.alloc (.cells #[.string ⟨x.f.n.toArray⟩, .slice x.pa x.f.b.length x.k, .int .i64 (x.f.d : Int)] 97)).heap.size (w3.alloc (.cells #[.string ⟨x.f.n.toArray⟩, .slice x.pa x.f.b.length x.k, .int .i64 (x.f.d : Int)] 97)) w' → w'.cell? ⟨w.heap.size, 0, none⟩ = some (.int .i64 ro) ∧ w'.cell? ⟨w.heap.size, 1, none⟩ = some (.slice (some ⟨bb, oo, none⟩) n c) ∧ w'.cell? ⟨w.heap.size, 2, none⟩ = some (.int .i64 q) ∧ w'.cell? ⟨w.heap.size, 3, none⟩ = some (.bool false) ∧ w'.cell? ⟨w.heap.size + 1, 3, none⟩ = some (.slice p l c2) from fun w' hw => by
  have h1 := ((HC3.out _).below hw).all
  exact ⟨h1.1.1, h1.1.2.1, h1.1.2.2.1, h1.1.2.2.2, h1.2.1.2.2.2⟩)
 go_region_held (fun w' => w'.cell? ⟨w.heap.size, 0, none⟩ = some (.int .i64 ro) ∧ w'.cell? ⟨w.heap.size, 1, none⟩ = some (.slice (some ⟨bb, oo, none⟩) n c) ∧ w'.cell? ⟨w.heap.size, 2, none⟩ = some (.int .i64 q) ∧ w'.cell? ⟨w.heap.size, 3, none⟩ = some (.bool false) ∧ w'.cell? ⟨w.heap.size + 1, 3, none⟩ = some (.slice p l c2))
  (first | exact HK.out _ ((Below.refl _ _).drew) | exact HK.out _ hb1)
  (first | (go_at_call 44; (with_reducible refine (HU.out _ ((Hb3.out _).drew)).mono ?_); rintro e w4 ⟨rfl, hb0⟩; have hb1 : Below (w3.alloc (.cells #[.string ⟨x.f.n.toArray⟩, .slice x.pa x.f.b.length x.k, .int .i64 (x.f.d : Int)] 97)).heap.size (w3.alloc (.cells #[.string ⟨x.f.n.toArray⟩, .slice x.pa x.f.b.length x.k, .int .i64 (x.f.d : Int)] 97)) w4 := ((Below.refl _ _).drew).trans hb0; clear hb0))
 all_goals have Hb4 := Lib.hid ((Hb3.out _).trans (hb1.mono (Hb3.out _).size))
 all_goals have HC4 := Lib.hid ((HC3.out _).below hb1)
 all_goals have hF4 : w4.heap[w3.heap.size]? = some (.cells #[.string ⟨x.f.n.toArray⟩, .slice x.pa x.f.b.length x.k, .int .i64 (x.f.d : Int)] 97 (0, 0)) := (hb1.block _ (Nat.lt_of_lt_of_le (Nat.lt_succ_self _) (Nat.le_of_eq (Array.size_push _).symm))).trans (heap_alloc_new w3 _)
 all_goals clear hb1 d0 d1 d2 d3 o0 o1 o2 o3 fd fz z0 z1 z2 z3 k0 k1 k2 e0 e1 e2 e3 p0 p1 p2 p3 ge
 all_goals obtain ⟨⟨d40, d41, d42, d43⟩, ⟨o40, o41, o42, o43⟩, fd4, fz4, _⟩ := HC4.out.all
 all_goals have f40 : w4.cell? ⟨w3.heap.size, 0, none⟩ = some (.string ⟨x.f.n.toArray⟩) := by rw [cell_of_row _ _ _ _ _ _ hF4]; rfl
 all_goals have f41 : w4.cell? ⟨w3.heap.size, 1, none⟩ = some (.slice x.pa x.f.b.length x.k) := by rw [cell_of_row _ _ _ _ _ _ hF4]; rfl
 all_goals have f42 : w4.cell? ⟨w3.heap.size, 2, none⟩ = some (.int .i64 (x.f.d : Int)) := by rw [cell_of_row _ _ _ _ _ _ hF4]; rfl
 all_goals have f4z : ∀ j, w4.frozen? ⟨w3.heap.size, j, none⟩ = false := fun j => by simp [World.frozen?, hF4]
 have Hal := Lib.hid (show ∀ o, Below w4.heap.size w4 (w4.alloc o) from fun o => (Below.refl _ _).alloc (Nat.le_refl _) o)
 have q1 := fun o => cell_keep (Hal.out o) f41
 have q2 := fun o => cell_keep (Hal.out o) o43
 have HE0 := Lib.hid (show (w4.alloc (.cells #[] 5)).ownsRow w4.heap.size 5 1 (.slice (some ⟨w4.heap.size, 0, none⟩) 0 0) ([] : List Nat).length (u8s []) from World.ownsRow_made w4 #[] 0 (Nat.le_refl _) (Nat.zero_le _) rfl)
 have Hwa := Lib.hid (show ∀ o, Below w.heap.size w (w4.alloc o) from fun o => Hb4.out.alloc Hb4.out.size o)
 have HF4 := Lib.hid hF4
 clear hF4
 go_wp2_with fail
 go_region_law (first
  | (refine step_appendB rfl (.tmp 84) (.tmp 86) rfl (by simp [Act.eval]) (show World.ownsRow _ w4.heap.size 5 1 _ _ _ from HE0.out) (by simp [Act.eval]) (Hxb.out _ ⟨(Hwa.out (.cells #[] 5)).os, (Hwa.out (.cells #[] 5)).tape, (Hwa.out (.cells #[] 5)).output, (Hwa.out (.cells #[] 5)).size, (Hwa.out (.cells #[] 5)).block⟩) Hl1.out (show w4.heap.size ≤ _ from (Hal.out (.cells #[] 5)).size) ?_
     intro v5 w5 g1 g2
     have hb5 : Below w4.heap.size w4 w5 := by
      refine Below.grown ?_ g2 (show w4.heap.size ≤ _ from (Hal.out (.cells #[] 5)).size) (fun k hk => (HE0.out.lt k hk).1)
      exact ⟨(Hal.out (.cells #[] 5)).os, (Hal.out (.cells #[] 5)).tape, (Hal.out (.cells #[] 5)).output, (Hal.out (.cells #[] 5)).size, (Hal.out (.cells #[] 5)).block⟩
     have Hb5 := Lib.hid hb5
     have Hg5 := Lib.hid g1
     have Hw5 := Lib.hid (Hb4.out.trans (Hb5.out.mono Hb4.out.size))
     have r2 := cell_keep Hb5.out o43
     clear g1 g2 hb5)
  | (refine step_appendB rfl (.tmp 87) (.tmp 89) rfl (by simp [Act.eval]) (show World.ownsRow _ w4.heap.size 5 1 _ _ _ from Hg5.out) (by simp [Act.eval]) (HBy.out _ ⟨Hw5.out.os, Hw5.out.tape, Hw5.out.output, Hw5.out.size, Hw5.out.block⟩) Hl2.out (show w4.heap.size ≤ _ from Hb5.out.size) ?_
     intro v6 w6 g1 g2
     have hb6 : Below w4.heap.size w4 w6 := by
      refine Below.grown ?_ g2 (show w4.heap.size ≤ _ from Hb5.out.size) (fun k hk => (Hg5.out.lt k hk).1)
      exact ⟨Hb5.out.os, Hb5.out.tape, Hb5.out.output, Hb5.out.size, Hb5.out.block⟩
     have Hb6 := Lib.hid hb6
     have Hg6 := Lib.hid g1
     obtain ⟨p6, c6, rfl, hB6⟩ := own_slice g1 Hby.out
     have HB6 := Lib.hid hB6
     have hF6 := (Hb6.out.block _ (Array.getElem?_eq_some_iff.1 HF4.out).1).trans HF4.out
     have HF6 := Lib.hid hF6
     have f61 := cell_keep Hb6.out f41
     have f6z : w6.frozen? ⟨w3.heap.size, 1, none⟩ = false := by simp [World.frozen?, hF6]
     clear g1 g2 hB6 hF6 hb6))
 all_goals have Hz := Lib.hid (show w.heap.size + 1 + 1 < w3.heap.size from (Array.getElem?_eq_some_iff.1 HC2.out.z).1)
 all_goals have Hf4 := Lib.hid (show w3.heap.size < w4.heap.size from (Array.getElem?_eq_some_iff.1 HF4.out).1)
 all_goals have HC6 := Lib.hid (HC4.out.below Hb6.out)
 all_goals have HC7 := Lib.hid (show DoCells (w6.setCell ⟨w3.heap.size, 1, none⟩ (.slice p6 (x.f.b.length + bs.length) c6)) w.heap.size ro (some ⟨bb, oo, none⟩) n c q 2 nm to p l c2 from
  ⟨(Below.heap_setCell _ _ _ _ (by have := Hz.out; simp; omega)).trans HC6.out.d, (Below.heap_setCell _ _ _ _ (by have := Hz.out; simp; omega)).trans HC6.out.o, (Below.heap_setCell _ _ _ _ (by have := Hz.out; simp; omega)).trans HC6.out.z⟩)
 all_goals have hF7 : (w6.setCell ⟨w3.heap.size, 1, none⟩ (.slice p6 (x.f.b.length + bs.length) c6)).heap[w3.heap.size]? = some (.cells #[.string ⟨x.f.n.toArray⟩, .slice p6 (x.f.b.length + bs.length) c6, .int .i64 (x.f.d : Int)] 97 (0, 0)) := set_head (i := 1) HF6.out _
 all_goals have Hw6 := Lib.hid (show Below w.heap.size w w6 from Hb4.out.trans (Hb6.out.mono Hb4.out.size))
 all_goals have Hw7 := Lib.hid (show Below w.heap.size w (w6.setCell ⟨w3.heap.size, 1, none⟩ (.slice p6 (x.f.b.length + bs.length) c6)) from Hw6.out.setCell (by have := Hz.out; simp; omega) _)
 all_goals have hf70 : (w6.setCell ⟨w3.heap.size, 1, none⟩ (.slice p6 (x.f.b.length + bs.length) c6)).cell? ⟨w3.heap.size, 0, none⟩ = some (.string ⟨x.f.n.toArray⟩) := by rw [cell_of_row _ _ _ _ _ _ hF7]; rfl
 all_goals have hf71 : (w6.setCell ⟨w3.heap.size, 1, none⟩ (.slice p6 (x.f.b.length + bs.length) c6)).cell? ⟨w3.heap.size, 1, none⟩ = some (.slice p6 (x.f.b.length + bs.length) c6) := by rw [cell_of_row _ _ _ _ _ _ hF7]; rfl
 all_goals have hf72 : (w6.setCell ⟨w3.heap.size, 1, none⟩ (.slice p6 (x.f.b.length + bs.length) c6)).cell? ⟨w3.heap.size, 2, none⟩ = some (.int .i64 (x.f.d : Int)) := by rw [cell_of_row _ _ _ _ _ _ hF7]; rfl
 all_goals have HX2 := Lib.hid (show FileB (fun b => w4.heap.size ≤ b ∧ b < w6.heap.size) w6 ⟨⟨x.f.n, x.f.b ++ bs, x.f.d⟩, p6, c6⟩ from by
  have h1 := HB6.out
  have h2 := Hg6.out
  rw [List.nil_append] at h1 h2
  refine ⟨h1, ?_, fun _ a e => h2.lt a.block (by have e9 : p6 = some a := e; rw [e9]; rfl), ?_, ?_⟩
  ·exact own_formedB h2
  ·show x.f.d ≤ (x.f.b ++ bs).length
   have := (Hfx0.out).1
   rw [List.length_append]
   omega
  ·exact (Hfx0.out).2)
 all_goals have HP7 := Lib.hid (rput_any (X := fun b => b < (w6.setCell ⟨w3.heap.size, 1, none⟩ (.slice p6 (x.f.b.length + bs.length) c6)).heap.size) ((HR.out _ Hw7.out).mono (fun _ _ => rfl) (fun b hb => Nat.lt_of_lt_of_le (HX.out b hb) Hw7.out.size)) (fun _ h => h) hn ⟨⟨x.f.n, x.f.b ++ bs, x.f.d⟩, p6, c6⟩ (HX2.out.mono (fun b hb => Below.heap_setCell _ _ _ _ (by have := Hf4.out; have := hb.1; simp; omega)) (fun b hb => by simpa using hb.2)))
 all_goals rw [show (x.f.b ++ bs).length = x.f.b.length + bs.length from List.length_append] at HP7
 all_goals clear hF7 d40 d41 d42 d43 o40 o41 o42 o43 fd4 fz4 f40 f41 f42 f4z q1 q2 r2 f61 f6z
 all_goals obtain ⟨⟨d70, d71, d72, d73⟩, ⟨o70, o71, o72, o73⟩, fd7, fz7, _⟩ := HC7.out.all
 all_goals go_wp2_with fail
 all_goals refine HP7.out.mono ?_
 all_goals rintro e w8 ⟨v8, rfl, hown, hb8⟩
 all_goals have Hb8 := Lib.hid (Hw7.out.trans (hb8.mono Hw7.out.size))
 all_goals have HC8 := Lib.hid (HC7.out.below hb8)
 all_goals have Hz7 := Lib.hid (Array.getElem?_eq_some_iff.1 HC7.out.z).1
 all_goals have hX8 : FileB (fun b => X b ∨ (w4.heap.size ≤ b ∧ b < w8.heap.size)) w8 ⟨⟨x.f.n, x.f.b ++ bs, x.f.d⟩, p6, c6⟩ := HX2.out.mono (fun b hb => (hb8.block b (by simpa using hb.2)).trans (Below.heap_setCell _ _ _ _ (by have := Hf4.out; have := hb.1; simp; omega))) (fun b hb => .inr ⟨hb.1, Nat.lt_of_lt_of_le hb.2 (by have := hb8.size; simpa using this)⟩)
 all_goals obtain ⟨a8, c8, rfl, hR8⟩ := rowF_own (X := fun b => X b ∨ (w4.heap.size ≤ b ∧ b < w8.heap.size)) (Y := fun b => (X b ∨ w.heap.size + 1 + 1 < b) ∧ b < w8.heap.size) hown (put_files hX8 (fun y hy => ((HR.out _ Hb8.out).files y hy).mono (fun _ _ => rfl) (fun _ h => .inl h))) (fun b h => by
  rcases h with h | h
  ·exact ⟨.inl h, Nat.lt_of_lt_of_le (HX.out b h) Hb8.out.size⟩
  ·exact ⟨.inr (by have := Hz.out; have := Hf4.out; have := h.1; omega), h.2⟩) (fun b h1 h2 => ⟨.inr (by have := Hz7.out; omega), h2⟩)
 all_goals have HR8 := Lib.hid hR8
 all_goals clear hown hR8 hb8 hX8 d70 d71 d72 d73 o70 o71 o72 o73 fd7 fz7 hf70 hf71 hf72
 all_goals obtain ⟨⟨d0, d1, d2, d3⟩, ⟨o0, o1, o2, o3⟩, fd, fz, ⟨z0, z1, z2, z3⟩⟩ := HC8.out.all
 all_goals have HE8 := Lib.hid (HE.out p6 c6)
 all_goals generalize putN FR.n ⟨⟨x.f.n, x.f.b ++ bs, x.f.d⟩, p6, c6⟩ R = L at *
 all_goals generalize L.length = n8 at *
 all_goals go_wp2_with fail
 all_goals (try simp only [Exit.inBlock, Exit.then])
 all_goals refine bodyPost_ret ?_ rfl (HE8.out _ _ _ _ _ _ HR8.out (fun b h => ⟨h.1.imp id (fun h => by omega), h.2⟩) ?_ ?_ ?_)
 all_goals first
  | (rw [results_cell_tmp rfl]; go_simp; done)
  | (rintro b ⟨hb, _⟩; have hb := hb.imp (HX.out b) id; repeat rw [Below.heap_setCell _ _ _ _ (by simp; omega)])
  | (simp only [World.size_setCell]; exact Nat.le_refl _)
  | (repeat (first | exact Hb8.out | refine Below.setCell ?_ (by simp; try omega) _))
end Go.Proofs.YtnbddiiedagllaaGreat

