import Derived.Test.YtmiepigieajpcaaGreatMB14
import Derived.Deep.RegionHeld3
/- The walk of the reference's Do: a file made durable. -/
namespace Go.Proofs.YtmiepigieajpcaaGreat
open Go.RowKit Go.Maps Go.Shelf

set_option maxRecDepth 100000 in
set_option maxHeartbeats 6400000 in
theorem rdo_sync {X : Nat → Prop} {w : World} {v : Value} {M : DM} (h : RefAt X w v M) (hX : ∀ b, X b → b < w.heap.size) (hA : Alive M) (nm to : List UInt8) (p : Option Addr) (l c2 : Nat) (hnml : nm.length ≤ 9223372036854775807) (hnm : named nm = true) (f : F) (hno : findN F.n nm M.fs = some f) :
    Calls Tryz.prog 74 #[v, opV 3 nm to p l c2] w (DoEnd X w ({ failM M with fs := putN F.n ⟨nm, f.b, f.b.length⟩ M.fs }, 0)) := by
  obtain ⟨a, n, c, R, q, rfl, hR, hfs, hn, hwr, hmx, hq, hp1, hfd, HF0⟩ := do_start h hX hA 3 nm to p l c2
  obtain ⟨x, hxR, hxf⟩ : ∃ x, findN FR.n nm R = some x ∧ x.f = f := by
    rw [hno] at hfd
    cases hx : findN FR.n nm R with
    | none => rw [hx] at hfd; cases hfd
    | some x => rw [hx] at hfd; exact ⟨x, rfl, (Option.some.inj hfd).symm⟩
  obtain ⟨hxm, hxn⟩ := findN_some hxR
  have HF := Lib.hid HF0
  have HN := Lib.hid (show ∀ w, Calls Tryz.prog 117 #[.string ⟨nm.toArray⟩] w fun e w' => e = .returned (.bool true) ∧ w' = w from fun w => by rw [← hnm]; exact rnamed_any nm w hnml)
  have hx : ∀ W, Below w.heap.size w W → FileB X W ⟨⟨x.f.n, x.f.b, x.f.b.length⟩, x.pa, x.k⟩ := fun W hW => by
    have h1 := (hR.below hX hW).files x hxm
    exact ⟨h1.bytes, h1.form, h1.blk, Nat.le_refl _, h1.name⟩
  have HP := Lib.hid (show ∀ W, Below w.heap.size w W → Calls Tryz.prog 118 #[.slice a n c, .agg #[.string ⟨x.f.n.toArray⟩, .slice x.pa x.f.b.length x.k, .int .i64 (x.f.b.length : Int)]] W fun e w' => ∃ v, e = .returned v ∧ w'.ownsRow W.heap.size 97 3 v (putN FR.n ⟨⟨x.f.n, x.f.b, x.f.b.length⟩, x.pa, x.k⟩ R).length (flatF (putN FR.n ⟨⟨x.f.n, x.f.b, x.f.b.length⟩, x.pa, x.k⟩ R)) ∧ Below W.heap.size W w' from fun W hW =>
    rput_any (hR.below hX hW) (fun b hb => Nat.lt_of_lt_of_le (hX b hb) hW.size) hn ⟨⟨x.f.n, x.f.b, x.f.b.length⟩, x.pa, x.k⟩ (hx W hW))
  have HFi := Lib.hid (show ∀ W, Below w.heap.size w W → ∀ y ∈ putN FR.n ⟨⟨x.f.n, x.f.b, x.f.b.length⟩, x.pa, x.k⟩ R, FileB X W y from fun W hW => put_files (hx W hW) (hR.below hX hW).files)
  clear hx
  have HE := Lib.hid (show ∀ (Y : Nat → Prop) (w4 w5 : World) a4 n4 c4, RowF Y w4 a4 n4 c4 (putN FR.n ⟨⟨x.f.n, x.f.b, x.f.b.length⟩, x.pa, x.k⟩ R) → (∀ b, Y b → (X b ∨ w.heap.size ≤ b) ∧ b < w4.heap.size) → (∀ b, Y b → w5.heap[b]? = w4.heap[b]?) → w4.heap.size ≤ w5.heap.size → Below w.heap.size w w5 →
      DoEnd X w ({ failM M with fs := putN F.n ⟨nm, f.b, f.b.length⟩ M.fs }, 0) (.returned (.tuple #[refV (M.room : Int) a4 n4 c4 q false, .int .i64 0])) w5 from fun Y w4 w5 a4 n4 c4 h1 h2 h3 h4 h5 => do_close h1 h2 h3 h4 h5 (by rw [putN_map FR.n F.n FR.f (fun _ => rfl), hfs, ← hxf, ← hxn]; rfl) (by rw [hA.eq]) (by rw [hA.eq, hq]) (by rw [hA.eq]; exact hA.down))
  have HX := Lib.hid hX
  have HR := Lib.hid (show ∀ W, Below w.heap.size w W → RowF X W a n c R from fun W hW => hR.below hX hW)
  have Hlen := Lib.hid hR.len
  have Hxm := Lib.hid hxm
  have Hxn := Lib.hid (show x.f.n = nm from hxn)
  have HxR := Lib.hid hxR
  have Hb := Lib.hid (doW_below w (M.room : Int) a n c q 3 nm to p l c2)
  have HC := Lib.hid (doW_cells w (M.room : Int) a n c q 3 nm to p l c2)
  clear hR hfs hX HF0 hq hA h hxm hxn hxR hfd hno hxf
  unfold refV at HE HF
  unfold refV opV
  generalize (M.plan : Int) = pl at *
  generalize (M.room : Int) = ro at *
  go_enter Tryz.func74, Tryz.ntmps74
  go_wp2_with fail
  change Calls _ _ _ (doW w ro a n c q 3 nm to p l c2) _
  refine HF.out.mono ?_
  rintro e w2 ⟨hb2, h2⟩
  have HC2 := Lib.hid (HC.out.below hb2)
  have hcs := HC2.out.all
  have Hb2 := Lib.hid (Hb.out.trans (hb2.mono Hb.out.size))
  obtain ⟨i, hi, rfl, hxi⟩ : ∃ (i : Nat) (hi : i < R.length), e = .returned (.int .i64 (i : Int)) ∧ R[i] = x := by
    rcases h2 with ⟨i, hi, e, h⟩ | ⟨_, h⟩
    · exact ⟨i, hi, e, Option.some.inj (h.symm.trans HxR.out)⟩
    · rw [HxR.out] at h; cases h
  have hin : (i : Int) < (n : Int) := by have := Hlen.out; omega
  have hz1 : ¬ (i : Int) < 0 := by omega
  obtain ⟨bb, oo, rfl, _, _⟩ := (HR.out _ Hb2.out).cell (by have := Hlen.out; omega)
  obtain ⟨k0, k1, k2⟩ := (HR.out _ Hb2.out).at i hi
  rw [hxi] at k0 k1 k2
  change w2.cell? ⟨bb, oo + i * 3, none⟩ = some (.string ⟨x.f.n.toArray⟩) at k0
  obtain ⟨⟨d0, d1, d2, d3⟩, ⟨o0, o1, o2, o3⟩, fd, fz, ⟨z0, z1, z2, z3⟩⟩ := hcs
  clear hb2 h2 hxi hi
  go_wp2_with fail
  refine (HN.out _).mono ?_
  rintro e w3 ⟨rfl, rfl⟩
  have Hb3 := Lib.hid (show ∀ o, Below w.heap.size w (w3.alloc o) from fun o => Hb2.out.alloc Hb2.out.size o)
  have HC3 := Lib.hid (show ∀ o, DoCells (w3.alloc o) w.heap.size ro (some ⟨bb, oo, none⟩) n c q 3 nm to p l c2 from fun o => HC2.out.below ((Below.refl _ _).alloc (Nat.le_refl _) o))
  have e0 := fun o => (HC3.out o).all.1.1
  have e1 := fun o => (HC3.out o).all.1.2.1
  have e2 := fun o => (HC3.out o).all.1.2.2.1
  have e3 := fun o => (HC3.out o).all.1.2.2.2
  have p0 := fun o => (HC3.out o).all.2.1.1
  have p1 := fun o => (HC3.out o).all.2.1.2.1
  have p2 := fun o => (HC3.out o).all.2.1.2.2.1
  have p3 := fun o => (HC3.out o).all.2.1.2.2.2
  have ge := fun o => (HC3.out o).all.2.2.1
  go_wp2_with fail
  refine (HP.out _ (Hb3.out _)).mono ?_
  rintro e w4 ⟨v4, rfl, hown, hb4⟩
  have Hb4 := Lib.hid ((Hb3.out _).trans (hb4.mono (Hb3.out _).size))
  have Hz := Lib.hid (Array.getElem?_eq_some_iff.1 (HC3.out (.cells #[.string ⟨x.f.n.toArray⟩, .slice x.pa x.f.b.length x.k, .int .i64 (x.f.b.length : Int)] 97)).z).1
  obtain ⟨a4, c4, rfl, hR4⟩ := rowF_own (X := X) (Y := fun b => (X b ∨ w.heap.size + 1 + 1 < b) ∧ b < w4.heap.size) hown (HFi.out _ Hb4.out) (fun b h => ⟨.inl h, by have := HX.out b h; have := Hb4.out.size; omega⟩) (fun b h1 h2 => ⟨.inr (by have := Hz.out; omega), h2⟩)
  have HR4 := Lib.hid hR4
  clear hown hR4 e0 e1 e2 e3 p0 p1 p2 p3 ge d0 d1 d2 d3 o0 o1 o2 o3 fd fz z0 z1 z2 z3 k0 k1 k2
  have hcs := ((HC3.out _).below hb4).all
  obtain ⟨⟨d0, d1, d2, d3⟩, ⟨o0, o1, o2, o3⟩, fd, fz, ⟨z0, z1, z2, z3⟩⟩ := hcs
  clear hb4
  generalize putN FR.n ⟨⟨x.f.n, x.f.b, x.f.b.length⟩, x.pa, x.k⟩ R = L at *
  generalize L.length = n4 at *
  go_wp2_with fail
  (try simp only [Exit.inBlock, Exit.then])
  refine bodyPost_ret ?_ rfl (HE.out _ _ _ _ _ _ HR4.out (fun b h => ⟨h.1.imp id (fun h => by omega), h.2⟩) ?_ ?_ ?_)
  · rw [results_cell_tmp rfl]
    go_simp
  · rintro b ⟨hb, _⟩
    have hb := hb.imp (HX.out b) id
    repeat rw [Below.heap_setCell _ _ _ _ (by simp; omega)]
  · simp only [World.size_setCell]; exact Nat.le_refl _
  · repeat (first | exact Hb4.out | refine Below.setCell ?_ (by simp; try omega) _)
end Go.Proofs.YtmiepigieajpcaaGreat

/- The walk of the reference's Do: a file with another name. -/
namespace Go.Proofs.YtmiepigieajpcaaGreat
open Go.RowKit Go.Maps Go.Shelf

set_option maxRecDepth 100000 in
set_option maxHeartbeats 6400000 in
theorem rdo_rename {X : Nat → Prop} {w : World} {v : Value} {M : DM} (h : RefAt X w v M) (hX : ∀ b, X b → b < w.heap.size) (hA : Alive M) (nm to : List UInt8) (p : Option Addr) (l c2 : Nat) (hnml : nm.length ≤ 9223372036854775807) (hnm : named nm = true) (f : F) (hno : findN F.n nm M.fs = some f) (htol : to.length ≤ 9223372036854775807) (hto : named to = true) :
    Calls Tryz.prog 74 #[v, opV 4 nm to p l c2] w (DoEnd X w ({ failM M with fs := putN F.n ⟨to, f.b, f.d⟩ (delN F.n nm M.fs) }, 0)) := by
  obtain ⟨a, n, c, R, q, rfl, hR, hfs, hn, hwr, hmx, hq, hp1, hfd, HF0⟩ := do_start h hX hA 4 nm to p l c2
  obtain ⟨x, hxR, hxf⟩ : ∃ x, findN FR.n nm R = some x ∧ x.f = f := by
    rw [hno] at hfd
    cases hx : findN FR.n nm R with
    | none => rw [hx] at hfd; cases hfd
    | some x => rw [hx] at hfd; exact ⟨x, rfl, (Option.some.inj hfd).symm⟩
  obtain ⟨hxm, hxn⟩ := findN_some hxR
  have HF := Lib.hid HF0
  have HN := Lib.hid (show ∀ w, Calls Tryz.prog 117 #[.string ⟨nm.toArray⟩] w fun e w' => e = .returned (.bool true) ∧ w' = w from fun w => by rw [← hnm]; exact rnamed_any nm w hnml)
  have HT := Lib.hid (show ∀ w, Calls Tryz.prog 117 #[.string ⟨to.toArray⟩] w fun e w' => e = .returned (.bool true) ∧ w' = w from fun w => by rw [← hto]; exact rnamed_any to w htol)
  have HP := Lib.hid (show ∀ W, Below w.heap.size w W → Calls Tryz.prog 119 #[.slice a n c, .string ⟨nm.toArray⟩] W fun e w' => ∃ v, e = .returned v ∧ w'.ownsRow W.heap.size 97 3 v (delN FR.n nm R).length (flatF (delN FR.n nm R)) ∧ Below W.heap.size W w' from fun W hW =>
    rwithout_any (hR.below hX hW) (fun b hb => Nat.lt_of_lt_of_le (hX b hb) hW.size) hn nm)
  have HFi := Lib.hid (show ∀ W, Below w.heap.size w W → ∀ y ∈ delN FR.n nm R, FileB X W y from fun W hW y hy => (hR.below hX hW).files y (List.mem_filter.1 hy).1)
  have Hhx := Lib.hid (show ∀ W, Below w.heap.size w W → FileB X W ⟨⟨to, x.f.b, x.f.d⟩, x.pa, x.k⟩ from fun W hW => by
    have h1 := (hR.below hX hW).files x hxm
    exact ⟨h1.bytes, h1.form, h1.blk, h1.dur, htol⟩)
  have Hdl := Lib.hid (show (delN FR.n nm R).length ≤ 1000000 from by unfold delN; exact Nat.le_trans (List.length_filter_le ..) (by rw [hR.len]; exact hn))
  have HE := Lib.hid (show ∀ (Y : Nat → Prop) (w4 w5 : World) a4 n4 c4, RowF Y w4 a4 n4 c4 (putN FR.n ⟨⟨to, x.f.b, x.f.d⟩, x.pa, x.k⟩ (delN FR.n nm R)) → (∀ b, Y b → (X b ∨ w.heap.size ≤ b) ∧ b < w4.heap.size) → (∀ b, Y b → w5.heap[b]? = w4.heap[b]?) → w4.heap.size ≤ w5.heap.size → Below w.heap.size w w5 →
      DoEnd X w ({ failM M with fs := putN F.n ⟨to, f.b, f.d⟩ (delN F.n nm M.fs) }, 0) (.returned (.tuple #[refV (M.room : Int) a4 n4 c4 q false, .int .i64 0])) w5 from fun Y w4 w5 a4 n4 c4 h1 h2 h3 h4 h5 => do_close h1 h2 h3 h4 h5 (by rw [putN_map FR.n F.n FR.f (fun _ => rfl), delN_map FR.n F.n FR.f (fun _ => rfl), hfs, ← hxf]) (by rw [hA.eq]) (by rw [hA.eq, hq]) (by rw [hA.eq]; exact hA.down))
  have HX := Lib.hid hX
  have HR := Lib.hid (show ∀ W, Below w.heap.size w W → RowF X W a n c R from fun W hW => hR.below hX hW)
  have Hlen := Lib.hid hR.len
  have Hxm := Lib.hid hxm
  have Hxn := Lib.hid (show x.f.n = nm from hxn)
  have HxR := Lib.hid hxR
  have Hb := Lib.hid (doW_below w (M.room : Int) a n c q 4 nm to p l c2)
  have HC := Lib.hid (doW_cells w (M.room : Int) a n c q 4 nm to p l c2)
  clear hR hfs hX HF0 hq hA h hxm hxn hxR hfd hno hxf
  unfold refV at HE HF
  unfold refV opV
  generalize (M.plan : Int) = pl at *
  generalize (M.room : Int) = ro at *
  go_enter Tryz.func74, Tryz.ntmps74
  go_wp2_with fail
  change Calls _ _ _ (doW w ro a n c q 4 nm to p l c2) _
  refine HF.out.mono ?_
  rintro e w2 ⟨hb2, h2⟩
  have HC2 := Lib.hid (HC.out.below hb2)
  have hcs := HC2.out.all
  have Hb2 := Lib.hid (Hb.out.trans (hb2.mono Hb.out.size))
  obtain ⟨i, hi, rfl, hxi⟩ : ∃ (i : Nat) (hi : i < R.length), e = .returned (.int .i64 (i : Int)) ∧ R[i] = x := by
    rcases h2 with ⟨i, hi, e, h⟩ | ⟨_, h⟩
    · exact ⟨i, hi, e, Option.some.inj (h.symm.trans HxR.out)⟩
    · rw [HxR.out] at h; cases h
  have hin : (i : Int) < (n : Int) := by have := Hlen.out; omega
  have hz1 : ¬ (i : Int) < 0 := by omega
  obtain ⟨bb, oo, rfl, _, _⟩ := (HR.out _ Hb2.out).cell (by have := Hlen.out; omega)
  obtain ⟨k0, k1, k2⟩ := (HR.out _ Hb2.out).at i hi
  rw [hxi] at k0 k1 k2
  change w2.cell? ⟨bb, oo + i * 3, none⟩ = some (.string ⟨x.f.n.toArray⟩) at k0
  obtain ⟨⟨d0, d1, d2, d3⟩, ⟨o0, o1, o2, o3⟩, fd, fz, ⟨z0, z1, z2, z3⟩⟩ := hcs
  clear hb2 h2 hxi hi
  go_wp2_with fail
  refine (HN.out _).mono ?_
  rintro e w8 ⟨rfl, rfl⟩
  go_wp2_with fail
  refine (HT.out _).mono ?_
  rintro e w3 ⟨rfl, rfl⟩
  have Hb3 := Lib.hid (show ∀ o, Below w.heap.size w (w3.alloc o) from fun o => Hb2.out.alloc Hb2.out.size o)
  have HC3 := Lib.hid (show ∀ o, DoCells (w3.alloc o) w.heap.size ro (some ⟨bb, oo, none⟩) n c q 4 nm to p l c2 from fun o => HC2.out.below ((Below.refl _ _).alloc (Nat.le_refl _) o))
  have e0 := fun o => (HC3.out o).all.1.1
  have e1 := fun o => (HC3.out o).all.1.2.1
  have e2 := fun o => (HC3.out o).all.1.2.2.1
  have e3 := fun o => (HC3.out o).all.1.2.2.2
  have p0 := fun o => (HC3.out o).all.2.1.1
  have p1 := fun o => (HC3.out o).all.2.1.2.1
  have p2 := fun o => (HC3.out o).all.2.1.2.2.1
  have p3 := fun o => (HC3.out o).all.2.1.2.2.2
  have ge := fun o => (HC3.out o).all.2.2.1
  go_wp2_with fail
  refine (HP.out _ (Hb3.out _)).mono ?_
  rintro e w4 ⟨v4, rfl, hown, hb4⟩
  have Hb4 := Lib.hid ((Hb3.out _).trans (hb4.mono (Hb3.out _).size))
  have Hz := Lib.hid (show w.heap.size + 1 + 1 < w3.heap.size from (Array.getElem?_eq_some_iff.1 HC2.out.z).1)
  have hs3 : (w3.alloc (.cells #[.string ⟨x.f.n.toArray⟩, .slice x.pa x.f.b.length x.k, .int .i64 (x.f.d : Int)] 97)).heap.size = w3.heap.size + 1 := Array.size_push _
  obtain ⟨a4, c4, rfl, hR4⟩ := rowF_own (X := X) (Y := fun b => (b < w.heap.size ∨ w3.heap.size < b) ∧ b < w4.heap.size) hown (HFi.out _ Hb4.out) (fun b h => ⟨.inl (HX.out b h), by have := HX.out b h; have := Hb4.out.size; omega⟩) (fun b h1 h2 => ⟨.inr (by omega), h2⟩)
  have HR4 := Lib.hid hR4
  have HC4 := Lib.hid ((HC3.out _).below hb4)
  have hF0 := heap_alloc_new w3 (.cells #[.string ⟨x.f.n.toArray⟩, .slice x.pa x.f.b.length x.k, .int .i64 (x.f.d : Int)] 97)
  have hF4 : w4.heap[w3.heap.size]? = some (.cells #[.string ⟨x.f.n.toArray⟩, .slice x.pa x.f.b.length x.k, .int .i64 (x.f.d : Int)] 97 (0, 0)) := (hb4.block _ (by rw [hs3]; omega)).trans hF0
  have hCd : (w4.setCell ⟨w.heap.size, 1, none⟩ (.slice a4 (delN FR.n nm R).length c4)).heap[w.heap.size]? = some (.cells #[.int .i64 ro, .slice a4 (delN FR.n nm R).length c4, .int .i64 q, .bool false] 25 (0, 0)) := set_head (i := 1) HC4.out.d _
  have hCo : (w4.setCell ⟨w.heap.size, 1, none⟩ (.slice a4 (delN FR.n nm R).length c4)).heap[w.heap.size + 1]? = some (.cells #[.int .i64 4, .string ⟨nm.toArray⟩, .string ⟨to.toArray⟩, .slice p l c2] 101 (0, 0)) := (Below.heap_setCell _ _ _ _ (by simp)).trans HC4.out.o
  have hCz : (w4.setCell ⟨w.heap.size, 1, none⟩ (.slice a4 (delN FR.n nm R).length c4)).heap[w.heap.size + 1 + 1]? = some (.cells #[.int .i64 0, .slice none 0 0, .int .i64 0, .bool false] 25 (0, 0)) := (Below.heap_setCell _ _ _ _ (by simp; try omega)).trans HC4.out.z
  have HC5 := Lib.hid (show DoCells (w4.setCell ⟨w.heap.size, 1, none⟩ (.slice a4 (delN FR.n nm R).length c4)) w.heap.size ro a4 (delN FR.n nm R).length c4 q 4 nm to p l c2 from ⟨hCd, hCo, hCz⟩)
  have hF5 : (w4.setCell ⟨w.heap.size, 1, none⟩ (.slice a4 (delN FR.n nm R).length c4)).heap[w3.heap.size]? = some (.cells #[.string ⟨x.f.n.toArray⟩, .slice x.pa x.f.b.length x.k, .int .i64 (x.f.d : Int)] 97 (0, 0)) := (Below.heap_setCell _ _ _ _ (by have := Hz.out; simp; omega)).trans hF4
  have hF6 : ((w4.setCell ⟨w.heap.size, 1, none⟩ (.slice a4 (delN FR.n nm R).length c4)).setCell ⟨w3.heap.size, 0, none⟩ (.string ⟨to.toArray⟩)).heap[w3.heap.size]? = some (.cells #[.string ⟨to.toArray⟩, .slice x.pa x.f.b.length x.k, .int .i64 (x.f.d : Int)] 97 (0, 0)) := set_head (i := 0) hF5 _
  have HC6 := Lib.hid (show DoCells ((w4.setCell ⟨w.heap.size, 1, none⟩ (.slice a4 (delN FR.n nm R).length c4)).setCell ⟨w3.heap.size, 0, none⟩ (.string ⟨to.toArray⟩)) w.heap.size ro a4 (delN FR.n nm R).length c4 q 4 nm to p l c2 from
    ⟨(Below.heap_setCell _ _ _ _ (by have := Hz.out; simp; omega)).trans hCd, (Below.heap_setCell _ _ _ _ (by have := Hz.out; simp; omega)).trans hCo, (Below.heap_setCell _ _ _ _ (by have := Hz.out; simp; omega)).trans hCz⟩)
  have Hb6 := Lib.hid (show Below w.heap.size w ((w4.setCell ⟨w.heap.size, 1, none⟩ (.slice a4 (delN FR.n nm R).length c4)).setCell ⟨w3.heap.size, 0, none⟩ (.string ⟨to.toArray⟩)) from (Hb4.out.setCell (by simp) _).setCell (by have := Hz.out; simp; omega) _)
  have HR6 := Lib.hid (show RowF (fun b => b < ((w4.setCell ⟨w.heap.size, 1, none⟩ (.slice a4 (delN FR.n nm R).length c4)).setCell ⟨w3.heap.size, 0, none⟩ (.string ⟨to.toArray⟩)).heap.size) ((w4.setCell ⟨w.heap.size, 1, none⟩ (.slice a4 (delN FR.n nm R).length c4)).setCell ⟨w3.heap.size, 0, none⟩ (.string ⟨to.toArray⟩)) a4 (delN FR.n nm R).length c4 (delN FR.n nm R) from hR4.mono (fun b hb => by
    have := Hz.out
    rw [Below.heap_setCell _ _ _ _ (by simp; omega), Below.heap_setCell _ _ _ _ (by simp; omega)]) (fun b hb => by simpa using hb.2))
  have hfz6 : ∀ j, (w4.setCell ⟨w.heap.size, 1, none⟩ (.slice a4 (delN FR.n nm R).length c4)).frozen? ⟨w3.heap.size, j, none⟩ = false := fun j => by simp [World.frozen?, hF5]
  have hf60 : ((w4.setCell ⟨w.heap.size, 1, none⟩ (.slice a4 (delN FR.n nm R).length c4)).setCell ⟨w3.heap.size, 0, none⟩ (.string ⟨to.toArray⟩)).cell? ⟨w3.heap.size, 0, none⟩ = some (.string ⟨to.toArray⟩) := by rw [cell_of_row _ _ _ _ _ _ hF6]; rfl
  have hf61 : ((w4.setCell ⟨w.heap.size, 1, none⟩ (.slice a4 (delN FR.n nm R).length c4)).setCell ⟨w3.heap.size, 0, none⟩ (.string ⟨to.toArray⟩)).cell? ⟨w3.heap.size, 1, none⟩ = some (.slice x.pa x.f.b.length x.k) := by rw [cell_of_row _ _ _ _ _ _ hF6]; rfl
  have hf62 : ((w4.setCell ⟨w.heap.size, 1, none⟩ (.slice a4 (delN FR.n nm R).length c4)).setCell ⟨w3.heap.size, 0, none⟩ (.string ⟨to.toArray⟩)).cell? ⟨w3.heap.size, 2, none⟩ = some (.int .i64 (x.f.d : Int)) := by rw [cell_of_row _ _ _ _ _ _ hF6]; rfl
  have hf50 : (w4.setCell ⟨w.heap.size, 1, none⟩ (.slice a4 (delN FR.n nm R).length c4)).cell? ⟨w3.heap.size, 0, none⟩ = some (.string ⟨x.f.n.toArray⟩) := by rw [cell_of_row _ _ _ _ _ _ hF5]; rfl
  clear hown hR4 e0 e1 e2 e3 p0 p1 p2 p3 ge d0 d1 d2 d3 o0 o1 o2 o3 fd fz z0 z1 z2 z3 k0 k1 k2 hF0 hF4 hF5 hF6 hCd hCo hCz hs3 hb4
  obtain ⟨⟨d0, d1, d2, d3⟩, ⟨o0, o1, o2, o3⟩, fd, fz, ⟨z0, z1, z2, z3⟩⟩ := HC4.out.all
  obtain ⟨⟨d50, d51, d52, d53⟩, ⟨o50, o51, o52, o53⟩, fd5, fz5, _⟩ := HC5.out.all
  obtain ⟨⟨d60, d61, d62, d63⟩, ⟨o60, o61, o62, o63⟩, fd6, fz6, _⟩ := HC6.out.all
  have HP6 := Lib.hid (rput_any HR6.out (fun _ h => h) Hdl.out ⟨⟨to, x.f.b, x.f.d⟩, x.pa, x.k⟩ ((Hhx.out _ Hb6.out).mono (fun _ _ => rfl) (fun b hb => Nat.lt_of_lt_of_le (HX.out b hb) Hb6.out.size)))
  go_wp2_with fail
  refine HP6.out.mono ?_
  rintro e w7 ⟨v7, rfl, hown, hb7⟩
  have Hb7 := Lib.hid (Hb6.out.trans (hb7.mono Hb6.out.size))
  have HC7 := Lib.hid (HC6.out.below hb7)
  have Hz6 := Lib.hid (Array.getElem?_eq_some_iff.1 HC6.out.z).1
  obtain ⟨a7, c7, rfl, hR7⟩ := rowF_own (X := X) (Y := fun b => (X b ∨ w.heap.size + 1 + 1 < b) ∧ b < w7.heap.size) hown (put_files (Hhx.out _ Hb7.out) (HFi.out _ Hb7.out)) (fun b h => ⟨.inl h, by have := HX.out b h; have := Hb7.out.size; omega⟩) (fun b h1 h2 => ⟨.inr (by have := Hz6.out; omega), h2⟩)
  have HR7 := Lib.hid hR7
  clear hown hR7 hb7 d0 d1 d2 d3 o0 o1 o2 o3 fd fz z0 z1 z2 z3 d50 d51 d52 d53 o50 o51 o52 o53 fd5 fz5 d60 d61 d62 d63 o60 o61 o62 o63 fd6 fz6 hfz6 hf60 hf61 hf62 hf50
  obtain ⟨⟨d0, d1, d2, d3⟩, ⟨o0, o1, o2, o3⟩, fd, fz, ⟨z0, z1, z2, z3⟩⟩ := HC7.out.all
  generalize putN FR.n ⟨⟨to, x.f.b, x.f.d⟩, x.pa, x.k⟩ (delN FR.n nm R) = L at *
  generalize L.length = n7 at *
  go_wp2_with fail
  (try simp only [Exit.inBlock, Exit.then])
  refine bodyPost_ret ?_ rfl (HE.out _ _ _ _ _ _ HR7.out (fun b h => ⟨h.1.imp id (fun h => by omega), h.2⟩) ?_ ?_ ?_)
  · rw [results_cell_tmp rfl]
    go_simp
  · rintro b ⟨hb, _⟩
    have hb := hb.imp (HX.out b) id
    repeat rw [Below.heap_setCell _ _ _ _ (by simp; omega)]
  · simp only [World.size_setCell]; exact Nat.le_refl _
  · repeat (first | exact Hb7.out | refine Below.setCell ?_ (by simp; try omega) _)
end Go.Proofs.YtmiepigieajpcaaGreat

/- The walk of the reference's Do: bytes appended. -/
namespace Go.Proofs.YtmiepigieajpcaaGreat
open Go.RowKit Go.Maps Go.Shelf


set_option maxRecDepth 100000 in
set_option maxHeartbeats 6400000 in
theorem rdo_full {X : Nat → Prop} {w : World} {v : Value} {M : DM} (h : RefAt X w v M) (hX : ∀ b, X b → b < w.heap.size) (hA : Alive M) (nm to : List UInt8) (p : Option Addr) (l c2 : Nat) (hnml : nm.length ≤ 9223372036854775807) (hnm : named nm = true) (f : F) (hno : findN F.n nm M.fs = some f) (hub : usedF M.fs ≤ 140737488355328) (hlb : usedF M.fs + l ≤ 140737488355328) (hfull : M.room < usedF M.fs + l) :
    Calls Tryz.prog 74 #[v, opV 2 nm to p l c2] w (DoEnd X w (failM M, 5)) := by
  obtain ⟨a, n, c, R, q, rfl, hR, hfs, hn, hwr, hmx, hq, hp1, hfd, HF0⟩ := do_start h hX hA 2 nm to p l c2
  obtain ⟨x, hxR, hxf⟩ : ∃ x, findN FR.n nm R = some x ∧ x.f = f := by
    rw [hno] at hfd
    cases hx : findN FR.n nm R with
    | none => rw [hx] at hfd; cases hfd
    | some x => rw [hx] at hfd; exact ⟨x, rfl, (Option.some.inj hfd).symm⟩
  obtain ⟨hxm, hxn⟩ := findN_some hxR
  have HF := Lib.hid HF0
  have HN := Lib.hid (show ∀ w, Calls Tryz.prog 117 #[.string ⟨nm.toArray⟩] w fun e w' => e = .returned (.bool true) ∧ w' = w from fun w => by rw [← hnm]; exact rnamed_any nm w hnml)
  have HU := Lib.hid (show ∀ W, Below w.heap.size w W → Calls Tryz.prog 44 #[refV (M.room : Int) a n c q false] W fun e w' => e = .returned (.int .i64 (usedF M.fs : Int)) ∧ Below W.heap.size W w' from fun W hW => by
    have h1 := rused_any (hR.below hX hW) (fun b hb => Nat.lt_of_lt_of_le (hX b hb) hW.size) (M.room : Int) q false (by rw [hfs]; omega)
    rw [hfs] at h1
    exact h1)
  have hwr2 : IntKind.i64.wrap ((usedF M.fs : Int) + (l : Int)) = (usedF M.fs : Int) + (l : Int) := IntWalk.i64_in _ (by omega)
  have hcnd : (M.room : Int) < (usedF M.fs : Int) + (l : Int) := by omega
  have HE := Lib.hid (show ∀ (Y : Nat → Prop) (w4 w5 : World) a4 n4 c4, RowF Y w4 a4 n4 c4 (R) → (∀ b, Y b → (X b ∨ w.heap.size ≤ b) ∧ b < w4.heap.size) → (∀ b, Y b → w5.heap[b]? = w4.heap[b]?) → w4.heap.size ≤ w5.heap.size → Below w.heap.size w w5 →
      DoEnd X w (failM M, 5) (.returned (.tuple #[refV (M.room : Int) a4 n4 c4 q false, .int .i64 5])) w5 from fun Y w4 w5 a4 n4 c4 h1 h2 h3 h4 h5 => do_close h1 h2 h3 h4 h5 (by rw [hA.eq]; exact hfs) (by rw [hA.eq]) (by rw [hA.eq, hq]) (by rw [hA.eq]; exact hA.down))
  have HX := Lib.hid hX
  have HR := Lib.hid (show ∀ W, Below w.heap.size w W → RowF X W a n c R from fun W hW => hR.below hX hW)
  have Hlen := Lib.hid hR.len
  have Hxm := Lib.hid hxm
  have Hxn := Lib.hid (show x.f.n = nm from hxn)
  have HxR := Lib.hid hxR
  have Hb := Lib.hid (doW_below w (M.room : Int) a n c q 2 nm to p l c2)
  have HC := Lib.hid (doW_cells w (M.room : Int) a n c q 2 nm to p l c2)
  clear hub hlb hR hfs hX HF0 hq hA h hxm hxn hxR hfd hno hxf
  unfold refV at HE HF HU
  unfold refV opV
  generalize (M.plan : Int) = pl at *
  generalize (M.room : Int) = ro at *
  generalize (usedF M.fs : Int) = uz at *
  go_enter Tryz.func74, Tryz.ntmps74
  go_wp2_with fail
  change Calls _ _ _ (doW w ro a n c q 2 nm to p l c2) _
  refine HF.out.mono ?_
  rintro e w2 ⟨hb2, h2⟩
  have HC2 := Lib.hid (HC.out.below hb2)
  have hcs := HC2.out.all
  have Hb2 := Lib.hid (Hb.out.trans (hb2.mono Hb.out.size))
  obtain ⟨i, hi, rfl, hxi⟩ : ∃ (i : Nat) (hi : i < R.length), e = .returned (.int .i64 (i : Int)) ∧ R[i] = x := by
    rcases h2 with ⟨i, hi, e, h⟩ | ⟨_, h⟩
    · exact ⟨i, hi, e, Option.some.inj (h.symm.trans HxR.out)⟩
    · rw [HxR.out] at h; cases h
  have hin : (i : Int) < (n : Int) := by have := Hlen.out; omega
  have hz1 : ¬ (i : Int) < 0 := by omega
  obtain ⟨bb, oo, rfl, _, _⟩ := (HR.out _ Hb2.out).cell (by have := Hlen.out; omega)
  obtain ⟨k0, k1, k2⟩ := (HR.out _ Hb2.out).at i hi
  rw [hxi] at k0 k1 k2
  change w2.cell? ⟨bb, oo + i * 3, none⟩ = some (.string ⟨x.f.n.toArray⟩) at k0
  obtain ⟨⟨d0, d1, d2, d3⟩, ⟨o0, o1, o2, o3⟩, fd, fz, ⟨z0, z1, z2, z3⟩⟩ := hcs
  clear hb2 h2 hxi hi
  go_wp2_with fail
  refine (HN.out _).mono ?_
  rintro e w3 ⟨rfl, rfl⟩
  have Hb3 := Lib.hid (show ∀ o, Below w.heap.size w (w3.alloc o) from fun o => Hb2.out.alloc Hb2.out.size o)
  have HC3 := Lib.hid (show ∀ o, DoCells (w3.alloc o) w.heap.size ro (some ⟨bb, oo, none⟩) n c q 2 nm to p l c2 from fun o => HC2.out.below ((Below.refl _ _).alloc (Nat.le_refl _) o))
  have e0 := fun o => (HC3.out o).all.1.1
  have e1 := fun o => (HC3.out o).all.1.2.1
  have e2 := fun o => (HC3.out o).all.1.2.2.1
  have e3 := fun o => (HC3.out o).all.1.2.2.2
  have p0 := fun o => (HC3.out o).all.2.1.1
  have p1 := fun o => (HC3.out o).all.2.1.2.1
  have p2 := fun o => (HC3.out o).all.2.1.2.2.1
  have p3 := fun o => (HC3.out o).all.2.1.2.2.2
  have ge := fun o => (HC3.out o).all.2.2.1
  go_wp2_with fail
  have HK := Lib.hid (show ∀ w', Below (w3.alloc (.cells #[.string ⟨x.f.n.toArray⟩, .slice x.pa x.f.b.length x.k, .int .i64 (x.f.d : Int)] 97)).heap.size (w3.alloc (.cells #[.string ⟨x.f.n.toArray⟩, .slice x.pa x.f.b.length x.k, .int .i64 (x.f.d : Int)] 97)) w' → w'.cell? ⟨w.heap.size, 0, none⟩ = some (.int .i64 ro) ∧ w'.cell? ⟨w.heap.size, 1, none⟩ = some (.slice (some ⟨bb, oo, none⟩) n c) ∧ w'.cell? ⟨w.heap.size, 2, none⟩ = some (.int .i64 q) ∧ w'.cell? ⟨w.heap.size, 3, none⟩ = some (.bool false) ∧ w'.cell? ⟨w.heap.size + 1, 3, none⟩ = some (.slice p l c2) from fun w' hw => by
    have h1 := ((HC3.out _).below hw).all
    exact ⟨h1.1.1, h1.1.2.1, h1.1.2.2.1, h1.1.2.2.2, h1.2.1.2.2.2⟩)
  go_region_held (fun w' => w'.cell? ⟨w.heap.size, 0, none⟩ = some (.int .i64 ro) ∧ w'.cell? ⟨w.heap.size, 1, none⟩ = some (.slice (some ⟨bb, oo, none⟩) n c) ∧ w'.cell? ⟨w.heap.size, 2, none⟩ = some (.int .i64 q) ∧ w'.cell? ⟨w.heap.size, 3, none⟩ = some (.bool false) ∧ w'.cell? ⟨w.heap.size + 1, 3, none⟩ = some (.slice p l c2))
    (first | exact HK.out _ ((Below.refl _ _).drew) | exact HK.out _ hb1)
    (first | (go_at_call 44; (with_reducible refine (HU.out _ ((Hb3.out _).drew)).mono ?_); rintro e w4 ⟨rfl, hb0⟩; have hb1 : Below (w3.alloc (.cells #[.string ⟨x.f.n.toArray⟩, .slice x.pa x.f.b.length x.k, .int .i64 (x.f.d : Int)] 97)).heap.size (w3.alloc (.cells #[.string ⟨x.f.n.toArray⟩, .slice x.pa x.f.b.length x.k, .int .i64 (x.f.d : Int)] 97)) w4 := ((Below.refl _ _).drew).trans hb0; clear hb0))
  all_goals have Hb4 := Lib.hid ((Hb3.out _).trans (hb1.mono (Hb3.out _).size))
  all_goals obtain ⟨⟨d40, d41, d42, d43⟩, ⟨o40, o41, o42, o43⟩, fd4, fz4, _⟩ := ((HC3.out _).below hb1).all
  all_goals clear hb1
  all_goals go_wp2_with fail
  all_goals (try simp only [Exit.inBlock, Exit.then])
  all_goals refine bodyPost_ret ?_ rfl (HE.out X w4 _ _ _ _ (HR.out _ Hb4.out) (fun b h => ⟨.inl h, Nat.lt_of_lt_of_le (HX.out b h) Hb4.out.size⟩) ?_ ?_ ?_)
  · rw [results_cell_tmp rfl]
    go_simp
  · intro b hb
    have := HX.out b hb
    repeat rw [Below.heap_setCell _ _ _ _ (by simp; omega)]
  · simp only [World.size_setCell]; exact Nat.le_refl _
  · repeat (first | exact Hb4.out | refine Below.setCell ?_ (by simp; try omega) _)
end Go.Proofs.YtmiepigieajpcaaGreat

