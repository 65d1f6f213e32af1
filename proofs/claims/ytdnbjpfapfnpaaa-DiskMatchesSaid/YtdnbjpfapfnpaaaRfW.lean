/- The walk of the reference's Do: a file made durable. -/
import Derived.Test.YtdnbjpfapfnpaaaRfV
namespace Go.Proofs.Ytdnbjpfapfnpaaa
open Go.RowKit Go.Maps Go.Shelf

set_option maxRecDepth 100000 in
set_option maxHeartbeats 6400000 in
theorem rdo_sync {X : Nat → Prop} {w : World} {v : Value} {M : DM} (h : RefAt X w v M) (hX : ∀ b, X b → b < w.heap.size) (hA : Alive M) (nm to : List UInt8) (p : Option Addr) (l c2 : Nat) (hnml : nm.length ≤ 9223372036854775807) (hnm : named nm = true) (f : F) (hno : findN F.n nm M.fs = some f) :
    Calls Try.prog 22 #[v, opV 3 nm to p l c2] w (DoEnd X w ({ failM M with fs := putN F.n ⟨nm, f.b, f.b.length⟩ M.fs }, 0)) := by
  obtain ⟨a, n, c, R, q, rfl, hR, hfs, hn, hwr, hmx, hq, hp1, hfd, HF0⟩ := do_start h hX hA 3 nm to p l c2
  obtain ⟨x, hxR, hxf⟩ : ∃ x, findN FR.n nm R = some x ∧ x.f = f := by
    rw [hno] at hfd
    cases hx : findN FR.n nm R with
    | none => rw [hx] at hfd; cases hfd
    | some x => rw [hx] at hfd; exact ⟨x, rfl, (Option.some.inj hfd).symm⟩
  obtain ⟨hxm, hxn⟩ := findN_some hxR
  have HF := Lib.hid HF0
  have HN := Lib.hid (show ∀ w, Calls Try.prog 40 #[.string ⟨nm.toArray⟩] w fun e w' => e = .returned (.bool true) ∧ w' = w from fun w => by rw [← hnm]; exact rnamed_any nm w hnml)
  have hx : ∀ W, Below w.heap.size w W → FileB X W ⟨⟨x.f.n, x.f.b, x.f.b.length⟩, x.pa, x.k⟩ := fun W hW => by
    have h1 := (hR.below hX hW).files x hxm
    exact ⟨h1.bytes, h1.form, h1.blk, Nat.le_refl _, h1.name⟩
  have HP := Lib.hid (show ∀ W, Below w.heap.size w W → Calls Try.prog 41 #[.slice a n c, .agg #[.string ⟨x.f.n.toArray⟩, .slice x.pa x.f.b.length x.k, .int .i64 (x.f.b.length : Int)]] W fun e w' => ∃ v, e = .returned v ∧ w'.ownsRow W.heap.size 67 3 v (putN FR.n ⟨⟨x.f.n, x.f.b, x.f.b.length⟩, x.pa, x.k⟩ R).length (flatF (putN FR.n ⟨⟨x.f.n, x.f.b, x.f.b.length⟩, x.pa, x.k⟩ R)) ∧ Below W.heap.size W w' from fun W hW =>
    rput_any (hR.below hX hW) (fun b hb => Nat.lt_of_lt_of_le (hX b hb) hW.size) hn ⟨⟨x.f.n, x.f.b, x.f.b.length⟩, x.pa, x.k⟩ (hx W hW))
  have HFi := Lib.hid (show ∀ W, Below w.heap.size w W → ∀ y ∈ putN FR.n ⟨⟨x.f.n, x.f.b, x.f.b.length⟩, x.pa, x.k⟩ R, FileB X W y from fun W hW => put_files (hx W hW) (hR.below hX hW).files)
  clear hx
  have HE := Lib.hid (show ∀ (Y : Nat → Prop) (w4 w5 : World) a4 n4 c4, RowF Y w4 a4 n4 c4 (putN FR.n ⟨⟨x.f.n, x.f.b, x.f.b.length⟩, x.pa, x.k⟩ R) → (∀ b, Y b → (X b ∨ w.heap.size ≤ b) ∧ b < w4.heap.size) → (∀ b, Y b → w5.heap[b]? = w4.heap[b]?) → w4.heap.size ≤ w5.heap.size → Below w.heap.size w w5 →
      DoEnd X w ({ failM M with fs := putN F.n ⟨nm, f.b, f.b.length⟩ M.fs }, 0) (.returned (.tuple #[refV (M.room : Int) a4 n4 c4 q false, .int .i64 0])) w5 from fun Y w4 w5 a4 n4 c4 h1 h2 h3 h4 h5 => do_close h1 h2 h3 h4 h5 (by rw [putN_map FR.n F.n FR.f (fun _ => rfl), hfs, ← hxf, ← hxn]; rfl) (by rw [hA.eq]) (by rw [hA.eq, hq]) (by rw [hA.eq]; exact hA.down))
  have HX := Lib.hid hX
  have HR := Lib.hid (show ∀ W, Below w.heap.size w W → RowF X W a n c R from fun W hW => hR.below hX hW)
  have Hlen := Lib.hid hR.len
  have Hxm := Lib.hid hxm
  have Hxn := Lib.hid (show x.f.n = nm from hxn)
  have HxR := Lib.hid hxR
  have Hb := Lib.hid (doW_below w (M.room : Int) a n c q 3 nm to p l c2)
  have HC := Lib.hid (doW_cells w (M.room : Int) a n c q 3 nm to p l c2)
  clear hR hfs hX HF0 hq hA h hxm hxn hxR hfd hno hxf
  unfold refV at HE HF
  unfold refV opV
  generalize (M.plan : Int) = pl at *
  generalize (M.room : Int) = ro at *
  go_enter Try.func22, Try.ntmps22
  go_wp2_with fail
  change Calls _ _ _ (doW w ro a n c q 3 nm to p l c2) _
  refine HF.out.mono ?_
  rintro e w2 ⟨hb2, h2⟩
  have HC2 := Lib.hid (HC.out.below hb2)
  have hcs := HC2.out.all
  have Hb2 := Lib.hid (Hb.out.trans (hb2.mono Hb.out.size))
  obtain ⟨i, hi, rfl, hxi⟩ : ∃ (i : Nat) (hi : i < R.length), e = .returned (.int .i64 (i : Int)) ∧ R[i] = x := by
    rcases h2 with ⟨i, hi, e, h⟩ | ⟨_, h⟩
    · exact ⟨i, hi, e, Option.some.inj (h.symm.trans HxR.out)⟩
    · rw [HxR.out] at h; cases h
  have hin : (i : Int) < (n : Int) := by have := Hlen.out; omega
  have hz1 : ¬ (i : Int) < 0 := by omega
  obtain ⟨bb, oo, rfl, _, _⟩ := (HR.out _ Hb2.out).cell (by have := Hlen.out; omega)
  obtain ⟨k0, k1, k2⟩ := (HR.out _ Hb2.out).at i hi
  rw [hxi] at k0 k1 k2
  change w2.cell? ⟨bb, oo + i * 3, none⟩ = some (.string ⟨x.f.n.toArray⟩) at k0
  obtain ⟨⟨d0, d1, d2, d3⟩, ⟨o0, o1, o2, o3⟩, fd, fz, ⟨z0, z1, z2, z3⟩⟩ := hcs
  clear hb2 h2 hxi hi
  go_wp2_with fail
  refine (HN.out _).mono ?_
  rintro e w3 ⟨rfl, rfl⟩
  have Hb3 := Lib.hid (show ∀ o, Below w.heap.size w (w3.alloc o) from fun o => Hb2.out.alloc Hb2.out.size o)
  have HC3 := Lib.hid (show ∀ o, DoCells (w3.alloc o) w.heap.size ro (some ⟨bb, oo, none⟩) n c q 3 nm to p l c2 from fun o => HC2.out.below ((Below.refl _ _).alloc (Nat.le_refl _) o))
  have e0 := fun o => (HC3.out o).all.1.1
  have e1 := fun o => (HC3.out o).all.1.2.1
  have e2 := fun o => (HC3.out o).all.1.2.2.1
  have e3 := fun o => (HC3.out o).all.1.2.2.2
  have p0 := fun o => (HC3.out o).all.2.1.1
  have p1 := fun o => (HC3.out o).all.2.1.2.1
  have p2 := fun o => (HC3.out o).all.2.1.2.2.1
  have p3 := fun o => (HC3.out o).all.2.1.2.2.2
  have ge := fun o => (HC3.out o).all.2.2.1
  go_wp2_with fail
  refine (HP.out _ (Hb3.out _)).mono ?_
  rintro e w4 ⟨v4, rfl, hown, hb4⟩
  have Hb4 := Lib.hid ((Hb3.out _).trans (hb4.mono (Hb3.out _).size))
  have Hz := Lib.hid (Array.getElem?_eq_some_iff.1 (HC3.out (.cells #[.string ⟨x.f.n.toArray⟩, .slice x.pa x.f.b.length x.k, .int .i64 (x.f.b.length : Int)] 67)).z).1
  obtain ⟨a4, c4, rfl, hR4⟩ := rowF_own (X := X) (Y := fun b => (X b ∨ w.heap.size + 1 + 1 < b) ∧ b < w4.heap.size) hown (HFi.out _ Hb4.out) (fun b h => ⟨.inl h, by have := HX.out b h; have := Hb4.out.size; omega⟩) (fun b h1 h2 => ⟨.inr (by have := Hz.out; omega), h2⟩)
  have HR4 := Lib.hid hR4
  clear hown hR4 e0 e1 e2 e3 p0 p1 p2 p3 ge d0 d1 d2 d3 o0 o1 o2 o3 fd fz z0 z1 z2 z3 k0 k1 k2
  have hcs := ((HC3.out _).below hb4).all
  obtain ⟨⟨d0, d1, d2, d3⟩, ⟨o0, o1, o2, o3⟩, fd, fz, ⟨z0, z1, z2, z3⟩⟩ := hcs
  clear hb4
  generalize putN FR.n ⟨⟨x.f.n, x.f.b, x.f.b.length⟩, x.pa, x.k⟩ R = L at *
  generalize L.length = n4 at *
  go_wp2_with fail
  (try simp only [Exit.inBlock, Exit.then])
  refine bodyPost_ret ?_ rfl (HE.out _ _ _ _ _ _ HR4.out (fun b h => ⟨h.1.imp id (fun h => by omega), h.2⟩) ?_ ?_ ?_)
  · rw [results_cell_tmp rfl]
    go_simp
  · rintro b ⟨hb, _⟩
    have hb := hb.imp (HX.out b) id
    repeat rw [Below.heap_setCell _ _ _ _ (by simp; omega)]
  · simp only [World.size_setCell]; exact Nat.le_refl _
  · repeat (first | exact Hb4.out | refine Below.setCell ?_ (by simp; try omega) _)
end Go.Proofs.Ytdnbjpfapfnpaaa
