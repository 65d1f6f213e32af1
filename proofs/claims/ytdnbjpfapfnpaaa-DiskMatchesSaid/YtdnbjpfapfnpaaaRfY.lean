/- The walk of the reference's Do: bytes appended. -/
import Derived.Test.YtdnbjpfapfnpaaaRfX
import Derived.Deep.RegionHeld3
namespace Go.Proofs.Ytdnbjpfapfnpaaa
open Go.RowKit Go.Maps Go.Shelf


set_option maxRecDepth 100000 in
set_option maxHeartbeats 6400000 in
theorem rdo_full {X : Nat → Prop} {w : World} {v : Value} {M : DM} (h : RefAt X w v M) (hX : ∀ b, X b → b < w.heap.size) (hA : Alive M) (nm to : List UInt8) (p : Option Addr) (l c2 : Nat) (hnml : nm.length ≤ 9223372036854775807) (hnm : named nm = true) (f : F) (hno : findN F.n nm M.fs = some f) (hub : usedF M.fs ≤ 140737488355328) (hlb : usedF M.fs + l ≤ 140737488355328) (hfull : M.room < usedF M.fs + l) :
    Calls Try.prog 22 #[v, opV 2 nm to p l c2] w (DoEnd X w (failM M, 5)) := by
  obtain ⟨a, n, c, R, q, rfl, hR, hfs, hn, hwr, hmx, hq, hp1, hfd, HF0⟩ := do_start h hX hA 2 nm to p l c2
  obtain ⟨x, hxR, hxf⟩ : ∃ x, findN FR.n nm R = some x ∧ x.f = f := by
    rw [hno] at hfd
    cases hx : findN FR.n nm R with
    | none => rw [hx] at hfd; cases hfd
    | some x => rw [hx] at hfd; exact ⟨x, rfl, (Option.some.inj hfd).symm⟩
  obtain ⟨hxm, hxn⟩ := findN_some hxR
  have HF := Lib.hid HF0
  have HN := Lib.hid (show ∀ w, Calls Try.prog 40 #[.string ⟨nm.toArray⟩] w fun e w' => e = .returned (.bool true) ∧ w' = w from fun w => by rw [← hnm]; exact rnamed_any nm w hnml)
  have HU := Lib.hid (show ∀ W, Below w.heap.size w W → Calls Try.prog 13 #[refV (M.room : Int) a n c q false] W fun e w' => e = .returned (.int .i64 (usedF M.fs : Int)) ∧ Below W.heap.size W w' from fun W hW => by
    have h1 := rused_any (hR.below hX hW) (fun b hb => Nat.lt_of_lt_of_le (hX b hb) hW.size) (M.room : Int) q false (by rw [hfs]; omega)
    rw [hfs] at h1
    exact h1)
  have hwr2 : IntKind.i64.wrap ((usedF M.fs : Int) + (l : Int)) = (usedF M.fs : Int) + (l : Int) := IntWalk.i64_in _ (by omega)
  have hcnd : (M.room : Int) < (usedF M.fs : Int) + (l : Int) := by omega
  have HE := Lib.hid (show ∀ (Y : Nat → Prop) (w4 w5 : World) a4 n4 c4, RowF Y w4 a4 n4 c4 (R) → (∀ b, Y b → (X b ∨ w.heap.size ≤ b) ∧ b < w4.heap.size) → (∀ b, Y b → w5.heap[b]? = w4.heap[b]?) → w4.heap.size ≤ w5.heap.size → Below w.heap.size w w5 →
      DoEnd X w (failM M, 5) (.returned (.tuple #[refV (M.room : Int) a4 n4 c4 q false, .int .i64 5])) w5 from fun Y w4 w5 a4 n4 c4 h1 h2 h3 h4 h5 => do_close h1 h2 h3 h4 h5 (by rw [hA.eq]; exact hfs) (by rw [hA.eq]) (by rw [hA.eq, hq]) (by rw [hA.eq]; exact hA.down))
  have HX := Lib.hid hX
  have HR := Lib.hid (show ∀ W, Below w.heap.size w W → RowF X W a n c R from fun W hW => hR.below hX hW)
  have Hlen := Lib.hid hR.len
  have Hxm := Lib.hid hxm
  have Hxn := Lib.hid (show x.f.n = nm from hxn)
  have HxR := Lib.hid hxR
  have Hb := Lib.hid (doW_below w (M.room : Int) a n c q 2 nm to p l c2)
  have HC := Lib.hid (doW_cells w (M.room : Int) a n c q 2 nm to p l c2)
  clear hub hlb hR hfs hX HF0 hq hA h hxm hxn hxR hfd hno hxf
  unfold refV at HE HF HU
  unfold refV opV
  generalize (M.plan : Int) = pl at *
  generalize (M.room : Int) = ro at *
  generalize (usedF M.fs : Int) = uz at *
  go_enter Try.func22, Try.ntmps22
  go_wp2_with fail
  change Calls _ _ _ (doW w ro a n c q 2 nm to p l c2) _
  refine HF.out.mono ?_
  rintro e w2 ⟨hb2, h2⟩
  have HC2 := Lib.hid (HC.out.below hb2)
  have hcs := HC2.out.all
  have Hb2 := Lib.hid (Hb.out.trans (hb2.mono Hb.out.size))
  obtain ⟨i, hi, rfl, hxi⟩ : ∃ (i : Nat) (hi : i < R.length), e = .returned (.int .i64 (i : Int)) ∧ R[i] = x := by
    rcases h2 with ⟨i, hi, e, h⟩ | ⟨_, h⟩
    · exact ⟨i, hi, e, Option.some.inj (h.symm.trans HxR.out)⟩
    · rw [HxR.out] at h; cases h
  have hin : (i : Int) < (n : Int) := by have := Hlen.out; omega
  have hz1 : ¬ (i : Int) < 0 := by omega
  obtain ⟨bb, oo, rfl, _, _⟩ := (HR.out _ Hb2.out).cell (by have := Hlen.out; omega)
  obtain ⟨k0, k1, k2⟩ := (HR.out _ Hb2.out).at i hi
  rw [hxi] at k0 k1 k2
  change w2.cell? ⟨bb, oo + i * 3, none⟩ = some (.string ⟨x.f.n.toArray⟩) at k0
  obtain ⟨⟨d0, d1, d2, d3⟩, ⟨o0, o1, o2, o3⟩, fd, fz, ⟨z0, z1, z2, z3⟩⟩ := hcs
  clear hb2 h2 hxi hi
  go_wp2_with fail
  refine (HN.out _).mono ?_
  rintro e w3 ⟨rfl, rfl⟩
  have Hb3 := Lib.hid (show ∀ o, Below w.heap.size w (w3.alloc o) from fun o => Hb2.out.alloc Hb2.out.size o)
  have HC3 := Lib.hid (show ∀ o, DoCells (w3.alloc o) w.heap.size ro (some ⟨bb, oo, none⟩) n c q 2 nm to p l c2 from fun o => HC2.out.below ((Below.refl _ _).alloc (Nat.le_refl _) o))
  have e0 := fun o => (HC3.out o).all.1.1
  have e1 := fun o => (HC3.out o).all.1.2.1
  have e2 := fun o => (HC3.out o).all.1.2.2.1
  have e3 := fun o => (HC3.out o).all.1.2.2.2
  have p0 := fun o => (HC3.out o).all.2.1.1
  have p1 := fun o => (HC3.out o).all.2.1.2.1
  have p2 := fun o => (HC3.out o).all.2.1.2.2.1
  have p3 := fun o => (HC3.out o).all.2.1.2.2.2
  have ge := fun o => (HC3.out o).all.2.2.1
  go_wp2_with fail
  have HK := Lib.hid (show ∀ w', Below (w3.alloc (.cells #[.string ⟨x.f.n.toArray⟩, .slice x.pa x.f.b.length x.k, .int .i64 (x.f.d : Int)] 67)).heap.size (w3.alloc (.cells #[.string ⟨x.f.n.toArray⟩, .slice x.pa x.f.b.length x.k, .int .i64 (x.f.d : Int)] 67)) w' → w'.cell? ⟨w.heap.size, 0, none⟩ = some (.int .i64 ro) ∧ w'.cell? ⟨w.heap.size, 1, none⟩ = some (.slice (some ⟨bb, oo, none⟩) n c) ∧ w'.cell? ⟨w.heap.size, 2, none⟩ = some (.int .i64 q) ∧ w'.cell? ⟨w.heap.size, 3, none⟩ = some (.bool false) ∧ w'.cell? ⟨w.heap.size + 1, 3, none⟩ = some (.slice p l c2) from fun w' hw => by
    have h1 := ((HC3.out _).below hw).all
    exact ⟨h1.1.1, h1.1.2.1, h1.1.2.2.1, h1.1.2.2.2, h1.2.1.2.2.2⟩)
  go_region_held (fun w' => w'.cell? ⟨w.heap.size, 0, none⟩ = some (.int .i64 ro) ∧ w'.cell? ⟨w.heap.size, 1, none⟩ = some (.slice (some ⟨bb, oo, none⟩) n c) ∧ w'.cell? ⟨w.heap.size, 2, none⟩ = some (.int .i64 q) ∧ w'.cell? ⟨w.heap.size, 3, none⟩ = some (.bool false) ∧ w'.cell? ⟨w.heap.size + 1, 3, none⟩ = some (.slice p l c2))
    (first | exact HK.out _ ((Below.refl _ _).drew) | exact HK.out _ hb1)
    (first | (go_at_call 13; (with_reducible refine (HU.out _ ((Hb3.out _).drew)).mono ?_); rintro e w4 ⟨rfl, hb0⟩; have hb1 : Below (w3.alloc (.cells #[.string ⟨x.f.n.toArray⟩, .slice x.pa x.f.b.length x.k, .int .i64 (x.f.d : Int)] 67)).heap.size (w3.alloc (.cells #[.string ⟨x.f.n.toArray⟩, .slice x.pa x.f.b.length x.k, .int .i64 (x.f.d : Int)] 67)) w4 := ((Below.refl _ _).drew).trans hb0; clear hb0))
  all_goals have Hb4 := Lib.hid ((Hb3.out _).trans (hb1.mono (Hb3.out _).size))
  all_goals obtain ⟨⟨d40, d41, d42, d43⟩, ⟨o40, o41, o42, o43⟩, fd4, fz4, _⟩ := ((HC3.out _).below hb1).all
  all_goals clear hb1
  all_goals go_wp2_with fail
  all_goals (try simp only [Exit.inBlock, Exit.then])
  all_goals refine bodyPost_ret ?_ rfl (HE.out X w4 _ _ _ _ (HR.out _ Hb4.out) (fun b h => ⟨.inl h, Nat.lt_of_lt_of_le (HX.out b h) Hb4.out.size⟩) ?_ ?_ ?_)
  · rw [results_cell_tmp rfl]
    go_simp
  · intro b hb
    have := HX.out b hb
    repeat rw [Below.heap_setCell _ _ _ _ (by simp; omega)]
  · simp only [World.size_setCell]; exact Nat.le_refl _
  · repeat (first | exact Hb4.out | refine Below.setCell ?_ (by simp; try omega) _)
end Go.Proofs.Ytdnbjpfapfnpaaa
