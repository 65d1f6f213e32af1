/- The walk of the reference's Do: a new file. -/
import Derived.Test.YtdnbjpfapfnpaaaRfT
namespace Go.Proofs.Ytdnbjpfapfnpaaa
open Go.RowKit Go.Maps Go.Shelf

theorem put_files {X : Nat → Prop} {w : World} {x : FR} {R : List FR} (hx : FileB X w x) (h : ∀ y ∈ R, FileB X w y) : ∀ y ∈ putN FR.n x R, FileB X w y := by
  intro y hy
  rcases (mem_insN FR.n x _ y).1 hy with rfl | hy
  · exact hx
  · exact h y (List.mem_filter.1 hy).1

theorem do_close {X Y : Nat → Prop} {w w4 w5 : World} {a : Option Addr} {n c : Nat} {L : List FR} {M : DM} {ro q k : Int} (hR : RowF Y w4 a n c L) (hY : ∀ b, Y b → (X b ∨ w.heap.size ≤ b) ∧ b < w4.heap.size) (hc : ∀ b, Y b → w5.heap[b]? = w4.heap[b]?) (hsz : w4.heap.size ≤ w5.heap.size) (hb : Below w.heap.size w w5)
    (hfs : L.map FR.f = M.fs) (hro : ro = (M.room : Int)) (hq : q = (M.plan : Int)) (hd : M.down = false) : DoEnd X w (M, k) (.returned (.tuple #[refV ro a n c q false, .int .i64 k])) w5 := by
  refine ⟨a, n, c, L, ?_, hR.mono hc (fun b h => ⟨(hY b h).1, Nat.lt_of_lt_of_le (hY b h).2 hsz⟩), hfs, hb⟩
  rw [hro, hq, hd]

set_option maxRecDepth 100000 in
set_option maxHeartbeats 6400000 in
theorem rdo_create {X : Nat → Prop} {w : World} {v : Value} {M : DM} (h : RefAt X w v M) (hX : ∀ b, X b → b < w.heap.size) (hA : Alive M) (nm to : List UInt8) (p : Option Addr) (l c2 : Nat) (hnml : nm.length ≤ 9223372036854775807) (hnm : named nm = true) (hno : findN F.n nm M.fs = none) :
    Calls Try.prog 22 #[v, opV 1 nm to p l c2] w (DoEnd X w ({ failM M with fs := putN F.n ⟨nm, [], 0⟩ M.fs }, 0)) := by
  obtain ⟨a, n, c, R, q, rfl, hR, hfs, hn, hwr, hmx, hq, hp1, hfd, HF0⟩ := do_start h hX hA 1 nm to p l c2
  have HF := Lib.hid HF0
  have HN := Lib.hid (show ∀ w, Calls Try.prog 40 #[.string ⟨nm.toArray⟩] w fun e w' => e = .returned (.bool true) ∧ w' = w from fun w => by rw [← hnm]; exact rnamed_any nm w hnml)
  have hx : ∀ W, FileB X W ⟨⟨nm, [], 0⟩, none, 0⟩ := fun W => ⟨bytes_nil W, formed_none 0 rfl, fun h => absurd h (Nat.lt_irrefl _), Nat.le_refl _, hnml⟩
  have HP := Lib.hid (show ∀ W, Below w.heap.size w W → Calls Try.prog 41 #[.slice a n c, .agg #[.string ⟨nm.toArray⟩, .slice none 0 0, .int .i64 0]] W fun e w' => ∃ v, e = .returned v ∧ w'.ownsRow W.heap.size 67 3 v (putN FR.n ⟨⟨nm, [], 0⟩, none, 0⟩ R).length (flatF (putN FR.n ⟨⟨nm, [], 0⟩, none, 0⟩ R)) ∧ Below W.heap.size W w' from fun W hW =>
    rput_any (hR.below hX hW) (fun b hb => Nat.lt_of_lt_of_le (hX b hb) hW.size) hn ⟨⟨nm, [], 0⟩, none, 0⟩ (hx W))
  have HFi := Lib.hid (show ∀ W, Below w.heap.size w W → ∀ y ∈ putN FR.n ⟨⟨nm, [], 0⟩, none, 0⟩ R, FileB X W y from fun W hW => put_files (hx W) (hR.below hX hW).files)
  have HE := Lib.hid (show ∀ (Y : Nat → Prop) (w4 w5 : World) a4 n4 c4, RowF Y w4 a4 n4 c4 (putN FR.n ⟨⟨nm, [], 0⟩, none, 0⟩ R) → (∀ b, Y b → (X b ∨ w.heap.size ≤ b) ∧ b < w4.heap.size) → (∀ b, Y b → w5.heap[b]? = w4.heap[b]?) → w4.heap.size ≤ w5.heap.size → Below w.heap.size w w5 →
      DoEnd X w ({ failM M with fs := putN F.n ⟨nm, [], 0⟩ M.fs }, 0) (.returned (.tuple #[refV (M.room : Int) a4 n4 c4 q false, .int .i64 0])) w5 from fun Y w4 w5 a4 n4 c4 h1 h2 h3 h4 h5 => do_close h1 h2 h3 h4 h5 (by rw [putN_map FR.n F.n FR.f (fun _ => rfl), hfs]) (by rw [hA.eq]) (by rw [hA.eq, hq]) (by rw [hA.eq]; exact hA.down))
  have HX := Lib.hid hX
  have Hb := Lib.hid (doW_below w (M.room : Int) a n c q 1 nm to p l c2)
  have HC := Lib.hid (doW_cells w (M.room : Int) a n c q 1 nm to p l c2)
  clear hR hfs hX HF0 hq hA h hx
  unfold refV at HE HF
  unfold refV opV
  generalize (M.plan : Int) = pl at *
  generalize (M.room : Int) = ro at *
  go_enter Try.func22, Try.ntmps22
  go_wp2_with fail
  change Calls _ _ _ (doW w ro a n c q 1 nm to p l c2) _
  refine HF.out.mono ?_
  rintro e w2 ⟨hb2, h2⟩
  have HC2 := Lib.hid (HC.out.below hb2)
  have hcs := HC2.out.all
  have Hb2 := Lib.hid (Hb.out.trans (hb2.mono Hb.out.size))
  obtain rfl : e = .returned (.int .i64 (-1)) := by
    rcases h2 with ⟨i, _, _, h⟩ | ⟨e, _⟩
    · rw [h] at hfd; rw [hno] at hfd; cases hfd
    · exact e
  obtain ⟨⟨d0, d1, d2, d3⟩, ⟨o0, o1, o2, o3⟩, fd, fz, ⟨z0, z1, z2, z3⟩⟩ := hcs
  clear hb2 h2 hfd
  go_wp2_with fail
  refine (HN.out _).mono ?_
  rintro e w3 ⟨rfl, rfl⟩
  go_wp2_with fail
  refine (HP.out _ Hb2.out).mono ?_
  rintro e w4 ⟨v4, rfl, hown, hb4⟩
  have Hb4 := Lib.hid (Hb2.out.trans (hb4.mono Hb2.out.size))
  have Hz := Lib.hid (show w.heap.size + 1 + 1 < w3.heap.size from (Array.getElem?_eq_some_iff.1 HC2.out.z).1)
  obtain ⟨a4, c4, rfl, hR4⟩ := rowF_own (X := X) (Y := fun b => (X b ∨ w.heap.size + 1 + 1 < b) ∧ b < w4.heap.size) hown (HFi.out _ Hb4.out) (fun b h => ⟨.inl h, by have := HX.out b h; have := Hb4.out.size; omega⟩) (fun b h1 h2 => ⟨.inr (by have := Hz.out; omega), h2⟩)
  have HR4 := Lib.hid hR4
  clear hown hR4 d0 d1 d2 d3 o0 o1 o2 o3 fd fz z0 z1 z2 z3
  have hcs := (HC2.out.below hb4).all
  obtain ⟨⟨d0, d1, d2, d3⟩, ⟨o0, o1, o2, o3⟩, fd, fz, ⟨z0, z1, z2, z3⟩⟩ := hcs
  clear hb4
  generalize (putN FR.n ⟨⟨nm, [], 0⟩, none, 0⟩ R) = L at *
  generalize L.length = n4 at *
  go_wp2_with fail
  (try simp only [Exit.inBlock, Exit.then])
  refine bodyPost_ret ?_ rfl (HE.out _ _ _ _ _ _ HR4.out (fun b h => ⟨h.1.imp id (fun h => by omega), h.2⟩) ?_ ?_ ?_)
  · rw [results_cell_tmp rfl]
    go_simp
  · rintro b ⟨hb, _⟩
    have hb := hb.imp (HX.out b) id
    repeat rw [Below.heap_setCell _ _ _ _ (by simp; omega)]
  · simp only [World.size_setCell]; exact Nat.le_refl _
  · repeat (first | exact Hb4.out | refine Below.setCell ?_ (by simp; try omega) _)
end Go.Proofs.Ytdnbjpfapfnpaaa
