/- The walks of the reference's Read and Names. -/
import Derived.Test.YtdnbjpfapfnpaaaRfP
namespace Go.Proofs.Ytdnbjpfapfnpaaa
open Go.RowKit Go.Maps Go.Shelf

/-- A disk of the reference. -/
def RefAt (X : Nat → Prop) (w : World) (v : Value) (M : DM) : Prop :=
  ∃ a n c R, v = refV (M.room : Int) a n c (M.plan : Int) M.down ∧ RowF X w a n c R ∧ R.map FR.f = M.fs ∧ n ≤ 1000000

theorem box4 (w : World) (room : Int) (a : Option Addr) (n c : Nat) (plan : Int) (down : Bool) :
    (w.alloc (.cells #[.int .i64 room, .slice a n c, .int .i64 plan, .bool down] 29)).cell? ⟨w.heap.size, 0, none⟩ = some (.int .i64 room) ∧
    (w.alloc (.cells #[.int .i64 room, .slice a n c, .int .i64 plan, .bool down] 29)).cell? ⟨w.heap.size, 1, none⟩ = some (.slice a n c) ∧
    (w.alloc (.cells #[.int .i64 room, .slice a n c, .int .i64 plan, .bool down] 29)).cell? ⟨w.heap.size, 2, none⟩ = some (.int .i64 plan) ∧
    (w.alloc (.cells #[.int .i64 room, .slice a n c, .int .i64 plan, .bool down] 29)).cell? ⟨w.heap.size, 3, none⟩ = some (.bool down) := by
  refine ⟨?_, ?_, ?_, ?_⟩ <;> (rw [cell_of_row _ _ _ _ _ (0, 0) (heap_alloc_new _ _)]; rfl)

/-- What the reference's Read answers. -/
def RReadEnd (w : World) (r : List Nat × Int) (e : Ending) (w' : World) : Prop := ∃ p c, e = .returned (.tuple #[.slice p r.1.length c, .int .i64 r.2]) ∧ Bytes w' p r.1.length c r.1 ∧ Formed p c ∧ Below w.heap.size w w'

theorem rreadEnd_nil {w w' : World} (hb : Below w.heap.size w w') (k : Int) : RReadEnd w ([], k) (.returned (.tuple #[.slice none 0 0, .int .i64 k])) w' := ⟨none, 0, rfl, bytes_nil w', formed_none 0 rfl, hb⟩

set_option maxRecDepth 100000 in
set_option maxHeartbeats 6400000 in
theorem rread_any {X : Nat → Prop} {w : World} {v : Value} {M : DM} (h : RefAt X w v M) (hX : ∀ b, X b → b < w.heap.size) (nm : List UInt8) :
    Calls Try.prog 24 #[v, .string ⟨nm.toArray⟩] w (RReadEnd w (readM nm M)) := by
  obtain ⟨a, n, c, R, rfl, hR, hfs, hn⟩ := h
  have hb := (Below.refl w.heap.size w).alloc (Nat.le_refl _) (.cells #[.int .i64 (M.room : Int), .slice a n c, .int .i64 (M.plan : Int), .bool M.down] 29)
  have hbox := box4 w (M.room : Int) a n c (M.plan : Int) M.down
  have hR1 := hR.below hX hb
  have HF := Lib.hid (rfind_any hR1 (fun b hx => Nat.lt_of_lt_of_le (hX b hx) hb.size) nm (M.room : Int) (M.plan : Int) M.down)
  have hfd : findN F.n nm M.fs = (findN FR.n nm R).map FR.f := by rw [← hfs]; exact findN_map FR.n F.n FR.f (fun _ => rfl) nm R
  have Hb := Lib.hid hb
  have HR1 := Lib.hid hR1
  have Hlen := Lib.hid hR.len
  have HX := Lib.hid hX
  clear hb hR1 hR hX
  obtain ⟨b0, b1, b2, b3⟩ := hbox
  generalize hpl : (M.plan : Int) = pl at *
  generalize hro : (M.room : Int) = ro at *
  cases hdn : M.down with
  | true =>
    have Hr := Lib.hid (show readM nm M = ([], 10) from by unfold readM; rw [if_pos hdn])
    rw [hdn] at b3 Hb
    rw [Hr.out]
    clear hfd hfs HF HR1 b0 b1 b2
    unfold refV
    go_enter Try.func24, Try.ntmps24
    go_wp2
    go_ret2
    exact rreadEnd_nil Hb.out 10
  | false =>
    rw [hdn] at b0 b1 b2 b3 Hb HR1
    rw [hdn] at HF
    unfold refV at HF
    unfold refV
    cases hf : findN FR.n nm R with
    | none =>
      have Hr := Lib.hid (show readM nm M = ([], 6) from by unfold readM; rw [if_neg (by rw [hdn]; decide), hfd, hf]; rfl)
      rw [Hr.out]
      have Hf := Lib.hid hf
      clear hfd hf hdn hfs
      go_enter Try.func24, Try.ntmps24
      go_wp2_with fail
      refine HF.out.mono ?_
      rintro e w2 ⟨hb2, h2⟩
      have Hb2 := Lib.hid (Hb.out.trans (hb2.mono Hb.out.size))
      rcases h2 with ⟨i, hi, _, h2⟩ | ⟨rfl, _⟩
      · rw [Hf.out] at h2; cases h2
      clear hb2
      go_wp2
      go_ret2
      exact rreadEnd_nil Hb2.out 6
    | some x =>
      have Hr := Lib.hid (show readM nm M = (x.f.b, 0) from by unfold readM; rw [if_neg (by rw [hdn]; decide), hfd, hf]; rfl)
      rw [Hr.out]
      have Hf := Lib.hid hf
      clear hfd hf hdn hfs
      go_enter Try.func24, Try.ntmps24
      go_wp2_with fail
      refine HF.out.mono ?_
      rintro e w2 ⟨hb2, h2⟩
      have Hb2 := Lib.hid (Hb.out.trans (hb2.mono Hb.out.size))
      rcases h2.symm with ⟨_, h3⟩ | ⟨i, hi, rfl, h3⟩
      · rw [Hf.out] at h3; cases h3
      have e1 : x = R[i] := Option.some.inj (Hf.out.symm.trans h3)
      have c1 := cell_keep hb2 b1
      have hR2 := HR1.out.below (fun b hx => Nat.lt_of_lt_of_le (HX.out b hx) Hb.out.size) hb2
      have hni : i < n := by have := Hlen.out; omega
      obtain ⟨bb, oo, rfl, _, _⟩ := hR2.cell (by omega)
      have hk1 := (hR2.at i hi).2.1
      have hB := hR2.files R[i] (List.getElem_mem hi)
      rw [← e1] at hk1 hB
      have HB := Lib.hid hB
      have hni' : (i : Int) < (n : Int) := by omega
      have hi0 : ¬ (i : Int) < 0 := by omega
      clear hb2 h2 h3 hR2 hB e1 hi b0 b2 b3
      go_wp2
      go_ret2
      exact ⟨_, _, rfl, HB.out.bytes, HB.out.form, Hb2.out⟩
end Go.Proofs.Ytdnbjpfapfnpaaa
