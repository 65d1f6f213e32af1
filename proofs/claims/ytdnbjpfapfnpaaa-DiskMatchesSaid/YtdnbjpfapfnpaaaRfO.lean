/- The walk of the reference's Do: the disk that is down, the plan, the names. -/
import Derived.Test.YtdnbjpfapfnpaaaRfN
import Derived.Laws.ResultCell
namespace Go.Proofs.Ytdnbjpfapfnpaaa
open Go.RowKit Go.Maps Go.Shelf

/-- A change as the reference takes it. -/
def opV (k : Int) (nm to : List UInt8) (p : Option Addr) (l c : Nat) : Value := .agg #[.int .i64 k, .string ⟨nm.toArray⟩, .string ⟨to.toArray⟩, .slice p l c]

theorem failM_room' (M : DM) : (failM M).room = M.room := by
  unfold failM; split
  · rfl
  · split <;> rfl
theorem failM_fs' (M : DM) : (failM M).fs = M.fs := by
  unfold failM; split
  · rfl
  · split <;> rfl

/-- What Do answers. -/
def DoEnd (X : Nat → Prop) (w : World) (r : DM × Int) (e : Ending) (w' : World) : Prop :=
  ∃ a n c R, e = .returned (.tuple #[refV (r.1.room : Int) a n c (r.1.plan : Int) r.1.down, .int .i64 r.2]) ∧ RowF (fun b => (X b ∨ w.heap.size ≤ b) ∧ b < w'.heap.size) w' a n c R ∧ R.map FR.f = r.1.fs ∧ Below w.heap.size w w'

set_option maxRecDepth 100000 in
set_option maxHeartbeats 6400000 in
theorem rdo_dead {X : Nat → Prop} {w : World} {v : Value} {M : DM} (h : RefAt X w v M) (hX : ∀ b, X b → b < w.heap.size) (hd : (failM M).down = true) (k : Int) (nm to : List UInt8) (p : Option Addr) (l c2 : Nat) :
    Calls Try.prog 22 #[v, opV k nm to p l c2] w (DoEnd X w (failM M, 10)) := by
  obtain ⟨a, n, c, R, rfl, hR, hfs, _⟩ := h
  have HE := Lib.hid (show ∀ (w' : World), Below w.heap.size w w' → DoEnd X w (failM M, 10) (.returned (.tuple #[refV (M.room : Int) a n c ((failM M).plan : Int) true, .int .i64 10])) w' from fun w' hb => by
    refine ⟨a, n, c, R, ?_, (hR.below hX hb).mono (fun _ _ => rfl) (fun b hx => ⟨.inl hx, Nat.lt_of_lt_of_le (hX b hx) hb.size⟩), ?_, hb⟩
    · show _ = Ending.returned (.tuple #[refV ((failM M).room : Int) a n c ((failM M).plan : Int) (failM M).down, .int .i64 10])
      rw [hd, failM_room']
    · show _ = (failM M).fs
      rw [hfs, failM_fs'])
  have Hbig := Lib.hid (show ∀ o1 o2 o3 : Obj, Below w.heap.size w (((w.alloc o1).alloc o2).alloc o3) from fun o1 o2 o3 => by
    have h1 := (Below.refl w.heap.size w).alloc (Nat.le_refl _) o1
    have h2 := h1.alloc h1.size o2
    exact h2.alloc h2.size o3)
  clear hR hfs hX
  unfold refV at HE
  unfold refV opV
  cases hdn : M.down with
  | true =>
    have e : (failM M).plan = M.plan := by unfold failM; rw [if_pos hdn]
    rw [e] at HE
    clear e hd hdn
    generalize (M.plan : Int) = pl at *
    generalize (M.room : Int) = ro at *
    go_enter Try.func22, Try.ntmps22
    go_wp2_with fail
    (try simp only [Exit.inBlock, Exit.then])
    refine bodyPost_ret ?_ rfl (HE.out _ (Hbig.out _ _ _))
    rw [results_cell_tmp rfl]
    go_simp
  | false =>
    have hp1 : M.plan = 1 := by
      unfold failM at hd
      rw [if_neg (by rw [hdn]; decide)] at hd
      split at hd
      · assumption
      · rw [hdn] at hd; cases hd
    have e : (failM M).plan = 0 := by unfold failM; rw [if_neg (by rw [hdn]; decide), if_pos hp1]
    rw [e] at HE
    rw [hp1]
    clear e hd hdn hp1
    generalize (M.room : Int) = ro at *
    go_enter Try.func22, Try.ntmps22
    go_wp2_with fail
    (try simp only [Exit.inBlock, Exit.then])
    refine bodyPost_ret ?_ rfl (HE.out _ (Hbig.out _ _ _))
    rw [results_cell_tmp rfl]
    go_simp
end Go.Proofs.Ytdnbjpfapfnpaaa
