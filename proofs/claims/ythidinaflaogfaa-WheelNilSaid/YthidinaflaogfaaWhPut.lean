/- The walks of put, Has, Count, Now. -/
import Derived.Test.YthidinaflaogfaaWhPl
import Derived.Test.YthidinaflaogfaaWhM2
namespace Go.Proofs.Ythidinaflaogfaa
open Go.RowKit

theorem below_drew (w : World) (q : Nat) : Below w.heap.size w (w.drewN q) := ⟨rfl, rfl, rfl, Nat.le_refl _, fun _ _ => rfl⟩

/-- What put leaves. -/
def PutW (w0 : World) (X : Nat → Prop) (w : World) (d now : Nat) (L : Nat → List It) (T : List It) (t : It) (r : Ending) (w' : World) : Prop :=
  r = .returned (.tuple #[]) ∧ ∃ n, n < 11 ∧ IsPl now (max t.2 now) n ∧ WhEnd w0 X w d now (updL L n (if itW now n t ∈ L n then L n else insI (itW now n t) (L n))) T w'

theorem Wh.placed {w0 : World} {X : Nat → Prop} {w : World} {d now : Nat} {L : Nat → List It} {T : List It} {o p : Nat → Nat} {V : Nat → List Value} {mb : Nat} (h : Wh w0 X w d now L T o p V mb) (hn : now < 18446744073709551616) (a : Nat) (ha : a < 18446744073709551616) :
    Calls Try.prog 34 #[.pointer (some ⟨d, 0, none⟩), .int .u64 (a : Int)] w fun r w' => ∃ n, n < 11 ∧ IsPl now (max a now) n ∧ r = .returned (.tuple #[.pointer (some ⟨p n, 0, none⟩), .int .u64 (coarseN n (max a now) : Int)]) ∧ Wh w0 X w' d now L T o p V mb ∧ Below w.heap.size w w' := by
  refine (place_any h.tick (fun i hi => h.ptr hi) (fun i hi => h.low hi) hn ha).mono ?_
  rintro r w' ⟨n, q, hn11, hp, rfl, rfl⟩
  exact ⟨n, hn11, hp, rfl, h.below (below_drew w q), below_drew w q⟩

set_option maxRecDepth 100000 in
theorem wput_any {w0 : World} {X : Nat → Prop} {w : World} {d now : Nat} {L : Nat → List It} {T : List It} (h : WhO w0 X w d now L T) (hn : now < 9223372036854775808) (hs : ∀ n, srtI (L n)) (hl : ∀ n, (L n).length ≤ 999) (t : It) (ht : t.2 < 9223372036854775808) :
    Calls Try.prog 31 #[.pointer (some ⟨d, 0, none⟩), .int .u64 (t.1 : Int), .int .u64 (t.2 : Int)] w (PutW w0 X w d now L T t) := by
  obtain ⟨o, p, V, mb, h⟩ := h
  have HP := Lib.hid (h.placed (by omega) t.2 (by omega))
  have Hmx := Lib.hid (show max t.2 now < 9223372036854775808 by omega)
  have Hs := Lib.hid (And.intro hs hl)
  have Hx := Lib.hid h.xb
  have Hb := Lib.hid h.base.size
  obtain ⟨t1, t2⟩ := t
  clear h hs hl
  go_enter Try.func31, Try.ntmps31
  go_wp2_with fail
  refine HP.out.mono ?_
  rintro r w1 ⟨n, hn11, hp, rfl, h1, hb1⟩
  have Hp := Lib.hid hp
  have H1 := Lib.hid h1
  have Hb1 := Lib.hid hb1
  have HPut := Lib.hid (own_put (h1.lvO hn11) (by omega) (Hs.out.1 n) (Hs.out.2 n) (itW now n (t1, t2)) (Nat.lt_of_le_of_lt (coarse_le _ _) (Nat.lt_of_lt_of_le Hmx.out (by decide))))
  have HE := Lib.hid (fun l w' => h1.step hn11 (l := l) (w' := w'))
  clear h1 hb1 hp
  go_wp2_with fail
  refine HPut.out.mono ?_
  rintro r w2 ⟨rfl, hE⟩
  obtain ⟨⟨o', V', h2⟩, hk, hbel⟩ := HE.out _ _ hE
  have H2 := Lib.hid h2
  have Hk := Lib.hid hk
  have Hbl := Lib.hid hbel
  clear h2 hk hbel hE
  go_wp2
  go_end0
  exact ⟨rfl, n, hn11, Hp.out, WhEnd.pre Hb1.out Hx.out Hb.out ⟨⟨o', p, V', mb, H2.out⟩, Hk.out, Hbl.out⟩⟩

set_option maxRecDepth 100000 in
theorem whas_any {w0 : World} {X : Nat → Prop} {w : World} {d now : Nat} {L : Nat → List It} {T : List It} (h : WhO w0 X w d now L T) (id : Nat) (hid : id < 18446744073709551616) :
    Calls Try.prog 25 #[.pointer (some ⟨d, 0, none⟩), .int .u64 (id : Int)] w fun r w' => r = .returned (.bool (hasW T id)) ∧ w' = w := by
  obtain ⟨o, p, V, mb, h⟩ := h
  have q0 := h.mapc
  obtain ⟨c, hrun, _⟩ := h.map.look id hid
  generalize hasW T id = b at *
  clear h
  go_enter Try.func25, Try.ntmps25
  go_wp2
  go_ret
  exact ⟨rfl, rfl⟩

set_option maxRecDepth 100000 in
theorem wcount_any {w0 : World} {X : Nat → Prop} {w : World} {d now : Nat} {L : Nat → List It} {T : List It} (h : WhO w0 X w d now L T) {n : Nat} (hn : T.length = n) :
    Calls Try.prog 18 #[.pointer (some ⟨d, 0, none⟩)] w fun r w' => r = .returned (.int .i64 (n : Int)) ∧ w' = w := by
  obtain ⟨o, p, V, mb, h⟩ := h
  have q0 := h.mapc
  have hrun := fun ty => h.map.len ty
  rw [hn] at hrun
  clear h
  go_enter Try.func18, Try.ntmps18
  go_wp2
  go_ret
  exact ⟨rfl, rfl⟩

theorem wnow_any {w0 : World} {X : Nat → Prop} {w : World} {d now : Nat} {L : Nat → List It} {T : List It} (h : WhO w0 X w d now L T) :
    Calls Try.prog 23 #[.pointer (some ⟨d, 0, none⟩)] w fun r w' => r = .returned (.int .u64 (now : Int)) ∧ w' = w := by
  obtain ⟨o, p, V, mb, h⟩ := h
  have q0 := h.tick
  clear h
  go_enter Try.func23, Try.ntmps23
  go_wp2
  go_ret
  exact ⟨rfl, rfl⟩
end Go.Proofs.Ythidinaflaogfaa
