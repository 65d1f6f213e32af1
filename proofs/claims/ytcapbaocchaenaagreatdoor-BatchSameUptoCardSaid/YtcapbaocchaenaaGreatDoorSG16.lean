import Derived.Test.YtcapbaocchaenaaGreatDoorSG13
import Derived.Test.YtcapbaocchaenaaGreatDoorSG14
import Derived.Test.YtcapbaocchaenaaGreatDoorSG15
/- The walks of the writers of events' fields, and of the code's Bytes. -/
namespace Go.Proofs.YtcapbaocchaenaaGreatDoor
open Go.RowKit Fl
attribute [local go_sem] run_store_func run_store_nilFunc

section
variable {k : Int} {id : Nat} {n : Int} {t : Nat} {nm tx : List Nat} {v : V} {a : Option Addr} {cap B : Nat} {w : World}

set_option maxRecDepth 100000 in
theorem f1_any (hx : id < 18446744073709551616) (h : w.heap[B]? = some (.cells (evC k id n t nm tx v.kind v.n v.f v.s a v.l.length cap) 45 (0, 0))) :
    Calls Tryz.prog 125 #[.pointer (some ⟨B, 0, none⟩)] w (NewBytes w (form id)) := by
  obtain ⟨g0, g1, g2, g3, g4, g5, g6, g7, g8, g9, g10⟩ := box11 h
  have HU := Lib.hid (uint_any id w hx)
  clear h hx
  go_enter Tryz.func125, Tryz.ntmps125
  go_wp2_with fail
  refine HU.out.mono ?_
  rintro e w1 ⟨u, rfl, hO⟩
  have HO := Lib.hid hO
  clear hO
  go_wp2
  go_ret
  exact ⟨_, rfl, HO.out⟩

set_option maxRecDepth 100000 in
theorem f2_any (m : Nat) (hn : n = (m : Int)) (hx : m < 18446744073709551616) (h : w.heap[B]? = some (.cells (evC k id n t nm tx v.kind v.n v.f v.s a v.l.length cap) 45 (0, 0))) :
    Calls Tryz.prog 126 #[.pointer (some ⟨B, 0, none⟩)] w (NewBytes w (form m)) := by
  subst hn
  obtain ⟨g0, g1, g2, g3, g4, g5, g6, g7, g8, g9, g10⟩ := box11 h
  have HU := Lib.hid (uint_any m w hx)
  have hw : IntKind.u64.wrap (m : Int) = (m : Int) := by rw [IntKind.wrap_u64]; omega
  clear h hx
  go_enter Tryz.func126, Tryz.ntmps126
  go_wp2_with fail
  refine HU.out.mono ?_
  rintro e w1 ⟨u, rfl, hO⟩
  have HO := Lib.hid hO
  clear hO
  go_wp2
  go_ret
  exact ⟨_, rfl, HO.out⟩

set_option maxRecDepth 100000 in
theorem f3_any (hx : t < 18446744073709551616) (h : w.heap[B]? = some (.cells (evC k id n t nm tx v.kind v.n v.f v.s a v.l.length cap) 45 (0, 0))) :
    Calls Tryz.prog 127 #[.pointer (some ⟨B, 0, none⟩)] w (NewBytes w (form t)) := by
  obtain ⟨g0, g1, g2, g3, g4, g5, g6, g7, g8, g9, g10⟩ := box11 h
  have HU := Lib.hid (uint_any t w hx)
  clear h hx
  go_enter Tryz.func127, Tryz.ntmps127
  go_wp2_with fail
  refine HU.out.mono ?_
  rintro e w1 ⟨u, rfl, hO⟩
  have HO := Lib.hid hO
  clear hO
  go_wp2
  go_ret
  exact ⟨_, rfl, HO.out⟩

set_option maxRecDepth 100000 in
theorem f4_any (hb : ∀ c ∈ nm, c < 256) (hx : nm.length ≤ 100000000000000) (h : w.heap[B]? = some (.cells (evC k id n t nm tx v.kind v.n v.f v.s a v.l.length cap) 45 (0, 0))) :
    Calls Tryz.prog 128 #[.pointer (some ⟨B, 0, none⟩)] w (NewBytes w (formB nm)) := by
  obtain ⟨g0, g1, g2, g3, g4, g5, g6, g7, g8, g9, g10⟩ := box11 h
  have HU := Lib.hid (textF_any nm w hb hx)
  clear h hx hb
  go_enter Tryz.func128, Tryz.ntmps128
  go_wp2_with fail
  refine HU.out.mono ?_
  rintro e w1 ⟨u, rfl, hO⟩
  have HO := Lib.hid hO
  clear hO
  go_wp2
  go_ret
  exact ⟨_, rfl, HO.out⟩

set_option maxRecDepth 100000 in
theorem f5_any (hb : ∀ c ∈ tx, c < 256) (hx : tx.length ≤ 100000000000000) (h : w.heap[B]? = some (.cells (evC k id n t nm tx v.kind v.n v.f v.s a v.l.length cap) 45 (0, 0))) :
    Calls Tryz.prog 129 #[.pointer (some ⟨B, 0, none⟩)] w (NewBytes w (formB tx)) := by
  obtain ⟨g0, g1, g2, g3, g4, g5, g6, g7, g8, g9, g10⟩ := box11 h
  have HU := Lib.hid (textF_any tx w hb hx)
  clear h hx hb
  go_enter Tryz.func129, Tryz.ntmps129
  go_wp2_with fail
  refine HU.out.mono ?_
  rintro e w1 ⟨u, rfl, hO⟩
  have HO := Lib.hid hO
  clear hO
  go_wp2
  go_ret
  exact ⟨_, rfl, HO.out⟩

set_option maxRecDepth 100000 in
theorem f6_any (q : Nat) (hq : q ≤ 1000) (hs : smallN q v = true) (hr : rightN 8 v = true) (hlen : (formV v).length ≤ 10000000) (hsl : ∀ u ∈ preV v, u.s.length ≤ 1000000) (hv : VIn w v (cells5 v.kind v.n v.f v.s a v.l.length cap)) (h : w.heap[B]? = some (.cells (evC k id n t nm tx v.kind v.n v.f v.s a v.l.length cap) 45 (0, 0))) :
    Calls Tryz.prog 130 #[.pointer (some ⟨B, 0, none⟩)] w (NewBytes w (formV v)) := by
  obtain ⟨g0, g1, g2, g3, g4, g5, g6, g7, g8, g9, g10⟩ := box11 h
  have HU := Lib.hid (vbytes_any q hq v _ w hs hv hlen hsl)
  have Hr := Lib.hid hr
  unfold cells5 at HU
  clear h hs hr hlen hsl hv hq
  go_enter Tryz.func130, Tryz.ntmps130
  go_wp2_with fail
  refine HU.out.mono ?_
  rintro e w1 (⟨h0, _⟩ | ⟨_, u, rfl, hO⟩)
  · rw [Hr.out] at h0; cases h0
  have HO := Lib.hid hO
  clear hO
  go_wp2
  go_ret
  exact ⟨_, rfl, HO.out.1, HO.out.2⟩
end
end Go.Proofs.YtcapbaocchaenaaGreatDoor

