import Derived.Test.YtcapbaocchaenaaGreatDoorSG19
import Derived.Test.YtcapbaocchaenaaGreatDoorSG21
import Derived.Test.YtcapbaocchaenaaGreatDoorSG22
/- The walks of the writers of events' fields' texts. -/
namespace Go.Proofs.YtcapbaocchaenaaGreatDoor
open Go.RowKit Go.Shelf Fl
attribute [local go_sem] run_store_func run_store_nilFunc

/-- The text of a string as a value. -/
def quoteL (s : List Nat) : List Nat := textB (.mk 3 0 0 s [])

section
variable {k : Int} {id : Nat} {n : Int} {t : Nat} {nm tx : List Nat} {v : V} {a : Option Addr} {cap B : Nat} {w : World}

theorem quote_in (s : List Nat) (w : World) (hb : ∀ c ∈ s, c < 256) (hl : s.length ≤ 9223372036854775807) : VIn w (.mk 3 0 0 s []) (cells5 3 0 0 s none 0 0) := by
  rw [VIn]
  exact ⟨by omega, by omega, by omega, hb, hl, none, 0, rfl, by simp, by omega, .inl rfl⟩

set_option maxRecDepth 100000 in
theorem quoted_any (s : List Nat) (w : World) (hb : ∀ c ∈ s, c < 256) (hl : s.length ≤ 9223372036854775807) (hlen : (quoteL s).length ≤ 1000000) (hp : Pow10 w) (ht : Tab16 w) :
    Calls Tryz.prog 103 #[.string (str s)] w fun e w' => e = .returned (.string (str (quoteL s))) ∧ Below w.heap.size w w' := by
  have HT := Lib.hid (vText_any 20 (by omega) (.mk 3 0 0 s []) _ w (by simp [smallN, V.l]) (quote_in s w hb hl) hlen hp ht)
  unfold cells5 at HT
  unfold quoteL
  generalize textB (.mk 3 0 0 s []) = res at *
  clear hb hl hlen hp ht
  go_enter Tryz.func103, Tryz.ntmps103
  go_wp2_with fail
  refine HT.out.mono ?_
  rintro e w1 ⟨rfl, hb⟩
  have Hb := Lib.hid hb
  clear hb
  go_wp2
  go_ret
  exact ⟨rfl, Hb.out⟩

set_option maxRecDepth 100000 in
theorem t1_any (hx : id < 18446744073709551616) (hp : Pow10 w) (h : w.heap[B]? = some (.cells (evC k id n t nm tx v.kind v.n v.f v.s a v.l.length cap) 45 (0, 0))) :
    Calls Tryz.prog 98 #[.pointer (some ⟨B, 0, none⟩)] w fun e w' => e = .returned (.string (str (decD id))) ∧ Below w.heap.size w w' := by
  obtain ⟨g0, g1, g2, g3, g4, g5, g6, g7, g8, g9, g10⟩ := box11 h
  have HU := Lib.hid (uint_dec id hx w hp)
  generalize decD id = res at *
  clear h hx hp
  go_enter Tryz.func98, Tryz.ntmps98
  go_wp2_with fail
  refine HU.out.mono ?_
  rintro e w1 ⟨rfl, hb⟩
  have Hb := Lib.hid hb
  clear hb
  go_wp2
  go_ret
  exact ⟨rfl, Hb.out⟩

set_option maxRecDepth 100000 in
theorem t2_any (h0 : -9223372036854775808 ≤ n) (h1 : n ≤ 9223372036854775807) (hp : Pow10 w) (h : w.heap[B]? = some (.cells (evC k id n t nm tx v.kind v.n v.f v.s a v.l.length cap) 45 (0, 0))) :
    Calls Tryz.prog 99 #[.pointer (some ⟨B, 0, none⟩)] w fun e w' => e = .returned (.string (str (decL n))) ∧ Below w.heap.size w w' := by
  obtain ⟨g0, g1, g2, g3, g4, g5, g6, g7, g8, g9, g10⟩ := box11 h
  have HU := Lib.hid (itoa_dec n h0 h1 w hp)
  generalize decL n = res at *
  clear h h0 h1 hp
  go_enter Tryz.func99, Tryz.ntmps99
  go_wp2_with fail
  refine HU.out.mono ?_
  rintro e w1 ⟨rfl, hb⟩
  have Hb := Lib.hid hb
  clear hb
  go_wp2
  go_ret
  exact ⟨rfl, Hb.out⟩

set_option maxRecDepth 100000 in
theorem t3_any (hx : t < 18446744073709551616) (hp : Pow10 w) (h : w.heap[B]? = some (.cells (evC k id n t nm tx v.kind v.n v.f v.s a v.l.length cap) 45 (0, 0))) :
    Calls Tryz.prog 101 #[.pointer (some ⟨B, 0, none⟩)] w fun e w' => e = .returned (.string (str (decD t))) ∧ Below w.heap.size w w' := by
  obtain ⟨g0, g1, g2, g3, g4, g5, g6, g7, g8, g9, g10⟩ := box11 h
  have HU := Lib.hid (uint_dec t hx w hp)
  generalize decD t = res at *
  clear h hx hp
  go_enter Tryz.func101, Tryz.ntmps101
  go_wp2_with fail
  refine HU.out.mono ?_
  rintro e w1 ⟨rfl, hb⟩
  have Hb := Lib.hid hb
  clear hb
  go_wp2
  go_ret
  exact ⟨rfl, Hb.out⟩

set_option maxRecDepth 100000 in
theorem t4_any (hb : ∀ c ∈ nm, c < 256) (hl : nm.length ≤ 9223372036854775807) (hlen : (quoteL nm).length ≤ 1000000) (hp : Pow10 w) (ht : Tab16 w) (h : w.heap[B]? = some (.cells (evC k id n t nm tx v.kind v.n v.f v.s a v.l.length cap) 45 (0, 0))) :
    Calls Tryz.prog 102 #[.pointer (some ⟨B, 0, none⟩)] w fun e w' => e = .returned (.string (str (quoteL nm))) ∧ Below w.heap.size w w' := by
  obtain ⟨g0, g1, g2, g3, g4, g5, g6, g7, g8, g9, g10⟩ := box11 h
  have HU := Lib.hid (quoted_any nm w hb hl hlen hp ht)
  generalize quoteL nm = res at *
  clear h hb hl hlen hp ht
  go_enter Tryz.func102, Tryz.ntmps102
  go_wp2_with fail
  refine HU.out.mono ?_
  rintro e w1 ⟨rfl, hb⟩
  have Hb := Lib.hid hb
  clear hb
  go_wp2
  go_ret
  exact ⟨rfl, Hb.out⟩

set_option maxRecDepth 100000 in
theorem t5_any (hb : ∀ c ∈ tx, c < 256) (hl : tx.length ≤ 9223372036854775807) (hlen : (quoteL tx).length ≤ 1000000) (hp : Pow10 w) (ht : Tab16 w) (h : w.heap[B]? = some (.cells (evC k id n t nm tx v.kind v.n v.f v.s a v.l.length cap) 45 (0, 0))) :
    Calls Tryz.prog 104 #[.pointer (some ⟨B, 0, none⟩)] w fun e w' => e = .returned (.string (str (quoteL tx))) ∧ Below w.heap.size w w' := by
  obtain ⟨g0, g1, g2, g3, g4, g5, g6, g7, g8, g9, g10⟩ := box11 h
  have HU := Lib.hid (quoted_any tx w hb hl hlen hp ht)
  generalize quoteL tx = res at *
  clear h hb hl hlen hp ht
  go_enter Tryz.func104, Tryz.ntmps104
  go_wp2_with fail
  refine HU.out.mono ?_
  rintro e w1 ⟨rfl, hb⟩
  have Hb := Lib.hid hb
  clear hb
  go_wp2
  go_ret
  exact ⟨rfl, Hb.out⟩

set_option maxRecDepth 100000 in
theorem t6_any (q : Nat) (hq : q ≤ 1000) (hs : smallN q v = true) (hlen : (textB v).length ≤ 1000000) (hp : Pow10 w) (ht : Tab16 w) (hv : VIn w v (cells5 v.kind v.n v.f v.s a v.l.length cap)) (h : w.heap[B]? = some (.cells (evC k id n t nm tx v.kind v.n v.f v.s a v.l.length cap) 45 (0, 0))) :
    Calls Tryz.prog 105 #[.pointer (some ⟨B, 0, none⟩)] w fun e w' => e = .returned (.string (str (textB v))) ∧ Below w.heap.size w w' := by
  obtain ⟨g0, g1, g2, g3, g4, g5, g6, g7, g8, g9, g10⟩ := box11 h
  have HU := Lib.hid (vText_any q hq v _ w hs hv hlen hp ht)
  unfold cells5 at HU
  generalize textB v = res at *
  clear h hq hs hlen hp ht hv
  go_enter Tryz.func105, Tryz.ntmps105
  go_wp2_with fail
  refine HU.out.mono ?_
  rintro e w1 ⟨rfl, hb⟩
  have Hb := Lib.hid hb
  clear hb
  go_wp2
  go_ret
  exact ⟨rfl, Hb.out⟩

end
end Go.Proofs.YtcapbaocchaenaaGreatDoor

