/- What play holds amid a round. No condition. -/
import Derived.Test.YthidinaflaogfaaWhSame
import Derived.Test.YthidinaflaogfaaOpenOps16
import Derived.Test.YthidinaflaogfaaWheelFar
namespace Go.Proofs.Ythidinaflaogfaa
open Go.RowKit

/-- A wheel, the reference's in box B, the result's box R, the operation's box Bo. -/
structure PlayP (w0 : World) (d B R Bo : Nat) (k : Int) (i a n1 : Nat) (T1 : List It) (n2 : Nat) (T2 : List It) (X : Nat → Prop) (wr : World) : Prop where
  lp : LawP w0 d B n1 T1 n2 T2 X wr
  xr : X R ∧ R ≠ B
  hr : wr.heap[R]? = some (.cells #[.int .u64 0, .slice none 0 0] 29 (0, 0))
  xo : X Bo ∧ Bo ≠ B
  ho : wr.heap[Bo]? = some (.cells #[.int .i64 k, .int .u64 (i : Int), .int .u64 (a : Int)] 68 (0, 0))

theorem cells_of3 {w : World} {g : Nat} {a b c : Value} {ty : TypeId} (hg : w.heap[g]? = some (.cells #[a, b, c] ty (0, 0))) : w.cell? ⟨g, 0, none⟩ = some a ∧ w.cell? ⟨g, 1, none⟩ = some b ∧ w.cell? ⟨g, 2, none⟩ = some c := by
  refine ⟨?_, ?_, ?_⟩ <;> (rw [cell_of_row _ _ _ _ _ (0, 0) hg]; rfl)

section
variable {w0 : World} {d B R Bo : Nat} {k : Int} {i a n1 : Nat} {T1 : List It} {n2 : Nat} {T2 : List It} {X : Nat → Prop} {wr : World}

theorem PlayP.turned (h : PlayP w0 d B R Bo k i a n1 T1 n2 T2 X wr) {w' : World} (hb : Below wr.heap.size wr w') : PlayP w0 d B R Bo k i a n1 T1 n2 T2 X w' :=
  ⟨h.lp.turned hb, h.xr, (hb.block R (h.lp.wh.xb R h.xr.1)).trans h.hr, h.xo, (hb.block Bo (h.lp.wh.xb Bo h.xo.1)).trans h.ho⟩

theorem PlayP.wheel (h : PlayP w0 d B R Bo k i a n1 T1 n2 T2 X wr) {n1' : Nat} {T1' : List It} {w' : World} (hE : WhSEnd w0 X wr d n1' T1' w') : PlayP w0 d B R Bo k i a n1' T1' n2 T2 X w' :=
  ⟨h.lp.wheel hE, h.xr, (hE.keep R h.xr.1).trans h.hr, h.xo, (hE.keep Bo h.xo.1).trans h.ho⟩

theorem PlayP.aside (h : PlayP w0 d B R Bo k i a n1 T1 n2 T2 X wr) {Z : Nat → Prop} {w' : World} {n1' : Nat} {T1' : List It} (hw : WhS w0 Z w' d n1' T1') (hXZ : ∀ b, X b → Z b) (hk : ∀ b, X b → w'.heap[b]? = wr.heap[b]?) (hs : wr.heap.size ≤ w'.heap.size) : PlayP w0 d B R Bo k i a n1' T1' n2 T2 Z w' :=
  ⟨h.lp.aside hw hXZ hk hs, ⟨hXZ R h.xr.1, h.xr.2⟩, (hk R h.xr.1).trans h.hr, ⟨hXZ Bo h.xo.1, h.xo.2⟩, (hk Bo h.xo.1).trans h.ho⟩

theorem PlayP.got (h : PlayP w0 d B R Bo k i a n1 T1 n2 T2 X wr) {w' : World} (hb : Below wr.heap.size wr w') {n2' : Nat} {T2' : List It} {v : Value} (hv : RefV (fun b => (X b ∧ b ≠ B) ∨ wr.heap.size ≤ b) w' n2' T2' v) :
    ∃ p c Z, v = .agg #[.int .u64 (n2' : Int), .slice p T2'.length c] ∧ (∀ b, X b → Z b) ∧ PlayP w0 d B R Bo k i a n1 T1 n2 T2 Z w' ∧ RowAt (fun b => Z b ∧ b ≠ B) w' p T2'.length c T2' := by
  obtain ⟨p, c, Z, e, hXZ, h1, h2⟩ := h.lp.got hb hv
  exact ⟨p, c, Z, e, hXZ, ⟨h1, ⟨hXZ R h.xr.1, h.xr.2⟩, (hb.block R (h.lp.wh.xb R h.xr.1)).trans h.hr, ⟨hXZ Bo h.xo.1, h.xo.2⟩, (hb.block Bo (h.lp.wh.xb Bo h.xo.1)).trans h.ho⟩, h2⟩

theorem PlayP.store (h : PlayP w0 d B R Bo k i a n1 T1 n2 T2 X wr) {n2' : Nat} {T2' : List It} {p : Option Addr} {c : Nat} (hR : RowAt (fun b => X b ∧ b ≠ B) wr p T2'.length c T2') :
    PlayP w0 d B R Bo k i a n1 T1 n2' T2' X ((wr.setCell ⟨B, 0, none⟩ (.int .u64 (n2' : Int))).setCell ⟨B, 1, none⟩ (.slice p T2'.length c)) := by
  have hoth : ∀ b, b ≠ B → ((wr.setCell ⟨B, 0, none⟩ (.int .u64 (n2' : Int))).setCell ⟨B, 1, none⟩ (.slice p T2'.length c)).heap[b]? = wr.heap[b]? := fun b hb => by
    rw [heap_setCell_other _ _ _ _ hb, heap_setCell_other _ _ _ _ hb]
  exact ⟨h.lp.store hR, h.xr, (hoth R h.xr.2).trans h.hr, h.xo, (hoth Bo h.xo.2).trans h.ho⟩

/-- The operation's box is new. -/
theorem PlayP.start (h : LawP w0 d B n1 T1 n2 T2 X wr) (hx : X R ∧ R ≠ B) (hr : wr.heap[R]? = some (.cells #[.int .u64 0, .slice none 0 0] 29 (0, 0))) :
    ∃ Z, PlayP w0 d B R wr.heap.size k i a n1 T1 n2 T2 Z (wr.alloc (.cells #[.int .i64 k, .int .u64 (i : Int), .int .u64 (a : Int)] 68)) := by
  have hb : Below wr.heap.size wr (wr.alloc (.cells #[.int .i64 k, .int .u64 (i : Int), .int .u64 (a : Int)] 68)) := (Below.refl _ _).alloc (Nat.le_refl _) _
  have hB := h.wh.xb B h.bx
  have h1 := h.wh.swap (Y := fun b => X b ∨ b = wr.heap.size) hb (fun b hb' => by
    rcases hb' with hb' | rfl
    · exact ⟨.inl hb', Nat.lt_of_lt_of_le (h.wh.xb b hb') hb.size⟩
    · exact ⟨.inr (Nat.le_refl _), by simp⟩)
  exact ⟨_, h.aside h1 (fun b e => .inl e) (fun b e => hb.block b (h.wh.xb b e)) hb.size, ⟨.inl hx.1, hx.2⟩, (hb.block R (h.wh.xb R hx.1)).trans hr, ⟨.inr rfl, by omega⟩, heap_alloc_new _ _⟩

/-- A round's end: what the wheel returned (p), and the reference (pp), is D. -/
structure PlayE (w0 : World) (d B R Bo : Nat) (k : Int) (i a nw : Nat) (T : List It) (pB : Option Addr) (cB : Nat) (D : List It) (p : Option Addr) (ND c : Nat) (pp : Option Addr) (cc : Nat) (X : Nat → Prop) (wr : World) : Prop where
  pl : PlayP w0 d B R Bo k i a nw T nw T X wr
  box : wr.heap[B]? = some (.cells #[.int .u64 (nw : Int), .slice pB T.length cB] 29 (0, 0))
  row : RowAt (fun b => X b ∧ b ≠ B) wr pB T.length cB T
  got : Items wr p ND c D
  gotx : ∀ b o, p = some ⟨b, o, none⟩ → X b
  want : Items wr pp ND cc D
  wantx : ∀ b o, pp = some ⟨b, o, none⟩ → X b

variable {nw : Nat} {T : List It} {pB : Option Addr} {cB : Nat} {D : List It} {p : Option Addr} {ND c : Nat} {pp : Option Addr} {cc : Nat}

/-- A round's end: the box is written. -/
theorem PlayP.done (h : PlayP w0 d B R Bo k i a nw T n2 T2 X wr) (hR : RowAt (fun b => X b ∧ b ≠ B) wr pB T.length cB T) (hg : Items wr p ND c D) (hgx : ∀ b o, p = some ⟨b, o, none⟩ → X b ∧ b ≠ B) (hw : Items wr pp ND cc D) (hwx : ∀ b o, pp = some ⟨b, o, none⟩ → X b ∧ b ≠ B) :
    PlayE w0 d B R Bo k i a nw T pB cB D p ND c pp cc X ((wr.setCell ⟨B, 0, none⟩ (.int .u64 (nw : Int))).setCell ⟨B, 1, none⟩ (.slice pB T.length cB)) := by
  have hoth : ∀ b, b ≠ B → ((wr.setCell ⟨B, 0, none⟩ (.int .u64 (nw : Int))).setCell ⟨B, 1, none⟩ (.slice pB T.length cB)).heap[b]? = wr.heap[b]? := fun b hb => by
    rw [heap_setCell_other _ _ _ _ hb, heap_setCell_other _ _ _ _ hb]
  have hsz : ((wr.setCell ⟨B, 0, none⟩ (.int .u64 (nw : Int))).setCell ⟨B, 1, none⟩ (.slice pB T.length cB)).heap.size = wr.heap.size := by simp [World.setCell]
  obtain ⟨p0, c0, h4, _⟩ := h.lp.box
  exact ⟨h.store hR, put2 h4, hR.kept (fun b e => hoth b e.2) (by rw [hsz]; exact Nat.le_refl _), items_same hg (fun b o e => hoth b (hgx b o e).2), fun b o e => (hgx b o e).1, items_same hw (fun b o e => hoth b (hwx b o e).2), fun b o e => (hwx b o e).1⟩

/-- What Advance of the wheel does. -/
theorem PlayP.adv {n1 : Nat} {T1 : List It} {n2 : Nat} {T2 : List It} (h : PlayP w0 d B R Bo k i a n1 T1 n2 T2 X wr) (hl : T1.length ≤ 990) (now' : Nat) (hn : now' < 18446744073709551616) {n1' : Nat} {T1' : List It} {cd : Int} (hc : advC n1 now' = cd) (hD : advD n1 now' T1 = D) (hT : advT n1 now' T1 = T1') (hw : advN n1 now' = n1') :
    Calls Try.prog 14 #[.pointer (some ⟨d, 0, none⟩), .int .u64 (now' : Int)] wr fun r w' => ∃ p c Z, r = .returned (.tuple #[.slice p D.length c, .int .i64 cd]) ∧ Items w' p D.length c D ∧ (∀ b o, p = some ⟨b, o, none⟩ → Z b ∧ b ≠ B) ∧ PlayP w0 d B R Bo k i a n1' T1' n2 T2 Z w' := by
  refine (wadv_any h.lp.wh hl now' hn).mono ?_
  rintro r w' ⟨u, rfl, hr, hS, hk, hb⟩
  rw [hc, hD, hT, hw] at *
  obtain ⟨p, c, rfl, hI⟩ := OwnL.items hr rfl
  have hB := h.lp.wh.xb B h.lp.bx
  refine ⟨p, c, _, rfl, hI, fun b o e => ⟨.inr (by rw [e]; rfl), ?_⟩, h.aside hS (fun b hx => .inl hx) hk hb.size⟩
  have h5 := (World.ownsRow.lt hr b (by rw [e]; rfl)).1
  omega

theorem PlayE.turned (h : PlayE w0 d B R Bo k i a nw T pB cB D p ND c pp cc X wr) {w' : World} (hb : Below wr.heap.size wr w') : PlayE w0 d B R Bo k i a nw T pB cB D p ND c pp cc X w' :=
  ⟨h.pl.turned hb, (hb.block B (Array.getElem?_eq_some_iff.1 h.box).1).trans h.box, h.row.below hb, h.got.below hb, h.gotx, h.want.below hb, h.wantx⟩

theorem PlayE.wheel (h : PlayE w0 d B R Bo k i a nw T pB cB D p ND c pp cc X wr) {w' : World} (hE : WhSEnd w0 X wr d nw T w') : PlayE w0 d B R Bo k i a nw T pB cB D p ND c pp cc X w' :=
  ⟨h.pl.wheel hE, (hE.keep B h.pl.lp.bx).trans h.box, h.row.kept (fun b e => hE.keep b e.1) hE.below.size, items_same h.got (fun b o e => hE.keep b (h.gotx b o e)), h.gotx, items_same h.want (fun b o e => hE.keep b (h.wantx b o e)), h.wantx⟩

theorem PlayE.drew (h : PlayE w0 d B R Bo k i a nw T pB cB D p ND c pp cc X wr) : PlayE w0 d B R Bo k i a nw T pB cB D p ND c pp cc X wr.drew := h.turned (Below.refl _ _).drew

/-- What play holds between two rounds. -/
def PlayJ (w0 : World) (d B R j : Nat) (wr : World) : Prop := ∃ nw T X, LawP w0 d B nw T nw T X wr ∧ TimW T ∧ T.length ≤ j ∧ (X R ∧ R ≠ B) ∧ wr.heap[R]? = some (.cells #[.int .u64 0, .slice none 0 0] 29 (0, 0))

/-- The calls of the round's last line, whatever the memory in which they come, as long as it holds Q. -/
theorem PlayE.kit {w7 : World} {j : Nat} {b : Bool} (h : PlayE w0 d B R Bo k i a nw T pB cB D p ND c pp cc X w7) (hT : TimW T) (hTl : T.length ≤ j + 1) (hj : j ≤ 100) (hND : ND ≤ 1000) (hi : i < 18446744073709551616) (hb : hasW T i = b) :
    ∃ Q : World → Prop, Q w7 ∧ (∀ W, Q W → Q W.drew) ∧ (∀ W, Q W → W.cell? ⟨B, 0, none⟩ = some (.int .u64 (nw : Int)) ∧ W.cell? ⟨B, 1, none⟩ = some (.slice pB T.length cB) ∧ W.cell? ⟨Bo, 1, none⟩ = some (.int .u64 (i : Int))) ∧
      (∀ W, Q W → Calls Try.prog 22 #[.slice p ND c] W fun r w' => ∃ q cq, r = .returned (.slice q ND cq) ∧ Items w' q ND cq D ∧ Q w') ∧
      (∀ W q cq, Q W → Items W q ND cq D → Calls Try.prog 21 #[.slice q ND cq, .slice pp ND cc] W fun r w' => r = .returned (.bool true) ∧ Q w') ∧
      (∀ W, Q W → Calls Try.prog 28 #[.pointer (some ⟨d, 0, none⟩), .agg #[.int .u64 (nw : Int), .slice pB T.length cB]] W fun r w' => r = .returned (.bool true) ∧ Q w') ∧
      (∀ W, Q W → Calls Try.prog 25 #[.pointer (some ⟨d, 0, none⟩), .int .u64 (i : Int)] W fun r w' => r = .returned (.bool b) ∧ Q w') ∧
      (∀ W, Q W → Calls Try.prog 29 #[.agg #[.int .u64 (nw : Int), .slice pB T.length cB], .int .u64 (i : Int)] W fun r w' => ∃ x, r = .returned (.int .i64 x) ∧ (0 ≤ x ↔ b = true) ∧ Q w') ∧
      ∀ W, Q W → PlayJ w0 d B R (j + 1) W := by
  refine ⟨PlayE w0 d B R Bo k i a nw T pB cB D p ND c pp cc X, h, fun W h => h.drew, fun W h => ⟨(cells_of2 h.box).1, (cells_of2 h.box).2.1, (cells_of3 h.pl.ho).2.1⟩, fun W h => ?_, fun W q cq h hI => ?_, fun W h => ?_, fun W h => ?_, fun W h => ?_, fun W h => ⟨nw, T, X, h.pl.lp, hT, hTl, h.pl.xr, h.pl.hr⟩⟩
  · refine (back_any p ND c D W h.got hND).mono ?_
    rintro r w' ⟨v, rfl, hown, hbl⟩
    obtain ⟨q, cq, rfl, hI⟩ := OwnI.items hown h.got.len
    exact ⟨q, cq, rfl, hI, h.turned hbl⟩
  · refine (equal_any q pp ND ND cq cc D D W hI h.want).mono ?_
    rintro r w' ⟨e, hbl⟩
    exact ⟨by rw [e, decide_eq_true rfl], h.turned hbl⟩
  · refine (same16_any h.pl.lp.wh h.row (fun b e => e.1) (by omega)).mono ?_
    rintro r w' ⟨e, hE⟩
    exact ⟨e, h.wheel hE⟩
  · obtain ⟨L, h1, _⟩ := h.pl.lp.wh
    refine (whas_any h1 i hi).mono ?_
    rintro r w' ⟨e, rfl⟩
    exact ⟨by rw [e, hb], h⟩
  · refine (rfind16_any nw i pB T.length cB T W h.row.items).mono ?_
    rintro r w' ⟨x, e, hx, hbl⟩
    exact ⟨x, e, by rw [hx.has, hb], h.turned hbl⟩
end
end Go.Proofs.Ythidinaflaogfaa
