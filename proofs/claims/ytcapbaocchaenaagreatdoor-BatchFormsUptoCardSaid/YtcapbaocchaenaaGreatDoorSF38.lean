import Derived.Test.YtcapbaocchaenaaGreatDoorSF35
import Derived.Test.YtcapbaocchaenaaGreatDoorSF30
import Derived.Test.YtcapbaocchaenaaGreatDoorSF37
import Derived.Deep.AppendLies
import Derived.WalkMore
/- The walk of the code's Parse of a batch, whatever the bytes. -/
namespace Go.Proofs.YtcapbaocchaenaaGreatDoor
open Go.RowKit Go.Shelf Fl

/-- The cells of the batch that is zero. -/
abbrev btZ : Array Value := #[.string ⟨#[]⟩, .int .u64 0, .slice none 0 0]
/-- What Parse answers. -/
def BParseEnd (w : World) (l : List Nat) (r : Ending) (w' : World) : Prop := Below w.heap.size w w' ∧
  ((∃ t x, r = .returned (.tuple #[.agg x, .bool true]) ∧ IsB l t ∧ BtIn w' t x) ∨ (NoB l ∧ r = .returned (.tuple #[.agg btZ, .bool false])))

theorem info_event : (Tryz.prog.info? 45).map (fun i => (i.zero, i.size, i.bytes)) = some (some (.agg #[.int .i64 0, .int .u64 0, .int .i64 0, .int .u64 0, .string ByteArray.empty, .string ByteArray.empty, .int .i64 0, .int .i64 0, .float .f64 0, .string ByteArray.empty, .slice none 0 0]), 11, 128) := by kernel_rfl

/-- The two boxes of Parse: its result's, and that of the batch that is found. -/
structure PH (w wr : World) (u v x : Value) : Prop where
  res : wr.heap[w.heap.size]? = some (.cells btZ 25 (0, 0))
  box : wr.heap[w.heap.size + 1]? = some (.cells #[u, v, x] 25 (0, 0))
  below : Below w.heap.size w wr

section
variable {w wr w' : World} {u v x : Value}
theorem PH.lt (h : PH w wr u v x) : w.heap.size + 1 < wr.heap.size := (Array.getElem?_eq_some_iff.1 h.box).1
theorem PH.turn (h : PH w wr u v x) {row : Option Nat} (hg : wr.grownBy w' row) (hr : ∀ k, row = some k → w.heap.size + 2 ≤ k) : PH w w' u v x :=
  ⟨(hg.block _ (Array.getElem?_eq_some_iff.1 h.res).1 (fun e => by have := hr _ e.symm; omega)).trans h.res, (hg.block _ h.lt (fun e => by have := hr _ e.symm; omega)).trans h.box, h.below.grown hg h.below.size (fun k hk => by have := hr k hk; omega)⟩
theorem PH.grow (h : PH w wr u v x) (hb : Below wr.heap.size wr w') : PH w w' u v x :=
  ⟨(hb.block _ (Array.getElem?_eq_some_iff.1 h.res).1).trans h.res, (hb.block _ h.lt).trans h.box, h.below.trans (hb.mono h.below.size)⟩
theorem PH.set0 (h : PH w wr u v x) (y : Value) : PH w (wr.setCell ⟨w.heap.size + 1, 0, none⟩ y) y v x :=
  ⟨by rw [show (wr.setCell ⟨w.heap.size + 1, 0, none⟩ y).heap[w.heap.size]? = wr.heap[w.heap.size]? by simp [World.setCell, Array.getElem?_modify]]; exact h.res, set_headE h.box (i := 0) y, h.below.setCell (by show w.heap.size ≤ w.heap.size + 1; omega) _⟩
theorem PH.set1 (h : PH w wr u v x) (y : Value) : PH w (wr.setCell ⟨w.heap.size + 1, 1, none⟩ y) u y x :=
  ⟨by rw [show (wr.setCell ⟨w.heap.size + 1, 1, none⟩ y).heap[w.heap.size]? = wr.heap[w.heap.size]? by simp [World.setCell, Array.getElem?_modify]]; exact h.res, set_headE h.box (i := 1) y, h.below.setCell (by show w.heap.size ≤ w.heap.size + 1; omega) _⟩
theorem PH.set2 (h : PH w wr u v x) (y : Value) : PH w (wr.setCell ⟨w.heap.size + 1, 2, none⟩ y) u v y :=
  ⟨by rw [show (wr.setCell ⟨w.heap.size + 1, 2, none⟩ y).heap[w.heap.size]? = wr.heap[w.heap.size]? by simp [World.setCell, Array.getElem?_modify]]; exact h.res, set_headE h.box (i := 2) y, h.below.setCell (by show w.heap.size ≤ w.heap.size + 1; omega) _⟩
/-- The result's box filled. -/
theorem PH.fill (h : PH w wr u v x) (y0 y1 y2 : Value) : (((wr.setCell ⟨w.heap.size, 0, none⟩ y0).setCell ⟨w.heap.size, 1, none⟩ y1).setCell ⟨w.heap.size, 2, none⟩ y2).heap[w.heap.size]? = some (.cells #[y0, y1, y2] 25 (0, 0)) ∧
    Below w.heap.size w (((wr.setCell ⟨w.heap.size, 0, none⟩ y0).setCell ⟨w.heap.size, 1, none⟩ y1).setCell ⟨w.heap.size, 2, none⟩ y2) ∧
    ∀ b, b ≠ w.heap.size → (((wr.setCell ⟨w.heap.size, 0, none⟩ y0).setCell ⟨w.heap.size, 1, none⟩ y1).setCell ⟨w.heap.size, 2, none⟩ y2).heap[b]? = wr.heap[b]? :=
  ⟨set_headE (i := 2) (set_headE (i := 1) (set_headE (i := 0) h.res y0) y1) y2, ((h.below.setCell (p := ⟨w.heap.size, 0, none⟩) (Nat.le_refl _) _).setCell (p := ⟨w.heap.size, 1, none⟩) (Nat.le_refl _) _).setCell (p := ⟨w.heap.size, 2, none⟩) (Nat.le_refl _) _,
    fun b hb => by simp [World.setCell, Array.getElem?_modify, Ne.symm hb]⟩
theorem PH.new (w : World) : PH w ((w.alloc (.cells btZ 25)).alloc (.cells btZ 25)) (.string ⟨#[]⟩) (.int .u64 0) (.slice none 0 0) :=
  ⟨((Below.refl _ (w.alloc (.cells btZ 25))).alloc (Nat.le_refl _) _).block _ (by simp) |>.trans (heap_alloc_new _ _), by have := heap_alloc_new (w.alloc (.cells btZ 25)) (.cells btZ 25); rw [World.size_alloc] at this; exact this, ((Below.refl w.heap.size w).alloc (Nat.le_refl _) _).alloc (by simp) _⟩
end

set_option maxRecDepth 100000 in
set_option maxHeartbeats 12800000 in
theorem bparse_any (a : Option Addr) (n cap : Nat) (l : List Nat) (w : World) (hl : Bytes w a n cap l) (hn : n ≤ 100000000000) :
    Calls Tryz.prog 13 #[.slice a n cap] w (BParseEnd w l) := by
  obtain ⟨s, l1, ok1, h1⟩ : ∃ s l1 ok1, readB l true = (s, l1, ok1) := ⟨_, _, _, rfl⟩
  obtain ⟨at_, l2, ok2, h2⟩ : ∃ at_ l2 ok2, readN l1 ok1 = (at_, l2, ok2) := ⟨_, _, _, rfl⟩
  obtain ⟨m, l3, ok3, h3⟩ : ∃ m l3 ok3, readN l2 ok2 = (m, l3, ok3) := ⟨_, _, _, rfl⟩
  obtain ⟨hs, ham, hl3, hhead⟩ := head_read hl.byte h1 h2 h3
  have hlen := hl.len
  have HP0 := Lib.hid (PH.new w)
  have HN := Lib.hid (new_k2 a n cap l _ (hl.grow (((Below.refl w.heap.size w).alloc (Nat.le_refl _) (.cells btZ 25)).alloc (by simp) (.cells btZ 25))) (by omega))
  have HT := Lib.hid (fun K g W (h : RdK K W g l true) => mTextK (K := K) _ g _ true W W (orNone_some g W) h)
  have HU1 := Lib.hid (fun K g W (h : RdK K W g l1 ok1) => mUintK (K := K) _ g _ ok1 W W (orNone_some g W) h)
  have HU2 := Lib.hid (fun K g W (h : RdK K W g l2 ok2) => mUintK (K := K) _ g _ ok2 W W (orNone_some g W) h)
  rw [h1] at HT
  rw [h2] at HU1
  rw [h3] at HU2
  have Hs := Lib.hid hs
  have Ham := Lib.hid ham
  have Hhead := Lib.hid hhead
  have Hl3 := Lib.hid (show l3.length ≤ 100000000000 by omega)
  have Hln := Lib.hid (show l.length ≤ 100000000000 by omega)
  clear h1 h2 h3 hl hs ham hhead hl3 hlen
  go_enter Tryz.func13, Tryz.ntmps13
  go_wp2
  go_step3
  go_wp2_with fail
  refine HN.out.mono ?_
  rintro r w3 ⟨g, rfl, hg, hR, hb3⟩
  have hsz : ((w.alloc (.cells btZ 25)).alloc (.cells btZ 25)).heap.size = w.heap.size + 2 := by simp
  rw [hsz] at hg hR
  obtain ⟨K, hK⟩ : ∃ K : Nat → Prop, K = fun b => w.heap.size + 2 ≤ b ∧ b < w3.heap.size ∧ b ≠ g := ⟨_, rfl⟩
  rw [← hK] at hR
  have HK := Lib.hid (show ∀ b, K b → w.heap.size + 2 ≤ b ∧ b < w3.heap.size ∧ b ≠ g from fun b hb => by rw [hK] at hb; exact hb)
  have HP3 := Lib.hid (HP0.out.grow hb3)
  have HR3 := Lib.hid hR
  have Hg := Lib.hid hg
  have hrow : ∀ k, (some g : Option Nat) = some k → w.heap.size + 2 ≤ k := fun k e => by cases e; exact hg.1
  have Hrow := Lib.hid hrow
  clear hK hR hg hb3 hsz hrow HN HP0
  go_wp2_with fail
  refine (HT.out K g _ HR3.out).mono ?_
  rintro r w4 ⟨rfl, h4⟩
  have HP4 := Lib.hid (HP3.out.turn h4.2 Hrow.out)
  have HR4 := Lib.hid h4.1
  have Hz4 := Lib.hid h4.2.size
  have c0 := (box3 HP4.out.box).1
  have z0 := froz HP4.out.box 0
  clear h4 HP3 HR3 HT
  go_wp2_with fail
  have HP5 := Lib.hid (HP4.out.set0 (.string (str s)))
  have HR5 := Lib.hid (HR4.out.setE (i := 0) (show w.heap.size + 1 ≠ g by have := Hg.out; omega) (fun hk => by have := HK.out _ hk; omega) (.string (str s)))
  have Hz5 := Lib.hid (show w3.heap.size ≤ (w4.setCell ⟨w.heap.size + 1, 0, none⟩ (.string (str s))).heap.size by simpa [World.setCell] using Hz4.out)
  clear c0 z0 HP4 HR4 Hz4
  generalize w4.setCell ⟨w.heap.size + 1, 0, none⟩ (.string (str s)) = w5 at *
  refine (HU1.out K g _ HR5.out).mono ?_
  rintro r w6 ⟨rfl, h6⟩
  have HP6 := Lib.hid (HP5.out.turn h6.2 Hrow.out)
  have HR6 := Lib.hid h6.1
  have Hz6 := Lib.hid (Nat.le_trans Hz5.out h6.2.size)
  have c0 := (box3 HP6.out.box).2.1
  have z0 := froz HP6.out.box 1
  clear h6 HP5 HR5 HU1 Hz5
  go_wp2_with fail
  have HP7 := Lib.hid (HP6.out.set1 (.int .u64 (at_ : Int)))
  have HR7 := Lib.hid (HR6.out.setE (i := 1) (show w.heap.size + 1 ≠ g by have := Hg.out; omega) (fun hk => by have := HK.out _ hk; omega) (.int .u64 (at_ : Int)))
  have Hz7 := Lib.hid (show w3.heap.size ≤ (w6.setCell ⟨w.heap.size + 1, 1, none⟩ (.int .u64 (at_ : Int))).heap.size by simpa [World.setCell] using Hz6.out)
  clear c0 z0 HP6 HR6 Hz6
  generalize w6.setCell ⟨w.heap.size + 1, 1, none⟩ (.int .u64 (at_ : Int)) = w7 at *
  refine (HU2.out K g _ HR7.out).mono ?_
  rintro r w8 ⟨rfl, h8⟩
  have HP8 := Lib.hid (HP7.out.turn h8.2 Hrow.out)
  have HR8 := Lib.hid h8.1
  have Hz8 := Lib.hid (Nat.le_trans Hz7.out h8.2.size)
  have hm := Ham.out.2
  clear h8 HP7 HR7 HU2 Hz7
  go_wp2
  go_step3
  go_wp2
  have HB8 := Lib.hid (show g < w8.heap.size ∧ w.heap.size + 2 ≤ w8.heap.size ∧ ∀ b, K b → b < w8.heap.size from ⟨Nat.lt_of_lt_of_le Hg.out.2 Hz8.out, by have := HP8.out.lt; omega, fun b hb => Nat.lt_of_lt_of_le (HK.out b hb).2.1 Hz8.out⟩)
  have hF : w.heap.size + 1 ≠ g ∧ w.heap.size ≠ g := by have := Hg.out; omega
  have HF := Lib.hid hF
  clear hF
  go_loopw [20] (fun i wr => ∃ (j : Nat) (es : List Ev) (lj : List Nat) (v : Value), j ≤ m ∧ i = .int .u64 (j : Int) ∧ es.length = j ∧ OwnEs (fun b => w8.heap.size ≤ b) wr w8.heap.size v es ∧ (∀ e ∈ es, okE e = true ∧ EvB e) ∧ l3 = (es.map formE).flatten ++ lj ∧ PH w wr (.string (str s)) (.int .u64 (at_ : Int)) v ∧ RdK K wr g lj ok3 ∧ w8.heap.size ≤ wr.heap.size) (fun i _ => m - (intOf i).toNat)
  case atStart => exact ⟨0, [], l3, _, Nat.zero_le _, rfl, rfl, OwnEs.nil _ _ _, fun e he => (by cases he), rfl, HP8.out, HR8.out, Nat.le_refl _⟩
  case round =>
    obtain ⟨j, es, lj, v, hj, rfl, hel, hO, hes, hsp, hP, hR, hz⟩ := hrel
    have HO := Lib.hid hO
    have Hes := Lib.hid hes
    have Hsp := Lib.hid hsp
    have HP := Lib.hid hP
    have HR := Lib.hid hR
    have Hz := Lib.hid hz
    have Hel := Lib.hid hel
    have hjl : j ≤ 100000000000 := by
      have h1 := forms_many es
      have h2 := Hl3.out
      rw [hsp, List.length_append] at h2
      omega
    have Hjl := Lib.hid hjl
    clear hO hes hsp hP hR hz hel hjl
    by_cases hlt : j < m
    · have hok3 : ok3 = true := by
        rcases Hhead.out with h | h
        · exact h.1
        · omega
      subst hok3
      have hlj : lj.length ≤ 100000000000 := by
        have h2 := Hl3.out
        rw [Hsp.out, List.length_append] at h2
        omega
      have HE := Lib.hid (evread_any K g lj wr (fun b hb => Nat.lt_of_lt_of_le (HB8.out.2.2 b hb) Hz.out) hlj HR.out)
      have Hlt := Lib.hid hlt
      have hji : (j : Int) < (m : Int) := by omega
      clear hlj hlt
      go_wp2_with fail
      refine HE.out.mono ?_
      rintro r w9 (⟨e, rest, x, rfl, hi, hx, hr9⟩ | ⟨hno, rfl, ls, ok, hr9⟩)
      · have HO9 := Lib.hid (HO.out.keep (fun b hb hlt => hr9.2.block b hlt (fun e => by cases e; have := HB8.out.1; omega)) hr9.2.size)
        have HP9 := Lib.hid (HP.out.turn hr9.2 Hrow.out)
        have HR9 := Lib.hid hr9.1
        have Hz9 := Lib.hid (Nat.le_trans Hz.out hr9.2.size)
        have Hi := Lib.hid hi
        have HX9 := Lib.hid (show EvInP (fun b => w8.heap.size ≤ b ∧ (b < w9.heap.size ∧ wr.heap.size ≤ b)) w9 e x from hx.turn (fun b hb => ⟨Nat.le_trans Hz.out hb.1, hb.2, hb.1⟩) (fun _ _ => rfl))
        obtain ⟨_, _, _, _, _, _, ea, ec, rfl, _⟩ := hx
        have HE10 := Lib.hid (heap_alloc_new w9 (.cells (evC e.k e.id e.n e.t e.nm e.tx e.v.kind e.v.n e.v.f e.v.s ea e.v.l.length ec) 45))
        have HS10 := Lib.hid ((Below.refl w9.heap.size w9).alloc (Nat.le_refl _) (.cells (evC e.k e.id e.n e.t e.nm e.tx e.v.kind e.v.n e.v.f e.v.s ea e.v.l.length ec) 45))
        have hfl : ∀ (w : World) (a : Addr) (m : Mode) (b : Nat), (store a (.float .f64 b) m).run Tryz.prog w = stored Tryz.prog w a (.float .f64 b) m := fun w a m b => run_store Tryz.prog w a _ m rfl
        clear hr9 hi HE
        go_upto_region 10 with fail
        generalize w9.alloc (.cells (evC e.k e.id e.n e.t e.nm e.tx e.v.kind e.v.n e.v.f e.v.s ea e.v.l.length ec) 45) = w10 at *
        have HP10 := Lib.hid (HP9.out.grow HS10.out)
        have HO10 := Lib.hid (HO9.out.below HS10.out)
        have HR10 := Lib.hid (HR9.out.below HS10.out)
        have HX10 := Lib.hid (HX9.out.turn (q' := fun b => w8.heap.size ≤ b ∧ (b < w9.heap.size ∧ wr.heap.size ≤ b)) (fun b hb => hb) (fun b hb => HS10.out.block b hb.2.1))
        have Hz10 := Lib.hid (Nat.le_trans Hz9.out HS10.out.size)
        have Hs10 := Lib.hid HS10.out.size
        have Hvr := Lib.hid (fun k (hk : v.ownBlock = some k) => HO.out.block hk)
        clear HP9 HO9 HR9 HX9 Hz9 HS10
        obtain ⟨g0, g1, g2, g3, g4, g5, g6, g7, g8, g9, g10⟩ := box11 HE10.out
        have c2 := (box3 HP10.out.box).2.2
        have z2 := froz HP10.out.box 2
        have hal : Below w10.heap.size w10 (w10.alloc (.cells #[.int .i64 e.k, .int .u64 (e.id : Int), .int .i64 e.n, .int .u64 (e.t : Int), .string (str e.nm), .string (str e.tx), .int .i64 e.v.kind, .int .i64 e.v.n, .float .f64 e.v.f, .string (str e.v.s), .slice ea e.v.l.length ec] 45)) := (Below.refl _ _).alloc (Nat.le_refl _) _
        have HP11 := Lib.hid (HP10.out.grow hal)
        have HR11 := Lib.hid (HR10.out.below hal)
        have Hz11 := Lib.hid (Nat.le_trans Hz10.out hal.size)
        obtain ⟨cs, hcl, hrow, hel⟩ := HO10.out.below hal
        have hu := HX10.out.turn (w' := w10.alloc (.cells #[.int .i64 e.k, .int .u64 (e.id : Int), .int .i64 e.n, .int .u64 (e.t : Int), .string (str e.nm), .string (str e.tx), .int .i64 e.v.kind, .int .i64 e.v.n, .float .f64 e.v.f, .string (str e.v.s), .slice ea e.v.l.length ec] 45)) (q' := fun b => (w8.heap.size ≤ b ∧ some b ≠ v.ownBlock) ∧ b < (w10.alloc (.cells #[.int .i64 e.k, .int .u64 (e.id : Int), .int .i64 e.n, .int .u64 (e.t : Int), .string (str e.nm), .string (str e.tx), .int .i64 e.v.kind, .int .i64 e.v.n, .float .f64 e.v.f, .string (str e.v.s), .slice ea e.v.l.length ec] 45)).heap.size) (fun b hb => ⟨⟨hb.1, fun h => by have := (Hvr.out b h.symm).2; omega⟩, by have := hal.size; have := Hs10.out; omega⟩) (fun b hb => hal.block b (by have := Hs10.out; omega))
        have Hcl := Lib.hid hcl
        have HRw := Lib.hid hrow
        have Hcs := Lib.hid hel
        have Hu := Lib.hid hu
        clear hal hcl hrow hel hu
        obtain ⟨i0, hi, hz0, hz1, hz2⟩ := info_parts info_event
        go_wp2_with (at_builtin; refine wpList_append_lies _ rfl _ _ 23 rfl w8.heap.size 45 i0 _ 11 128 Tryz.underlying23 hi hz0 hz1 hz2 rfl (by decide) v es.length _ rfl HRw.out ⟨w10.heap.size, 0, none⟩ 1 1 [.int .i64 e.k, .int .u64 (e.id : Int), .int .i64 e.n, .int .u64 (e.t : Int), .string (str e.nm), .string (str e.tx), .int .i64 e.v.kind, .int .i64 e.v.n, .float .f64 e.v.f, .string (str e.v.s), .slice ea e.v.l.length ec] rfl rfl (World.news_of_block (heap_alloc_new w10 _)) (by simp [Value.oneCell']) (by decide) (by have := Hjl.out; have := Hel.out; rw [maxLen_nat]; omega) (by have := Hjl.out; have := Hel.out; omega) Hz11.out _ rfl ?_; intro gg cap4 w12 g1 g2 g3 g4; have HO12 := Lib.hid (OwnEs.snoc Hcl.out Hcs.out Hu.out g1 g2 (g3.imp (fun e => e.symm) (fun e => by rw [e]; rfl))); have HG12 := Lib.hid g2; have HP12 := Lib.hid (HP11.out.turn g2 (fun k hk => by have := (Hvr.out k hk).1; have := HB8.out.2.1; omega)); have c2 := (box3 HP12.out.box).2.2; have z2 := froz HP12.out.box 2; clear g1 g2 g3)
        have hne : ∀ b, w8.heap.size ≤ b → (w12.setCell ⟨w.heap.size + 1, 2, none⟩ (.slice (some ⟨gg, 0, none⟩) (es.length + 1) cap4)).heap[b]? = w12.heap[b]? := fun b hb => by
          have h1 := HB8.out.2.1
          simp [World.setCell, Array.getElem?_modify, show w.heap.size + 1 ≠ b by omega]
        have hR12 := HR11.out.keep (w' := w12) (HG12.out.block g (Nat.lt_of_lt_of_le HB8.out.1 Hz11.out) (fun h => by have := (Hvr.out g h.symm).1; have := HB8.out.1; omega)) (fun b hb hk => HG12.out.block b hb (fun h => by have := (Hvr.out b h.symm).1; have := HB8.out.2.2 b hk; omega))
        go_roundw
        case rel => exact ⟨j + 1, es ++ [e], rest, _, Hlt.out, by go_num, by rw [List.length_append, Hel.out]; rfl, HO12.out.keep (fun b hb _ => hne b (hb.elim id id)) (by simp [World.setCell]), (fun x hx => by
          rcases List.mem_append.1 hx with h | h
          · exact Hes.out x h
          · have e' : x = e := by simpa using h
            rw [e']; exact ⟨Hi.out.1, Hi.out.2.1⟩), by rw [List.map_append, List.flatten_append, List.append_assoc, List.map_cons, List.map_nil, List.flatten_cons, List.flatten_nil, List.append_nil, ← Hi.out.2.2]; exact Hsp.out, HP12.out.set2 _, hR12.setE (show w.heap.size + 1 ≠ g from HF.out.1) (fun hk => by have := (HK.out _ hk).1; omega) _, by have h1 := HG12.out.size; have h2 := Hz11.out; show w8.heap.size ≤ (w12.setCell _ _).heap.size; simp only [World.setCell, Array.size_modify]; omega⟩
        case measure => simp [intOf]; have := Hlt.out; omega
      · have HNo := Lib.hid (show NoB l from by
          rcases Hhead.out with ⟨_, h1, h2⟩ | h
          · rw [h2]
            exact noB_event h1 Ham.out.1 Ham.out.2 Hes.out Hsp.out (by rw [Hel.out]; exact Hlt.out) hno
          · cases h.1)
        have HO9 := Lib.hid (HO.out.keep (fun b hb hlt => hr9.2.block b hlt (fun e => by cases e; have := HB8.out.1; omega)) hr9.2.size)
        have HP9 := Lib.hid (HP.out.turn hr9.2 Hrow.out)
        have HS10 := Lib.hid ((Below.refl w9.heap.size w9).alloc (Nat.le_refl _) (.cells evZ 45))
        have hfl : ∀ (w : World) (a : Addr) (m : Mode) (b : Nat), (store a (.float .f64 b) m).run Tryz.prog w = stored Tryz.prog w a (.float .f64 b) m := fun w a m b => run_store Tryz.prog w a _ m rfl
        clear hr9 hno HE
        go_upto_region 12 with fail
        generalize w9.alloc (.cells evZ 45) = w10 at *
        have HP10 := Lib.hid (HP9.out.grow HS10.out)
        obtain ⟨va, vc, rfl, _⟩ := HO9.out.evs
        have hne : ((es.length : Int) != (m : Int)) = true := by rw [bne_iff_ne]; have := Hlt.out; have := Hel.out; omega
        have hwr : IntKind.u64.wrap (es.length : Int) = (es.length : Int) := by rw [IntKind.wrap_u64]; have := Hjl.out; have := Hel.out; omega
        have y2 := (box3 HP10.out.box).2.2
        obtain ⟨c0, c1, c2⟩ := box3 HP10.out.res
        obtain ⟨z0, z1, z2⟩ := And.intro (froz HP10.out.res 0) (And.intro (froz HP10.out.res 1) (froz HP10.out.res 2))
        go_wp2
        obtain ⟨f1, f2, f3⟩ := HP10.out.fill (.string ⟨#[]⟩) (.int .u64 0) (.slice none 0 0)
        clear c0 c1 c2 z0 z1 z2 y2
        generalize World.setCell (World.setCell (World.setCell w10 _ _) _ _) _ _ = wz at *
        obtain ⟨c0, c1, c2⟩ := box3 f1
        show bodyPost _ _ _ Exit.ret _ _
        exact bodyPost_ret (v := .tuple #[.agg btZ, .bool false]) (by simp [results, Tryz.results13, go_sem, *]) rfl ⟨f2, .inr ⟨HNo.out, rfl⟩⟩
    · have hjm : j = m := by omega
      have hem : es.length = m := Hel.out.trans hjm
      have hji : ¬ ((j : Int) < (m : Int)) := by omega
      have hne : ((es.length : Int) != (m : Int)) = false := by rw [bne_eq_false_iff_eq]; omega
      have hwr : IntKind.u64.wrap (es.length : Int) = (es.length : Int) := by rw [IntKind.wrap_u64]; have := Hjl.out; have := Hel.out; omega
      have HD := Lib.hid (mDone g lj ok3 wr HR.out.rd)
      obtain ⟨va, vc, rfl, hE, _⟩ := HO.out.evs
      obtain ⟨y0, y1, y2⟩ := box3 HP.out.box
      have HE := Lib.hid hE
      have Hem := Lib.hid hem
      clear hE hlt hjm hem
      cases hd : doneB lj ok3 with
      | false =>
        have HNo := Lib.hid (show NoB l from by
          rcases Hhead.out with ⟨h0, h1, h2⟩ | ⟨_, _, h⟩
          · rw [h2, ← Hem.out]
            refine noB_left h1 Ham.out.1 (by have := Ham.out.2; have := Hem.out; omega) Hes.out Hsp.out (fun h => ?_)
            rw [h, h0] at hd
            cases hd
          · exact h)
        rw [hd] at HD
        clear hd
        go_wp2_with fail
        refine HD.out.mono ?_
        rintro r w2 ⟨rfl, rfl⟩
        obtain ⟨c0, c1, c2⟩ := box3 HP.out.res
        obtain ⟨z0, z1, z2⟩ := And.intro (froz HP.out.res 0) (And.intro (froz HP.out.res 1) (froz HP.out.res 2))
        clear HD
        go_wp2
        obtain ⟨f1, f2, f3⟩ := HP.out.fill (.string ⟨#[]⟩) (.int .u64 0) (.slice none 0 0)
        clear c0 c1 c2 z0 z1 z2 y0 y1 y2
        generalize World.setCell (World.setCell (World.setCell wr _ _) _ _) _ _ = wz at *
        obtain ⟨c0, c1, c2⟩ := box3 f1
        show bodyPost _ _ _ Exit.ret _ _
        exact bodyPost_ret (v := .tuple #[.agg btZ, .bool false]) (by simp [results, Tryz.results13, go_sem, *]) rfl ⟨f2, .inr ⟨HNo.out, rfl⟩⟩
      | true =>
        obtain ⟨hok3, hl0⟩ : ok3 = true ∧ lj = [] := by
          unfold doneB at hd
          rw [Bool.and_eq_true, decide_eq_true_eq] at hd
          exact ⟨hd.1, List.length_eq_zero_iff.1 hd.2⟩
        obtain ⟨hhs, hlf⟩ : s.length < 18446744073709551616 ∧ l = formB s ++ (form at_ ++ (form es.length ++ l3)) := by
          rcases Hhead.out with ⟨_, h1, h2⟩ | h
          · exact ⟨h1, by rw [Hem.out]; exact h2⟩
          · rw [hok3] at h
            cases h.1
        have hls : l3 = (es.map formE).flatten := by rw [Hsp.out, hl0, List.append_nil]
        have hmm : es.length < 18446744073709551616 := by have := Ham.out.2; have := Hem.out; omega
        have HYes := Lib.hid (show okB ⟨s, at_, es⟩ = true → IsB l ⟨s, at_, es⟩ from fun h => by rw [hlf]; exact isB_read hhs Ham.out.1 hmm Hes.out hls h)
        have HNo' := Lib.hid (show okB ⟨s, at_, es⟩ = false → NoB l from fun h => by rw [hlf]; exact noB_valid hhs Ham.out.1 hmm Hes.out hls h)
        have hBI : BtIn wr ⟨s, at_, es⟩ #[.string (str s), .int .u64 (at_ : Int), .slice va es.length vc] := ⟨⟨Hs.out.1, by have := Hs.out.2; have := Hln.out; show s.length ≤ _; omega⟩, Ham.out.1, va, es.length, vc, rfl, HE.out⟩
        have HBI := Lib.hid hBI
        have HV := Lib.hid (bvalid_any 9 (by omega) ⟨s, at_, es⟩ _ wr (fun e he => right_small 8 _ (ok_right (Hes.out e he).1)) hBI)
        rw [hd] at HD
        clear hd hok3 hl0 hhs hlf hls hmm hBI
        go_wp2_with fail
        refine HD.out.mono ?_
        rintro r w2 ⟨rfl, rfl⟩
        clear HD
        go_wp2_with fail
        refine HV.out.mono ?_
        rintro r w2 ⟨rfl, hb2⟩
        have HP2 := Lib.hid (HP.out.grow hb2)
        have HO2 := Lib.hid (HO.out.below hb2)
        clear hb2 HV y0 y1 y2
        obtain ⟨y0, y1, y2⟩ := box3 HP2.out.box
        obtain ⟨c0, c1, c2⟩ := box3 HP2.out.res
        obtain ⟨z0, z1, z2⟩ := And.intro (froz HP2.out.res 0) (And.intro (froz HP2.out.res 1) (froz HP2.out.res 2))
        cases hok : okB ⟨s, at_, es⟩ with
        | false =>
          have HNo := Lib.hid (HNo'.out hok)
          clear hok
          go_wp2
          obtain ⟨f1, f2, f3⟩ := HP2.out.fill (.string ⟨#[]⟩) (.int .u64 0) (.slice none 0 0)
          clear c0 c1 c2 z0 z1 z2 y0 y1 y2
          generalize World.setCell (World.setCell (World.setCell w2 _ _) _ _) _ _ = wz at *
          obtain ⟨c0, c1, c2⟩ := box3 f1
          show bodyPost _ _ _ Exit.ret _ _
          exact bodyPost_ret (v := .tuple #[.agg btZ, .bool false]) (by simp [results, Tryz.results13, go_sem, *]) rfl ⟨f2, .inr ⟨HNo.out, rfl⟩⟩
        | true =>
          have HY := Lib.hid (HYes.out hok)
          clear hok
          go_wp2
          obtain ⟨f1, f2, f3⟩ := HP2.out.fill (.string (str s)) (.int .u64 (at_ : Int)) (.slice va es.length vc)
          clear c0 c1 c2 z0 z1 z2 y0 y1 y2
          have hO3 := (HO2.out).keep (w' := World.setCell (World.setCell (World.setCell w2 ⟨w.heap.size, 0, none⟩ (.string (str s))) ⟨w.heap.size, 1, none⟩ (.int .u64 (at_ : Int))) ⟨w.heap.size, 2, none⟩ (.slice va es.length vc)) (fun b hb _ => f3 b (by have := hb.elim id id; have := HB8.out.2.1; omega)) (by simp [World.setCell])
          generalize World.setCell (World.setCell (World.setCell w2 _ _) _ _) _ _ = wz at *
          obtain ⟨c0, c1, c2⟩ := box3 f1
          show bodyPost _ _ _ Exit.ret _ _
          refine bodyPost_ret (v := .tuple #[.agg #[.string (str s), .int .u64 (at_ : Int), .slice va es.length vc], .bool true]) (by simp [results, Tryz.results13, go_sem, *]) rfl ⟨f2, .inl ⟨_, _, rfl, HY.out, ?_⟩⟩
          obtain ⟨va', vc', e, hE', _⟩ := hO3.evs
          cases e
          exact ⟨HBI.out.1, HBI.out.2.1, va, es.length, vc, rfl, hE'⟩
end Go.Proofs.YtcapbaocchaenaaGreatDoor

