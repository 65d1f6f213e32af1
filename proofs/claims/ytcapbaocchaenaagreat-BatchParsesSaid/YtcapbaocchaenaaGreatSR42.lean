import Derived.Test.YtcapbaocchaenaaGreatSR34
import Derived.Test.YtcapbaocchaenaaGreatSR41
/- The walk of the reference's Parse of a batch, whatever the bytes. -/
namespace Go.Proofs.YtcapbaocchaenaaGreat
open Go.RowKit Go.Shelf Fl

theorem readN_le (l : List Nat) (ok : Bool) : (readN l ok).2.1.length ≤ l.length := by
  unfold readN
  split
  · simp
  · exact Nat.le_refl _

theorem readB_le (l : List Nat) (ok : Bool) : (readB l ok).2.1.length ≤ l.length := by
  unfold readB
  split
  · simp
  · exact Nat.le_refl _

theorem bytesK {K : Nat → Prop} {B : Nat} {w w' : World} {a : Option Addr} {n c : Nat} {l l0 : List Nat} (h : Bytes w a n c l) (hf : FormedK K a c) (hK : l0 ≠ [] → ∀ b, K b → b < B) (hl : l.length ≤ l0.length) (hb : Below B w w') : Bytes w' a n c l := by
  rcases Nat.eq_zero_or_pos n with rfl | hn
  · obtain rfl : l = [] := List.length_eq_zero_iff.1 h.len
    exact ⟨rfl, h.le, h.capmax, h.byte, h.nil, fun h => absurd h (Nat.lt_irrefl _)⟩
  · exact bytesB h hf (hK (fun e => by have := h.len; rw [e] at hl; simp at hl; rw [hl] at this; simp at this; omega)) hb

/-- The reader's box and the result's. -/
structure QH (w wr : World) (E : Nat) (a : Option Addr) (n c : Nat) (bad : Bool) : Prop where
  res : wr.heap[w.heap.size]? = some (.cells btZ 27 (0, 0))
  rd : wr.heap[E]? = some (.cells #[.slice a n c, .bool bad] 55 (0, 0))
  below : Below w.heap.size w wr
  lt : w.heap.size < E

section
variable {w wr w' : World} {E n c : Nat} {a : Option Addr} {bad : Bool}
theorem QH.grow (h : QH w wr E a n c bad) (hb : Below wr.heap.size wr w') : QH w w' E a n c bad :=
  ⟨blk h.res hb, blk h.rd hb, h.below.trans (hb.mono h.below.size), h.lt⟩
theorem QH.turn (h : QH w wr E a n c bad) {row : Option Nat} (hg : wr.grownBy w' row) (hr : ∀ k, row = some k → E < k) : QH w w' E a n c bad :=
  ⟨(hg.block _ (Array.getElem?_eq_some_iff.1 h.res).1 (fun e => by have := hr _ e.symm; have := h.lt; omega)).trans h.res, (hg.block _ (Array.getElem?_eq_some_iff.1 h.rd).1 (fun e => by have := hr _ e.symm; omega)).trans h.rd, h.below.grown hg h.below.size (fun k hk => by have := hr k hk; have := h.lt; omega), h.lt⟩
theorem QH.set (h : QH w wr E a n c bad) (a' : Option Addr) (n' c' : Nat) (bad' : Bool) : QH w ((wr.setCell ⟨E, 0, none⟩ (.slice a' n' c')).setCell ⟨E, 1, none⟩ (.bool bad')) E a' n' c' bad' :=
  ⟨by rw [show ((wr.setCell ⟨E, 0, none⟩ (.slice a' n' c')).setCell ⟨E, 1, none⟩ (.bool bad')).heap[w.heap.size]? = wr.heap[w.heap.size]? by have := h.lt; simp [World.setCell, Array.getElem?_modify, show E ≠ w.heap.size by omega]]; exact h.res,
    set_headE (i := 1) (set_headE (i := 0) h.rd _) _, (h.below.setCell (p := ⟨E, 0, none⟩) (Nat.le_of_lt h.lt) _).setCell (p := ⟨E, 1, none⟩) (Nat.le_of_lt h.lt) _, h.lt⟩
theorem QH.far (h : QH w wr E a n c bad) {g i : Nat} (hg : E < g) (v : Value) : QH w (wr.setCell ⟨g, i, none⟩ v) E a n c bad :=
  ⟨by rw [show (wr.setCell ⟨g, i, none⟩ v).heap[w.heap.size]? = wr.heap[w.heap.size]? by have := h.lt; simp [World.setCell, Array.getElem?_modify, show g ≠ w.heap.size by omega]]; exact h.res,
    by rw [show (wr.setCell ⟨g, i, none⟩ v).heap[E]? = wr.heap[E]? by simp [World.setCell, Array.getElem?_modify, show g ≠ E by omega]]; exact h.rd, h.below.setCell (p := ⟨g, i, none⟩) (by have := h.lt; show w.heap.size ≤ g; omega) _, h.lt⟩
end

/-- The result's box filled. -/
theorem fill3 {w wr : World} {v0 v1 v2 : Value} {t : TypeId} (hr : wr.heap[w.heap.size]? = some (.cells #[v0, v1, v2] t (0, 0))) (hb : Below w.heap.size w wr) (y0 y1 y2 : Value) : (((wr.setCell ⟨w.heap.size, 0, none⟩ y0).setCell ⟨w.heap.size, 1, none⟩ y1).setCell ⟨w.heap.size, 2, none⟩ y2).heap[w.heap.size]? = some (.cells #[y0, y1, y2] t (0, 0)) ∧
    Below w.heap.size w (((wr.setCell ⟨w.heap.size, 0, none⟩ y0).setCell ⟨w.heap.size, 1, none⟩ y1).setCell ⟨w.heap.size, 2, none⟩ y2) ∧
    ∀ b, b ≠ w.heap.size → (((wr.setCell ⟨w.heap.size, 0, none⟩ y0).setCell ⟨w.heap.size, 1, none⟩ y1).setCell ⟨w.heap.size, 2, none⟩ y2).heap[b]? = wr.heap[b]? :=
  ⟨set_headE (i := 2) (set_headE (i := 1) (set_headE (i := 0) hr y0) y1) y2, ((hb.setCell (p := ⟨w.heap.size, 0, none⟩) (Nat.le_refl _) _).setCell (p := ⟨w.heap.size, 1, none⟩) (Nat.le_refl _) _).setCell (p := ⟨w.heap.size, 2, none⟩) (Nat.le_refl _) _,
    fun b hb => by simp [World.setCell, Array.getElem?_modify, Ne.symm hb]⟩

set_option maxRecDepth 100000 in
set_option maxHeartbeats 12800000 in
theorem rparse13_any (a : Option Addr) (n cap : Nat) (l : List Nat) (w : World) (hl : Bytes w a n cap l) (hf : Formed a cap) (hn : n ≤ 100000000000) :
    Calls Tryz.prog 8 #[.slice a n cap] w (BParseEnd w l) := by
  obtain ⟨s, l1, ok1, h1⟩ : ∃ s l1 ok1, readB l true = (s, l1, ok1) := ⟨_, _, _, rfl⟩
  obtain ⟨at_, l2, ok2, h2⟩ : ∃ at_ l2 ok2, readN l1 ok1 = (at_, l2, ok2) := ⟨_, _, _, rfl⟩
  obtain ⟨m, l3, ok3, h3⟩ : ∃ m l3 ok3, readN l2 ok2 = (m, l3, ok3) := ⟨_, _, _, rfl⟩
  obtain ⟨hs, ham, hl3, hhead⟩ := head_read hl.byte h1 h2 h3
  have hlen := hl.len
  have hl1 : l1.length ≤ l.length := by have := readB_le l true; rw [h1] at this; exact this
  have hl2 : l2.length ≤ l.length := by have := readN_le l1 ok1; rw [h2] at this; exact Nat.le_trans this hl1
  have HL := Lib.hid (And.intro hl1 (And.intro hl2 hl3))
  obtain ⟨K, hFK, hKn⟩ : ∃ K : Nat → Prop, FormedK K a cap ∧ (l ≠ [] → ∀ b, K b → b < w.heap.size) := by
    rcases Nat.eq_zero_or_pos n with h0 | h0
    · exact ⟨fun _ => True, ⟨hf, fun _ _ => trivial⟩, fun h => absurd (List.length_eq_zero_iff.1 (hlen.trans h0)) h⟩
    · refine ⟨fun b => b < w.heap.size, ⟨hf, fun x hx => ?_⟩, fun _ _ h => h⟩
      obtain ⟨b, o, e, hc⟩ := hl.cell h0
      rw [e] at hx
      cases hx
      exact World.block_lt_of_cell? _ _ (hc 0 h0)
  have HB := Lib.hid hl
  have HF := Lib.hid hFK
  have HKn := Lib.hid hKn
  have HR1 := Lib.hid (fun W (h : Bytes W a n cap l) => readBytesK_any K a n cap false l W h hFK)
  have HR2 := Lib.hid (fun W a1 n1 c1 (h : Bytes W a1 n1 c1 l1) (hf : FormedK K a1 c1) => readUintK_any K a1 n1 c1 (!ok1) l1 W h hf)
  have HR3 := Lib.hid (fun W a1 n1 c1 (h : Bytes W a1 n1 c1 l2) (hf : FormedK K a1 c1) => readUintK_any K a1 n1 c1 (!ok2) l2 W h hf)
  rw [show (!false) = true from rfl, h1] at HR1
  rw [Bool.not_not, h2] at HR2
  rw [Bool.not_not, h3] at HR3
  have Hs := Lib.hid hs
  have Ham := Lib.hid ham
  have Hhead := Lib.hid hhead
  have Hl3 := Lib.hid (show l3.length ≤ 100000000000 by omega)
  have Hln := Lib.hid (show l.length ≤ 100000000000 by omega)
  have HS0 := Lib.hid ((Below.refl w.heap.size w).alloc (Nat.le_refl _) (.cells btZ 27))
  have HZ0 := Lib.hid (heap_alloc_new w (.cells btZ 27))
  clear h1 h2 h3 hl hs ham hhead hl3 hlen hf hFK hKn hl1 hl2
  go_enter Tryz.func8, Tryz.ntmps8
  go_wp2_with fail
  refine (HR1.out _ (HB.out.grow HS0.out)).mono ?_
  rintro r w3 ⟨a1, n1, c1, p1, m1, cp1, rfl, hB1, hF1, hS1, hb1⟩
  have HB1 := Lib.hid hB1
  have HF1 := Lib.hid hF1
  have HS1 := Lib.hid hS1
  have Hb3 := Lib.hid (HS0.out.trans (hb1.mono HS0.out.size))
  have HZ3 := Lib.hid (blk HZ0.out hb1)
  clear hB1 hF1 hS1 hb1 HR1 HS0 HZ0
  go_wp2_with fail
  have hal := (Below.refl w3.heap.size w3).alloc (Nat.le_refl _) (.cells #[.slice a1 n1 c1, .bool (!ok1)] 55)
  obtain ⟨E, hE⟩ : ∃ E, E = w3.heap.size := ⟨_, rfl⟩
  have HQ4 := Lib.hid (show QH w _ E a1 n1 c1 (!ok1) from ⟨blk HZ3.out hal, by rw [hE]; exact heap_alloc_new w3 (.cells #[.slice a1 n1 c1, .bool (!ok1)] 55), Hb3.out.trans (hal.mono Hb3.out.size), by rw [hE]; exact (Array.getElem?_eq_some_iff.1 HZ3.out).1⟩)
  have HB4 := Lib.hid (HB1.out.grow hal)
  have HbE := Lib.hid (show Below E w3 _ from by rw [hE]; exact hal)
  have HE := Lib.hid hE
  have HKE := Lib.hid (show l ≠ [] → ∀ b, K b → b < E from fun h b hb => by have := HKn.out h b hb; have := HQ4.out.lt; omega)
  rw [← hE]
  clear hal HZ3 Hb3 hE HB1
  generalize w3.alloc (.cells #[.slice a1 n1 c1, .bool (!ok1)] 55) = w4 at *
  refine (HR2.out w4 a1 n1 c1 HB4.out HF1.out).mono ?_
  rintro r w5 ⟨a2, n2, c2, rfl, hB2, hF2, hb2⟩
  have HQ5 := Lib.hid (HQ4.out.grow hb2)
  have HbE5 := Lib.hid (HbE.out.trans (hb2.mono (Nat.le_of_lt (Array.getElem?_eq_some_iff.1 HQ4.out.rd).1)))
  have HB5 := Lib.hid hB2
  have HF2 := Lib.hid hF2
  clear hB2 hF2 hb2 HQ4 HB4 HF1 HR2 HbE
  obtain ⟨x0, x1, f0, f1⟩ := block_cells HQ5.out.rd
  go_wp2_with fail
  have hst := ((Below.refl E w5).setCell (p := ⟨E, 0, none⟩) (Nat.le_refl E) (.slice a2 n2 c2)).setCell (p := ⟨E, 1, none⟩) (Nat.le_refl E) (.bool (!ok2))
  have HQ6 := Lib.hid (HQ5.out.set a2 n2 c2 (!ok2))
  have HbE6 := Lib.hid (HbE5.out.trans hst)
  have HB6 := Lib.hid (bytesK HB5.out HF2.out HKE.out HL.out.2.1 hst)
  clear x0 x1 f0 f1 hst HQ5 HbE5 HB5
  generalize (w5.setCell ⟨E, 0, none⟩ (.slice a2 n2 c2)).setCell ⟨E, 1, none⟩ (.bool (!ok2)) = w6 at *
  refine (HR3.out w6 a2 n2 c2 HB6.out HF2.out).mono ?_
  rintro r w7 ⟨a3, n3, c3, rfl, hB3, hF3, hb3⟩
  have HQ7 := Lib.hid (HQ6.out.grow hb3)
  have HbE7 := Lib.hid (HbE6.out.trans (hb3.mono (Nat.le_of_lt (Array.getElem?_eq_some_iff.1 HQ6.out.rd).1)))
  have HB7 := Lib.hid hB3
  have HF3 := Lib.hid hF3
  clear hB3 hF3 hb3 HQ6 HB6 HF2 HR3 HbE6
  obtain ⟨x0, x1, f0, f1⟩ := block_cells HQ7.out.rd
  go_upto_region 4 with fail
  have hst := ((Below.refl E w7).setCell (p := ⟨E, 0, none⟩) (Nat.le_refl E) (.slice a3 n3 c3)).setCell (p := ⟨E, 1, none⟩) (Nat.le_refl E) (.bool (!ok3))
  have HQ8 := Lib.hid (HQ7.out.set a3 n3 c3 (!ok3))
  have HbE8 := Lib.hid (HbE7.out.trans hst)
  have HB8 := Lib.hid (bytesK HB7.out HF3.out HKE.out HL.out.2.2 hst)
  clear x0 x1 f0 f1 hst HQ7 HbE7 HB7
  generalize (w7.setCell ⟨E, 0, none⟩ (.slice a3 n3 c3)).setCell ⟨E, 1, none⟩ (.bool (!ok3)) = w8 at *
  have hcv := convert_bytes (P := Tryz.prog) (HS1.out.grow (by have h := HbE8.out; rw [HE.out] at h; exact h)) 22 5 9 Tryz.underlying22 Tryz.underlying5 Tryz.underlying9
  clear HS1
  go_upto_region 5 with fail
  obtain ⟨O, hO⟩ : ∃ O, O = w8.heap.size := ⟨_, rfl⟩
  have hal := (Below.refl w8.heap.size w8).alloc (Nat.le_refl _) (.cells #[.string (str s), .int .u64 (at_ : Int), .slice none 0 0] 27)
  have HQ9 := Lib.hid (HQ8.out.grow hal)
  have HO9 := Lib.hid (show (w8.alloc (.cells #[.string (str s), .int .u64 (at_ : Int), .slice none 0 0] 27)).heap[O]? = some (.cells #[.string (str s), .int .u64 (at_ : Int), .slice none 0 0] 27 (0, 0)) from by rw [hO]; exact heap_alloc_new w8 (.cells #[.string (str s), .int .u64 (at_ : Int), .slice none 0 0] 27))
  have HB9 := Lib.hid (HB8.out.grow hal)
  have HEO := Lib.hid (show E < O from by rw [hO]; exact (Array.getElem?_eq_some_iff.1 HQ8.out.rd).1)
  have HOl := Lib.hid (show O < (w8.alloc (.cells #[.string (str s), .int .u64 (at_ : Int), .slice none 0 0] 27)).heap.size from by rw [hO]; simp)
  have hm := Ham.out.2
  rw [← hO]
  clear hal hO HQ8 HB8 HbE8 hcv
  generalize w8.alloc (.cells #[.string (str s), .int .u64 (at_ : Int), .slice none 0 0] 27) = w9 at *
  go_wp2
  go_loopw [9] (fun i wr => ∃ (j : Nat) (es : List Ev) (lj : List Nat) (v : Value) (ar : Option Addr) (nr cr : Nat), j ≤ m ∧ i = .int .u64 (j : Int) ∧ es.length = j ∧ OwnEs (fun b => w9.heap.size ≤ b) wr w9.heap.size v es ∧ (∀ e ∈ es, okE e = true ∧ EvB e) ∧ l3 = (es.map formE).flatten ++ lj ∧ QH w wr E ar nr cr (!ok3) ∧ wr.heap[O]? = some (.cells #[.string (str s), .int .u64 (at_ : Int), v] 27 (0, 0)) ∧ Bytes wr ar nr cr lj ∧ FormedK K ar cr ∧ w9.heap.size ≤ wr.heap.size) (fun i _ => m - (intOf i).toNat)
  case atStart => exact ⟨0, [], l3, _, a3, n3, c3, Nat.zero_le _, rfl, rfl, OwnEs.nil _ _ _, fun e he => (by cases he), rfl, HQ9.out, HO9.out, HB9.out, HF3.out, Nat.le_refl _⟩
  case round =>
    obtain ⟨j, es, lj, v, ar, nr, cr, hj, rfl, hel, hO, hes, hsp, hQ, hOb, hB, hFr, hz⟩ := hrel
    have HO := Lib.hid hO
    have Hes := Lib.hid hes
    have Hsp := Lib.hid hsp
    have HQ := Lib.hid hQ
    have HOb := Lib.hid hOb
    have HBr := Lib.hid hB
    have HFr := Lib.hid hFr
    have Hz := Lib.hid hz
    have Hel := Lib.hid hel
    have hjl : j ≤ 100000000000 := by
      have h1 := forms_many es
      have h2 := Hl3.out
      rw [hsp, List.length_append] at h2
      omega
    have Hjl := Lib.hid hjl
    obtain ⟨x0, x1, f0, f1⟩ := block_cells HQ.out.rd
    clear hO hes hsp hQ hOb hB hFr hz hel hjl
    by_cases hlt : j < m
    · have hok3 : ok3 = true := by
        rcases Hhead.out with h | h
        · exact h.1
        · omega
      subst hok3
      have hlj : lj.length ≤ 100000000000 := by
        have h2 := Hl3.out
        rw [Hsp.out, List.length_append] at h2
        omega
      have hlne : l ≠ [] := by
        rcases Hhead.out with ⟨_, _, h⟩ | h
        · intro e
          rw [e] at h
          have := congrArg List.length h
          unfold formB at this
          simp only [List.length_append, List.length_nil] at this
          have := form_pos s.length
          omega
        · cases h.1
      have HRd := Lib.hid (rread11_any K lj ar nr cr wr hlj (fun b hb => Nat.lt_of_lt_of_le (HKE.out hlne b hb) (Nat.le_of_lt (Array.getElem?_eq_some_iff.1 HQ.out.rd).1)) HBr.out HFr.out)
      have Hlt := Lib.hid hlt
      have hji : (j : Int) < (m : Int) := by omega
      clear hlj hlt hlne
      go_wp2_with fail
      refine HRd.out.mono ?_
      rintro r w10 ⟨a4, n4, c4, bad, ls, hB4, hF4, hb4, ⟨e, x, rfl, rfl, hx, hi⟩ | ⟨hno, rfl⟩⟩
      · have HO10 := Lib.hid (HO.out.below hb4)
        have HQ10 := Lib.hid (HQ.out.grow hb4)
        have HOb10 := Lib.hid (blk HOb.out hb4)
        have HB10 := Lib.hid hB4
        have HF4 := Lib.hid hF4
        have Hz10 := Lib.hid (Nat.le_trans Hz.out hb4.size)
        have Hi := Lib.hid hi
        have HX10 := Lib.hid (show EvInP (fun b => w9.heap.size ≤ b ∧ (b < w10.heap.size ∧ wr.heap.size ≤ b)) w10 e x from hx.turn (fun b hb => ⟨Nat.le_trans Hz.out hb.1, hb.2, hb.1⟩) (fun _ _ => rfl))
        obtain ⟨_, _, _, _, _, _, ea, ec, rfl, _⟩ := hx
        have hal := (Below.refl w10.heap.size w10).alloc (Nat.le_refl _) (.cells #[.slice a4 n4 c4, .bool false] 55)
        have hal2 := (Below.refl (w10.alloc (.cells #[.slice a4 n4 c4, .bool false] 55)).heap.size _).alloc (Nat.le_refl _) (.cells (evC e.k e.id e.n e.t e.nm e.tx e.v.kind e.v.n e.v.f e.v.s ea e.v.l.length ec) 43)
        have HXb := Lib.hid (blk (heap_alloc_new w10 (.cells #[.slice a4 n4 c4, .bool false] 55)) hal2)
        have HEb := Lib.hid (heap_alloc_new (w10.alloc (.cells #[.slice a4 n4 c4, .bool false] 55)) (.cells (evC e.k e.id e.n e.t e.nm e.tx e.v.kind e.v.n e.v.f e.v.s ea e.v.l.length ec) 43))
        rw [World.size_alloc] at HEb
        have HS := Lib.hid (hal.trans (hal2.mono hal.size))
        have hfl : ∀ (w : World) (a : Addr) (m : Mode) (b : Nat), (store a (.float .f64 b) m).run Tryz.prog w = stored Tryz.prog w a (.float .f64 b) m := fun w a m b => run_store Tryz.prog w a _ m rfl
        clear hB4 hF4 hb4 hi hal hal2 HRd x0 x1 f0 f1
        go_upto_region 11 with fail
        generalize (w10.alloc (.cells #[.slice a4 n4 c4, .bool false] 55)).alloc (.cells (evC e.k e.id e.n e.t e.nm e.tx e.v.kind e.v.n e.v.f e.v.s ea e.v.l.length ec) 43) = w11 at *
        have HQ11 := Lib.hid (HQ10.out.grow HS.out)
        have HOb11 := Lib.hid (blk HOb10.out HS.out)
        have HO11 := Lib.hid (HO10.out.below HS.out)
        have HX11 := Lib.hid (HX10.out.turn (q' := fun b => w9.heap.size ≤ b ∧ (b < w10.heap.size ∧ wr.heap.size ≤ b)) (fun b hb => hb) (fun b hb => HS.out.block b hb.2.1))
        have HB11 := Lib.hid (HB10.out.grow HS.out)
        have Hvr := Lib.hid (fun k (hk : v.ownBlock = some k) => HO.out.block hk)
        have Hs11 := Lib.hid HS.out.size
        clear HQ10 HOb10 HO10 HX10 HB10
        obtain ⟨x0, x1, f0, f1⟩ := block_cells HXb.out
        obtain ⟨y0, y1, q0, q1⟩ := block_cells HQ11.out.rd
        go_upto_region 12 with fail
        have hst := ((Below.refl E w11).setCell (p := ⟨E, 0, none⟩) (Nat.le_refl E) (.slice a4 n4 c4)).setCell (p := ⟨E, 1, none⟩) (Nat.le_refl E) (.bool false)
        have hoth : ∀ b, b ≠ E → ((w11.setCell ⟨E, 0, none⟩ (.slice a4 n4 c4)).setCell ⟨E, 1, none⟩ (.bool false)).heap[b]? = w11.heap[b]? := fun b hb => by simp [World.setCell, Array.getElem?_modify, Ne.symm hb]
        have HQ12 := Lib.hid (HQ11.out.set a4 n4 c4 false)
        have hlE : E < w9.heap.size := Nat.lt_trans HEO.out HOl.out
        have HO12 := Lib.hid (HO11.out.keep (w' := (w11.setCell ⟨E, 0, none⟩ (.slice a4 n4 c4)).setCell ⟨E, 1, none⟩ (.bool false)) (fun b hb _ => hoth b (by have := hb.elim id id; omega)) (by simp [World.setCell]))
        have HOb12 := Lib.hid ((hoth O (by have := HEO.out; omega)).trans HOb11.out)
        have HEb12 := Lib.hid ((hoth (w10.heap.size + 1) (by have := Hz10.out; omega)).trans HEb.out)
        have HX12 := Lib.hid (HX11.out.turn (w' := (w11.setCell ⟨E, 0, none⟩ (.slice a4 n4 c4)).setCell ⟨E, 1, none⟩ (.bool false)) (q' := fun b => w9.heap.size ≤ b ∧ (b < w10.heap.size ∧ wr.heap.size ≤ b)) (fun b hb => hb) (fun b hb => hoth b (by have := hb.1; omega)))
        have hle4 : ls.length ≤ l.length := by
          have h1 := HL.out.2.2
          have h2 := Hsp.out
          have h3 := congrArg List.length Hi.out.2.2
          rw [List.length_append] at h3
          rw [h2, List.length_append] at h1
          omega
        have HB12 := Lib.hid (bytesK HB11.out HF4.out HKE.out hle4 hst)
        have Hs12 := Lib.hid (show w10.heap.size ≤ ((w11.setCell ⟨E, 0, none⟩ (.slice a4 n4 c4)).setCell ⟨E, 1, none⟩ (.bool false)).heap.size by have := Hs11.out; simpa [World.setCell] using this)
        have Hle4 := Lib.hid hle4
        clear x0 x1 f0 f1 y0 y1 q0 q1 hst hoth hlE HQ11 HO11 HOb11 HX11 HB11 HEb HXb HS Hs11 hle4
        generalize (w11.setCell ⟨E, 0, none⟩ (.slice a4 n4 c4)).setCell ⟨E, 1, none⟩ (.bool false) = w12 at *
        obtain ⟨g0, g1, g2, g3, g4, g5, g6, g7, g8, g9, g10⟩ := box11 HEb12.out
        have c2 := (box3 HOb12.out).2.2
        have z2 := froz HOb12.out 2
        have hal : Below w12.heap.size w12 (w12.alloc (.cells #[.int .i64 e.k, .int .u64 (e.id : Int), .int .i64 e.n, .int .u64 (e.t : Int), .string (str e.nm), .string (str e.tx), .int .i64 e.v.kind, .int .i64 e.v.n, .float .f64 e.v.f, .string (str e.v.s), .slice ea e.v.l.length ec] 43)) := (Below.refl _ _).alloc (Nat.le_refl _) _
        have HQ13 := Lib.hid (HQ12.out.grow hal)
        have HOb13 := Lib.hid (blk HOb12.out hal)
        have HB13 := Lib.hid (HB12.out.grow hal)
        have Hz13 := Lib.hid (show w9.heap.size ≤ (w12.alloc (.cells #[.int .i64 e.k, .int .u64 (e.id : Int), .int .i64 e.n, .int .u64 (e.t : Int), .string (str e.nm), .string (str e.tx), .int .i64 e.v.kind, .int .i64 e.v.n, .float .f64 e.v.f, .string (str e.v.s), .slice ea e.v.l.length ec] 43)).heap.size from Nat.le_trans Hz10.out (Nat.le_trans Hs12.out hal.size))
        obtain ⟨cs, hcl, hrow, hel⟩ := HO12.out.below hal
        have hu := HX12.out.turn (w' := w12.alloc (.cells #[.int .i64 e.k, .int .u64 (e.id : Int), .int .i64 e.n, .int .u64 (e.t : Int), .string (str e.nm), .string (str e.tx), .int .i64 e.v.kind, .int .i64 e.v.n, .float .f64 e.v.f, .string (str e.v.s), .slice ea e.v.l.length ec] 43)) (q' := fun b => (w9.heap.size ≤ b ∧ some b ≠ v.ownBlock) ∧ b < (w12.alloc (.cells #[.int .i64 e.k, .int .u64 (e.id : Int), .int .i64 e.n, .int .u64 (e.t : Int), .string (str e.nm), .string (str e.tx), .int .i64 e.v.kind, .int .i64 e.v.n, .float .f64 e.v.f, .string (str e.v.s), .slice ea e.v.l.length ec] 43)).heap.size) (fun b hb => ⟨⟨hb.1, fun h => by have := (Hvr.out b h.symm).2; omega⟩, by have := hal.size; have := Hs12.out; omega⟩) (fun b hb => hal.block b (by have := Hs12.out; omega))
        have Hcl := Lib.hid hcl
        have HRw := Lib.hid hrow
        have Hcs := Lib.hid hel
        have Hu := Lib.hid hu
        clear hal hcl hrow hel hu
        obtain ⟨i0, hi, hz0, hz1, hz2⟩ := info_parts info_event
        go_wp2_with (at_builtin; refine wpList_append_lies _ rfl _ _ 25 rfl w9.heap.size 43 i0 _ 11 128 Tryz.underlying25 hi hz0 hz1 hz2 rfl (by decide) v es.length _ rfl HRw.out ⟨w12.heap.size, 0, none⟩ 1 1 [.int .i64 e.k, .int .u64 (e.id : Int), .int .i64 e.n, .int .u64 (e.t : Int), .string (str e.nm), .string (str e.tx), .int .i64 e.v.kind, .int .i64 e.v.n, .float .f64 e.v.f, .string (str e.v.s), .slice ea e.v.l.length ec] rfl rfl (World.news_of_block (heap_alloc_new w12 _)) (by simp [Value.oneCell']) (by decide) (by have := Hjl.out; have := Hel.out; rw [maxLen_nat]; omega) (by have := Hjl.out; have := Hel.out; omega) Hz13.out _ rfl ?_; intro gg cap4 w14 g1 g2 g3 g4; have HO14 := Lib.hid (OwnEs.snoc Hcl.out Hcs.out Hu.out g1 g2 (g3.imp (fun e => e.symm) (fun e => by rw [e]; rfl))); have HG14 := Lib.hid g2; have HQ14 := Lib.hid (HQ13.out.turn g2 (fun k hk => by have := (Hvr.out k hk).1; have := HOl.out; have := HEO.out; omega)); have HOb14 := Lib.hid ((g2.block O (Array.getElem?_eq_some_iff.1 HOb13.out).1 (fun e => by have := (Hvr.out O e.symm).1; have := HOl.out; omega)).trans HOb13.out); have c2 := (box3 HOb14.out).2.2; have z2 := froz HOb14.out 2; clear g1 g2 g3)
        have hbl : Below E (w12.alloc (.cells #[.int .i64 e.k, .int .u64 (e.id : Int), .int .i64 e.n, .int .u64 (e.t : Int), .string (str e.nm), .string (str e.tx), .int .i64 e.v.kind, .int .i64 e.v.n, .float .f64 e.v.f, .string (str e.v.s), .slice ea e.v.l.length ec] 43)) (w14.setCell ⟨O, 2, none⟩ (.slice (some ⟨gg, 0, none⟩) (es.length + 1) cap4)) := ((Below.refl E _).grown HG14.out (Nat.le_of_lt (Nat.lt_of_lt_of_le (Nat.lt_trans HEO.out HOl.out) Hz13.out)) (fun k hk => by have := (Hvr.out k hk).1; have := HOl.out; have := HEO.out; omega)).setCell (p := ⟨O, 2, none⟩) (Nat.le_of_lt HEO.out) _
        refine ⟨⟨j + 1, Hlt.out, by go_num, es ++ [e], by rw [List.length_append, Hel.out]; rfl, ls, _, HO14.out.keep (fun b hb _ => by
          have h1 := HOl.out
          have h2 := hb.elim id id
          simp [World.setCell, Array.getElem?_modify, show O ≠ b by omega]) (by simp [World.setCell]), (fun x hx => by
          rcases List.mem_append.1 hx with h | h
          · exact Hes.out x h
          · have e' : x = e := by simpa using h
            rw [e']; exact ⟨Hi.out.1, Hi.out.2.1⟩), by rw [List.map_append, List.flatten_append, List.append_assoc, List.map_cons, List.map_nil, List.flatten_cons, List.flatten_nil, List.append_nil, ← Hi.out.2.2]; exact Hsp.out, a4, n4, c4, HQ14.out.far HEO.out _, set_headE HOb14.out (i := 2) _, bytesK HB13.out HF4.out HKE.out Hle4.out hbl, HF4.out, Nat.le_trans Hz13.out HG14.out.size⟩, ?_⟩
        simp [intOf]
        have := Hlt.out
        omega
      · have HNo := Lib.hid (show NoB l from by
          rcases Hhead.out with ⟨_, h1, h2⟩ | h
          · rw [h2]
            exact noB_event h1 Ham.out.1 Ham.out.2 Hes.out Hsp.out (by rw [Hel.out]; exact Hlt.out) hno
          · cases h.1)
        have HQ10 := Lib.hid (HQ.out.grow hb4)
        have hal := (Below.refl w10.heap.size w10).alloc (Nat.le_refl _) (.cells #[.slice a4 n4 c4, .bool bad] 55)
        have hal2 := (Below.refl (w10.alloc (.cells #[.slice a4 n4 c4, .bool bad] 55)).heap.size _).alloc (Nat.le_refl _) (.cells evZ 43)
        have HS := Lib.hid (hal.trans (hal2.mono hal.size))
        have hfl : ∀ (w : World) (a : Addr) (m : Mode) (b : Nat), (store a (.float .f64 b) m).run Tryz.prog w = stored Tryz.prog w a (.float .f64 b) m := fun w a m b => run_store Tryz.prog w a _ m rfl
        clear hB4 hF4 hb4 hno hal hal2 HRd x0 x1 f0 f1
        go_upto_region 10 with fail
        generalize (w10.alloc (.cells #[.slice a4 n4 c4, .bool bad] 55)).alloc (.cells evZ 43) = w11 at *
        have HQ11 := Lib.hid (HQ10.out.grow HS.out)
        obtain ⟨c0, c1, c2⟩ := box3 HQ11.out.res
        obtain ⟨z0, z1, z2⟩ := And.intro (froz HQ11.out.res 0) (And.intro (froz HQ11.out.res 1) (froz HQ11.out.res 2))
        go_wp2
        obtain ⟨f1, f2, f3⟩ := fill3 HQ11.out.res HQ11.out.below (.string ⟨#[]⟩) (.int .u64 0) (.slice none 0 0)
        clear c0 c1 c2 z0 z1 z2
        generalize World.setCell (World.setCell (World.setCell w11 _ _) _ _) _ _ = wz at *
        obtain ⟨c0, c1, c2⟩ := box3 f1
        exact bodyPost_ret (v := .tuple #[.agg btZ, .bool false]) (by simp [results, Tryz.results8, go_sem, *]) rfl ⟨f2, .inr ⟨HNo.out, rfl⟩⟩
    · have hjm : j = m := by omega
      have hem : es.length = m := Hel.out.trans hjm
      have hji : ¬ ((j : Int) < (m : Int)) := by omega
      have HD := Lib.hid (rdone_any ar nr cr ok3 lj wr HBr.out)
      obtain ⟨va, vc, rfl, hE, _⟩ := HO.out.evs
      have HEv := Lib.hid hE
      have Hem := Lib.hid hem
      clear hE hlt hjm hem
      cases hd : doneR lj ok3 with
      | false =>
        have HNo := Lib.hid (show NoB l from by
          rcases Hhead.out with ⟨h0, h1, h2⟩ | ⟨_, _, h⟩
          · rw [h2, ← Hem.out]
            refine noB_left h1 Ham.out.1 (by have := Ham.out.2; have := Hem.out; omega) Hes.out Hsp.out (fun h => ?_)
            rw [h, h0] at hd
            cases hd
          · exact h)
        rw [hd] at HD
        clear hd
        go_wp2_with fail
        refine HD.out.mono ?_
        rintro r w2 ⟨rfl, hb2⟩
        have HQ2 := Lib.hid (HQ.out.grow hb2)
        obtain ⟨c0, c1, c2⟩ := box3 HQ2.out.res
        obtain ⟨z0, z1, z2⟩ := And.intro (froz HQ2.out.res 0) (And.intro (froz HQ2.out.res 1) (froz HQ2.out.res 2))
        clear HD x0 x1 f0 f1 hb2
        go_wp2
        obtain ⟨f1, f2, f3⟩ := fill3 HQ2.out.res HQ2.out.below (.string ⟨#[]⟩) (.int .u64 0) (.slice none 0 0)
        clear c0 c1 c2 z0 z1 z2
        generalize World.setCell (World.setCell (World.setCell w2 _ _) _ _) _ _ = wz at *
        obtain ⟨c0, c1, c2⟩ := box3 f1
        exact bodyPost_ret (v := .tuple #[.agg btZ, .bool false]) (by simp [results, Tryz.results8, go_sem, *]) rfl ⟨f2, .inr ⟨HNo.out, rfl⟩⟩
      | true =>
        obtain ⟨hok3, hl0⟩ : ok3 = true ∧ lj = [] := by
          unfold doneR at hd
          rw [Bool.and_eq_true, decide_eq_true_eq] at hd
          exact ⟨hd.1, List.length_eq_zero_iff.1 hd.2⟩
        obtain ⟨hhs, hlf⟩ : s.length < 18446744073709551616 ∧ l = formB s ++ (form at_ ++ (form es.length ++ l3)) := by
          rcases Hhead.out with ⟨_, h1, h2⟩ | h
          · exact ⟨h1, by rw [Hem.out]; exact h2⟩
          · rw [hok3] at h
            cases h.1
        have hls : l3 = (es.map formE).flatten := by rw [Hsp.out, hl0, List.append_nil]
        have hmm : es.length < 18446744073709551616 := by have := Ham.out.2; have := Hem.out; omega
        have HYes := Lib.hid (show okB ⟨s, at_, es⟩ = true → IsB l ⟨s, at_, es⟩ from fun h => by rw [hlf]; exact isB_read hhs Ham.out.1 hmm Hes.out hls h)
        have HNo' := Lib.hid (show okB ⟨s, at_, es⟩ = false → NoB l from fun h => by rw [hlf]; exact noB_valid hhs Ham.out.1 hmm Hes.out hls h)
        have hBI : BtIn wr ⟨s, at_, es⟩ #[.string (str s), .int .u64 (at_ : Int), .slice va es.length vc] := ⟨⟨Hs.out.1, by have := Hs.out.2; have := Hln.out; show s.length ≤ _; omega⟩, Ham.out.1, va, es.length, vc, rfl, HEv.out⟩
        have HBI := Lib.hid hBI
        have HV := Lib.hid (fun W (hW : Below wr.heap.size wr W) => rvalid13_any ⟨s, at_, es⟩ _ W (hBI.below hW))
        rw [hd] at HD
        clear hd hok3 hl0 hhs hlf hls hmm hBI
        go_wp2_with fail
        refine HD.out.mono ?_
        rintro r w2 ⟨rfl, hb2⟩
        have HQ2 := Lib.hid (HQ.out.grow hb2)
        have HOb2 := Lib.hid (blk HOb.out hb2)
        have HO2 := Lib.hid (HO.out.below hb2)
        have Hb2 := Lib.hid hb2
        obtain ⟨y0, y1, y2⟩ := box3 HOb2.out
        clear HD x0 x1 f0 f1 hb2
        go_wp2_with fail
        refine (HV.out w2 Hb2.out).mono ?_
        rintro r w4 ⟨rfl, hb4⟩
        have HQ4 := Lib.hid (HQ2.out.grow hb4)
        have HOb4 := Lib.hid (blk HOb2.out hb4)
        have HO4 := Lib.hid (HO2.out.below hb4)
        clear hb4 HV y0 y1 y2
        obtain ⟨y0, y1, y2⟩ := box3 HOb4.out
        obtain ⟨c0, c1, c2⟩ := box3 HQ4.out.res
        obtain ⟨z0, z1, z2⟩ := And.intro (froz HQ4.out.res 0) (And.intro (froz HQ4.out.res 1) (froz HQ4.out.res 2))
        cases hok : okB ⟨s, at_, es⟩ with
        | false =>
          have HNo := Lib.hid (HNo'.out hok)
          clear hok
          go_wp2
          clear y0 y1 y2
          obtain ⟨f1, f2, f3⟩ := fill3 HQ4.out.res HQ4.out.below (.string ⟨#[]⟩) (.int .u64 0) (.slice none 0 0)
          clear c0 c1 c2 z0 z1 z2
          generalize World.setCell (World.setCell (World.setCell w4 _ _) _ _) _ _ = wz at *
          obtain ⟨c0, c1, c2⟩ := box3 f1
          exact bodyPost_ret (v := .tuple #[.agg btZ, .bool false]) (by simp [results, Tryz.results8, go_sem, *]) rfl ⟨f2, .inr ⟨HNo.out, rfl⟩⟩
        | true =>
          have HY := Lib.hid (HYes.out hok)
          clear hok
          go_wp2
          obtain ⟨f1, f2, f3⟩ := fill3 HQ4.out.res HQ4.out.below (.string (str s)) (.int .u64 (at_ : Int)) (.slice va es.length vc)
          clear c0 c1 c2 z0 z1 z2 y0 y1 y2
          have hO3 := (HO4.out).keep (w' := World.setCell (World.setCell (World.setCell w4 ⟨w.heap.size, 0, none⟩ (.string (str s))) ⟨w.heap.size, 1, none⟩ (.int .u64 (at_ : Int))) ⟨w.heap.size, 2, none⟩ (.slice va es.length vc)) (fun b hb _ => f3 b (by have := hb.elim id id; have := HOl.out; have := HEO.out; have := HQ4.out.lt; omega)) (by simp [World.setCell])
          generalize World.setCell (World.setCell (World.setCell w4 _ _) _ _) _ _ = wz at *
          obtain ⟨c0, c1, c2⟩ := box3 f1
          refine bodyPost_ret (v := .tuple #[.agg #[.string (str s), .int .u64 (at_ : Int), .slice va es.length vc], .bool true]) (by simp [results, Tryz.results8, go_sem, *]) rfl ⟨f2, .inl ⟨_, _, rfl, HY.out, ?_⟩⟩
          obtain ⟨va', vc', e, hE', _⟩ := hO3.evs
          cases e
          exact ⟨HBI.out.1, HBI.out.2.1, va, es.length, vc, rfl, hE'⟩
end Go.Proofs.YtcapbaocchaenaaGreat

