import Derived.Test.YtmcdfmhciinocaaGreatDoorMB33
import Derived.Deep.RegionLaw
import Derived.Deep.AppendLies
import Derived.Test.YtmcdfmhciinocaaGreatDoorMB17
import Derived.Test.YtmcdfmhciinocaaGreatDoorMB32
import Derived.Test.YtmcdfmhciinocaaGreatDoorMB24
import Derived.Test.YtmcdfmhciinocaaGreatDoorMB15
import Derived.Test.YtmcdfmhciinocaaGreatDoorMB1
/- The walk of the reference's Clone. -/
namespace Go.Proofs.YtmcdfmhciinocaaGreatDoor
open Go.RowKit Fl

theorem info_value : (Tryz.prog.info? 26).map (fun i => (i.zero, i.size, i.bytes)) = some (some (.agg #[.int .i64 0, .int .i64 0, .float .f64 0, .string ⟨#[]⟩, .slice none 0 0]), 5, 64) := by kernel_rfl

theorem bulkL_mem : ∀ {l : List V} {u : V}, u ∈ l → bulkV u ≤ bulkL l
  | v :: r, u, h => by
    rw [bulkL]
    rcases List.mem_cons.1 h with e | e
    · rw [e]; omega
    · have := bulkL_mem e; omega

theorem bulk_pos (v : V) : 1 ≤ bulkV v := by
  obtain ⟨k, n, f, s, l⟩ := v
  rw [bulkV]; omega

theorem bulkL_len : ∀ l : List V, l.length ≤ bulkL l
  | [] => by simp [bulkL]
  | v :: r => by
    rw [bulkL, List.length_cons]
    have := bulkL_len r
    have := bulk_pos v
    omega

theorem OwnVs.keep {w w' : World} {base : Nat} {v : Value} {l : List V} (h : OwnVs w base v l) (hb : ∀ b, base ≤ b → b < w.heap.size → w'.heap[b]? = w.heap[b]?) (hs : w.heap.size ≤ w'.heap.size) : OwnVs w' base v l := by
  obtain ⟨cs, hlen, ⟨hx, hrow⟩, hel⟩ := h
  refine ⟨cs, hlen, ⟨hx, ?_⟩, fun i x u hi hu => VInP.turn (fun b hq => ⟨hq.1, hq.2.1, by omega⟩) (fun p hp => ?_) u x (hel i x u hi hu)⟩
  · rcases hrow with hn | ⟨g, cap, cur, e, hbg, hg, rest⟩
    · exact .inl hn
    · exact .inr ⟨g, cap, cur, e, hbg, (hb g hbg (Array.getElem?_eq_some_iff.1 hg).1).trans hg, rest⟩
  · unfold World.cell?
    rw [hb p.block hp.1 hp.2.2]

theorem OwnVs.block {w : World} {base : Nat} {v : Value} {l : List V} (h : OwnVs w base v l) {g : Nat} (hg : v.ownBlock = some g) : base ≤ g ∧ g < w.heap.size := by
  obtain ⟨cs, hlen, ⟨hx, hrow⟩, hel⟩ := h
  rcases hrow with ⟨e, _⟩ | ⟨g', cap, cur, e, hbg, hg', rest⟩
  · rw [e] at hg
    cases hg
  · rw [e] at hg
    have e2 : g' = g := Option.some.inj hg
    rw [← e2]
    exact ⟨hbg, (Array.getElem?_eq_some_iff.1 hg').1⟩

/-- The three blocks of a call of Clone: its argument, its result, the value that it fills. -/
structure CloH (w wr : World) (k n : Int) (f : Nat) (s : List Nat) (a : Option Addr) (m cap : Nat) (acc : Value) : Prop where
  box : wr.heap[w.heap.size]? = some (.cells #[.int .i64 k, .int .i64 n, .float .f64 f, .string (str s), .slice a m cap] 26 (0, 0))
  res : wr.heap[w.heap.size + 1]? = some (.cells #[.int .i64 0, .int .i64 0, .float .f64 0, .string ⟨#[]⟩, .slice none 0 0] 26 (0, 0))
  out : wr.heap[w.heap.size + 2]? = some (.cells #[.int .i64 k, .int .i64 n, .float .f64 f, .string (str s), acc] 26 (0, 0))
  below : Below w.heap.size w wr

theorem CloH.size {w wr : World} {k n : Int} {f : Nat} {s : List Nat} {a : Option Addr} {m cap : Nat} {acc : Value} (h : CloH w wr k n f s a m cap acc) : w.heap.size + 3 ≤ wr.heap.size := by
  have := (Array.getElem?_eq_some_iff.1 h.out).1
  omega

theorem CloH.go {w wr w' : World} {k n : Int} {f : Nat} {s : List Nat} {a : Option Addr} {m cap : Nat} {acc : Value} (h : CloH w wr k n f s a m cap acc) (hb : Below wr.heap.size wr w') : CloH w w' k n f s a m cap acc := by
  have hs := h.size
  exact ⟨(hb.block _ (by omega)).trans h.box, (hb.block _ (by omega)).trans h.res, (hb.block _ (by omega)).trans h.out, h.below.trans (hb.mono (by omega))⟩

theorem CloH.grown {w wr w' : World} {k n : Int} {f : Nat} {s : List Nat} {a : Option Addr} {m cap : Nat} {acc : Value} (h : CloH w wr k n f s a m cap acc) (hg : wr.grownBy w' acc.ownBlock) (hb : ∀ g, acc.ownBlock = some g → w.heap.size + 3 ≤ g) : CloH w w' k n f s a m cap acc := by
  have hs := h.size
  have hne : ∀ g, g < w.heap.size + 3 → some g ≠ acc.ownBlock := fun g hg e => by have := hb g e.symm; omega
  exact ⟨(hg.block _ (by omega) (hne _ (by omega))).trans h.box, (hg.block _ (by omega) (hne _ (by omega))).trans h.res, (hg.block _ (by omega) (hne _ (by omega))).trans h.out, h.below.grown hg (by omega) (fun g e => by have := hb g e; omega)⟩

theorem CloH.store {w wr : World} {k n : Int} {f : Nat} {s : List Nat} {a : Option Addr} {m cap : Nat} {acc : Value} (h : CloH w wr k n f s a m cap acc) (acc' : Value) : CloH w (wr.setCell ⟨w.heap.size + 2, 4, none⟩ acc') k n f s a m cap acc' := by
  refine ⟨(Below.heap_setCell _ _ _ _ (by simp)).trans h.box, (Below.heap_setCell _ _ _ _ (by simp)).trans h.res, ?_, h.below.setCell (by simp) _⟩
  simp [World.setCell, Array.getElem?_modify, h.out]

theorem CloH.cells {w wr : World} {k n : Int} {f : Nat} {s : List Nat} {a : Option Addr} {m cap : Nat} {acc : Value} (h : CloH w wr k n f s a m cap acc) :
    wr.cell? ⟨w.heap.size, 4, none⟩ = some (.slice a m cap) ∧ wr.cell? ⟨w.heap.size + 2, 4, none⟩ = some acc ∧ wr.frozen? ⟨w.heap.size + 2, 4, none⟩ = false := by
  refine ⟨?_, ?_, ?_⟩
  · rw [cell_of_row _ _ _ _ _ _ h.box]; rfl
  · rw [cell_of_row _ _ _ _ _ _ h.out]; rfl
  · simp [World.frozen?, h.out]

theorem CloH.all {w wr : World} {k n : Int} {f : Nat} {s : List Nat} {a : Option Addr} {m cap : Nat} {acc : Value} (h : CloH w wr k n f s a m cap acc) :
    (wr.cell? ⟨w.heap.size + 2, 0, none⟩ = some (.int .i64 k) ∧ wr.cell? ⟨w.heap.size + 2, 1, none⟩ = some (.int .i64 n) ∧ wr.cell? ⟨w.heap.size + 2, 2, none⟩ = some (.float .f64 f) ∧ wr.cell? ⟨w.heap.size + 2, 3, none⟩ = some (.string (str s))) ∧
    (wr.cell? ⟨w.heap.size + 1, 0, none⟩ = some (.int .i64 0) ∧ wr.cell? ⟨w.heap.size + 1, 1, none⟩ = some (.int .i64 0) ∧ wr.cell? ⟨w.heap.size + 1, 2, none⟩ = some (.float .f64 0) ∧ wr.cell? ⟨w.heap.size + 1, 3, none⟩ = some (.string ⟨#[]⟩) ∧ wr.cell? ⟨w.heap.size + 1, 4, none⟩ = some (.slice none 0 0)) ∧
    (∀ j, wr.frozen? ⟨w.heap.size + 1, j, none⟩ = false) := by
  refine ⟨⟨?_, ?_, ?_, ?_⟩, ⟨?_, ?_, ?_, ?_, ?_⟩, fun j => ?_⟩
  · rw [cell_of_row _ _ _ _ _ _ h.out]; rfl
  · rw [cell_of_row _ _ _ _ _ _ h.out]; rfl
  · rw [cell_of_row _ _ _ _ _ _ h.out]; rfl
  · rw [cell_of_row _ _ _ _ _ _ h.out]; rfl
  · rw [cell_of_row _ _ _ _ _ _ h.res]; rfl
  · rw [cell_of_row _ _ _ _ _ _ h.res]; rfl
  · rw [cell_of_row _ _ _ _ _ _ h.res]; rfl
  · rw [cell_of_row _ _ _ _ _ _ h.res]; rfl
  · rw [cell_of_row _ _ _ _ _ _ h.res]; rfl
  · simp [World.frozen?, h.res]

/-- The value that the call fills, at its end. -/
theorem vin_done {base : Nat} {k n : Int} {f : Nat} {s : List Nat} {l : List V} {acc : Value} {wr w' : World} (hk : -9223372036854775808 ≤ k ∧ k ≤ 9223372036854775807) (hn : -9223372036854775808 ≤ n ∧ n ≤ 9223372036854775807)
    (hf : f < 18446744073709551616) (hs : ∀ c ∈ s, c < 256) (hss : s.length ≤ 9223372036854775807) (hO : OwnVs wr (base + 3) acc l) (hw : ∀ b, base + 3 ≤ b → b < wr.heap.size → w'.heap[b]? = wr.heap[b]?) (hz : wr.heap.size ≤ w'.heap.size) :
    VInP (fun b => base ≤ b ∧ b < w'.heap.size) w' (V.mk k n f s l) #[.int .i64 k, .int .i64 n, .float .f64 f, .string (str s), acc] := by
  obtain ⟨a, cap, rfl, hcap, hmax, hl⟩ := (hO.keep hw hz).lies
  rw [VInP]
  refine ⟨hk, hn, hf, hs, hss, a, cap, rfl, hcap, hmax, ?_⟩
  rcases hl with hl | ⟨g, ha, hg, hv⟩
  · exact .inl hl
  · exact .inr ⟨g, 0, ha, ⟨by omega, hg.2⟩, VsInP.turn (fun b hb => ⟨by omega, hb.2⟩) (fun _ _ => rfl) l g 0 hg hv⟩

theorem VInP.parts5 {q : Nat → Prop} {w : World} {v : V} {x : Array Value} (h : VInP q w v x) : ∃ a cap, x = #[.int .i64 v.kind, .int .i64 v.n, .float .f64 v.f, .string (str v.s), .slice a v.l.length cap] := by
  obtain ⟨_, _, _, _, _, a, cap, e, _⟩ := (VInP.weak v x h).parts
  exact ⟨a, cap, e⟩

end Go.Proofs.YtmcdfmhciinocaaGreatDoor

/- How long texts and forms are. -/
namespace Go.Proofs.YtmcdfmhciinocaaGreatDoor
open Go.RowKit Go.Shelf Fl

theorem decL_len {n : Int} (h : -9223372036854775808 ≤ n ∧ n ≤ 9223372036854775807) : (decL n).length ≤ 21 := by
  have := decD_len20 (n := n.natAbs) (by omega)
  unfold decL
  split
  · rw [List.length_cons]; omega
  · omega

mutual
/-- How long a text is. -/
theorem text_bulk : ∀ v : V, soundV v → (∀ u ∈ preV v, u.s.length ≤ 1000) → (textV v).length + 1 ≤ 25 * bulkV v
  | .mk k n f s l, h, hs => by
    rw [soundV] at h
    have h0 : s.length ≤ 1000 := hs (.mk k n f s l) (by rw [preV]; simp)
    have hl := texts_bulk l h.2.2.2 (fun u hu => hs u (by rw [preV]; simp [hu]))
    rw [textV, bulkV, Nat.min_eq_left h0]
    split
    · have := decL_len h.1; omega
    split
    · have := tl_len (bitsB f)
      rw [List.length_cons]; omega
    split
    · rw [List.length_cons, List.length_append, hex2_len]
      simp only [List.length_cons, List.length_nil]
      omega
    split
    · have := joinS_tsum l
      rw [List.length_cons, List.length_append]
      simp only [List.length_cons, List.length_nil]
      omega
    · simp only [List.length_cons, List.length_nil]
      omega
theorem texts_bulk : ∀ l : List V, soundL l → (∀ u ∈ preV.preL l, u.s.length ≤ 1000) → tsum l ≤ 25 * bulkL l
  | [], _, _ => by rw [tsum]; omega
  | v :: r, h, hs => by
    rw [soundL] at h
    have h1 := text_bulk v h.1 (fun u hu => hs u (by rw [preV.preL]; simp [hu]))
    have h2 := texts_bulk r h.2 (fun u hu => hs u (by rw [preV.preL]; simp [hu]))
    rw [tsum, bulkL]
    omega
end

theorem piece_len {k n : Int} {f : Nat} {s : List Nat} {l : List V} (hk : k ≤ 4) (hn : -9223372036854775808 ≤ n ∧ n ≤ 9223372036854775807) (hs : s.length ≤ 1000) (hl : l.length < 18446744073709551616) : (pieceV (.mk k n f s l)).length ≤ 21 + s.length := by
  unfold pieceV
  change (form k.toNat ++ contF k n f s l.length).length ≤ _
  have h1 := form_len (x := k.toNat) (by omega)
  rw [List.length_append]
  unfold contF
  split
  · have := form_len (fold_lt hn.1 hn.2); omega
  split
  · simp [be8]; omega
  split
  · have := form_len (x := s.length) (by omega)
    unfold formB
    rw [List.length_append]; omega
  split
  · have := form_len hl; omega
  · simp only [List.length_nil]; omega

mutual
theorem form_bulk : ∀ v : V, soundV v → (∀ u ∈ preV v, u.s.length ≤ 1000 ∧ u.kind ≤ 4 ∧ u.l.length < 18446744073709551616) → (formV v).length ≤ 25 * bulkV v
  | .mk k n f s l, h, hs => by
    rw [soundV] at h
    obtain ⟨h0, hk, hln⟩ : s.length ≤ 1000 ∧ k ≤ 4 ∧ l.length < 18446744073709551616 := hs (.mk k n f s l) (by rw [preV]; simp)
    have hl := forms_bulk l h.2.2.2 (fun u hu => hs u (by rw [preV]; simp [hu]))
    have hp := piece_len (n := n) (f := f) (s := s) (l := l) hk h.1 h0 hln
    unfold formV
    rw [preV, List.flatMap_cons, List.length_append, bulkV, Nat.min_eq_left h0]
    omega
theorem forms_bulk : ∀ l : List V, soundL l → (∀ u ∈ preV.preL l, u.s.length ≤ 1000 ∧ u.kind ≤ 4 ∧ u.l.length < 18446744073709551616) → ((preV.preL l).flatMap pieceV).length ≤ 25 * bulkL l
  | [], _, _ => by rw [preV.preL]; simp
  | v :: r, h, hs => by
    rw [soundL] at h
    have h1 := form_bulk v h.1 (fun u hu => hs u (by rw [preV.preL]; simp [hu]))
    have h2 := forms_bulk r h.2 (fun u hu => hs u (by rw [preV.preL]; simp [hu]))
    unfold formV at h1
    rw [preV.preL, List.flatMap_append, List.length_append, bulkL]
    omega
end

mutual
theorem bulk_strings : ∀ v : V, bulkV v ≤ 900 → ∀ u ∈ preV v, u.s.length ≤ 1000 ∧ u.l.length ≤ 900
  | .mk k n f s l, h, u, hu => by
    rw [bulkV] at h
    have hb := bulkL_len l
    rw [preV] at hu
    rcases List.mem_cons.1 hu with e | e
    · rw [e]
      show s.length ≤ 1000 ∧ l.length ≤ 900
      omega
    · exact bulks_strings l (by omega) u e
theorem bulks_strings : ∀ l : List V, bulkL l ≤ 900 → ∀ u ∈ preV.preL l, u.s.length ≤ 1000 ∧ u.l.length ≤ 900
  | [], _, u, hu => by simp [preV.preL] at hu
  | v :: r, h, u, hu => by
    rw [bulkL] at h
    rw [preV.preL] at hu
    rcases List.mem_append.1 hu with e | e
    · exact bulk_strings v (by omega) u e
    · exact bulks_strings r (by omega) u e
end
end Go.Proofs.YtmcdfmhciinocaaGreatDoor

/- Bytes and Text of small events. -/
namespace Go.Proofs.YtmcdfmhciinocaaGreatDoor
open Go.RowKit Go.Shelf Fl

theorem ok_right {e : Ev} (h : okE e = true) : rightN 8 e.v = true := by
  have h5 := (okE_parts h).2 5 (by omega)
  by_cases hm : 5 ∈ evFields e.k
  · rw [if_pos hm] at h5
    simpa [rightE] using h5
  · rw [if_neg hm] at h5
    have h1 : sameV e.v zeroV = true := by simpa [emptyE] using h5
    rw [fields_same 8 _ _ h1]
    decide +kernel

theorem few_parts {e : Ev} (h : fewE e = true) : bulkV e.v ≤ 900 ∧ smallN 20 e.v = true ∧ e.nm.length ≤ 1100 ∧ e.tx.length ≤ 1100 := by
  unfold fewE fewB at h
  simp only [Bool.and_eq_true, decide_eq_true_eq] at h
  exact ⟨h.1.1.1, h.1.1.2, h.1.2, h.2⟩

theorem few_word {e : Ev} {w : World} {x : Array Value} (h : EvIn w e x) (hf : fewE e = true) (i : Nat) : (wordE e i).length ≤ 1000000 := by
  obtain ⟨f1, _, f3, f4⟩ := few_parts hf
  obtain ⟨_, h2, h3, h4, h5, h6, a, cap, _, hv⟩ := h
  have q : ∀ s : List Nat, s.length ≤ 1100 → (quoteL s).length ≤ 1000000 := fun s hs => by
    rw [quoteL_is, List.length_cons, List.length_append, hex2_len]
    simp
    omega
  unfold wordE
  repeat' split
  · have := decD_len20 h2; omega
  · have := decL_len h3; omega
  · have := decD_len20 h4; omega
  · exact q _ f3
  · exact q _ f4
  · unfold textB
    split
    · have := text_bulk e.v (VIn.sound _ _ hv) (fun u hu => (bulk_strings e.v f1 u hu).1)
      omega
    · simp

set_option maxRecDepth 100000 in
theorem evbytes_bad (q : Nat) (hq : q ≤ 1000) (e : Ev) (x : Array Value) (w : World) (hs : smallN q e.v = true) (hok : okE e = false) (h : EvIn w e x) :
    Calls Tryz.prog 9 #[.agg x] w (EBytesEnd w e) := by
  have HV := Lib.hid (fun W (hW : Below w.heap.size w W) => evalid_any q hq e x W hs (h.below hW))
  obtain ⟨_, b2, b3, b4, b5, b6, a, cap, rfl, hv⟩ := h
  rw [hok] at HV
  have Hok := Lib.hid hok
  have Hal := Lib.hid ((Below.refl w.heap.size w).alloc (Nat.le_refl _) (.cells (evC e.k e.id e.n e.t e.nm e.tx e.v.kind e.v.n e.v.f e.v.s a e.v.l.length cap) 28))
  have HV := Lib.hid (HV.out _ Hal.out)
  clear hok hs b2 b3 b4 b5 b6 hv hq
  go_enter Tryz.func9, Tryz.ntmps9
  go_wp2_with fail
  refine HV.out.mono ?_
  rintro r w1 ⟨rfl, hb⟩
  have Hb := Lib.hid (Hal.out.trans (hb.mono Hal.out.size))
  clear hb
  go_wp2
  refine bodyPost_ret (v := .tuple #[.slice none 0 0, .bool false]) (by simp [results, Tryz.results9, go_sem, *]) rfl ?_
  exact .inl ⟨Hok.out, rfl, Hb.out⟩

theorem form_few {e : Ev} {w : World} {x : Array Value} (h : EvIn w e x) (hf : fewE e = true) (hr : rightN 8 e.v = true) : (formV e.v).length ≤ 10000000 ∧ ∀ u ∈ preV e.v, u.s.length ≤ 1000000 := by
  obtain ⟨f1, _⟩ := few_parts hf
  obtain ⟨_, _, _, _, _, _, a, cap, _, hv⟩ := h
  have hb := fun u hu => bulk_strings e.v f1 u hu
  refine ⟨?_, fun u hu => by have := (hb u hu).1; omega⟩
  have := form_bulk e.v (VIn.sound _ _ hv) (fun u hu => ⟨(hb u hu).1, (pre_kinds e.v 8 hr u hu).2, by have := (hb u hu).2; omega⟩)
  omega

theorem evbytes_few (e : Ev) (x : Array Value) (w : World) (hf : fewE e = true) (h : EvIn w e x) : Calls Tryz.prog 9 #[.agg x] w (EBytesEnd w e) := by
  obtain ⟨_, f2, _, _⟩ := few_parts hf
  cases hok : okE e with
  | false => exact evbytes_bad 20 (by omega) e x w f2 hok h
  | true =>
    obtain ⟨g1, g2⟩ := form_few h hf (ok_right hok)
    exact evbytes_any 20 (by omega) e x w f2 g1 g2 h

theorem formE_byte {e : Ev} {w : World} {x : Array Value} (h : EvIn w e x) : ∀ c ∈ formE e, c < 256 := by
  obtain ⟨_, _, _, _, h5, h6, a, cap, _, hv⟩ := h
  have hp : ∀ i, ∀ c ∈ pieceE e i, c < 256 := fun i => by
    unfold pieceE
    repeat' split
    · exact form_byte _
    · exact form_byte _
    · exact form_byte _
    · exact formB_byte h5.1
    · exact formB_byte h6.1
    · exact formV_byte e.v w _ hv
  unfold formE
  intro c hc
  rcases List.mem_append.1 hc with hc | hc
  · rcases List.mem_append.1 hc with hc | hc
    · exact form_byte _ c hc
    · exact form_byte _ c hc
  · obtain ⟨l, hl, hc⟩ := List.mem_flatten.1 hc
    obtain ⟨i, _, rfl⟩ := List.mem_map.1 hl
    exact hp i c hc

theorem joinS_byte : ∀ a : List (List Nat), (∀ x ∈ a, ∀ c ∈ x, c < 256) → ∀ c ∈ joinS a, c < 256
  | [], _, c, hc => by simp [joinS] at hc
  | [y], h, c, hc => h y (by simp) c hc
  | y :: z :: r, h, c, hc => by
    rw [joinS] at hc
    rcases List.mem_append.1 hc with e | e
    · exact h y (by simp) c e
    · rcases List.mem_cons.1 e with e | e
      · omega
      · exact joinS_byte (z :: r) (fun x hx => h x (by simp [hx])) c e

theorem sound_mem : ∀ {l : List V}, soundL l → ∀ u ∈ l, soundV u
  | [], _, u, hu => by cases hu
  | v :: r, h, u, hu => by
    rw [soundL] at h
    rcases List.mem_cons.1 hu with e | e
    · rw [e]; exact h.1
    · exact sound_mem h.2 u e

theorem text_byte : ∀ v : V, soundV v → ∀ c ∈ textV v, c < 256 := by
  refine V.ind ?_
  rintro ⟨k, n, f, s, l⟩ ih hs c hc
  change ∀ u ∈ l, _ at ih
  rw [soundV] at hs
  rw [textV] at hc
  split at hc
  · exact decL_byte _ c hc
  split at hc
  · rcases List.mem_cons.1 hc with e | e
    · omega
    · exact textL_byte _ c e
  split at hc
  · rcases List.mem_cons.1 hc with e | e
    · omega
    · rcases List.mem_append.1 e with e | e
      · exact hex2_byte hs.2.2.1 c e
      · have := List.mem_singleton.1 e; omega
  split at hc
  · rcases List.mem_cons.1 hc with e | e
    · omega
    · rcases List.mem_append.1 e with e | e
      · refine joinS_byte _ (fun x hx => ?_) c e
        rw [textVs_map] at hx
        obtain ⟨u, hu, rfl⟩ := List.mem_map.1 hx
        exact ih u hu (sound_mem hs.2.2.2 u hu)
      · have := List.mem_singleton.1 e; omega
  · simp at hc; omega

def ByteL (x : List Nat) : Prop := ∀ c ∈ x, c < 256
theorem evName_byte (k : Int) : ByteL (evName k) := by
  unfold evName
  (repeat' split) <;> (unfold ByteL; decide)

theorem textE_byte {e : Ev} {w : World} {x : Array Value} (h : EvIn w e x) : ∀ c ∈ textE e, c < 256 := by
  obtain ⟨_, _, _, _, h5, h6, a, cap, _, hv⟩ := h
  have hd : ∀ n, ∀ c ∈ decD n, c < 256 := fun n c hc => by have := decD_digit n c hc; omega
  have hq : ∀ s : List Nat, (∀ c ∈ s, c < 256) → ∀ c ∈ quoteL s, c < 256 := fun s hs c hc => by
    rw [quoteL_is] at hc
    rcases List.mem_cons.1 hc with rfl | hc
    · omega
    rcases List.mem_append.1 hc with hc | hc
    · exact hex2_byte hs c hc
    · rw [List.mem_singleton.1 hc]; omega
  have hw : ∀ i, ∀ c ∈ wordE e i, c < 256 := fun i => by
    unfold wordE
    repeat' split
    · exact hd _
    · exact decL_byte _
    · exact hd _
    · exact hq _ h5.1
    · exact hq _ h6.1
    · intro c hc
      unfold textB at hc
      by_cases hr : rightN 8 e.v = true
      · rw [if_pos hr] at hc
        exact text_byte e.v (VIn.sound _ _ hv) c hc
      · rw [if_neg hr] at hc
        cases hc
  intro c hc
  unfold textE at hc
  by_cases hok : okE e = true
  · rw [if_pos hok] at hc
    rcases List.mem_append.1 hc with hc | hc
    · exact evName_byte _ c hc
    · unfold wordsT at hc
      obtain ⟨l, hl, hc⟩ := List.mem_flatten.1 hc
      obtain ⟨i, _, rfl⟩ := List.mem_map.1 hl
      rcases List.mem_cons.1 hc with e1 | hc
      · omega
      · exact hw i c hc
  · rw [if_neg hok] at hc
    cases hc

/-- What Bytes answers, as a slice. -/
theorem ebytes_slice {w w' : World} {e : Ev} {r : Ending} (h : EBytesEnd w e r w') (hb : ∀ c ∈ formE e, c < 256) : ∃ p n cap L, r = .returned (.tuple #[.slice p n cap, .bool (okE e)]) ∧ Bytes w' p n cap L ∧ Below w.heap.size w w' ∧ (okE e = true → L = formE e) := by
  rcases h with ⟨h0, rfl, hb'⟩ | ⟨h1, u, rfl, ho, hb'⟩
  · exact ⟨none, 0, 0, [], by rw [h0], ⟨rfl, Nat.le_refl _, by omega, fun c h => (by cases h), fun _ => rfl, fun h => absurd h (by omega)⟩, hb', fun h => by rw [h0] at h; cases h⟩
  · obtain ⟨p, cp, rfl, hB⟩ := own_slice ho hb
    exact ⟨p, _, cp, formE e, by rw [h1], hB, hb', fun _ => rfl⟩

theorem evtext_few (e : Ev) (x : Array Value) (w : World) (hf : fewE e = true) (h : EvIn w e x) (hp : Pow10 w) (ht : Tab16 w) : Calls Tryz.prog 13 #[.agg x] w fun r w' => r = .returned (.string (str (textE e))) ∧ Below w.heap.size w w' :=
  evtext_any 20 (by omega) e x w (few_parts hf).2.1 (few_word h hf) hp ht h
end Go.Proofs.YtmcdfmhciinocaaGreatDoor

/- Valid events, field by field, as the reference asks. -/
namespace Go.Proofs.YtmcdfmhciinocaaGreatDoor
open Go.RowKit Fl

theorem lett_mem {k : Int} {i : Nat} (hi : i < 6) : lett i ∈ evL k ↔ i ∈ evFields k := by
  unfold evL
  constructor
  · intro h
    obtain ⟨j, hj, e⟩ := List.mem_map.1 h
    have hj6 := evFields_lt _ _ hj
    have : j = i := by
      unfold lett at e
      match i, j, hi, hj6 with
      | 0, 0, _, _ | 1, 1, _, _ | 2, 2, _, _ | 3, 3, _, _ | 4, 4, _, _ | 5, 5, _, _ => rfl
      | 0, 1, _, _ | 0, 2, _, _ | 0, 3, _, _ | 0, 4, _, _ | 0, 5, _, _ => simp at e
      | 1, 0, _, _ | 1, 2, _, _ | 1, 3, _, _ | 1, 4, _, _ | 1, 5, _, _ => simp at e
      | 2, 0, _, _ | 2, 1, _, _ | 2, 3, _, _ | 2, 4, _, _ | 2, 5, _, _ => simp at e
      | 3, 0, _, _ | 3, 1, _, _ | 3, 2, _, _ | 3, 4, _, _ | 3, 5, _, _ => simp at e
      | 4, 0, _, _ | 4, 1, _, _ | 4, 2, _, _ | 4, 3, _, _ | 4, 5, _, _ => simp at e
      | 5, 0, _, _ | 5, 1, _, _ | 5, 2, _, _ | 5, 3, _, _ | 5, 4, _, _ => simp at e
    rw [← this]; exact hj
  · exact fun h => List.mem_map.2 ⟨i, h, rfl⟩

theorem zero_iff {v : V} : sameV v zeroV = true ↔ rightN 8 v = true ∧ v.kind = 0 := by
  obtain ⟨k, n, f, s, l⟩ := v
  constructor
  · intro h
    refine ⟨by rw [fields_same 8 _ _ h]; decide +kernel, ?_⟩
    unfold zeroV at h
    rw [sameV, Bool.and_eq_true, decide_eq_true_eq] at h
    exact h.1.1
  · rintro ⟨h, hk⟩
    change k = 0 at hk
    obtain ⟨⟨a1, a2, a3, a4⟩, _⟩ := rightN_field h
    change k = 1 ∨ n = 0 at a1
    change k = 2 ∨ bitsB f = 0 at a2
    change k = 3 ∨ s = [] at a3
    change k = 4 ∨ l = [] at a4
    have hz : bitsB 0 = 0 := by decide
    unfold zeroV
    rw [a4.resolve_left (by omega), a3.resolve_left (by omega), a1.resolve_left (by omega), hk, sameV, a2.resolve_left (by omega), hz]
    simp [sameL]

/-- Each field as the reference asks. -/
def refF (e : Ev) (i : Nat) : Bool :=
  if i = 0 then decide (105 ∈ evL e.k) == decide (e.id ≠ 0)
  else if i = 1 then (if decide (110 ∈ evL e.k) = true then decide (1 ≤ e.n) && decide (e.n ≤ 2147483647) else decide (e.n = 0))
  else if i = 2 then decide (e.t ≤ 9223372036854775807) && (decide (97 ∈ evL e.k) || decide (e.t = 0))
  else if i = 3 then (decide (115 ∈ evL e.k) == decide (e.nm ≠ [])) && decide (e.nm.length ≤ 1000)
  else if i = 4 then decide (e.tx.length ≤ 1000) && (decide (116 ∈ evL e.k) || decide (e.tx = []))
  else rightN 8 e.v && (decide (118 ∈ evL e.k) || decide (e.v.kind = 0))

theorem refF_is (e : Ev) (i : Nat) (hi : i < 6) : (if i ∈ evFields e.k then rightE e i else emptyE e i) = refF e i := by
  have hm := @lett_mem e.k i hi
  match i, hi with
  | 0, _ =>
    change 105 ∈ evL e.k ↔ _ at hm
    show _ = (decide (105 ∈ evL e.k) == decide (e.id ≠ 0))
    by_cases h : 0 ∈ evFields e.k
    · rw [if_pos h, decide_eq_true (hm.2 h)]; show decide (e.id ≠ 0) = _; simp
    · rw [if_neg h, decide_eq_false (fun h' => h (hm.1 h'))]; show decide (e.id = 0) = _; simp
  | 1, _ =>
    change 110 ∈ evL e.k ↔ _ at hm
    show _ = (if decide (110 ∈ evL e.k) = true then decide (1 ≤ e.n) && decide (e.n ≤ 2147483647) else decide (e.n = 0))
    by_cases h : 1 ∈ evFields e.k
    · rw [if_pos h, decide_eq_true (hm.2 h)]; show decide (1 ≤ e.n ∧ e.n ≤ 2147483647) = _; simp
    · rw [if_neg h, decide_eq_false (fun h' => h (hm.1 h'))]; rfl
  | 2, _ =>
    change 97 ∈ evL e.k ↔ _ at hm
    show _ = (decide (e.t ≤ 9223372036854775807) && (decide (97 ∈ evL e.k) || decide (e.t = 0)))
    by_cases h : 2 ∈ evFields e.k
    · rw [if_pos h, decide_eq_true (hm.2 h)]; show decide (e.t ≤ 9223372036854775807) = _; simp
    · rw [if_neg h, decide_eq_false (fun h' => h (hm.1 h'))]; show decide (e.t = 0) = _
      rw [Bool.eq_iff_iff]; simp; omega
  | 3, _ =>
    change 115 ∈ evL e.k ↔ _ at hm
    show _ = ((decide (115 ∈ evL e.k) == decide (e.nm ≠ [])) && decide (e.nm.length ≤ 1000))
    by_cases h : 3 ∈ evFields e.k
    · rw [if_pos h, decide_eq_true (hm.2 h)]; show decide (e.nm ≠ [] ∧ e.nm.length ≤ 1000) = _; simp
    · rw [if_neg h, decide_eq_false (fun h' => h (hm.1 h'))]; show decide (e.nm = []) = _
      rw [Bool.eq_iff_iff]; simp; intro h0; rw [h0]; simp
  | 4, _ =>
    change 116 ∈ evL e.k ↔ _ at hm
    show _ = (decide (e.tx.length ≤ 1000) && (decide (116 ∈ evL e.k) || decide (e.tx = [])))
    by_cases h : 4 ∈ evFields e.k
    · rw [if_pos h, decide_eq_true (hm.2 h)]; show decide (e.tx.length ≤ 1000) = _; simp
    · rw [if_neg h, decide_eq_false (fun h' => h (hm.1 h'))]; show decide (e.tx = []) = _
      rw [Bool.eq_iff_iff]; simp; intro h0; rw [h0]; simp
  | 5, _ =>
    change 118 ∈ evL e.k ↔ _ at hm
    show _ = (rightN 8 e.v && (decide (118 ∈ evL e.k) || decide (e.v.kind = 0)))
    by_cases h : 5 ∈ evFields e.k
    · rw [if_pos h, decide_eq_true (hm.2 h)]; show rightN 8 e.v = _; simp
    · rw [if_neg h, decide_eq_false (fun h' => h (hm.1 h'))]; show sameV e.v zeroV = _
      rw [Bool.eq_iff_iff, zero_iff]; simp

theorem evName_some {k : Int} (h : 1 ≤ k ∧ k ≤ 11) : evName k ≠ [] := by
  have c : k = 1 ∨ k = 2 ∨ k = 3 ∨ k = 4 ∨ k = 5 ∨ k = 6 ∨ k = 7 ∨ k = 8 ∨ k = 9 ∨ k = 10 ∨ k = 11 := by omega
  rcases c with rfl | rfl | rfl | rfl | rfl | rfl | rfl | rfl | rfl | rfl | rfl <;> decide

theorem okE_ref {e : Ev} (h : 1 ≤ e.k ∧ e.k ≤ 11) : okE e = (refF e 0 && refF e 1 && refF e 2 && refF e 3 && refF e 4 && refF e 5) := by
  unfold okE
  rw [decide_eq_true (evName_some h), Bool.true_and]
  have e1 : ((List.range 6).all fun i => if i ∈ evFields e.k then rightE e i else emptyE e i) = (List.range 6).all (refF e) := by
    rw [Bool.eq_iff_iff, List.all_eq_true, List.all_eq_true]
    constructor
    · intro h i hi; rw [← refF_is e i (by simpa using hi)]; exact h i hi
    · intro h i hi; rw [refF_is e i (by simpa using hi)]; exact h i hi
  rw [e1]
  simp [List.range, List.range.loop, Bool.and_assoc]
end Go.Proofs.YtmcdfmhciinocaaGreatDoor

/- The walks of the two functions that read a number: each returns what the plain reading says. -/
namespace Go.Proofs.YtmcdfmhciinocaaGreatDoor
open Go.RowKit

theorem digit_facts {X c k : Nat} (hX : X < 128 ^ k) (hk : k < 10) (h9 : ¬ (k = 9 ∧ 1 < c % 128)) : X + c % 128 * 128 ^ k < 128 ^ (k + 1) ∧ X + c % 128 * 128 ^ k < 18446744073709551616 := by
  have h1 : c % 128 * 128 ^ k ≤ 127 * 128 ^ k := Nat.mul_le_mul_right _ (by omega)
  have h2 : 128 ^ (k + 1) = 128 * 128 ^ k := by rw [Nat.pow_succ, Nat.mul_comm]
  refine ⟨by omega, ?_⟩
  by_cases e : k = 9
  · subst e
    have h3 : c % 128 ≤ 1 := by omega
    have h4 : c % 128 * 128 ^ 9 ≤ 1 * 128 ^ 9 := Nat.mul_le_mul_right _ h3
    omega
  · have h3 : 128 ^ k ≤ 128 ^ 8 := Nat.pow_le_pow_right (by omega) (by omega)
    omega

theorem digit_cast (c k : Nat) : (c : Int) % 128 * 2 ^ (7 * k) = ((c % 128 * 128 ^ k : Nat) : Int) := by
  rw [Int.natCast_mul, Int.natCast_pow, Int.pow_mul]
  rfl

theorem digit_wrap {X c k : Nat} (hX : X < 128 ^ k) (hk : k < 10) (h9 : ¬ (k = 9 ∧ 1 < c % 128)) : IntKind.u64.wrap ((c : Int) % 128 * 2 ^ (7 * k)) = ((c % 128 * 128 ^ k : Nat) : Int) := by
  have h := (digit_facts hX hk h9).2
  rw [digit_cast, IntWalk.u64_in _ ⟨by omega, by omega⟩]

theorem or_digit {X c k : Nat} (hX : X < 128 ^ k) (hk : k < 10) (h9 : ¬ (k = 9 ∧ 1 < c % 128)) :
    bits .or .u64 (X : Int) (IntKind.u64.wrap ((c : Int) % 128 * 2 ^ (7 * k))) = ((X + c % 128 * 128 ^ k : Nat) : Int) := by
  have h := (digit_facts hX hk h9).2
  rw [digit_wrap hX hk h9, u64_or_nat _ _ (by omega) (by omega)]
  congr 1
  have e : (128 : Nat) ^ k = 2 ^ (7 * k) := by rw [Nat.pow_mul]
  rw [e] at hX ⊢
  rw [Nat.or_comm, Nat.mul_comm (c % 128), ← Nat.two_pow_add_eq_or_of_lt hX, Nat.add_comm]

theorem or_digit9 {X c : Nat} (hX : X < 128 ^ 9) (h : c % 128 ≤ 1) : bits .or .u64 (X : Int) ((c : Int) % 128 * 9223372036854775808) = ((X + c % 128 * 128 ^ 9 : Nat) : Int) := by
  rw [← or_digit hX (by omega) (by omega), digit_wrap hX (by omega) (by omega)]
  congr 1

theorem add_digit {X c k : Nat} (hX : X < 128 ^ k) (hk : k < 10) (h9 : ¬ (k = 9 ∧ 1 < c % 128)) :
    IntKind.u64.wrap ((X : Int) + IntKind.u64.wrap ((c : Int) % 128 * 2 ^ (7 * k))) = ((X + c % 128 * 128 ^ k : Nat) : Int) := by
  have h := (digit_facts hX hk h9).2
  rw [digit_wrap hX hk h9, ← Int.natCast_add, IntWalk.u64_in _ ⟨by omega, by omega⟩]

theorem u64_eq {a b : Int} (h : a = b) : Value.int .u64 a = Value.int .u64 b := by rw [h]
theorem ret_num {p : Nat × Nat} {a b : Int} {x y : Nat} (h : p = (x, y)) (ha : a = (x : Int)) (hb : b = (y : Int)) :
    Ending.returned (.tuple #[.int .u64 a, .int .i64 b]) = Ending.returned (.tuple #[.int .u64 (p.1 : Int), .int .i64 (p.2 : Int)]) := by subst h ha hb; rfl

def ParseRel (l : List Nat) (n : Nat) (x i : Value) : Prop := ∃ (k X : Nat), k ≤ n ∧ k ≤ 10 ∧ i = .int .i64 k ∧ x = .int .u64 X ∧ X < 18446744073709551616 ∧ X < 128 ^ k ∧ numL l 0 0 = numL (l.drop k) k X

theorem parse_start (l : List Nat) (n : Nat) : ParseRel l n (.int .u64 0) (.int .i64 0) := ⟨0, 0, Nat.zero_le _, Nat.zero_le _, rfl, rfl, by omega, by decide, rfl⟩

theorem parse_next {l : List Nat} {n k X c : Nat} {x : Int} (hk : k < n) (hk10 : k < 10) (hX : X < 128 ^ k) (he : numL l 0 0 = numL (l.drop k) k X) (hd : l.drop k = c :: l.drop (k + 1)) (h9 : ¬ (k = 9 ∧ 1 < c % 128)) (hc : 128 ≤ c)
    (hx : x = ((X + c % 128 * 128 ^ k : Nat) : Int)) : ParseRel l n (.int .u64 x) (.int .i64 ((k : Int) + 1)) := by
  obtain ⟨f1, f2⟩ := digit_facts hX hk10 h9
  exact ⟨k + 1, _, hk, hk10, by go_num, u64_eq hx, f2, f1, by rw [he, hd, numL_more hk10 h9 (by omega)]⟩

theorem parse_end {l : List Nat} {n k X : Nat} (hl : l.length = n) (h : ¬ (k < n ∧ k < 10)) (hk : k ≤ n) (hk10 : k ≤ 10) (he : numL l 0 0 = numL (l.drop k) k X) : numL l 0 0 = (0, 0) := by
  rw [he]
  by_cases e : k = 10
  · subst e; exact numL_ten _ _
  · rw [List.drop_eq_nil_of_le (by omega)]; rfl

theorem add_digit9 {X c : Nat} (hX : X < 128 ^ 9) (h : c % 128 ≤ 1) : IntKind.u64.wrap ((X : Int) + (c : Int) % 128 * 9223372036854775808) = ((X + c % 128 * 128 ^ 9 : Nat) : Int) := by
  rw [← add_digit hX (by omega) (by omega), digit_wrap hX (by omega) (by omega)]
  congr 1

set_option maxRecDepth 100000 in
set_option maxHeartbeats 1600000 in
theorem parse_any (a : Option Addr) (n cap : Nat) (l : List Nat) (w : World) (hl : Bytes w a n cap l) :
    Calls Tryz.prog 148 #[.slice a n cap] w fun e w' => e = .returned (.tuple #[.int .u64 (numL l 0 0).1, .int .i64 (numL l 0 0).2]) ∧ w = w' := by
  have hmax := hl.max
  have hle := hl.le
  have HB := Lib.hid hl
  clear hl
  by_cases hn : n ≤ 10
  all_goals
    go_enter Tryz.func148, Tryz.ntmps148
    go_wp2
    go_loop [2, 13] (fun x i => ParseRel l n x i) (fun _ i => 10 - (intOf i).toNat)
    case atStart => exact parse_start l n
    case round =>
      obtain ⟨k, X, hk, hk10, rfl, rfl, hX, hp, he⟩ := hrel
      have HP := Lib.hid hp
      have He := Lib.hid he
      clear hp he
      by_cases hlt : k < n ∧ k < 10
      · obtain ⟨hlt1, hlt2⟩ := hlt
        obtain ⟨b, o, rfl, hc0⟩ := HB.out.cell (by omega)
        have hc := hc0 k (by omega)
        have hg := HB.out.get (i := k) (by omega)
        have Hdc := Lib.hid (drop_cons (l := l) (k := k) (by rw [HB.out.len]; omega))
        clear hc0
        generalize l.getD k 0 = c at hc hg Hdc
        by_cases h9 : k = 9 ∧ 1 < c % 128
        · obtain ⟨rfl, h91⟩ := h9
          have hfin := Lib.hid (show numL l 0 0 = (0, 0) by rw [He.out, Hdc.out]; exact numL_nine h91)
          have h92 : (1 : Int) < (c : Int) % 128 := by omega
          go_wp2
          go_ret2
          exact ⟨ret_num hfin.out rfl rfl, rfl⟩
        · have hor := Lib.hid (or_digit HP.out hlt2 h9)
          have H9 := Lib.hid h9
          have h91 : k = 9 → c % 128 ≤ 1 := by omega
          have Hd1 := Lib.hid h91
          clear h9 h91
          by_cases hc8 : 128 ≤ c
          · by_cases h9 : k = 9
            · subst h9
              have hd : (c : Int) % 128 ≤ 1 := by have := Hd1.out rfl; omega
              go_wp2
              go_round
              case rel => exact parse_next hlt1 hlt2 HP.out He.out Hdc.out H9.out hc8 (or_digit9 HP.out (by omega))
              case measure => simp [intOf]
            · have hq : ((k : Int) == 9) = false := beq_eq_false_iff_ne.2 (by omega)
              go_wp2
              go_round
              case rel => exact parse_next hlt1 hlt2 HP.out He.out Hdc.out H9.out hc8 hor.out
              case measure => simp [intOf]; omega
          · have hc8' : c < 128 := by omega
            by_cases hz : 0 < k ∧ c % 128 = 0
            · have hfin := Lib.hid (show numL l 0 0 = (0, 0) by rw [He.out, Hdc.out]; exact numL_zero hlt2 hc8' hz.1 hz.2)
              obtain ⟨hz1, hz2⟩ := hz
              have hqz : ((c : Int) % 128 == 0) = true := beq_iff_eq.2 (by omega)
              have Hz2 := Lib.hid hz2
              clear hz2
              by_cases h9 : k = 9
              · subst h9
                have hd : (c : Int) % 128 ≤ 1 := by have := Hd1.out rfl; omega
                go_wp2
                go_ret2
                exact ⟨ret_num hfin.out rfl rfl, rfl⟩
              · have hq : ((k : Int) == 9) = false := beq_eq_false_iff_ne.2 (by omega)
                go_wp2
                go_ret2
                exact ⟨ret_num hfin.out rfl rfl, rfl⟩
            · have hfin := Lib.hid (show numL l 0 0 = (X + c % 128 * 128 ^ k, k + 1) by rw [He.out, Hdc.out]; exact numL_last hlt2 H9.out hc8' hz)
              by_cases h9 : k = 9
              · subst h9
                have hd : (c : Int) % 128 ≤ 1 := by have := Hd1.out rfl; omega
                have hqz : ((c : Int) % 128 == 0) = false := beq_eq_false_iff_ne.2 (by omega)
                go_wp2
                go_ret2
                exact ⟨ret_num hfin.out (or_digit9 HP.out (by omega)) (by omega), rfl⟩
              · have hq : ((k : Int) == 9) = false := beq_eq_false_iff_ne.2 (by omega)
                by_cases hz0 : c % 128 = 0
                · have hqz : ((c : Int) % 128 == 0) = true := beq_iff_eq.2 (by omega)
                  have hk0 : (k : Int) ≤ 0 := by omega
                  have Hz0 := Lib.hid hz0
                  clear hz0
                  go_wp2
                  go_ret2
                  exact ⟨ret_num hfin.out hor.out (by omega), rfl⟩
                · have hqz : ((c : Int) % 128 == 0) = false := beq_eq_false_iff_ne.2 (by omega)
                  go_wp2
                  go_ret2
                  exact ⟨ret_num hfin.out hor.out (by omega), rfl⟩
      · have hfin := Lib.hid (parse_end HB.out.len hlt hk hk10 He.out)
        have hend : n ≤ k ∨ 10 ≤ k := by omega
        go_wp2
        go_ret2
        exact ⟨ret_num hfin.out rfl rfl, rfl⟩

set_option maxRecDepth 100000 in
set_option maxHeartbeats 1600000 in
theorem rnumber_any (a : Option Addr) (n cap : Nat) (l : List Nat) (w : World) (hl : Bytes w a n cap l) :
    Calls Tryz.prog 125 #[.slice a n cap] w fun e w' => e = .returned (.tuple #[.int .u64 (numL l 0 0).1, .int .i64 (numL l 0 0).2]) ∧ w = w' := by
  have hmax := hl.max
  have hle := hl.le
  have HB := Lib.hid hl
  clear hl
  by_cases hn : n ≤ 10
  all_goals
    go_enter Tryz.func125, Tryz.ntmps125
    go_wp2
    go_loop [4, 5] (fun x i => ParseRel l n x i) (fun _ i => 10 - (intOf i).toNat)
    case atStart => exact parse_start l n
    case round =>
      obtain ⟨k, X, hk, hk10, rfl, rfl, hX, hp, he⟩ := hrel
      have HP := Lib.hid hp
      have He := Lib.hid he
      clear hp he
      by_cases hlt : k < n ∧ k < 10
      · obtain ⟨hlt1, hlt2⟩ := hlt
        obtain ⟨b, o, rfl, hc0⟩ := HB.out.cell (by omega)
        have hc := hc0 k (by omega)
        have hg := HB.out.get (i := k) (by omega)
        have Hdc := Lib.hid (drop_cons (l := l) (k := k) (by rw [HB.out.len]; omega))
        clear hc0
        generalize l.getD k 0 = c at hc hg Hdc
        by_cases h9 : k = 9 ∧ 1 < c % 128
        · obtain ⟨rfl, h91⟩ := h9
          have hfin := Lib.hid (show numL l 0 0 = (0, 0) by rw [He.out, Hdc.out]; exact numL_nine h91)
          have h92 : (1 : Int) < (c : Int) % 128 := by omega
          go_wp2
          go_ret2
          exact ⟨ret_num hfin.out rfl rfl, rfl⟩
        · have hor := Lib.hid (add_digit HP.out hlt2 h9)
          have H9 := Lib.hid h9
          have h91 : k = 9 → c % 128 ≤ 1 := by omega
          have Hd1 := Lib.hid h91
          clear h9 h91
          by_cases hc8 : 128 ≤ c
          · by_cases h9 : k = 9
            · subst h9
              have hd : (c : Int) % 128 ≤ 1 := by have := Hd1.out rfl; omega
              go_wp2
              go_round
              case rel => exact parse_next hlt1 hlt2 HP.out He.out Hdc.out H9.out hc8 (add_digit9 HP.out (by omega))
              case measure => simp [intOf]
            · have hq : ((k : Int) == 9) = false := beq_eq_false_iff_ne.2 (by omega)
              go_wp2
              go_round
              case rel => exact parse_next hlt1 hlt2 HP.out He.out Hdc.out H9.out hc8 hor.out
              case measure => simp [intOf]; omega
          · have hc8' : c < 128 := by omega
            by_cases hz : 0 < k ∧ c % 128 = 0
            · have hfin := Lib.hid (show numL l 0 0 = (0, 0) by rw [He.out, Hdc.out]; exact numL_zero hlt2 hc8' hz.1 hz.2)
              obtain ⟨hz1, hz2⟩ := hz
              have hqz : ((c : Int) % 128 == 0) = true := beq_iff_eq.2 (by omega)
              have Hz2 := Lib.hid hz2
              clear hz2
              by_cases h9 : k = 9
              · subst h9
                have hd : (c : Int) % 128 ≤ 1 := by have := Hd1.out rfl; omega
                go_wp2
                go_ret2
                exact ⟨ret_num hfin.out rfl rfl, rfl⟩
              · have hq : ((k : Int) == 9) = false := beq_eq_false_iff_ne.2 (by omega)
                go_wp2
                go_ret2
                exact ⟨ret_num hfin.out rfl rfl, rfl⟩
            · have hfin := Lib.hid (show numL l 0 0 = (X + c % 128 * 128 ^ k, k + 1) by rw [He.out, Hdc.out]; exact numL_last hlt2 H9.out hc8' hz)
              by_cases h9 : k = 9
              · subst h9
                have hd : (c : Int) % 128 ≤ 1 := by have := Hd1.out rfl; omega
                have hqz : ((c : Int) % 128 == 0) = false := beq_eq_false_iff_ne.2 (by omega)
                go_wp2
                go_ret2
                exact ⟨ret_num hfin.out (add_digit9 HP.out (by omega)) (by omega), rfl⟩
              · have hq : ((k : Int) == 9) = false := beq_eq_false_iff_ne.2 (by omega)
                by_cases hz0 : c % 128 = 0
                · have hqz : ((c : Int) % 128 == 0) = true := beq_iff_eq.2 (by omega)
                  have hk0 : (k : Int) ≤ 0 := by omega
                  have Hz0 := Lib.hid hz0
                  clear hz0
                  go_wp2
                  go_ret2
                  exact ⟨ret_num hfin.out hor.out (by omega), rfl⟩
                · have hqz : ((c : Int) % 128 == 0) = false := beq_eq_false_iff_ne.2 (by omega)
                  go_wp2
                  all_goals go_ret2
                  all_goals exact ⟨ret_num hfin.out hor.out (by omega), rfl⟩
      · have hfin := Lib.hid (parse_end HB.out.len hlt hk hk10 He.out)
        have hend : n ≤ k ∨ 10 ≤ k := by omega
        go_wp2
        go_ret2
        exact ⟨ret_num hfin.out rfl rfl, rfl⟩
end Go.Proofs.YtmcdfmhciinocaaGreatDoor

/- Parts of byte slices: 's[k:]' and 's[:k]' as one equation each, whatever the capacity is. -/
namespace Go.Proofs.YtmcdfmhciinocaaGreatDoor
open Go.RowKit

/-- The address of a slice that has room. -/
def Formed (a : Option Addr) (c : Nat) : Prop := 0 < c → ∃ b o, a = some ⟨b, o, none⟩

theorem formed_none (c : Nat) (h : c = 0) : Formed none c := fun hc => by omega
theorem formed_at (b o c : Nat) : Formed (some ⟨b, o, none⟩) c := fun _ => ⟨b, o, rfl⟩

theorem own_formed {w : World} {base : Nat} {e : TypeId} {p : Option Addr} {n c m : Nat} {l : List Nat} (h : w.ownsRow base e 1 (.slice p n c) m (u8s l)) : Formed p c := by
  rcases h.2 with ⟨hv, _⟩ | ⟨g, cap', cur, hv, _⟩
  · cases hv; exact formed_none 0 rfl
  · cases hv; exact formed_at _ _ _

section
variable {P : Program}

theorem addr_add (b o k : Nat) : (⟨b, o, none⟩ : Addr).add k = ⟨b, o + k, none⟩ := by unfold Addr.add; split <;> simp_all

theorem bytes_none {w : World} {a : Option Addr} {c : Nat} (hm : c ≤ 9223372036854775807) (h : a = none → c = 0) : Bytes w a 0 c [] :=
  ⟨rfl, Nat.zero_le _, hm, fun _ h => (by cases h), h, fun h => absurd h (Nat.lt_irrefl _)⟩

/-- 's[k:]'. -/
theorem slice_from {T E : TypeId} (hT : P.underlying T = some (.slice E)) (hin : (P.info? E).map (fun i => (i.zero, i.size, i.bytes)) = some (some (.int .u8 0), 1, 1)) {a : Option Addr} {n c k : Nat} (hk : k ≤ n) (hn : n ≤ c) (hf : Formed a c) :
    ∃ a', (∀ (w : World) (kl : IntKind), (Instr.slice T (.slice a n c) (some (.int kl (k : Int))) none none).run P w = .ok (.slice a' (n - k) (c - k)) w) ∧ Formed a' (c - k) ∧ ∀ (w : World) (l : List Nat), Bytes w a n c l → Bytes w a' (n - k) (c - k) (l.drop k) := by
  obtain ⟨i, hi, _, hsz, _⟩ := info_parts hin
  have hT' : P.underlying T = some (.slice (P.elem T)) := by rw [hT]; simp [Program.elem, hT]
  have hE : P.elem T = E := by simp [Program.elem, hT]
  have hsize : ∀ w : World, (sizeOf (P.elem T)).run P w = .ok 1 w := fun w => by rw [hE]; simp [sizeOf, typeInfo, hi, hsz]
  refine ⟨if c = k then a else a.map (·.add (k * 1)), fun w kl => ?_, ?_, fun w l hl => ?_⟩
  · rw [run_slice_l w T a n c hT' kl (k : Int) (by omega) (by omega), hsize]
    rfl
  · intro h
    rw [if_neg (by omega)]
    obtain ⟨b, o, rfl⟩ := hf (by omega)
    exact ⟨b, o + k * 1, by simp [addr_add]⟩
  · have hcm := hl.capmax
    by_cases e : k = n
    · subst e
      rw [Nat.sub_self, List.drop_eq_nil_of_le (by rw [hl.len]; exact Nat.le_refl _)]
      refine bytes_none (by omega) (fun h => ?_)
      by_cases hck : c = k
      · omega
      · rw [if_neg hck] at h
        obtain ⟨b, o, rfl⟩ := hf (by omega)
        cases h
    · obtain ⟨b, o, rfl⟩ := hf (by omega)
      rw [if_neg (by omega), Nat.mul_one]
      simp only [Option.map_some, addr_add]
      exact hl.dropTo (by omega)

/-- 's[:k]'. -/
theorem slice_to {T E : TypeId} (hT : P.underlying T = some (.slice E)) (hin : (P.info? E).map (fun i => (i.zero, i.size, i.bytes)) = some (some (.int .u8 0), 1, 1)) {a : Option Addr} {n c k : Nat} (hk : k ≤ n) (hn : n ≤ c) (hf : Formed a c) :
    ∃ a', (∀ (w : World) (kl : IntKind), (Instr.slice T (.slice a n c) none (some (.int kl (k : Int))) none).run P w = .ok (.slice a' k c) w) ∧ Formed a' c ∧ ∀ (w : World) (l : List Nat), Bytes w a n c l → Bytes w a' k c (l.take k) := by
  obtain ⟨i, hi, _, hsz, _⟩ := info_parts hin
  have hT' : P.underlying T = some (.slice (P.elem T)) := by rw [hT]; simp [Program.elem, hT]
  have hE : P.elem T = E := by simp [Program.elem, hT]
  have hsize : ∀ w : World, (sizeOf (P.elem T)).run P w = .ok 1 w := fun w => by rw [hE]; simp [sizeOf, typeInfo, hi, hsz]
  have ha : (if c = 0 then a else a.map (·.add (0 * 1))) = a := by
    by_cases h : c = 0
    · rw [if_pos h]
    · rw [if_neg h]
      obtain ⟨b, o, rfl⟩ := hf (by omega)
      simp [addr_add]
  refine ⟨a, fun w kl => ?_, hf, fun w l hl => ?_⟩
  · rw [run_slice_h w T a n c hT' kl (k : Int) (by omega) (by omega), hsize]
    show Result.ok (Value.slice (if c = 0 then a else a.map (·.add (0 * 1))) (k - 0) (c - 0)) w = _
    rw [ha]; rfl
  · exact hl.takeTo hk (by omega) (Nat.le_refl _)
end
end Go.Proofs.YtmcdfmhciinocaaGreatDoor

/- The walks of a reader's methods: what they return, and what they leave of it. -/
namespace Go.Proofs.YtmcdfmhciinocaaGreatDoor
open Go.RowKit

/-- A reader in block g: the bytes that are left, and whether it is ok. -/
def Rd (w : World) (g : Nat) (l : List Nat) (ok : Bool) : Prop :=
  ∃ a n c, w.heap[g]? = some (.cells #[.slice a n c, .bool ok] 82 (0, 0)) ∧ Bytes w a n c l ∧ Formed a c

def readN (l : List Nat) (ok : Bool) : Nat × List Nat × Bool := if ok = true ∧ 0 < (numL l 0 0).2 then ((numL l 0 0).1, l.drop (numL l 0 0).2, true) else (0, l, false)
def takeN (l : List Nat) (ok : Bool) (k : Int) : List Nat × List Nat × Bool := if ok = true ∧ 0 ≤ k ∧ k ≤ l.length then (l.take k.toNat, l.drop k.toNat, true) else ([], l, false)
def readB (l : List Nat) (ok : Bool) : List Nat × List Nat × Bool :=
  if ok = true ∧ 0 < (numL l 0 0).2 ∧ (numL l 0 0).1 ≤ l.length - (numL l 0 0).2 then ((l.drop (numL l 0 0).2).take (numL l 0 0).1, l.drop ((numL l 0 0).2 + (numL l 0 0).1), true) else ([], l, false)

theorem Rd.below {w w' : World} {g : Nat} {l : List Nat} {ok : Bool} (h : Rd w g l ok) (hb : Below w.heap.size w w') : Rd w' g l ok := by
  obtain ⟨a, n, c, h1, h2, h3⟩ := h
  exact ⟨a, n, c, (hb.block g (Array.getElem?_eq_some_iff.1 h1).1).trans h1, h2.grow hb, h3⟩

theorem rd_cell {w : World} {g : Nat} {a : Option Addr} {n c : Nat} {ok : Bool} {t : TypeId} (h : w.heap[g]? = some (.cells #[.slice a n c, .bool ok] t (0, 0))) :
    w.cell? ⟨g, 0, none⟩ = some (.slice a n c) ∧ w.cell? ⟨g, 1, none⟩ = some (.bool ok) ∧ w.frozen? ⟨g, 0, none⟩ = false ∧ w.frozen? ⟨g, 1, none⟩ = false := by
  refine ⟨?_, ?_, ?_, ?_⟩
  · rw [cell_of_row _ _ _ _ _ _ h]; rfl
  · rw [cell_of_row _ _ _ _ _ _ h]; rfl
  · simp [World.frozen?, h]
  · simp [World.frozen?, h]

theorem rd_other {w : World} {g : Nat} {a : Option Addr} {n c : Nat} {ok : Bool} {t : TypeId} {l : List Nat} (h : w.heap[g]? = some (.cells #[.slice a n c, .bool ok] t (0, 0))) {a' : Option Addr} {n' c' : Nat} (hB : Bytes w a' n' c' l) (hn : 0 < n') {x : Addr} (hx : a' = some x) : x.block ≠ g := by
  intro e
  obtain ⟨b, o, rfl, hc⟩ := hB.cell hn
  cases hx
  have h0 := hc 0 hn
  simp only at e
  subst e
  rw [Nat.add_zero, cell_of_row _ _ _ _ _ _ h] at h0
  match o with
  | 0 => cases h0
  | 1 => cases h0
  | o + 2 => simp at h0

theorem Bytes.setFar {w : World} {a : Option Addr} {n c g i : Nat} {l : List Nat} (h : Bytes w a n c l) (hg : 0 < n → ∀ x, a = some x → x.block ≠ g) (v : Value) : Bytes (w.setCell ⟨g, i, none⟩ v) a n c l := by
  rcases Nat.eq_zero_or_pos n with rfl | hn
  · obtain rfl : l = [] := List.length_eq_zero_iff.1 h.len
    exact ⟨rfl, h.le, h.capmax, h.byte, h.nil, fun h => absurd h (Nat.lt_irrefl _)⟩
  · refine h.keep fun p _ hp => ?_
    obtain ⟨b, o, rfl, _⟩ := h.cell hn
    have e := hp _ rfl
    refine World.cell?_setCell_other w _ p v (fun e2 => ?_)
    have := hg hn _ rfl
    rw [← e2] at e
    exact this e.symm

theorem rd_store1 {w : World} {g : Nat} {a : Option Addr} {n c : Nat} {ok ok' : Bool} {t : TypeId} (h : w.heap[g]? = some (.cells #[.slice a n c, .bool ok] t (0, 0))) :
    (w.setCell ⟨g, 1, none⟩ (.bool ok')).heap[g]? = some (.cells #[.slice a n c, .bool ok'] t (0, 0)) := by
  simp [World.setCell, Array.getElem?_modify, h]

theorem rd_store0 {w : World} {g : Nat} {a a' : Option Addr} {n c n' c' : Nat} {ok : Bool} {t : TypeId} (h : w.heap[g]? = some (.cells #[.slice a n c, .bool ok] t (0, 0))) :
    (w.setCell ⟨g, 0, none⟩ (.slice a' n' c')).heap[g]? = some (.cells #[.slice a' n' c', .bool ok] t (0, 0)) := by
  simp [World.setCell, Array.getElem?_modify, h]

theorem only_set {a w : World} {g : Nat} (h : a.grownBy w (some g)) (i : Nat) (u : Value) : a.grownBy (w.setCell ⟨g, i, none⟩ u) (some g) :=
  ⟨h.os, h.tape, h.output, by simpa [World.setCell] using h.size, fun k hk hne => (Below.heap_setCell w ⟨g, i, none⟩ u k (by rintro rfl; exact hne rfl)).trans (h.block k hk hne)⟩

theorem only_refl (w : World) (r : Option Nat) : w.grownBy w r := ⟨rfl, rfl, rfl, Nat.le_refl _, fun _ _ _ => rfl⟩

/-- What a method of a reader leaves: only its block has turned. -/
def RdEnd (w : World) (g : Nat) (s : List Nat × Bool) (w' : World) : Prop := Rd w' g s.1 s.2 ∧ w.grownBy w' (some g)

theorem rdEnd_fail {w : World} {g : Nat} {a : Option Addr} {n c : Nat} {ok : Bool} {l : List Nat} (h : w.heap[g]? = some (.cells #[.slice a n c, .bool ok] 82 (0, 0))) (hB : Bytes w a n c l) (hf : Formed a c) :
    RdEnd w g (l, false) (w.setCell ⟨g, 1, none⟩ (.bool false)) :=
  ⟨⟨a, n, c, rd_store1 h, hB.setFar (fun hn _ hx => rd_other h hB hn hx) _, hf⟩, only_set (only_refl _ _) _ _⟩

theorem rdEnd_go {w : World} {g : Nat} {a a' : Option Addr} {n c n' c' : Nat} {ok : Bool} {l' : List Nat} (h : w.heap[g]? = some (.cells #[.slice a n c, .bool ok] 82 (0, 0))) (hB : Bytes w a' n' c' l') (hf : Formed a' c') :
    RdEnd w g (l', true) ((w.setCell ⟨g, 1, none⟩ (.bool true)).setCell ⟨g, 0, none⟩ (.slice a' n' c')) :=
  ⟨⟨a', n', c', rd_store0 (rd_store1 h), (hB.setFar (fun hn _ hx => rd_other h hB hn hx) _).setFar (fun hn _ hx => rd_other h hB hn hx) _, hf⟩, only_set (only_set (only_refl _ _) _ _) _ _⟩

theorem parse_is (a : Option Addr) (n cap : Nat) (l : List Nat) (w : World) (z s : Nat) (hl : Bytes w a n cap l) (h : numL l 0 0 = (z, s)) :
    Calls Tryz.prog 148 #[.slice a n cap] w fun e w' => e = .returned (.tuple #[.int .u64 (z : Int), .int .i64 (s : Int)]) ∧ w = w' := by
  have := parse_any a n cap l w hl
  rw [h] at this
  exact this

set_option maxRecDepth 100000 in
theorem number_any (g : Nat) (l : List Nat) (ok : Bool) (w : World) (hR : Rd w g l ok) :
    Calls Tryz.prog 116 #[.pointer (some ⟨g, 0, none⟩)] w fun e w' => e = .returned (.int .u64 ((readN l ok).1 : Int)) ∧ RdEnd w g (readN l ok).2 w' := by
  obtain ⟨a, n, c, hg, hB, hf⟩ := hR
  obtain ⟨z, s, hz⟩ : ∃ z s, numL l 0 0 = (z, s) := ⟨_, _, rfl⟩
  obtain ⟨hs1, hs2, hs3, hs4⟩ := numL_size_le hB.byte hz
  have hlen := hB.len
  have hle := hB.le
  have hsn : s ≤ n := by omega
  have hcm := hB.capmax
  obtain ⟨c0, c1, f0, f1⟩ := rd_cell hg
  have HG := Lib.hid hg
  have HB := Lib.hid hB
  have HZ := Lib.hid hz
  clear hg hB hz hs4 hlen hs1
  by_cases hok : ok = true ∧ 0 < s
  · obtain ⟨rfl, hs⟩ := hok
    have hrd : readN l true = (z, l.drop s, true) := by unfold readN; rw [HZ.out, if_pos ⟨rfl, hs⟩]
    rw [hrd]
    obtain ⟨a', hS, hf', hB'⟩ := slice_from (k := s) Tryz.underlying31 info_u8 hsn hle hf
    have HB' := Lib.hid hB'
    have hsI : (0 : Int) < (s : Int) := by omega
    clear hrd hB'
    go_enter Tryz.func116, Tryz.ntmps116
    go_wp2_with fail
    refine (parse_is a n c l w z s HB.out HZ.out).mono ?_
    rintro e w1 ⟨rfl, rfl⟩
    go_wp2
    go_ret
    exact ⟨rfl, rdEnd_go HG.out (HB'.out _ _ HB.out) hf'⟩
  · have hrd : readN l ok = (0, l, false) := by unfold readN; rw [HZ.out, if_neg hok]
    rw [hrd]
    clear hrd
    cases ok
    · clear hok
      go_enter Tryz.func116, Tryz.ntmps116
      go_wp2_with fail
      refine (parse_is a n c l w z s HB.out HZ.out).mono ?_
      rintro e w1 ⟨rfl, rfl⟩
      go_wp2
      go_ret
      exact ⟨rfl, rdEnd_fail HG.out HB.out hf⟩
    · have hsI : (s : Int) ≤ 0 := by have : ¬ 0 < s := fun h => hok ⟨rfl, h⟩; omega
      have hsD : decide (0 < s) = false := decide_eq_false (by omega)
      clear hok
      go_enter Tryz.func116, Tryz.ntmps116
      go_wp2_with fail
      refine (parse_is a n c l w z s HB.out HZ.out).mono ?_
      rintro e w1 ⟨rfl, rfl⟩
      go_wp2
      go_ret
      exact ⟨rfl, rdEnd_fail HG.out HB.out hf⟩

theorem only_trans {a b c : World} {r : Option Nat} (h : a.grownBy b r) (k : b.grownBy c r) : a.grownBy c r :=
  ⟨k.os.trans h.os, k.tape.trans h.tape, k.output.trans h.output, Nat.le_trans h.size k.size, fun i hi hne => (k.block i (Nat.lt_of_lt_of_le hi h.size) hne).trans (h.block i hi hne)⟩

/-- A part of the bytes, and what is left of the reader. -/
def TakeEnd (w : World) (g : Nat) (r : List Nat × List Nat × Bool) (e : Ending) (w' : World) : Prop :=
  ∃ p m cp, e = .returned (.slice p m cp) ∧ Bytes w' p m cp r.1 ∧ Formed p cp ∧ RdEnd w g r.2 w'

set_option maxRecDepth 100000 in
theorem take_any (g : Nat) (l : List Nat) (ok : Bool) (k : Int) (w : World) (hR : Rd w g l ok) (k1 : -9223372036854775808 ≤ k) (k2 : k ≤ 9223372036854775807) :
    Calls Tryz.prog 160 #[.pointer (some ⟨g, 0, none⟩), .int .i64 k] w (TakeEnd w g (takeN l ok k)) := by
  obtain ⟨a, n, c, hg, hB, hf⟩ := hR
  have hle := hB.le
  have hcm := hB.capmax
  have hlen := hB.len
  obtain ⟨c0, c1, f0, f1⟩ := rd_cell hg
  have HG := Lib.hid hg
  have HB := Lib.hid hB
  clear hg hB
  by_cases hok : ok = true ∧ 0 ≤ k ∧ k ≤ l.length
  · obtain ⟨rfl, hk1, hk2⟩ := hok
    have hrd : takeN l true k = (l.take k.toNat, l.drop k.toNat, true) := by unfold takeN; rw [if_pos ⟨rfl, hk1, hk2⟩]
    rw [hrd]
    obtain ⟨j, rfl⟩ := Int.eq_ofNat_of_zero_le hk1
    rw [Int.toNat_natCast]
    have hjn : j ≤ n := by omega
    obtain ⟨a1, hS1, hf1, hB1⟩ := slice_to (k := j) Tryz.underlying31 info_u8 hjn hle hf
    obtain ⟨a2, hS2, hf2, hB2⟩ := slice_from (k := j) Tryz.underlying31 info_u8 hjn hle hf
    have HB1 := Lib.hid hB1
    have HB2 := Lib.hid hB2
    have hj : (j : Int) ≤ (n : Int) := by omega
    clear hrd hB1 hB2 hlen hk2
    go_enter Tryz.func160, Tryz.ntmps160
    go_wp2
    go_ret
    refine ⟨_, _, _, rfl, HB1.out _ _ ((HB.out.setFar (fun hn _ hx => rd_other HG.out HB.out hn hx) _).setFar (fun hn _ hx => rd_other HG.out HB.out hn hx) _), hf1, rdEnd_go HG.out (HB2.out _ _ HB.out) hf2⟩
  · have hrd : takeN l ok k = ([], l, false) := by unfold takeN; rw [if_neg hok]
    rw [hrd]
    clear hrd
    cases ok
    · clear hok hlen
      go_enter Tryz.func160, Tryz.ntmps160
      go_wp2
      go_ret
      exact ⟨none, 0, 0, rfl, bytes_nil _, formed_none 0 rfl, rdEnd_fail HG.out HB.out hf⟩
    · by_cases hk0 : 0 ≤ k
      · have hkn : (n : Int) < k := by have : ¬ k ≤ l.length := fun h => hok ⟨rfl, hk0, h⟩; omega
        have hkD : decide (k ≤ (n : Int)) = false := decide_eq_false (by omega)
        clear hok hlen
        go_enter Tryz.func160, Tryz.ntmps160
        go_wp2
        go_ret
        exact ⟨none, 0, 0, rfl, bytes_nil _, formed_none 0 rfl, rdEnd_fail HG.out HB.out hf⟩
      · have hkn : k < 0 := by omega
        clear hok hlen
        go_enter Tryz.func160, Tryz.ntmps160
        go_wp2
        go_ret
        exact ⟨none, 0, 0, rfl, bytes_nil _, formed_none 0 rfl, rdEnd_fail HG.out HB.out hf⟩

theorem rd_mark {w : World} {g : Nat} {a : Option Addr} {n c : Nat} {ok : Bool} {l : List Nat} (h : w.heap[g]? = some (.cells #[.slice a n c, .bool ok] 82 (0, 0))) (hB : Bytes w a n c l) (hf : Formed a c) :
    Rd (w.setCell ⟨g, 1, none⟩ (.bool true)) g l true := ⟨a, n, c, rd_store1 h, hB.setFar (fun hn _ hx => rd_other h hB hn hx) _, hf⟩

set_option maxRecDepth 100000 in
theorem counted_any (g : Nat) (l : List Nat) (ok : Bool) (w : World) (hR : Rd w g l ok) :
    Calls Tryz.prog 134 #[.pointer (some ⟨g, 0, none⟩)] w (TakeEnd w g (readB l ok)) := by
  obtain ⟨a, n, c, hg, hB, hf⟩ := hR
  obtain ⟨z, s, hz⟩ : ∃ z s, numL l 0 0 = (z, s) := ⟨_, _, rfl⟩
  obtain ⟨hs1, hs2, hs3, hs4⟩ := numL_size_le hB.byte hz
  have hlen := hB.len
  have hle := hB.le
  have hsn : s ≤ n := by omega
  have hcm := hB.capmax
  obtain ⟨c0, c1, f0, f1⟩ := rd_cell hg
  have HG := Lib.hid hg
  have HB := Lib.hid hB
  have HZ := Lib.hid hz
  clear hg hB hz hs4 hs1
  by_cases hok : ok = true ∧ 0 < s ∧ z ≤ n - s
  · obtain ⟨rfl, hs, hzn⟩ := hok
    have hrd : readB l true = ((l.drop s).take z, l.drop (s + z), true) := by unfold readB; rw [HZ.out, if_pos ⟨rfl, hs, by omega⟩]
    rw [hrd]
    have hsI : (0 : Int) < (s : Int) := by omega
    have hzI : (z : Int) ≤ (n : Int) - (s : Int) := by omega
    have hta : takeN l true ((s : Int) + (z : Int)) = (l.take (s + z), l.drop (s + z), true) := by
      unfold takeN
      rw [if_pos ⟨rfl, by omega, by omega⟩, show ((s : Int) + (z : Int)).toNat = s + z by omega]
    have Hta := Lib.hid hta
    have Hlen := Lib.hid hlen
    clear hrd hta hlen
    go_enter Tryz.func134, Tryz.ntmps134
    go_wp2_with fail
    refine (parse_is a n c l w z s HB.out HZ.out).mono ?_
    rintro e w1 ⟨rfl, rfl⟩
    go_wp2_with fail
    refine (take_any g l true _ _ (rd_mark HG.out HB.out hf) (by omega) (by omega)).mono ?_
    rintro e w2 h2
    rw [Hta.out] at h2
    obtain ⟨p, m, cp, rfl, hP, hfp, hE⟩ := h2
    have HP := Lib.hid hP
    have hmm : m = s + z := by rw [← hP.len, List.length_take, Hlen.out]; omega
    have hpl := hP.le
    clear hP
    obtain ⟨p2, hS2, hf2, hB2⟩ := slice_from (k := s) Tryz.underlying31 info_u8 (show s ≤ m by omega) hpl hfp
    have HB2 := Lib.hid hB2
    have Hmm := Lib.hid hmm
    have hsm : (s : Int) ≤ (m : Int) := by omega
    clear hB2 hmm
    go_wp2
    go_ret
    refine ⟨_, _, _, rfl, ?_, hf2, hE.1, only_trans (only_set (only_refl _ _) _ _) hE.2⟩
    have hfin := HB2.out _ _ HP.out
    rw [List.drop_take, show s + z - s = z by omega] at hfin
    exact hfin
  · have hrd : readB l ok = ([], l, false) := by unfold readB; rw [HZ.out, hlen, if_neg hok]
    rw [hrd]
    clear hrd hlen
    cases ok
    · clear hok
      go_enter Tryz.func134, Tryz.ntmps134
      go_wp2_with fail
      refine (parse_is a n c l w z s HB.out HZ.out).mono ?_
      rintro e w1 ⟨rfl, rfl⟩
      go_wp2
      go_ret
      exact ⟨none, 0, 0, rfl, bytes_nil _, formed_none 0 rfl, rdEnd_fail HG.out HB.out hf⟩
    · by_cases hs : 0 < s
      · have hzI : (n : Int) - (s : Int) < (z : Int) := by have : ¬ z ≤ n - s := fun h => hok ⟨rfl, hs, h⟩; omega
        have hsI : (0 : Int) < (s : Int) := by omega
        have hzD : decide ((z : Int) ≤ (n : Int) - (s : Int)) = false := decide_eq_false (by omega)
        clear hok
        go_enter Tryz.func134, Tryz.ntmps134
        go_wp2_with fail
        refine (parse_is a n c l w z s HB.out HZ.out).mono ?_
        rintro e w1 ⟨rfl, rfl⟩
        go_wp2
        go_ret
        exact ⟨none, 0, 0, rfl, bytes_nil _, formed_none 0 rfl, rdEnd_fail HG.out HB.out hf⟩
      · have hsI : (s : Int) ≤ 0 := by omega
        have hsD : decide (0 < s) = false := decide_eq_false (by omega)
        clear hok
        go_enter Tryz.func134, Tryz.ntmps134
        go_wp2_with fail
        refine (parse_is a n c l w z s HB.out HZ.out).mono ?_
        rintro e w1 ⟨rfl, rfl⟩
        go_wp2
        go_ret
        exact ⟨none, 0, 0, rfl, bytes_nil _, formed_none 0 rfl, rdEnd_fail HG.out HB.out hf⟩
end Go.Proofs.YtmcdfmhciinocaaGreatDoor

