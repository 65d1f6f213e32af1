import Derived.Test.YtcapbaocchaenaaGreatDoorSG30
import Derived.Test.YtcapbaocchaenaaGreatDoorSG28
import Derived.Test.YtcapbaocchaenaaGreatDoorSG29
import Derived.Test.YtcapbaocchaenaaGreatDoorSG32
import Derived.Test.YtcapbaocchaenaaGreatDoorSG19
import Derived.Test.YtcapbaocchaenaaGreatDoorSG15
import Derived.Deep.DeepCutAuto
import Derived.Deep.CutBlock
import Derived.Test.YtcapbaocchaenaaGreatDoorSG8
import Derived.Deep.RegionHeld3
import Derived.Test.YtcapbaocchaenaaGreatDoorSG18
import Derived.Test.YtcapbaocchaenaaGreatDoorSG1
import Derived.Test.YtcapbaocchaenaaGreatDoorSG14
import Derived.Test.YtcapbaocchaenaaGreatDoorSG34
import Derived.Test.YtcapbaocchaenaaGreatDoorSG22
import Derived.Test.YtcapbaocchaenaaGreatDoorShelf
import Derived.Maps.AppendAt
import Derived.Test.YtcapbaocchaenaaGreatDoorSG31
import Derived.Deep.Cut
import Derived.Test.YtcapbaocchaenaaGreatDoorSG6
/- The text of a batch; the walk of the reference's Text of a batch. -/
namespace Go.Proofs.YtcapbaocchaenaaGreatDoor
open Go.RowKit Go.Shelf Fl

/-- The head of a batch's text. -/
def headT (fl : List Nat) (at_ : Nat) : List Nat := quoteL fl ++ (32 :: decD at_)
/-- The texts of events, each behind a semicolon and a blank. -/
def tailT (es : List Ev) : List Nat := (es.map fun e => 59 :: 32 :: textE e).flatten
/-- The text of a batch. -/
def textBt (t : Bt) : List Nat := headT t.flow t.at_ ++ tailT t.es

theorem quote_len {s : List Nat} (h : s.length ≤ 1100) : (quoteL s).length ≤ 1000000 := by
  rw [quoteL_is, List.length_cons, List.length_append, hex2_len]
  simp
  omega

theorem wordsT_len (W : Nat → List Nat) (B : Nat) (hW : ∀ i, (W i).length ≤ B) : ∀ l : List Nat, (wordsT W l).length ≤ l.length * (B + 1) := by
  intro l
  induction l with
  | nil => simp [wordsT]
  | cons i l ih =>
    have h := hW i
    have e : (wordsT W (i :: l)).length ≤ (B + 1) + (wordsT W l).length := by
      simp only [wordsT, List.map_cons, List.flatten_cons, List.length_append, List.length_cons]
      omega
    rw [List.length_cons, Nat.succ_mul]
    omega

theorem textE_len {e : Ev} {w : World} {x : Array Value} (h : EvIn w e x) (hf : fewE e = true) : (textE e).length ≤ 60000020 := by
  have h1 := wordsT_len (wordE e) 1000000 (few_word h hf) (evFields e.k)
  have h2 := evFields_len e.k
  have h3 : (evName e.k).length ≤ 10 := by
    unfold evName
    repeat' split
    all_goals decide
  have h4 : (evFields e.k).length * (1000000 + 1) ≤ 6 * (1000000 + 1) := Nat.mul_le_mul_right _ h2
  unfold textE
  split
  · rw [List.length_append]; omega
  · exact Nat.zero_le _

theorem tail_max {w : World} {a : Option Addr} {n c : Nat} {es : List Ev} (h : Evs w a n c es) (hn : n ≤ 1048576) (hf : es.all fewE = true) : (tailT es).length ≤ 80000000000000 := by
  have h1 := flat_max (B := 60000022) (es.map fun e => 59 :: 32 :: textE e) (fun l hl => by
    obtain ⟨e, he, rfl⟩ := List.mem_map.1 hl
    obtain ⟨i, hi, rfl⟩ := List.getElem_of_mem he
    obtain ⟨b, o, _, hc⟩ := h.cell (by have := h.len; omega)
    obtain ⟨a', cap', hI, _⟩ := hc i hi
    have := textE_len hI (List.all_eq_true.1 hf _ he)
    simp only [List.length_cons]
    omega)
  rw [List.length_map, h.len] at h1
  have h2 : n * 60000022 ≤ 1048576 * 60000022 := Nat.mul_le_mul_right _ hn
  unfold tailT
  omega

end Go.Proofs.YtcapbaocchaenaaGreatDoor

/- The walk of the code's mapped with event.Text: the texts of events. -/
namespace Go.Proofs.YtcapbaocchaenaaGreatDoor
open Go.RowKit Go.Shelf Fl

/-- The first j cells of a row of strings hold the texts of the first j events. -/
def TxRow (w : World) (M : Nat) (es : List Ev) (n j : Nat) : Prop := ∃ x, w.heap[M]? = some (.cells x 9 (0, 0)) ∧ x.size = n ∧
  ∀ (k : Nat) (e : Ev), k < j → es[k]? = some e → x[k]? = some (.string (str (textE e)))

theorem TxRow.below {w w' : World} {M : Nat} {es : List Ev} {n j : Nat} (h : TxRow w M es n j) (hb : Below w.heap.size w w') : TxRow w' M es n j := by
  obtain ⟨x, h1, h2, h3⟩ := h
  exact ⟨x, (hb.block _ (Array.getElem?_eq_some_iff.1 h1).1).trans h1, h2, h3⟩

theorem TxRow.set {w : World} {M : Nat} {es : List Ev} {n j : Nat} (h : TxRow w M es n j) {e : Ev} (he : es[j]? = some e) (hj : j < n) :
    TxRow (w.setCell ⟨M, j, none⟩ (.string (str (textE e)))) M es n (j + 1) := by
  obtain ⟨x, h1, h2, h3⟩ := h
  refine ⟨x.setIfInBounds j (.string (str (textE e))), Joins.block_setCell h1 _, by rw [Array.size_setIfInBounds, h2], fun k e' hk he' => ?_⟩
  by_cases hkj : k = j
  · subst hkj
    rw [he] at he'
    cases he'
    rw [Array.getElem?_setIfInBounds, if_pos rfl, if_pos (by omega)]
  · rw [Array.getElem?_setIfInBounds, if_neg (fun h => hkj h.symm)]
    exact h3 k e' (by omega) he'

/-- What mapped returns: a row of texts. -/
def MapTEnd (w : World) (es : List Ev) (n : Nat) (r : Ending) (w' : World) : Prop := r = .returned (.slice (some ⟨w.heap.size, 0, none⟩) n n) ∧ TxRow w' w.heap.size es n n ∧ Below w.heap.size w w'

set_option maxRecDepth 100000 in
set_option maxHeartbeats 3200000 in
theorem maptext_any (a : Option Addr) (n c : Nat) (es : List Ev) (w : World) (hn : n ≤ 1048576) (hf : es.all fewE = true) (h : Evs w a n c es) (hp : Pow10 w) (ht : Tab16 w) :
    Calls Tryz.prog 34 #[.slice a n c, fnV 35] w (MapTEnd w es n) := by
  have hlen := h.len
  have hcm := h.max
  have hle := h.le
  have H := Lib.hid h
  have HF := Lib.hid hf
  have HP := Lib.hid hp
  have HT := Lib.hid ht
  have hent := fun W args => enters_of Tryz.func35 (by kernel_rfl) rfl args W
  have hsf := fun (W : World) (A : Addr) (f : Nat) (m : Mode) => (run_store Tryz.prog W A (.float .f64 f) m rfl)
  have hmk := run_make_row' (P := Tryz.prog) 59 9 (.string ByteArray.empty) 16 Tryz.underlying59 info_string rfl .i64 .i64 n (by omega) (by omega)
  have H0 := Lib.hid (show TxRow (w.alloc (.cells (madeCells #[Value.string ByteArray.empty] n) 9)) w.heap.size es n 0 from ⟨_, heap_alloc_new w _, size_madeCells _ _, fun k _ hk => absurd hk (by omega)⟩)
  have Hb0 := Lib.hid ((Below.refl w.heap.size w).alloc (Nat.le_refl _) (.cells (madeCells #[Value.string ByteArray.empty] n) 9))
  clear h hf hp ht
  go_enter Tryz.func34, Tryz.ntmps34
  go_wp2_with fail
  generalize w.alloc (.cells (madeCells #[Value.string ByteArray.empty] n) 9) = w1 at *
  go_loopw [13] (fun i wr => ∃ j : Nat, j ≤ n ∧ i = .int .i64 (j : Int) ∧ TxRow wr w.heap.size es n j ∧ Below w.heap.size w wr) (fun i _ => n - (intOf i).toNat)
  case atStart => exact ⟨0, Nat.zero_le _, rfl, H0.out, Hb0.out⟩
  case round =>
    obtain ⟨j, hj, rfl, hrow, hb⟩ := hrel
    have Hrow := Lib.hid hrow
    have Hb := Lib.hid hb
    clear hrow hb
    by_cases hlt : j < n
    · have hl1 : j < es.length := by omega
      obtain ⟨b, o, rfl, hc⟩ := H.out.cell (by omega)
      obtain ⟨p, cap, hI, ⟨g0, g1, g2, g3, g4, g5⟩, g6, g7, g8, g9, g10⟩ := ((hc j hl1).below Hb.out).all
      have HC := Lib.hid (fun W hb1 => evtext_few es[j] _ W (List.all_eq_true.1 HF.out _ (List.getElem_mem hl1)) (hI.below (w' := W) hb1) (Pow10.below HP.out (Hb.out.trans (hb1.mono Hb.out.size))) (cell_below (Hb.out.trans (hb1.mono Hb.out.size)) HT.out))
      have Hje := Lib.hid (List.getElem?_eq_getElem hl1)
      have hji : (j : Int) < (n : Int) := by omega
      have Hlt := Lib.hid hlt
      generalize es[j] = e at *
      have Hal := Lib.hid ((Below.refl wr.heap.size wr).alloc (Nat.le_refl _) (.cells (evC e.k e.id e.n e.t e.nm e.tx e.v.kind e.v.n e.v.f e.v.s p e.v.l.length cap) 45))
      clear hc hI hlt hl1
      go_wp2_with fail
      refine (HC.out _ Hal.out).mono ?_
      rintro r w2 ⟨rfl, hb2⟩
      have hrow2 := Hrow.out.below (Hal.out.trans (hb2.mono Hal.out.size))
      have Hb2 := Lib.hid (Hb.out.trans ((Hal.out.trans (hb2.mono Hal.out.size)).mono Hb.out.size))
      have Hset := Lib.hid (hrow2.set Hje.out Hlt.out)
      obtain ⟨x, hx, hxs, _⟩ := hrow2
      obtain ⟨y, hy⟩ : ∃ y, w2.cell? ⟨w.heap.size, j, none⟩ = some y := by
        rw [cell_of_row _ _ _ _ _ _ hx]
        exact ⟨_, Array.getElem?_eq_getElem (by rw [hxs]; exact Hlt.out)⟩
      have hfr : w2.frozen? ⟨w.heap.size, j, none⟩ = false := by simp [World.frozen?, hx]
      clear hb2 hx hxs g0 g1 g2 g3 g4 g5 g6 g7 g8 g9 g10 HC
      go_wp2
      go_roundw
      case rel => exact ⟨j + 1, Hlt.out, by go_num, Hset.out, Hb2.out.setCell (Nat.le_refl _) _⟩
      case measure => simp [intOf]; have := Hlt.out; omega
    · obtain rfl : j = n := by omega
      have hji : ¬ ((j : Int) < (j : Int)) := by omega
      clear hlt
      go_wp2
      go_ret
      exact ⟨rfl, Hrow.out, Hb.out⟩
end Go.Proofs.YtcapbaocchaenaaGreatDoor

/- The walk of the code's Text of a batch. -/
namespace Go.Proofs.YtcapbaocchaenaaGreatDoor
open Go.RowKit Go.Shelf Fl

theorem join_semi (h : List Nat) (es : List Ev) : Lib.join ((h :: es.map textE).map fun l => l.map UInt8.ofNat) [59, 32] = (h ++ tailT es).map UInt8.ofNat := by
  rw [List.map_cons, Lib.join_cons, List.map_append]
  congr 1
  unfold Lib.joinTail tailT
  induction es with
  | nil => rfl
  | cons e es ih =>
    simp only [List.map_cons, List.flatten_cons, List.map_append] at ih ⊢
    rw [ih]
    rfl

/-- A row of strings of the call's own: a head and the texts of events. -/
theorem info_t : (Tryz.prog.info? 9).map (fun i => (i.zero, i.size, i.bytes)) = some (some (.string ⟨#[]⟩), 1, 16) := by kernel_rfl

theorem wpl_appT {ops : Array Oper} {rest : List Oper} {o : Oper} {a : Act} {Q : Exit → Act → World → Prop} {w : World} (hgd : o.guard = none) (s x : Operand)
    (ho : o.op = .call { callee := .builtin .append, args := #[s, x], argTypes := #[59, 59] })
    {base : Nat} {v : Value} {h0 : List Nat} (hs : a.eval s = v) (hown : w.ownsRow base 9 1 v 1 [.string (str h0)]) {q m : Nat} {es : List Ev} (hx : a.eval x = .slice (some ⟨q, 0, none⟩) m m) (hT : TxRow w q es m m) (hm : es.length = m) (hle : m ≤ 1048576) (hbase : base ≤ w.heap.size)
    (h : ∀ v' w', w'.ownsRow base 9 1 v' (1 + m) ((h0 :: es.map textE).map fun l => .string (str l)) → w.grownBy w' v.ownBlock → wpList Tryz.prog ops Q rest (a.put o.dst v') w') : wpList Tryz.prog ops Q (o :: rest) a w := by
  obtain ⟨i0, hi, hz, hsz, hby⟩ := info_parts info_t
  obtain ⟨y, hy1, hy2, hy3⟩ := hT
  refine wpList_append_own_at w hgd s x 59 ho base 9 i0 (.string ⟨#[]⟩) 1 16 Tryz.underlying59 hi hz hsz hby rfl (by decide) v 1 [.string (str h0)] hs hown ⟨q, 0, none⟩ m m ((es.map textE).map fun l => .string (str l)) hx (by rw [List.length_map, List.length_map]; omega) (fun j u hj => ?_) (fun u hu => ?_) (by rw [maxLen_nat]; omega) (by omega) hbase (fun v' w' h1 h2 _ _ => h v' w' h1 h2)
  · rw [List.map_map, List.getElem?_map] at hj
    obtain ⟨e, he, rfl⟩ := Option.map_eq_some_iff.1 hj
    have hlt := (List.getElem?_eq_some_iff.1 he).1
    rw [Addr.add_lit, Nat.zero_add, cell_of_row _ _ _ _ _ _ hy1]
    exact hy3 j e (by omega) he
  · obtain ⟨l, _, rfl⟩ := List.mem_map.1 hu
    rfl

theorem join_texts (h0 : List Nat) (es : List Ev) {w : World} {base n : Nat} {v : Value} (h : w.ownsRow base 9 1 v n ((h0 :: es.map textE).map fun l => .string (str l))) (hn : n = 1 + es.length) (hle : es.length ≤ 1048576) (hlen : (h0 ++ tailT es).length ≤ 140737488355328) :
    Calls Tryz.prog 33 #[v, .string ⟨#[59, 32]⟩] w fun e w' => e = .returned (.string (str (h0 ++ tailT es))) ∧ Below w.heap.size w w' := by
  obtain ⟨g, cap, rfl, _, hg⟩ := h.form (by omega)
  have hcap : n ≤ cap := by
    rcases h.2 with ⟨h', _⟩ | ⟨g', cap', cur, h', _, _, hc, _⟩
    · simp at h'
    · simp only [Value.slice.injEq] at h'
      omega
  have hxl : ((h0 :: es.map textE).map str).length = n := by rw [List.length_map, List.length_cons, List.length_map]; omega
  have hmm : ((h0 :: es.map textE).map str).map (·.data.toList) = (h0 :: es.map textE).map (fun x => x.map UInt8.ofNat) := by
    rw [List.map_map]
    exact List.map_congr_left (fun u _ => by simp [str])
  have hjn := Tryz.strings_Join g 0 cap ((h0 :: es.map textE).map str) ⟨#[59, 32]⟩ w (fun i x hx => by
      rw [List.getElem?_map] at hx
      obtain ⟨u, hu, rfl⟩ := Option.map_eq_some_iff.1 hx
      have hi := (List.getElem?_eq_some_iff.1 hu).1
      rw [List.length_cons, List.length_map] at hi
      rw [Nat.zero_add, h.cellAt i (by omega), List.getElem?_map, hu]
      rfl) hg (by rw [hxl]; omega) (by rw [hxl]; exact hcap) (by
      rw [hmm, show ((⟨#[59, 32]⟩ : ByteArray).data.toList) = [59, 32] from rfl, join_semi, List.length_map]
      exact hlen)
  rw [hxl, hmm, show ((⟨#[59, 32]⟩ : ByteArray).data.toList) = [59, 32] from rfl, join_semi] at hjn
  exact hjn

set_option maxRecDepth 100000 in
set_option maxHeartbeats 3200000 in
theorem btext_any (t : Bt) (x : Array Value) (w : World) (hn : t.es.length ≤ 1048576) (hf : t.es.all fewE = true) (h : BtIn w t x) (hp : Pow10 w) (ht : Tab16 w) :
    Calls Tryz.prog 11 #[.agg x] w fun r w' => r = .returned (.string (str (if okB t = true then textBt t else []))) ∧ Below w.heap.size w w' := by
  have HV := Lib.hid (fun W (hW : Below w.heap.size w W) => bvalid_any 20 (by omega) t x W (fun e he => (few_parts (List.all_eq_true.1 hf e he)).2.1) (h.below hW))
  obtain ⟨fl, at_, es⟩ := t
  obtain ⟨⟨hb1, hb2⟩, hat, a, n, c, rfl, hE⟩ := h
  change ∀ c ∈ fl, c < 256 at hb1
  change at_ < 18446744073709551616 at hat
  change Evs w a n c es at hE
  change es.all fewE = true at hf
  have hlen := hE.len
  change es.length ≤ 1048576 at hn
  have hal := (Below.refl w.heap.size w).alloc (Nat.le_refl _) (.cells #[.string (str fl), .int .u64 (at_ : Int), .slice a n c] 25)
  have Hal := Lib.hid hal
  have HB := Lib.hid (heap_alloc_new w (.cells #[.string (str fl), .int .u64 (at_ : Int), .slice a n c] 25))
  obtain ⟨y0, y1, y2⟩ := box3 HB.out
  have HE := Lib.hid hE
  have HF := Lib.hid hf
  have Hby := Lib.hid (And.intro hb1 hb2)
  have HPT := Lib.hid (And.intro hp ht)
  clear hal hE hf hb1 hb2 hp ht
  cases hok : okB ⟨fl, at_, es⟩ with
  | false =>
    rw [hok] at HV
    rw [if_neg (by decide)]
    clear hok
    go_enter Tryz.func11, Tryz.ntmps11
    go_wp2_with fail
    refine (HV.out _ Hal.out).mono ?_
    rintro r w1 ⟨rfl, hb⟩
    have Hb := Lib.hid (Hal.out.trans (hb.mono Hal.out.size))
    clear hb
    go_wp2
    go_ret
    exact ⟨rfl, Hb.out⟩
  | true =>
    rw [hok] at HV
    rw [if_pos rfl]
    obtain ⟨k1, k2, k3⟩ := okB_parts hok
    change fl.length ≤ 1000 at k1
    have HQ := Lib.hid (fun W (hW : Below w.heap.size w W) => vText_any 20 (by omega) (.mk 3 0 0 fl []) _ W (by simp [smallN, V.l]) (quote_in fl W Hby.out.1 Hby.out.2) (quote_len (show fl.length ≤ 1100 by omega)) (Pow10.below HPT.out.1 hW) (cell_below hW HPT.out.2))
    have HU := Lib.hid (fun W (hW : Below w.heap.size w W) => uint_dec at_ hat W (Pow10.below HPT.out.1 hW))
    have HT := Lib.hid (show textBt ⟨fl, at_, es⟩ = headT fl at_ ++ tailT es from rfl)
    have HLq := Lib.hid (quote_len (show fl.length ≤ 1100 by omega))
    have HLd := Lib.hid (decD_len20 hat)
    have HLh := Lib.hid (show (headT fl at_).length ≤ 1000030 from by have h5 := HLq.out; have h6 := HLd.out; unfold headT; rw [List.length_append, List.length_cons]; omega)
    have HLt := Lib.hid (tail_max HE.out (by omega) HF.out)
    unfold cells5 at HQ
    rw [show textB (.mk 3 0 0 fl []) = quoteL fl from rfl] at HQ
    clear hok k3 k2 k1
    go_enter Tryz.func11, Tryz.ntmps11
    go_wp2_with fail
    refine (HV.out _ Hal.out).mono ?_
    rintro r w1 ⟨rfl, hb⟩
    have HB1 := Lib.hid ((hb.block _ (Array.getElem?_eq_some_iff.1 HB.out).1).trans HB.out)
    have Hb := Lib.hid (Hal.out.trans (hb.mono Hal.out.size))
    clear hb y0 y1 y2 HB Hal
    have hs1 : str (quoteL fl) ++ (⟨#[32]⟩ : ByteArray) = str (quoteL fl ++ [32]) := str_append (quoteL fl) [32]
    have hs2 : str (quoteL fl ++ [32]) ++ str (decD at_) = str (headT fl at_) := by rw [str_append]; unfold headT; simp
    have hz1 := str_size (quoteL fl)
    have hz2 := str_size (quoteL fl ++ [32])
    have hz3 := str_size (decD at_)
    have hl1 : (quoteL fl).length ≤ 1000000 := HLq.out
    have hl2 : (quoteL fl ++ [32]).length = (quoteL fl).length + 1 := by rw [List.length_append]; rfl
    have hl3 : (decD at_).length ≤ 20 := HLd.out
    have hA1 : (quoteL fl).length + 1 ≤ 9223372036854775807 := by omega
    have hA2 : (quoteL fl ++ [32]).length + (decD at_).length ≤ 9223372036854775807 := by omega
    have hA3 : (quoteL fl).length + 1 + (decD at_).length ≤ 9223372036854775807 := by omega
    have hq0 := box3 (show w1.drew.heap[w.heap.size]? = some (.cells #[.string (str fl), .int .u64 (at_ : Int), .slice a n c] 25 (0, 0)) from HB1.out)
    go_wp2
    go_region_held (fun w' => w'.cell? ⟨w.heap.size, 0, none⟩ = some (.string (str fl)) ∧ w'.cell? ⟨w.heap.size, 1, none⟩ = some (.int .u64 (at_ : Int)) ∧ w'.cell? ⟨w.heap.size, 2, none⟩ = some (.slice a n c))
      (first | exact hq0 | exact hq1 | exact hq2)
      (first
        | (go_at_call 31; (with_reducible refine (HQ.out w1.drew Hb.out.drew).mono ?_); rintro e w2 ⟨rfl, hb2⟩; have hq1 := And.intro (cell_below hb2 hq0.1) (And.intro (cell_below hb2 hq0.2.1) (cell_below hb2 hq0.2.2)); have Hb2 := Lib.hid (Hb.out.drew.trans (hb2.mono Hb.out.drew.size)))
        | (go_at_call 32; (with_reducible refine (HU.out w2 Hb2.out).mono ?_); rintro e w3 ⟨rfl, hb3⟩; have hq2 := And.intro (cell_below hb3 hq1.1) (And.intro (cell_below hb3 hq1.2.1) (cell_below hb3 hq1.2.2)); have Hb3 := Lib.hid (Hb2.out.trans (hb3.mono Hb2.out.size))))
    all_goals
      have y2 := cell_below ((Below.refl w3.heap.size w3).alloc (Nat.le_refl _) (.cells #[.string (str (headT fl at_))] 9)) hq2.2.2
      obtain ⟨w4, hw4⟩ : ∃ w4, w4 = w3.alloc (.cells #[.string (str (headT fl at_))] 9) := ⟨_, rfl⟩
      have hb34 : Below w3.heap.size w3 w4 := by rw [hw4]; exact (Below.refl _ _).alloc (Nat.le_refl _) _
      have HO4 := Lib.hid (show w4.ownsRow w.heap.size 9 1 (.slice (some ⟨w3.heap.size, 0, none⟩) 1 1) 1 [.string (str (headT fl at_))] from by rw [hw4]; exact World.ownsRow_lit w3 #[.string (str (headT fl at_))] 1 Hb3.out.size (by rw [maxLen_nat]; omega) rfl)
      have hb04 := Hb3.out.trans (hb34.mono Hb3.out.size)
      have HM := Lib.hid (maptext_any a n c es w4 (by omega) HF.out (HE.out.below hb04) (Pow10.below HPT.out.1 hb04) (cell_below hb04 HPT.out.2))
      have Hb4 := Lib.hid hb04
      rw [← hw4] at y2
      have hw4s := hw4.symm
      clear hw4 hb34 hb04 hq0 hq1 hq2
      go_wp2_with fail
      refine HM.out.mono ?_
      rintro r w5 ⟨rfl, hrow, hb5⟩
      have HO5 := Lib.hid (show w5.ownsRow w.heap.size 9 1 (.slice (some ⟨w3.heap.size, 0, none⟩) 1 1) 1 [.string (str (headT fl at_))] from World.ownsRow.kept (row := none) HO4.out ⟨hb5.os, hb5.tape, hb5.output, hb5.size, fun k hk _ => hb5.block k hk⟩ (Or.inr (by intro e; cases e)))
      have HR := Lib.hid hrow
      have Hb5 := Lib.hid (Hb4.out.trans (hb5.mono Hb4.out.size))
      clear hb5 hrow
      go_wp2_with (at_builtin; refine wpl_appT rfl _ _ rfl (base := w.heap.size) (h0 := headT fl at_) rfl HO5.out (q := w4.heap.size) (m := n) (es := es) rfl HR.out hlen (by omega) Hb5.out.size ?_; intro v6 w6 hown hgrow; have HO6 := Lib.hid hown; have HG6 := Lib.hid hgrow; clear hown hgrow)
      have Hb6 := Lib.hid (Hb5.out.grown HG6.out Hb5.out.size (fun k hk => (World.ownsRow.lt HO5.out k hk).1))
      refine (join_texts (headT fl at_) es HO6.out (by omega) hn (by have h5 := HLh.out; have h6 := HLt.out; rw [List.length_append]; omega)).mono ?_
      rintro r w7 ⟨rfl, hb7⟩
      have Hend := Lib.hid (show Ending.returned (.string (str (headT fl at_ ++ tailT es))) = .returned (.string (str (textBt ⟨fl, at_, es⟩))) from by rw [HT.out])
      have Hb7 := Lib.hid (Hb6.out.trans (hb7.mono Hb6.out.size))
      clear hb7
      generalize str (headT fl at_ ++ tailT es) = S at *
      go_wp2
      go_ret
      exact ⟨Hend.out, Hb7.out⟩
end Go.Proofs.YtcapbaocchaenaaGreatDoor

/- Batches with the same form, or the same text, are the same: plain. -/
namespace Go.Proofs.YtcapbaocchaenaaGreatDoor
open Go.RowKit Fl

/-- No byte of a text is a semicolon. -/
def NoS (x : List Nat) : Prop := ∀ c ∈ x, c ≠ 59

theorem NoS.append {x y : List Nat} (hx : NoS x) (hy : NoS y) : NoS (x ++ y) := fun c hc => (List.mem_append.1 hc).elim (hx c) (hy c)
theorem NoS.cons {c : Nat} {y : List Nat} (hc : c ≠ 59) (hy : NoS y) : NoS (c :: y) := fun d hd => by
  rcases List.mem_cons.1 hd with rfl | hd
  · exact hc
  · exact hy d hd
theorem noS_nil : NoS [] := fun _ h => by cases h

theorem decD_noS (n : Nat) : NoS (decD n) := fun c hc => by have := decD_digit n c hc; omega
theorem hexD_noS (d : Nat) : hexD d ≠ 59 := by
  unfold hexD
  split <;> omega
theorem decL_noS (n : Int) : NoS (decL n) := by
  unfold decL
  split
  · exact NoS.cons (by decide) (decD_noS _)
  · exact decD_noS _
theorem hex2_noS (s : List Nat) : NoS (hex2 s) := by
  intro c hc
  unfold hex2 at hc
  obtain ⟨x, _, hx⟩ := List.mem_flatMap.1 hc
  simp only [List.mem_cons, List.not_mem_nil, or_false] at hx
  rcases hx with rfl | rfl <;> exact hexD_noS _
theorem hexs_noS (x : Nat) : ∀ j, NoS (hexs x j)
  | 0 => noS_nil
  | j + 1 => by
    rw [hexs]
    exact (hexs_noS x j).append (NoS.cons (hexD_noS _) noS_nil)
theorem textL_noS (x : Nat) : NoS (textL x) := by
  unfold textL
  repeat' split
  all_goals first
    | (unfold NoS; decide)
    | exact NoS.cons (by decide) (hexs_noS x 16)
theorem joinS_noS : ∀ (a : List (List Nat)), (∀ x ∈ a, NoS x) → NoS (joinS a)
  | [], _ => noS_nil
  | [x], h => h x (by simp)
  | x :: y :: r, h => by
    rw [joinS]
    exact (h x (by simp)).append (NoS.cons (by decide) (joinS_noS (y :: r) fun z hz => h z (List.mem_cons_of_mem _ hz)))

mutual
theorem textV_noS : ∀ v : V, NoS (textV v)
  | .mk k n f s l => by
    rw [textV]
    split
    · exact decL_noS n
    · split
      · exact NoS.cons (by decide) (textL_noS _)
      · split
        · exact NoS.cons (by decide) ((hex2_noS s).append (NoS.cons (by decide) noS_nil))
        · split
          · exact NoS.cons (by decide) ((joinS_noS _ (textVs_noS l)).append (NoS.cons (by decide) noS_nil))
          · unfold NoS; decide
theorem textVs_noS : ∀ l : List V, ∀ x ∈ textVs l, NoS x
  | [], x, h => by rw [textVs] at h; cases h
  | v :: r, x, h => by
    rw [textVs] at h
    rcases List.mem_cons.1 h with rfl | h
    · exact textV_noS v
    · exact textVs_noS r x h
end

theorem textB_noS (v : V) : NoS (textB v) := by
  unfold textB
  split
  · exact textV_noS v
  · exact noS_nil
theorem quoteL_noS (s : List Nat) : NoS (quoteL s) := textB_noS _
theorem wordE_noS (e : Ev) (i : Nat) : NoS (wordE e i) := by
  unfold wordE
  repeat' split
  all_goals first
    | exact decD_noS _
    | exact decL_noS _
    | exact quoteL_noS _
    | exact textB_noS _
theorem wordsT_noS (W : Nat → List Nat) (h : ∀ i, NoS (W i)) : ∀ l : List Nat, NoS (wordsT W l)
  | [] => noS_nil
  | i :: l => by
    have e : wordsT W (i :: l) = (32 :: W i) ++ wordsT W l := rfl
    rw [e]
    exact (NoS.cons (by decide) (h i)).append (wordsT_noS W h l)
theorem textE_noS (e : Ev) : NoS (textE e) := by
  unfold textE
  split
  · refine NoS.append ?_ (wordsT_noS _ (wordE_noS e) _)
    unfold evName
    repeat' split
    all_goals (unfold NoS; decide)
  · exact noS_nil
theorem headT_noS (fl : List Nat) (at_ : Nat) : NoS (headT fl at_) := (quoteL_noS fl).append (NoS.cons (by decide) (decD_noS at_))

/-- What stands behind a text of a batch: nothing or a semicolon. -/
def EndS (r : List Nat) : Prop := ∀ c q, r = c :: q → c = 59

theorem noS_split : ∀ {x y r r' : List Nat}, NoS x → NoS y → EndS r → EndS r' → x ++ r = y ++ r' → x = y ∧ r = r'
  | [], [], _, _, _, _, _, _, h => ⟨rfl, h⟩
  | [], c :: y, _, _, _, hy, he, _, h => absurd (he c _ h) (hy c (by simp))
  | c :: x, [], _, _, hx, _, _, he, h => absurd (he c _ h.symm) (hx c (by simp))
  | c :: x, d :: y, r, r', hx, hy, he, he', h => by
    rw [List.cons_append, List.cons_append] at h
    obtain ⟨h1, h2⟩ := List.cons.inj h
    obtain ⟨h3, h4⟩ := noS_split (fun e he => hx e (List.mem_cons_of_mem _ he)) (fun e he => hy e (List.mem_cons_of_mem _ he)) he he' h2
    exact ⟨by rw [h1, h3], h4⟩

theorem tailT_ends : ∀ es : List Ev, EndS (tailT es)
  | [] => fun _ _ h => by cases h
  | e :: es => fun c q h => by
    have e' : tailT (e :: es) = 59 :: (32 :: textE e ++ tailT es) := rfl
    rw [e'] at h
    exact (List.cons.inj h).1.symm

theorem tails_same : ∀ (l l' : List Ev), sameEs l l' = true → (∀ e ∈ l, okE e = true ∧ EvB e) → (∀ e ∈ l', okE e = true ∧ EvB e) → tailT l = tailT l' ∧ (l.map formE).flatten = (l'.map formE).flatten
  | [], [], _, _, _ => ⟨rfl, rfl⟩
  | [], _ :: _, h, _, _ => by simp [sameEs] at h
  | _ :: _, [], h, _, _ => by simp [sameEs] at h
  | e :: l, e' :: l', h, ho, ho' => by
    obtain ⟨h1, h2⟩ := sameEs_uncons h
    obtain ⟨o1, o2⟩ := ho e (by simp)
    obtain ⟨o3, o4⟩ := ho' e' (by simp)
    obtain ⟨i1, i2⟩ := tails_same l l' h2 (fun x hx => ho x (List.mem_cons_of_mem _ hx)) (fun x hx => ho' x (List.mem_cons_of_mem _ hx))
    have t1 : textE e = textE e' := of_decide_eq_true ((textE_iff o1 o3 o2 o4).trans h1)
    have t2 : formE e = formE e' := of_decide_eq_true ((formE_iff o1 o3 o2 o4).trans h1)
    have e1 : ∀ (x : Ev) (r : List Ev), tailT (x :: r) = 59 :: 32 :: textE x ++ tailT r := fun _ _ => rfl
    refine ⟨by rw [e1, e1, t1, i1], ?_⟩
    rw [List.map_cons, List.map_cons, List.flatten_cons, List.flatten_cons, t2, i2]

theorem tails_split : ∀ (l l' : List Ev), (∀ e ∈ l, okE e = true ∧ EvB e) → (∀ e ∈ l', okE e = true ∧ EvB e) → tailT l = tailT l' → sameEs l l' = true
  | [], [], _, _, _ => by simp [sameEs]
  | [], e :: l, _, _, h => by cases h
  | e :: l, [], _, _, h => by cases h
  | e :: l, e' :: l', ho, ho', h => by
    obtain ⟨o1, o2⟩ := ho e (by simp)
    obtain ⟨o3, o4⟩ := ho' e' (by simp)
    have e1 : ∀ (x : Ev) (r : List Ev), tailT (x :: r) = 59 :: 32 :: (textE x ++ tailT r) := fun _ _ => rfl
    rw [e1, e1] at h
    obtain ⟨h1, h2⟩ := noS_split (textE_noS e) (textE_noS e') (tailT_ends l) (tailT_ends l') (List.cons.inj (List.cons.inj h).2).2
    exact sameEs_cons (by rw [← textE_iff o1 o3 o2 o4]; exact decide_eq_true h1) (tails_split l l' (fun x hx => ho x (List.mem_cons_of_mem _ hx)) (fun x hx => ho' x (List.mem_cons_of_mem _ hx)) h2)

theorem forms_split : ∀ (l l' : List Ev), l.length = l'.length → (∀ e ∈ l, okE e = true ∧ EvB e) → (∀ e ∈ l', okE e = true ∧ EvB e) → (l.map formE).flatten = (l'.map formE).flatten → sameEs l l' = true
  | [], [], _, _, _, _ => by simp [sameEs]
  | [], _ :: _, hl, _, _, _ => by simp at hl
  | _ :: _, [], hl, _, _, _ => by simp at hl
  | e :: l, e' :: l', hl, ho, ho', h => by
    obtain ⟨o1, o2⟩ := ho e (by simp)
    obtain ⟨o3, o4⟩ := ho' e' (by simp)
    rw [List.map_cons, List.map_cons, List.flatten_cons, List.flatten_cons] at h
    obtain ⟨h1, h2⟩ := IsE.uniq (e := e) (e' := e') ⟨o1, o2, rfl⟩ ⟨o3, o4, h⟩
    exact sameEs_cons h1 (forms_split l l' (by rw [List.length_cons, List.length_cons] at hl; omega) (fun x hx => ho x (List.mem_cons_of_mem _ hx)) (fun x hx => ho' x (List.mem_cons_of_mem _ hx)) h2)

theorem formBt_iff {t t' : Bt} (h : BtB t) (h' : BtB t') : decide (formBt t = formBt t') = sameB t t' := by
  rw [Bool.eq_iff_iff, decide_eq_true_eq]
  unfold sameB formBt headB
  rw [Bool.and_eq_true, decide_eq_true_eq]
  constructor
  · intro e
    simp only [List.append_assoc] at e
    obtain ⟨e1, e⟩ := formB_split h.fl h'.fl e
    obtain ⟨e2, e⟩ := form_split h.at_ h'.at_ e
    obtain ⟨e3, e⟩ := form_split h.n h'.n e
    exact ⟨⟨e1, e2⟩, forms_split _ _ e3 h.es h'.es e⟩
  · rintro ⟨⟨e1, e2⟩, e3⟩
    have hl : t.es.length = t'.es.length := by unfold sameEs at e3; rw [Bool.and_eq_true, decide_eq_true_eq] at e3; exact e3.1
    rw [e1, e2, hl, (tails_same _ _ e3 h.es h'.es).2]

theorem textBt_iff {t t' : Bt} (h : BtB t) (h' : BtB t') : decide (textBt t = textBt t') = sameB t t' := by
  rw [Bool.eq_iff_iff, decide_eq_true_eq]
  unfold sameB textBt
  rw [Bool.and_eq_true, decide_eq_true_eq]
  constructor
  · intro e
    obtain ⟨e1, e2⟩ := noS_split (headT_noS _ _) (headT_noS _ _) (tailT_ends _) (tailT_ends _) e
    unfold headT at e1
    obtain ⟨e3, e4⟩ := word_split (quoteL_word _) (quoteL_word _) (ends_32 _) (ends_32 _) e1
    exact ⟨⟨quoteL_inj e3, decD_inj (List.cons.inj e4).2⟩, tails_split _ _ h.es h'.es e2⟩
  · rintro ⟨⟨e1, e2⟩, e3⟩
    rw [e1, e2, (tails_same _ _ e3 h.es h'.es).1]
end Go.Proofs.YtcapbaocchaenaaGreatDoor

/- The walk of the reference's SameBatch. -/
namespace Go.Proofs.YtcapbaocchaenaaGreatDoor
open Go.RowKit Go.Shelf Fl

set_option maxRecDepth 100000 in
set_option maxHeartbeats 3200000 in
theorem rsame12_any (t t' : Bt) (x x' : Array Value) (w : World) (h : BtIn w t x) (h' : BtIn w t' x') :
    Calls Tryz.prog 14 #[.agg x, .agg x'] w fun r w' => r = .returned (.bool (sameB t t')) ∧ Below w.heap.size w w' := by
  obtain ⟨fl, at_, es⟩ := t
  obtain ⟨fl', at', es'⟩ := t'
  obtain ⟨⟨hb1, _⟩, _, a, n, c, rfl, hE⟩ := h
  obtain ⟨⟨hb1', _⟩, _, a', n', c', rfl, hE'⟩ := h'
  change ∀ c ∈ fl, c < 256 at hb1
  change ∀ c ∈ fl', c < 256 at hb1'
  change Evs w a n c es at hE
  change Evs w a' n' c' es' at hE'
  have hal := ((Below.refl w.heap.size w).alloc (Nat.le_refl _) (.cells #[.string (str fl), .int .u64 (at_ : Int), .slice a n c] 25)).alloc (by simp) (.cells #[.string (str fl'), .int .u64 (at' : Int), .slice a' n' c'] 25)
  have Hal := Lib.hid hal
  have H := Lib.hid (hE.below hal)
  have H' := Lib.hid (hE'.below hal)
  have hlen := hE.len
  have hlen' := hE'.len
  have hcm := hE.max
  have hcm' := hE'.max
  have hle := hE.le
  have hle' := hE'.le
  have hq1 := heap_alloc_new (w.alloc (.cells #[.string (str fl), .int .u64 (at_ : Int), .slice a n c] 25)) (.cells #[.string (str fl'), .int .u64 (at' : Int), .slice a' n' c'] 25)
  obtain ⟨_, _, y2'⟩ := box3 hq1
  obtain ⟨_, _, y2⟩ := box3 (heap_alloc_new w (.cells #[.string (str fl), .int .u64 (at_ : Int), .slice a n c] 25))
  have y2 := cell_below (((Below.refl _ (w.alloc (.cells #[.string (str fl), .int .u64 (at_ : Int), .slice a n c] 25))).alloc (Nat.le_refl _) (.cells #[.string (str fl'), .int .u64 (at' : Int), .slice a' n' c'] 25))) y2
  rw [show (w.alloc (.cells #[.string (str fl), .int .u64 (at_ : Int), .slice a n c] 25)).heap.size = w.heap.size + 1 from by simp] at y2'
  obtain ⟨res, hr⟩ : ∃ res, res = sameB ⟨fl, at_, es⟩ ⟨fl', at', es'⟩ := ⟨_, rfl⟩
  rw [← hr]
  have Hres := Lib.hid (show res = (decide (fl = fl' ∧ at_ = at') && sameEs es es') from hr)
  have HNm := Lib.hid (str_ne hb1 hb1')
  clear hal hE hE' hb1 hb1' hr hq1
  by_cases q0 : fl = fl'
  case neg =>
    have d0 : ((str fl).toList == (str fl').toList) = false := HNm.out q0
    have Hf := Lib.hid (show res = false from by rw [Hres.out, decide_eq_false (fun h => q0 h.1)]; rfl)
    clear q0
    go_enter Tryz.func14, Tryz.ntmps14
    go_wp2
    go_ret
    exact ⟨ret_bool Hf.out.symm, Hal.out⟩
  have d0 : ((str fl).toList == (str fl').toList) = true := by rw [q0]; exact str_eq _
  by_cases q1 : at_ = at'
  case neg =>
    have d1 : ((at_ : Int) != (at' : Int)) = true := by rw [bne_iff_ne]; omega
    have Hf := Lib.hid (show res = false from by rw [Hres.out, decide_eq_false (fun h => q1 h.2)]; rfl)
    clear q0 q1
    go_enter Tryz.func14, Tryz.ntmps14
    go_wp2
    go_ret
    exact ⟨ret_bool Hf.out.symm, Hal.out⟩
  have d1 : ((at_ : Int) != (at' : Int)) = false := by rw [q1]; exact bne_self_eq_false _
  have Hr := Lib.hid (show res = sameEs es es' from by rw [Hres.out, decide_eq_true ⟨q0, q1⟩, Bool.true_and])
  clear q0 q1 Hres
  by_cases hn : n = n'
  rotate_left
  · have hq : ((n : Int) != (n' : Int)) = true := by rw [bne_iff_ne]; omega
    have Hf := Lib.hid (show res = false from by rw [Hr.out, sameEs_len (by omega)])
    clear hn
    go_enter Tryz.func14, Tryz.ntmps14
    go_wp2
    go_ret
    exact ⟨ret_bool Hf.out.symm, Hal.out⟩
  subst hn
  have hq : ((n : Int) != (n : Int)) = false := by simp
  go_enter Tryz.func14, Tryz.ntmps14
  go_wp2
  obtain ⟨w1, hw1⟩ : ∃ w1, w1 = (w.alloc (.cells #[.string (str fl), .int .u64 (at_ : Int), .slice a n c] 25)).alloc (.cells #[.string (str fl'), .int .u64 (at' : Int), .slice a' n c'] 25) := ⟨_, rfl⟩
  rw [← hw1] at Hal H H' y2 y2' ⊢
  clear hw1
  go_loopw [5] (fun i wr => ∃ j : Nat, j ≤ n ∧ i = .int .i64 (j : Int) ∧ (∀ k u u', k < j → es[k]? = some u → es'[k]? = some u' → sameE u u' = true) ∧ Below w1.heap.size w1 wr) (fun i _ => n - (intOf i).toNat)
  case atStart => exact ⟨0, Nat.zero_le _, rfl, fun k _ _ hk => absurd hk (by omega), Below.refl _ _⟩
  case round =>
    obtain ⟨j, hj, rfl, hall, hb⟩ := hrel
    have Hall := Lib.hid hall
    have Hb := Lib.hid hb
    have m2 := cell_below hb y2
    have m2' := cell_below hb y2'
    clear hall hb y2 y2'
    by_cases hlt : j < n
    · have hl1 : j < es.length := by omega
      have hl2 : j < es'.length := by omega
      obtain ⟨b, o, rfl, hc⟩ := H.out.cell (by omega)
      obtain ⟨b', o', rfl, hc'⟩ := H'.out.cell (by omega)
      obtain ⟨p, cap, hI, ⟨g0, g1, g2, g3, g4, g5⟩, g6, g7, g8, g9, g10⟩ := ((hc j hl1).below Hb.out).all
      obtain ⟨p', cap', hI', ⟨k0, k1, k2, k3, k4, k5⟩, k6, k7, k8, k9, k10⟩ := ((hc' j hl2).below Hb.out).all
      have hdr : Below wr.heap.size wr wr.drew := (Below.refl _ _).drew
      have HC := Lib.hid (rsame11_any es[j] es'[j] _ _ wr.drew (hI.below hdr) (hI'.below hdr))
      have Hje := Lib.hid (List.getElem?_eq_getElem hl1)
      have Hje' := Lib.hid (List.getElem?_eq_getElem hl2)
      have hji : (j : Int) < (n : Int) := by omega
      have Hlt := Lib.hid hlt
      generalize es[j] = e at *
      generalize es'[j] = e' at *
      clear hc hc' hI hI' hlt hl1 hl2 hdr
      go_wp2
      go_region_held (fun w' =>
          (w'.cell? ⟨w.heap.size, 2, none⟩ = some (.slice (some ⟨b, o, none⟩) n c) ∧ w'.cell? ⟨w.heap.size + 1, 2, none⟩ = some (.slice (some ⟨b', o', none⟩) n c')) ∧
          (w'.cell? ⟨b, o + j * 11, none⟩ = some (.int .i64 e.k) ∧ w'.cell? ⟨b, o + j * 11 + 1, none⟩ = some (.int .u64 (e.id : Int)) ∧ w'.cell? ⟨b, o + j * 11 + 2, none⟩ = some (.int .i64 e.n) ∧ w'.cell? ⟨b, o + j * 11 + 3, none⟩ = some (.int .u64 (e.t : Int)) ∧ w'.cell? ⟨b, o + j * 11 + 4, none⟩ = some (.string (str e.nm)) ∧ w'.cell? ⟨b, o + j * 11 + 5, none⟩ = some (.string (str e.tx)) ∧
          w'.cell? ⟨b, o + j * 11 + 6, none⟩ = some (.int .i64 e.v.kind) ∧ w'.cell? ⟨b, o + j * 11 + 7, none⟩ = some (.int .i64 e.v.n) ∧ w'.cell? ⟨b, o + j * 11 + 8, none⟩ = some (.float .f64 e.v.f) ∧ w'.cell? ⟨b, o + j * 11 + 9, none⟩ = some (.string (str e.v.s)) ∧ w'.cell? ⟨b, o + j * 11 + 10, none⟩ = some (.slice p e.v.l.length cap)) ∧
          w'.cell? ⟨b', o' + j * 11, none⟩ = some (.int .i64 e'.k) ∧ w'.cell? ⟨b', o' + j * 11 + 1, none⟩ = some (.int .u64 (e'.id : Int)) ∧ w'.cell? ⟨b', o' + j * 11 + 2, none⟩ = some (.int .i64 e'.n) ∧ w'.cell? ⟨b', o' + j * 11 + 3, none⟩ = some (.int .u64 (e'.t : Int)) ∧ w'.cell? ⟨b', o' + j * 11 + 4, none⟩ = some (.string (str e'.nm)) ∧ w'.cell? ⟨b', o' + j * 11 + 5, none⟩ = some (.string (str e'.tx)) ∧
          w'.cell? ⟨b', o' + j * 11 + 6, none⟩ = some (.int .i64 e'.v.kind) ∧ w'.cell? ⟨b', o' + j * 11 + 7, none⟩ = some (.int .i64 e'.v.n) ∧ w'.cell? ⟨b', o' + j * 11 + 8, none⟩ = some (.float .f64 e'.v.f) ∧ w'.cell? ⟨b', o' + j * 11 + 9, none⟩ = some (.string (str e'.v.s)) ∧ w'.cell? ⟨b', o' + j * 11 + 10, none⟩ = some (.slice p' e'.v.l.length cap'))
        (first
          | exact ⟨⟨m2, m2'⟩, ⟨g0, g1, g2, g3, g4, g5, g6, g7, g8, g9, g10⟩, k0, k1, k2, k3, k4, k5, k6, k7, k8, k9, k10⟩
          | exact ⟨⟨cell_below hb2 m2, cell_below hb2 m2'⟩, ⟨cell_below hb2 g0, cell_below hb2 g1, cell_below hb2 g2, cell_below hb2 g3, cell_below hb2 g4, cell_below hb2 g5, cell_below hb2 g6, cell_below hb2 g7, cell_below hb2 g8, cell_below hb2 g9, cell_below hb2 g10⟩, cell_below hb2 k0, cell_below hb2 k1, cell_below hb2 k2, cell_below hb2 k3, cell_below hb2 k4, cell_below hb2 k5, cell_below hb2 k6, cell_below hb2 k7, cell_below hb2 k8, cell_below hb2 k9, cell_below hb2 k10⟩)
        (first | (go_at_call 44; (with_reducible refine HC.out.mono ?_); rintro r w2 ⟨rfl, hb2⟩))
      have Hb2 := Lib.hid (Hb.out.trans (((Below.refl _ _).drew.trans (hb2.mono (Nat.le_refl _))).mono Hb.out.size))
      clear hb2 m2 m2' g0 g1 g2 g3 g4 g5 g6 g7 g8 g9 g10 k0 k1 k2 k3 k4 k5 k6 k7 k8 k9 k10 HC
      cases hok : sameE e e' with
      | false =>
        have Hbad := Lib.hid (show res = false from by rw [Hr.out]; exact sameEs_bad Hje.out Hje'.out hok)
        clear hok
        go_wp2
        go_ret
        exact ⟨ret_bool Hbad.out.symm, Hal.out.trans (Hb2.out.mono Hal.out.size)⟩
      | true =>
        have Hok := Lib.hid hok
        clear hok
        go_wp2
        go_roundw
        case rel => exact ⟨j + 1, Hlt.out, by go_num, fun k u u' hk hu hu' => by
          rcases Nat.lt_or_eq_of_le (Nat.le_of_lt_succ hk) with h1 | h1
          · exact Hall.out k u u' h1 hu hu'
          · rw [h1, Hje.out] at hu
            rw [h1, Hje'.out] at hu'
            cases hu
            cases hu'
            exact Hok.out, Hb2.out⟩
        case measure => simp [intOf]; have := Hlt.out; omega
    · have hjn : j = n := by omega
      have Hg := Lib.hid (show res = true from by rw [Hr.out]; exact sameEs_good (by omega) (fun k u u' hk hu hu' => Hall.out k u u' (by omega) hu hu'))
      have hji : ¬ ((j : Int) < (n : Int)) := by omega
      clear hlt hjn
      go_wp2
      go_ret
      exact ⟨ret_bool Hg.out.symm, Hal.out.trans (Hb.out.mono Hal.out.size)⟩
end Go.Proofs.YtcapbaocchaenaaGreatDoor

/- Rows of elements of several cells that are stored one element at a time. -/
namespace Go.Proofs.YtcapbaocchaenaaGreatDoor
open Go.RowKit Fl

/-- Several cells stored one behind the other. -/
def setsAt : World → Nat → Nat → List Value → World
  | w, _, _, [] => w
  | w, g, o, v :: r => setsAt (w.setCell ⟨g, o, none⟩ v) g (o + 1) r

theorem setsAt_other : ∀ (vs : List Value) (w : World) (g o b : Nat), b ≠ g → (setsAt w g o vs).heap[b]? = w.heap[b]?
  | [], _, _, _, _, _ => rfl
  | v :: r, w, g, o, b, h => by
    rw [setsAt, setsAt_other r _ g (o + 1) b h]
    simp [World.setCell, Array.getElem?_modify, Ne.symm h]

theorem setsAt_below : ∀ (vs : List Value) (w0 w : World) (g o bs : Nat), Below bs w0 w → bs ≤ g → Below bs w0 (setsAt w g o vs)
  | [], _, _, _, _, _, h, _ => h
  | v :: r, w0, w, g, o, bs, h, hg => by
    rw [setsAt]
    exact setsAt_below r w0 _ g (o + 1) bs (h.setCell (p := ⟨g, o, none⟩) hg v) hg

theorem setsAt_size : ∀ (vs : List Value) (w : World) (g o : Nat), (setsAt w g o vs).heap.size = w.heap.size
  | [], _, _, _ => rfl
  | v :: r, w, g, o => by
    rw [setsAt, setsAt_size r]
    simp [World.setCell]

theorem setsAt_row : ∀ (vs : List Value) (w : World) (g o : Nat) (x : Array Value) (t : TypeId) (m : Nat × Nat), w.heap[g]? = some (.cells x t m) →
    ∃ y, (setsAt w g o vs).heap[g]? = some (.cells y t m) ∧ y.size = x.size ∧ ∀ i, y[i]? = if o ≤ i ∧ i < o + vs.length ∧ i < x.size then vs[i - o]? else x[i]?
  | [], w, g, o, x, t, m, h => ⟨x, h, rfl, fun i => by rw [if_neg (by simp; omega)]⟩
  | v :: r, w, g, o, x, t, m, h => by
    obtain ⟨y, h1, h2, h3⟩ := setsAt_row r (w.setCell ⟨g, o, none⟩ v) g (o + 1) (x.setIfInBounds o v) t m (by simp [World.setCell, Array.getElem?_modify, h])
    refine ⟨y, h1, by rw [h2, Array.size_setIfInBounds], fun i => ?_⟩
    rw [h3 i, Array.size_setIfInBounds, List.length_cons]
    by_cases ho : i = o
    · subst ho
      rw [if_neg (by omega), Array.getElem?_setIfInBounds, if_pos rfl]
      by_cases hx : i < x.size
      · rw [if_pos hx, if_pos (by omega), Nat.sub_self]; rfl
      · rw [if_neg hx, if_neg (by omega), Array.getElem?_eq_none (by omega)]
    · by_cases hc : o + 1 ≤ i ∧ i < o + 1 + r.length ∧ i < x.size
      · rw [if_pos hc, if_pos (by omega)]
        obtain ⟨k, hk⟩ : ∃ k, i - o = k + 1 := ⟨i - o - 1, by omega⟩
        rw [hk, show i - (o + 1) = k by omega]
        rfl
      · rw [if_neg hc, if_neg (by omega), Array.getElem?_setIfInBounds, if_neg (fun e => ho e.symm)]

/-- A row in block g: the first n of its elements, of z cells each, are d. -/
structure RowC (w : World) (t : TypeId) (z g n : Nat) (d : Nat → Array Value) : Prop where
  row : ∃ x, w.heap[g]? = some (.cells x t (0, 0)) ∧ n * z ≤ x.size
  size : ∀ k, k < n → (d k).size = z
  cell : ∀ k, k < n → ∀ i, i < z → w.cell? ⟨g, k * z + i, none⟩ = (d k)[i]?

section
variable {w w' : World} {t : TypeId} {z g n : Nat} {d : Nat → Array Value}
theorem RowC.lt (h : RowC w t z g n d) : g < w.heap.size := by
  obtain ⟨x, hx, _⟩ := h.row
  exact (Array.getElem?_eq_some_iff.1 hx).1

theorem RowC.keep (h : RowC w t z g n d) (hg : w'.heap[g]? = w.heap[g]?) : RowC w' t z g n d :=
  ⟨by obtain ⟨x, hx, hn⟩ := h.row; exact ⟨x, hg.trans hx, hn⟩, h.size, fun k hk i hi => (World.cell?_of_block (a := ⟨g, k * z + i, none⟩) hg).trans (h.cell k hk i hi)⟩

theorem RowC.below (h : RowC w t z g n d) (hb : Below w.heap.size w w') : RowC w' t z g n d := h.keep (hb.block g h.lt)

theorem RowC.set (h : RowC w t z g n d) {j : Nat} (hj : j < n) (y : Array Value) (hy : y.size = z) : RowC (setsAt w g (j * z) y.toList) t z g n (fun k => if k = j then y else d k) := by
  obtain ⟨x, hx, hn⟩ := h.row
  obtain ⟨x', h1, h2, h3⟩ := setsAt_row y.toList w g (j * z) x t (0, 0) hx
  refine ⟨⟨x', h1, by rw [h2]; exact hn⟩, fun k hk => ?_, fun k hk i hi => ?_⟩
  · show (if k = j then y else d k).size = z
    split
    · exact hy
    · exact h.size k hk
  · rw [cell_of_row _ _ _ _ _ _ h1, h3, Array.length_toList, hy]
    have hle : (j + 1) * z ≤ n * z := Nat.mul_le_mul_right z hj
    rw [Nat.succ_mul] at hle
    show _ = (if k = j then y else d k)[i]?
    by_cases e : k = j
    · subst e
      rw [if_pos (by omega), if_pos rfl, show k * z + i - k * z = i by omega, Array.getElem?_toList]
    · rw [if_neg e, if_neg (fun hc => ?_), ← h.cell k hk i hi, cell_of_row _ _ _ _ _ _ hx]
      rcases Nat.lt_or_ge k j with hkj | hkj
      · have := Nat.mul_le_mul_right z (show k + 1 ≤ j from hkj)
        rw [Nat.succ_mul] at this
        omega
      · have := Nat.mul_le_mul_right z (show j + 1 ≤ k by omega)
        rw [Nat.succ_mul] at this
        omega
end

/-- The cells of a list of values, one by one. -/
theorem vs_cells {w : World} {b : Nat} : ∀ (l : List V) (o : Nat), VsIn w l b o → ∃ cs : List (Array Value), cs.length = l.length ∧ ∀ (i : Nat) (x : Array Value) (u : V), cs[i]? = some x → l[i]? = some u → x.size = 5 ∧ (∀ j, j < 5 → w.cell? ⟨b, o + i * 5 + j, none⟩ = x[j]?) ∧ VIn w u x
  | [], _, _ => ⟨[], rfl, fun i x u h => by simp at h⟩
  | v :: r, o, h => by
    rw [VsIn] at h
    obtain ⟨⟨x, hx, hc, hv⟩, hr⟩ := h
    obtain ⟨cs, hl, he⟩ := vs_cells r (o + 5) hr
    refine ⟨x :: cs, by rw [List.length_cons, List.length_cons, hl], fun i y u hy hu => ?_⟩
    cases i with
    | zero =>
      simp at hy hu
      subst hy hu
      exact ⟨hx, fun j hj => by rw [Nat.zero_mul, Nat.add_zero]; exact hc j hj, hv⟩
    | succ i =>
      obtain ⟨h1, h2, h3⟩ := he i y u (by simpa using hy) (by simpa using hu)
      exact ⟨h1, fun j hj => by rw [← h2 j hj]; congr 2; omega, h3⟩

theorem cs_size {cs : List (Array Value)} (h : ∀ x ∈ cs, x.size = 5) : (cs.flatMap Array.toList).length = cs.length * 5 := by
  induction cs with
  | nil => rfl
  | cons x r ih =>
    rw [List.flatMap_cons, List.length_append, List.length_cons, ih (fun y hy => h y (by simp [hy])), Array.length_toList, h x (by simp), Nat.succ_mul]
    omega
end Go.Proofs.YtcapbaocchaenaaGreatDoor

/- The walks of slices.Clone of values, and of the code's Clone of a value. -/
namespace Go.Proofs.YtcapbaocchaenaaGreatDoor
open Go.RowKit Fl

/-- What slices.Clone of values returns: a row of the call's own with the same cells, or nil. -/
def VsCloneEnd (w : World) (n : Nat) (cs : List (Array Value)) (r : Ending) (w' : World) : Prop := ∃ v, r = .returned v ∧ w'.ownsRow w.heap.size 43 5 v n (cs.flatMap Array.toList) ∧ Below w.heap.size w w'

theorem vsclone_nil (c : Nat) (w : World) : Calls Tryz.prog 122 #[.slice none 0 c] w (VsCloneEnd w 0 []) := by
  have hq := fun (w : World) (a : Option Addr) (n c : Nat) => Lib.run_eql_slice_nil (P := Tryz.prog) w 41 43 a n c 0 0 Tryz.underlying41
  go_enter Tryz.func122, Tryz.ntmps122
  go_wp2
  go_ret
  exact ⟨_, rfl, World.ownsRow_nil _ _ _ _, Below.refl _ _⟩

set_option maxRecDepth 100000 in
theorem vsclone_some (ad : Addr) (n cap : Nat) (cs : List (Array Value)) (w : World) (hn : n ≤ 1000000) (hl : cs.length = n) (hs : ∀ x ∈ cs, x.size = 5) (hc : ∀ j u, (cs.flatMap Array.toList)[j]? = some u → w.cell? (ad.add j) = some u) (h1 : ∀ u ∈ cs.flatMap Array.toList, u.oneCell' = true) :
    Calls Tryz.prog 122 #[.slice (some ad) n cap] w (VsCloneEnd w n cs) := by
  have hlen := cs_size hs
  have hbel : Below w.heap.size w (w.alloc (.cells #[] 43)) := (Below.refl _ _).alloc (Nat.le_refl _) _
  have hown : (w.alloc (.cells #[] 43)).ownsRow w.heap.size 43 5 (.slice (some ⟨w.heap.size, 0, none⟩) 0 0) 0 [] := World.ownsRow_made w #[] 0 (Nat.le_refl _) (Nat.zero_le _) rfl
  have hown := Lib.hid hown
  rename_i hown0; clear hown0
  have HC := Lib.hid (fun j u h => cell_below hbel (hc j u h))
  have H1 := Lib.hid h1
  have Hb := Lib.hid hbel
  have hq := fun (w : World) (a : Option Addr) (n c : Nat) => Lib.run_eql_slice_nil (P := Tryz.prog) w 41 43 a n c 0 0 Tryz.underlying41
  obtain ⟨i0, hi, hz0, hz1, hz2⟩ := info_parts info_value
  unfold VsCloneEnd
  generalize cs.flatMap Array.toList = L at *
  clear hc h1 hs
  go_enter Tryz.func122, Tryz.ntmps122
  go_wp2_with (at_builtin; refine wpList_append_own _ rfl _ _ 41 rfl w.heap.size 43 i0 _ 5 64 Tryz.underlying41 hi hz0 hz1 hz2 rfl (by decide) _ 0 [] rfl hown.out ad n cap L rfl (by rw [hlen, hl]) HC.out H1.out (by rw [maxLen_nat]; omega) (by omega) hbel.size ?_; intro v' w1 g1 g2 _)
  go_ret
  exact ⟨_, rfl, by simpa using g1, Hb.out.grown g2 Hb.out.size (fun k hk => (hown.out.lt k hk).1)⟩

/-- The cells of the values of a list, wherever the slice lies. -/
theorem vs_slice {w : World} {k n : Int} {f : Nat} {s : List Nat} {l : List V} {a : Option Addr} {cap : Nat} (h : VIn w (.mk k n f s l) (cells5 k n f s a l.length cap)) :
    ∃ cs : List (Array Value), cs.length = l.length ∧ (∀ (i : Nat) (x : Array Value) (u : V), cs[i]? = some x → l[i]? = some u → x.size = 5 ∧ VIn w u x) ∧
      (∀ ad, a = some ad → ∀ j u, (cs.flatMap Array.toList)[j]? = some u → w.cell? (ad.add j) = some u) ∧ (a = none → l = []) := by
  by_cases hl : l = []
  · subst hl
    exact ⟨[], rfl, fun i x u hx => by simp at hx, fun _ _ j u h => by simp at h, fun _ => rfl⟩
  · obtain ⟨b, o, rfl, hv⟩ := h.list (by show l ≠ []; exact hl)
    obtain ⟨cs, h1, h2⟩ := vs_cells l o hv
    refine ⟨cs, h1, fun i x u hx hu => ⟨(h2 i x u hx hu).1, (h2 i x u hx hu).2.2⟩, fun ad e j u hj => ?_, fun e => by cases e⟩
    cases e
    have hs : ∀ x ∈ cs, x.size = 5 := fun x hx => by
      obtain ⟨i, hi, rfl⟩ := List.getElem_of_mem hx
      exact (h2 i _ l[i] (List.getElem?_eq_getElem hi) (List.getElem?_eq_getElem (by omega))).1
    have hjl : j < cs.length * 5 := by rw [← cs_size hs]; exact (List.getElem?_eq_some_iff.1 hj).1
    have hi : j / 5 < cs.length := by omega
    have hc := (h2 (j / 5) _ l[j / 5] (List.getElem?_eq_getElem hi) (List.getElem?_eq_getElem (by omega))).2.1 (j % 5) (by omega)
    have hf := flat_at cs hs (j / 5) _ (List.getElem?_eq_getElem hi) (j % 5) (by omega)
    rw [show j / 5 * 5 + j % 5 = j by omega, hj] at hf
    rw [← hf] at hc
    rw [show (⟨b, o, none⟩ : Addr).add j = ⟨b, o + j, none⟩ by unfold Addr.add; split <;> simp_all, ← hc]
    congr 2
    omega

theorem vin_one {w : World} {v : V} {x : Array Value} (h : VIn w v x) : ∀ u ∈ x.toList, u.oneCell' = true := by
  obtain ⟨_, _, _, _, _, a, cap, rfl, _⟩ := h.parts
  intro u hu
  simp at hu
  rcases hu with rfl | rfl | rfl | rfl | rfl <;> rfl

theorem set_headE5 {w : World} {E : Nat} {v0 v1 v2 v3 v4 : Value} {t : TypeId} {m : Nat × Nat} (h : w.heap[E]? = some (.cells #[v0, v1, v2, v3, v4] t m)) (u0 u1 u2 u3 u4 : Value) :
    (((((w.setCell ⟨E, 0, none⟩ u0).setCell ⟨E, 1, none⟩ u1).setCell ⟨E, 2, none⟩ u2).setCell ⟨E, 3, none⟩ u3).setCell ⟨E, 4, none⟩ u4).heap[E]? = some (.cells #[u0, u1, u2, u3, u4] t m) := by
  simp [World.setCell, Array.getElem?_modify, h]

/-- The two boxes of a call of Clone: its argument, whose list it changes, and its result. -/
structure VCH (w wr : World) (k n : Int) (f : Nat) (s : List Nat) (x : Value) : Prop where
  box : wr.heap[w.heap.size]? = some (.cells #[.int .i64 k, .int .i64 n, .float .f64 f, .string (str s), x] 43 (0, 0))
  res : wr.heap[w.heap.size + 1]? = some (.cells #[.int .i64 0, .int .i64 0, .float .f64 0, .string ⟨#[]⟩, .slice none 0 0] 43 (0, 0))
  below : Below w.heap.size w wr

section
variable {w wr w' : World} {k n : Int} {f : Nat} {s : List Nat} {x : Value}
theorem VCH.lt (h : VCH w wr k n f s x) : w.heap.size + 1 < wr.heap.size := (Array.getElem?_eq_some_iff.1 h.res).1
theorem VCH.grow (h : VCH w wr k n f s x) (hb : Below wr.heap.size wr w') : VCH w w' k n f s x :=
  ⟨(hb.block _ (Array.getElem?_eq_some_iff.1 h.box).1).trans h.box, (hb.block _ h.lt).trans h.res, h.below.trans (hb.mono (by have := h.lt; omega))⟩
theorem VCH.set (h : VCH w wr k n f s x) (y : Value) : VCH w (wr.setCell ⟨w.heap.size, 4, none⟩ y) k n f s y :=
  ⟨by simp [World.setCell, Array.getElem?_modify, h.box], by rw [show (wr.setCell ⟨w.heap.size, 4, none⟩ y).heap[w.heap.size + 1]? = wr.heap[w.heap.size + 1]? by simp [World.setCell, Array.getElem?_modify]]; exact h.res, h.below.setCell (p := ⟨w.heap.size, 4, none⟩) (Nat.le_refl _) _⟩
theorem VCH.far (h : VCH w wr k n f s x) {g o : Nat} (hg : w.heap.size + 1 < g) (vs : List Value) : VCH w (setsAt wr g o vs) k n f s x :=
  ⟨(setsAt_other vs wr g o _ (by omega)).trans h.box, (setsAt_other vs wr g o _ (by omega)).trans h.res, setsAt_below vs w wr g o _ h.below (by omega)⟩
theorem VCH.new (w : World) (k n : Int) (f : Nat) (s : List Nat) (x : Value) : VCH w ((w.alloc (.cells #[.int .i64 k, .int .i64 n, .float .f64 f, .string (str s), x] 43)).alloc (.cells #[.int .i64 0, .int .i64 0, .float .f64 0, .string ⟨#[]⟩, .slice none 0 0] 43)) k n f s x :=
  ⟨(Below.heap_alloc _ _ _ (by simp)).trans (heap_alloc_new _ _), by have := heap_alloc_new (w.alloc (.cells #[.int .i64 k, .int .i64 n, .float .f64 f, .string (str s), x] 43)) (.cells #[.int .i64 0, .int .i64 0, .float .f64 0, .string ⟨#[]⟩, .slice none 0 0] 43); rwa [World.size_alloc] at this, ((Below.refl _ _).alloc (Nat.le_refl _) _).alloc (by simp) _⟩
end

/-- A row of the call's own, cell by cell. -/
theorem rowC_of_own {w : World} {base n : Nat} {v : Value} {cs : List (Array Value)} (hl : cs.length = n) (hs : ∀ x ∈ cs, x.size = 5) (h : w.ownsRow base 43 5 v n (cs.flatMap Array.toList)) :
    ∃ a c, v = .slice a n c ∧ n ≤ c ∧ c ≤ 9223372036854775807 ∧ (0 < n → ∃ g, a = some ⟨g, 0, none⟩ ∧ base ≤ g ∧ RowC w 43 5 g n (fun k => cs.getD k #[])) := by
  obtain ⟨_, hrow⟩ := h
  rcases hrow with ⟨rfl, rfl⟩ | ⟨g, cap, cur, rfl, hbg, hg, hle, hcm, hsz, htake⟩
  · exact ⟨none, 0, rfl, Nat.le_refl _, by omega, fun h => absurd h (Nat.lt_irrefl _)⟩
  · refine ⟨_, cap, rfl, hle, by rw [maxLen_nat] at hcm; exact hcm, fun _ => ⟨g, rfl, hbg, ⟨cur, hg, by rw [hsz]; exact Nat.mul_le_mul_right 5 hle⟩, fun k hk => ?_, fun k hk i hi => ?_⟩⟩
    · show (cs.getD k #[]).size = 5
      rw [List.getD_eq_getElem?_getD, List.getElem?_eq_getElem (by omega)]
      exact hs _ (List.getElem_mem _)
    · have hx : cs[k]? = some (cs[k]'(by omega)) := List.getElem?_eq_getElem (by omega)
      show _ = (cs.getD k #[])[i]?
      rw [List.getD_eq_getElem?_getD, hx, cell_of_row w g _ cur _ _ hg]
      show _ = (cs[k]'(by omega))[i]?
      rw [← flat_at cs hs k _ hx i hi, ← htake, List.getElem?_take, if_pos (by omega), Array.getElem?_toList]

set_option maxRecDepth 100000 in
set_option maxHeartbeats 6400000 in
theorem vclone_any : ∀ (v : V) (x : Array Value) (w : World), bulkV v ≤ 1000000 → VIn w v x →
    Calls Tryz.prog 82 #[.agg x] w fun e w' => ∃ x', e = .returned (.agg x') ∧ VInP (fun b => w.heap.size ≤ b ∧ b < w'.heap.size) w' v x' ∧ Below w.heap.size w w' := by
  refine V.ind ?_
  intro v ih x w hbk h
  obtain ⟨k, n, f, s, l⟩ := v
  obtain ⟨hk, hn, hf, hs, hss, a, cap, rfl, hcap, hmax, _⟩ := h.parts
  change VIn w (V.mk k n f s l) (cells5 k n f s a l.length cap) at h
  change l.length ≤ cap at hcap
  change ∀ u ∈ l, _ at ih
  rw [bulkV] at hbk
  have IH := Lib.hid (fun (u : V) (hu : u ∈ l) (x : Array Value) (w : World) (hv : VIn w u x) => ih u hu x w (by have := bulkL_mem hu; omega) hv)
  have hll : l.length ≤ 1000000 := by have := bulkL_len l; omega
  have Hh := Lib.hid h
  clear ih hbk h
  have hfl : ∀ (w : World) (a : Addr) (m : Mode) (b : Nat), (store a (.float .f64 b) m).run Tryz.prog w = stored Tryz.prog w a (.float .f64 b) m := fun w a m b => run_store Tryz.prog w a _ m rfl
  change Calls _ _ #[.agg #[.int .i64 k, .int .i64 n, .float .f64 f, .string (str s), .slice a l.length cap]] _ _
  go_enter Tryz.func82, Tryz.ntmps82
  have HV0 := Lib.hid (VCH.new w k n f s (.slice a l.length cap))
  obtain ⟨cs, hcl, hce, hcc, hcn⟩ := vs_slice Hh.out
  have hs5 : ∀ x ∈ cs, x.size = 5 := fun x hx => by
    obtain ⟨i, hi, rfl⟩ := List.getElem_of_mem hx
    exact (hce i _ l[i] (List.getElem?_eq_getElem hi) (List.getElem?_eq_getElem (by omega))).1
  have h1c : ∀ u ∈ cs.flatMap Array.toList, u.oneCell' = true := fun u hu => by
    obtain ⟨x, hx, hu⟩ := List.mem_flatMap.1 hu
    obtain ⟨i, hi, rfl⟩ := List.getElem_of_mem hx
    exact vin_one (hce i _ l[i] (List.getElem?_eq_getElem hi) (List.getElem?_eq_getElem (by omega))).2 u hu
  have HC := Lib.hid (fun W (hW : Below w.heap.size w W) => show Calls Tryz.prog 122 #[.slice a l.length cap] W (VsCloneEnd W l.length cs) from by
    cases a with
    | none =>
      obtain rfl : l = [] := hcn rfl
      obtain rfl : cs = [] := List.length_eq_zero_iff.1 hcl
      exact vsclone_nil cap W
    | some ad => exact vsclone_some ad l.length cap cs W hll hcl hs5 (fun j u hj => cell_below hW (hcc ad rfl j u hj)) h1c)
  have Hce := Lib.hid hce
  have Hcl := Lib.hid hcl
  have Hs5 := Lib.hid hs5
  have Hll := Lib.hid hll
  have Hsc := Lib.hid (show _ ∧ _ ∧ _ ∧ _ ∧ _ from ⟨hk, hn, hf, hs, hss⟩)
  clear hce hcc hcn hs5 h1c hcl hk hn hf hs hss hll
  go_wp2_with fail
  generalize (w.alloc (.cells #[.int .i64 k, .int .i64 n, .float .f64 f, .string (str s), .slice a l.length cap] 43)).alloc (.cells #[.int .i64 0, .int .i64 0, .float .f64 0, .string ⟨#[]⟩, .slice none 0 0] 43) = w1 at *
  refine (HC.out w1 HV0.out.below).mono ?_
  rintro r w2 ⟨v, rfl, hown, hb2⟩
  obtain ⟨a', c', rfl, hle', hcm', hrow⟩ := rowC_of_own Hcl.out Hs5.out hown
  have HV2 := Lib.hid (HV0.out.grow hb2)
  have Hrw := Lib.hid hrow
  have Hs1 := Lib.hid (show w.heap.size + 2 ≤ w1.heap.size ∧ w1.heap.size ≤ w2.heap.size from ⟨by have := HV0.out.lt; omega, hb2.size⟩)
  have Hcm := Lib.hid (And.intro hle' hcm')
  have c4 := cell_of_row w2 w.heap.size 4 _ _ _ HV2.out.box
  have z4 : w2.frozen? ⟨w.heap.size, 4, none⟩ = false := by simp [World.frozen?, HV2.out.box]
  clear hown hb2 hrow HC HV0 hle' hcm'
  go_wp2
  have HV3 := Lib.hid (HV2.out.set (.slice a' l.length c'))
  have HR3 := Lib.hid (show 0 < l.length → ∃ g, a' = some ⟨g, 0, none⟩ ∧ w1.heap.size ≤ g ∧ RowC (w2.setCell ⟨w.heap.size, 4, none⟩ (.slice a' l.length c')) 43 5 g l.length (fun k => cs.getD k #[]) from fun h => by
    obtain ⟨g, e, hg, hr⟩ := Hrw.out h
    have := Hs1.out.1
    exact ⟨g, e, hg, hr.keep (by simp [World.setCell, Array.getElem?_modify, show w.heap.size ≠ g by omega])⟩)
  have Hz3 := Lib.hid (show w1.heap.size ≤ (w2.setCell ⟨w.heap.size, 4, none⟩ (.slice a' l.length c')).heap.size by have := Hs1.out.2; simpa [World.setCell] using this)
  clear c4 z4 HV2 Hrw
  generalize w2.setCell ⟨w.heap.size, 4, none⟩ (.slice a' l.length c') = w3 at *
  go_loopw [12] (fun i wr => ∃ j : Nat, j ≤ l.length ∧ i = .int .i64 (j : Int) ∧ VCH w wr k n f s (.slice a' l.length c') ∧ w1.heap.size ≤ wr.heap.size ∧ (0 < l.length → ∃ g d, a' = some ⟨g, 0, none⟩ ∧ w1.heap.size ≤ g ∧ RowC wr 43 5 g l.length d ∧ (∀ q u, q < j → l[q]? = some u → VInP (fun b => (w1.heap.size ≤ b ∧ b ≠ g) ∧ b < wr.heap.size) wr u (d q)) ∧ ∀ q, j ≤ q → d q = cs.getD q #[])) (fun i _ => l.length - (intOf i).toNat)
  case atStart => exact ⟨0, Nat.zero_le _, rfl, HV3.out, Hz3.out, fun h => by
    obtain ⟨g, e, hg, hr⟩ := HR3.out h
    exact ⟨g, _, e, hg, hr, fun q u hq => absurd hq (by omega), fun q _ => rfl⟩⟩
  case round =>
    obtain ⟨j, hj, rfl, hV, hz, hR⟩ := hrel
    have HV := Lib.hid hV
    have Hz := Lib.hid hz
    have HR := Lib.hid hR
    clear hV hz hR
    by_cases hlt : j < l.length
    · have hji : (j : Int) < (l.length : Int) := by omega
      obtain ⟨g, d, rfl, hg, hr, hdn, hdo⟩ := HR.out (by omega)
      have hcj : cs[j]? = some (cs[j]'(by rw [Hcl.out]; exact hlt)) := List.getElem?_eq_getElem _
      obtain ⟨_, hvj⟩ := Hce.out j _ l[j] hcj (List.getElem?_eq_getElem hlt)
      have hdj : d j = cs[j]'(by rw [Hcl.out]; exact hlt) := by rw [hdo j (Nat.le_refl _), List.getD_eq_getElem?_getD, hcj]; rfl
      have hcell := hr.cell j hlt
      rw [hdj] at hcell
      have hmem := List.getElem_mem hlt
      have hlj := List.getElem?_eq_getElem hlt
      generalize cs[j]'(by rw [Hcl.out]; exact hlt) = xj at *
      obtain ⟨u, hu⟩ : ∃ u, u = l[j] := ⟨_, rfl⟩
      rw [← hu] at hvj hmem hlj
      obtain ⟨_, _, _, _, _, ea, ec, rfl, _⟩ := hvj.parts
      unfold cells5 at hcell hdj
      have Hdj := Lib.hid hdj
      have k0 : wr.cell? ⟨g, j * 5, none⟩ = some (.int .i64 u.kind) := hcell 0 (by omega)
      have k1 : wr.cell? ⟨g, j * 5 + 1, none⟩ = some (.int .i64 u.n) := hcell 1 (by omega)
      have k2 : wr.cell? ⟨g, j * 5 + 2, none⟩ = some (.float .f64 u.f) := hcell 2 (by omega)
      have k3 : wr.cell? ⟨g, j * 5 + 3, none⟩ = some (.string (str u.s)) := hcell 3 (by omega)
      have k4 : wr.cell? ⟨g, j * 5 + 4, none⟩ = some (.slice ea u.l.length ec) := hcell 4 (by omega)
      have Hlt := Lib.hid hlt
      have Hlj := Lib.hid hlj
      have Hr := Lib.hid hr
      have Hg := Lib.hid hg
      have Hdn := Lib.hid hdn
      have Hdo := Lib.hid hdo
      have hal := (Below.refl wr.heap.size wr).alloc (Nat.le_refl _) (.cells #[.int .i64 u.kind, .int .i64 u.n, .float .f64 u.f, .string (str u.s), .slice ea u.l.length ec] 43)
      have HX := Lib.hid (heap_alloc_new wr (.cells #[.int .i64 u.kind, .int .i64 u.n, .float .f64 u.f, .string (str u.s), .slice ea u.l.length ec] 43))
      have HS := Lib.hid hal
      have HI := Lib.hid (fun W (hW : Below w.heap.size w W) => IH.out u hmem _ W (hvj.below hW))
      unfold cells5 at HI
      clear hlt hcj hvj hdj hcell hmem hlj hr hg hdn hdo hal hu
      go_upto_region 5 with fail
      generalize wr.alloc (.cells #[.int .i64 u.kind, .int .i64 u.n, .float .f64 u.f, .string (str u.s), .slice ea u.l.length ec] 43) = w4 at *
      have HV4 := Lib.hid (HV.out.grow HS.out)
      have hx0 := fun i => cell_of_row w4 wr.heap.size i _ _ _ HX.out
      have HK := Lib.hid (fun W (hW : Below w4.heap.size w4 W) => show (W.cell? ⟨wr.heap.size, 0, none⟩ = some (.int .i64 u.kind) ∧ W.cell? ⟨wr.heap.size, 1, none⟩ = some (.int .i64 u.n) ∧ W.cell? ⟨wr.heap.size, 2, none⟩ = some (.float .f64 u.f) ∧ W.cell? ⟨wr.heap.size, 3, none⟩ = some (.string (str u.s)) ∧ W.cell? ⟨wr.heap.size, 4, none⟩ = some (.slice ea u.l.length ec)) ∧ W.cell? ⟨w.heap.size, 4, none⟩ = some (.slice (some ⟨g, 0, none⟩) l.length c') from
        ⟨⟨cell_below hW (hx0 0), cell_below hW (hx0 1), cell_below hW (hx0 2), cell_below hW (hx0 3), cell_below hW (hx0 4)⟩, cell_below hW (cell_of_row w4 w.heap.size 4 _ _ _ HV4.out.box)⟩)
      have Hd := Lib.hid (show Below w4.heap.size w4 w4.drew from (Below.refl _ _).drew)
      clear hx0 k0 k1 k2 k3 k4
      go_wp2_with fail
      go_region_held3 (fun W => (W.cell? ⟨wr.heap.size, 0, none⟩ = some (.int .i64 u.kind) ∧ W.cell? ⟨wr.heap.size, 1, none⟩ = some (.int .i64 u.n) ∧ W.cell? ⟨wr.heap.size, 2, none⟩ = some (.float .f64 u.f) ∧ W.cell? ⟨wr.heap.size, 3, none⟩ = some (.string (str u.s)) ∧ W.cell? ⟨wr.heap.size, 4, none⟩ = some (.slice ea u.l.length ec)) ∧ W.cell? ⟨w.heap.size, 4, none⟩ = some (.slice (some ⟨g, 0, none⟩) l.length c'))
        (first | with_reducible exact HK.out _ Hd.out | with_reducible exact HK.out _ hb6 | exact HK7.out [.int .i64 u.kind, .int .i64 u.n, .float .f64 u.f, .string (str u.s), .slice a6 u.l.length c6])
        (first | (go_at_call 82; (with_reducible refine (HI.out _ (HV4.out.below.trans (Hd.out.mono (by have := HV4.out.lt; omega)))).mono ?_); rintro r w6 ⟨x6, rfl, hv6, hb60⟩
                  have hb6 : Below w4.heap.size w4 w6 := Hd.out.trans (hb60.mono Hd.out.size)
                  obtain ⟨a6, c6, rfl⟩ := hv6.parts5
                  have HR6 := Lib.hid ((Hr.out.below HS.out).below hb6)
                  have Hv6 := Lib.hid hv6
                  have HK7 := Lib.hid (fun (vs : List Value) => show ((setsAt w6 g (j * 5) vs).cell? ⟨wr.heap.size, 0, none⟩ = some (.int .i64 u.kind) ∧ (setsAt w6 g (j * 5) vs).cell? ⟨wr.heap.size, 1, none⟩ = some (.int .i64 u.n) ∧ (setsAt w6 g (j * 5) vs).cell? ⟨wr.heap.size, 2, none⟩ = some (.float .f64 u.f) ∧ (setsAt w6 g (j * 5) vs).cell? ⟨wr.heap.size, 3, none⟩ = some (.string (str u.s)) ∧ (setsAt w6 g (j * 5) vs).cell? ⟨wr.heap.size, 4, none⟩ = some (.slice ea u.l.length ec)) ∧ (setsAt w6 g (j * 5) vs).cell? ⟨w.heap.size, 4, none⟩ = some (.slice (some ⟨g, 0, none⟩) l.length c') from by
                    have hgl := Hr.out.lt
                    have hgg := Hg.out
                    have hw1 := Hs1.out.1
                    have hx : ∀ i, (setsAt w6 g (j * 5) vs).cell? ⟨wr.heap.size, i, none⟩ = w6.cell? ⟨wr.heap.size, i, none⟩ := fun i => World.cell?_of_block (a := ⟨wr.heap.size, i, none⟩) (setsAt_other vs w6 g (j * 5) wr.heap.size (by omega))
                    have hy : (setsAt w6 g (j * 5) vs).cell? ⟨w.heap.size, 4, none⟩ = w6.cell? ⟨w.heap.size, 4, none⟩ := World.cell?_of_block (a := ⟨w.heap.size, 4, none⟩) (setsAt_other vs w6 g (j * 5) w.heap.size (by omega))
                    rw [hx, hx, hx, hx, hx, hy]
                    exact HK.out _ hb6)
                  have hrc := HR6.out.cell j Hlt.out
                  rw [Hdj.out] at hrc
                  have e0 : w6.cell? ⟨g, j * 5, none⟩ = some (.int .i64 u.kind) := hrc 0 (by omega)
                  have e1 : w6.cell? ⟨g, j * 5 + 1, none⟩ = some (.int .i64 u.n) := hrc 1 (by omega)
                  have e2 : w6.cell? ⟨g, j * 5 + 2, none⟩ = some (.float .f64 u.f) := hrc 2 (by omega)
                  have e3 : w6.cell? ⟨g, j * 5 + 3, none⟩ = some (.string (str u.s)) := hrc 3 (by omega)
                  have e4 : w6.cell? ⟨g, j * 5 + 4, none⟩ = some (.slice ea u.l.length ec) := hrc 4 (by omega)
                  have hfz : ∀ i, w6.frozen? ⟨g, i, none⟩ = false := fun i => by
                    obtain ⟨x, hx, _⟩ := HR6.out.row
                    simp [World.frozen?, hx]
                  have q0 := hfz (j * 5)
                  have q1 := hfz (j * 5 + 1)
                  have q2 := hfz (j * 5 + 2)
                  have q3 := hfz (j * 5 + 3)
                  have q4 := hfz (j * 5 + 4)
                  clear hb60 hrc hfz hv6))
      clear e0 e1 e2 e3 e4 q0 q1 q2 q3 q4
      have hw7 : (((((w6.setCell ⟨g, j * 5, none⟩ (.int .i64 u.kind)).setCell ⟨g, j * 5 + 1, none⟩ (.int .i64 u.n)).setCell ⟨g, j * 5 + 2, none⟩ (.float .f64 u.f)).setCell ⟨g, j * 5 + 3, none⟩ (.string (str u.s))).setCell ⟨g, j * 5 + 4, none⟩ (.slice a6 u.l.length c6)) = setsAt w6 g (j * 5) (#[.int .i64 u.kind, .int .i64 u.n, .float .f64 u.f, .string (str u.s), .slice a6 u.l.length c6] : Array Value).toList := rfl
      rw [hw7]
      clear hw7
      have HR7 := Lib.hid (HR6.out.set Hlt.out #[.int .i64 u.kind, .int .i64 u.n, .float .f64 u.f, .string (str u.s), .slice a6 u.l.length c6] rfl)
      have HV7 := Lib.hid ((HV4.out.grow hb6).far (g := g) (o := j * 5) (by have := Hg.out; have := Hs1.out.1; omega) (#[.int .i64 u.kind, .int .i64 u.n, .float .f64 u.f, .string (str u.s), .slice a6 u.l.length c6] : Array Value).toList)
      have hoth := fun b (hb : b ≠ g) => setsAt_other (#[.int .i64 u.kind, .int .i64 u.n, .float .f64 u.f, .string (str u.s), .slice a6 u.l.length c6] : Array Value).toList w6 g (j * 5) b hb
      have hszz := setsAt_size (#[.int .i64 u.kind, .int .i64 u.n, .float .f64 u.f, .string (str u.s), .slice a6 u.l.length c6] : Array Value).toList w6 g (j * 5)
      generalize setsAt w6 g (j * 5) (#[.int .i64 u.kind, .int .i64 u.n, .float .f64 u.f, .string (str u.s), .slice a6 u.l.length c6] : Array Value).toList = w7 at *
      have hz6 : wr.heap.size ≤ w6.heap.size := Nat.le_trans HS.out.size hb6.size
      have hgl := Hr.out.lt
      have hz4 := HS.out.size
      have hzz := Hz.out
      have hdd := Hd.out.size
      go_wp2
      go_roundw
      case rel => exact ⟨j + 1, Hlt.out, by go_num, HV7.out, by omega, fun _ => ⟨g, _, rfl, Hg.out, HR7.out, fun q u' hq hu' => by
        by_cases e : q = j
        · subst e
          rw [Hlj.out] at hu'
          cases hu'
          show VInP _ _ _ (if q = q then _ else d q)
          rw [if_pos rfl]
          exact VInP.turn (fun b hb => ⟨⟨by omega, by omega⟩, by omega⟩) (fun p hp => World.cell?_of_block (hoth p.block (by omega))) _ _ Hv6.out
        · show VInP _ _ _ (if q = j then _ else d q)
          rw [if_neg e]
          exact VInP.turn (fun b hb => ⟨hb.1, by omega⟩) (fun p hp => World.cell?_of_block ((hoth p.block hp.1.2).trans ((hb6.block p.block (by omega)).trans (HS.out.block p.block hp.2)))) _ _ (Hdn.out q u' (by omega) hu'), fun q hq => by
        show (if q = j then _ else d q) = _
        rw [if_neg (by omega)]
        exact Hdo.out q (by omega)⟩⟩
      case measure => simp [intOf]; have := Hlt.out; omega
    · have hji : ¬ ((j : Int) < (l.length : Int)) := by omega
      have hb := fun i => cell_of_row wr w.heap.size i _ _ _ HV.out.box
      have b0 := hb 0
      have b1 := hb 1
      have b2 := hb 2
      have b3 := hb 3
      have b4 := hb 4
      simp at b0 b1 b2 b3 b4
      have hr := fun i => cell_of_row wr (w.heap.size + 1) i _ _ _ HV.out.res
      have r0 := hr 0
      have r1 := hr 1
      have r2 := hr 2
      have r3 := hr 3
      have r4 := hr 4
      simp at r0 r1 r2 r3 r4
      have hfz : ∀ i, wr.frozen? ⟨w.heap.size + 1, i, none⟩ = false := fun i => by simp [World.frozen?, HV.out.res]
      have q0 := hfz 0
      have q1 := hfz 1
      have q2 := hfz 2
      have q3 := hfz 3
      have q4 := hfz 4
      have HP := Lib.hid (show VInP (fun b => w1.heap.size ≤ b ∧ b < wr.heap.size) wr (V.mk k n f s l) (cells5 k n f s a' l.length c') from by
        rw [VInP]
        refine ⟨Hsc.out.1, Hsc.out.2.1, Hsc.out.2.2.1, Hsc.out.2.2.2.1, Hsc.out.2.2.2.2, a', c', rfl, Hcm.out.1, Hcm.out.2, ?_⟩
        by_cases hl : l = []
        · exact .inl hl
        · obtain ⟨g, d, e, hg, hr, hdn, _⟩ := HR.out (List.length_pos_iff.2 hl)
          have hgl := hr.lt
          refine .inr ⟨g, 0, e, ⟨hg, hgl⟩, VsInP.mk l 0 (fun i u hu => ?_)⟩
          have hi : i < l.length := (List.getElem?_eq_some_iff.1 hu).1
          exact ⟨d i, hr.size i hi, fun q hq => by rw [Nat.zero_add]; exact hr.cell i hi q hq, VInP.turn (fun b hb => ⟨hb.1.1, hb.2⟩) (fun _ _ => rfl) _ _ (hdn i u (by omega) hu)⟩)
      clear hb hr hfz hlt HR
      go_wp2
      have hw : (((((wr.setCell ⟨w.heap.size + 1, 0, none⟩ (.int .i64 k)).setCell ⟨w.heap.size + 1, 1, none⟩ (.int .i64 n)).setCell ⟨w.heap.size + 1, 2, none⟩ (.float .f64 f)).setCell ⟨w.heap.size + 1, 3, none⟩ (.string (str s))).setCell ⟨w.heap.size + 1, 4, none⟩ (.slice a' l.length c')) = setsAt wr (w.heap.size + 1) 0 (#[.int .i64 k, .int .i64 n, .float .f64 f, .string (str s), .slice a' l.length c'] : Array Value).toList := rfl
      have hset := set_headE5 HV.out.res (.int .i64 k) (.int .i64 n) (.float .f64 f) (.string (str s)) (.slice a' l.length c')
      have hoth := fun b (hb : b ≠ w.heap.size + 1) => setsAt_other (#[.int .i64 k, .int .i64 n, .float .f64 f, .string (str s), .slice a' l.length c'] : Array Value).toList wr (w.heap.size + 1) 0 b hb
      have hsz := setsAt_size (#[.int .i64 k, .int .i64 n, .float .f64 f, .string (str s), .slice a' l.length c'] : Array Value).toList wr (w.heap.size + 1) 0
      have hbw := setsAt_below (#[.int .i64 k, .int .i64 n, .float .f64 f, .string (str s), .slice a' l.length c'] : Array Value).toList w wr (w.heap.size + 1) 0 w.heap.size HV.out.below (by omega)
      rw [← hw] at hoth hsz hbw
      clear hw b0 b1 b2 b3 b4 r0 r1 r2 r3 r4 q0 q1 q2 q3 q4
      generalize World.setCell (World.setCell (World.setCell (World.setCell (World.setCell wr _ _) _ _) _ _) _ _) _ _ = wz at *
      have hr := fun i => cell_of_row wz (w.heap.size + 1) i _ _ _ hset
      have r0 := hr 0
      have r1 := hr 1
      have r2 := hr 2
      have r3 := hr 3
      have r4 := hr 4
      simp at r0 r1 r2 r3 r4
      have hs1 := Hs1.out
      refine bodyPost_ret (v := .agg #[.int .i64 k, .int .i64 n, .float .f64 f, .string (str s), .slice a' l.length c']) (by simp [results, Tryz.results82, go_sem, *]) rfl ⟨_, rfl, ?_, hbw⟩
      exact VInP.turn (fun b hb => ⟨by omega, by omega⟩) (fun p hp => World.cell?_of_block (hoth p.block (by omega))) _ _ HP.out
end Go.Proofs.YtcapbaocchaenaaGreatDoor

