import Derived.Test.YtpmjjefnmgbifaaGreatDoorMB17
import Derived.Test.YtpmjjefnmgbifaaGreatDoorMB14
import Derived.Deep.OwnRows
import Derived.Test.YtpmjjefnmgbifaaGreatDoorMB15
import Derived.RangeFuncBox
import Derived.Deep.AppendLies
import Derived.Deep.RegionLaw
import Derived.Test.YtpmjjefnmgbifaaGreatDoorMB4
import Derived.Test.YtpmjjefnmgbifaaGreatDoorMB1
/- The forms of contents. -/
namespace Go.Proofs.YtpmjjefnmgbifaaGreatDoor
open Go.RowKit Go.Shelf Fl

/-- The 8 bytes of a number, the highest first. -/
def be8 (x : Nat) : List Nat := (List.range 8).map fun p => x / 2 ^ (8 * (7 - p)) % 256

theorem be8_byte (x : Nat) : ∀ c ∈ be8 x, c < 256 := by
  intro c hc
  unfold be8 at hc
  obtain ⟨p, _, rfl⟩ := List.mem_map.1 hc
  exact Nat.mod_lt _ (by omega)

theorem nilForm_any (w : World) : Calls Tryz.prog 216 #[.agg #[]] w (NewBytes w []) := by
  go_enter Tryz.func216, Tryz.ntmps216
  go_wp2
  go_ret
  exact ⟨_, rfl, World.ownsRow_nil _ _ _ _, (Below.refl _ _).alloc (Nat.le_refl _) _⟩

theorem intForm_any (n : Int) (w : World) (h0 : -9223372036854775808 ≤ n) (h1 : n ≤ 9223372036854775807) :
    Calls Tryz.prog 218 #[.int .i64 n] w (NewBytes w (form (foldL n))) := by
  have H := Lib.hid (int_any n w h0 h1)
  clear h0 h1
  go_enter Tryz.func218, Tryz.ntmps218
  go_wp2_with fail
  refine H.out.mono ?_
  rintro e w' ⟨v, rfl, hv⟩
  have Hv := Lib.hid hv
  clear hv
  go_wp2
  go_ret
  exact ⟨_, rfl, Hv.out⟩

theorem textForm_any (s : List Nat) (w : World) (hs : ∀ c ∈ s, c < 256) (hn : s.length ≤ 1000000) :
    Calls Tryz.prog 228 #[.string (str s)] w (NewBytes w (formB s)) := by
  have H := Lib.hid (textF_any s w hs (by omega))
  clear hs hn
  go_enter Tryz.func228, Tryz.ntmps228
  go_wp2_with fail
  refine H.out.mono ?_
  rintro e w' ⟨v, rfl, hv⟩
  have Hv := Lib.hid hv
  clear hv
  go_wp2
  go_ret
  exact ⟨_, rfl, Hv.out⟩

theorem listForm_any (a : Option Addr) (len cap : Nat) (w : World) (hl : len < 18446744073709551616) :
    Calls Tryz.prog 230 #[.slice a len cap] w (NewBytes w (form len)) := by
  have H := Lib.hid (uint_any len w hl)
  go_enter Tryz.func230, Tryz.ntmps230
  go_wp2_with fail
  refine H.out.mono ?_
  rintro e w' ⟨v, rfl, hv⟩
  have Hv := Lib.hid hv
  clear hv
  go_wp2
  go_ret
  exact ⟨_, rfl, Hv.out⟩

/-- The row of bytes behind j rounds. -/
def bcell (x j p : Nat) : Value := if 8 ≤ p + j then .int .u8 ((x / 2 ^ (8 * (7 - p)) % 256 : Nat) : Int) else .int .u8 0

set_option maxRecDepth 100000 in
theorem floatForm_any (f : Nat) (w : World) (hf : f < 18446744073709551616) :
    Calls Tryz.prog 223 #[.float .f64 f] w (NewBytes w (be8 (bitsB f))) := by
  have HB := Lib.hid (fun w => bits_any f w hf)
  have hx := bitsB_lt hf
  clear hf
  generalize bitsB f = x at *
  have hmk : ∀ w : World, (Instr.makeSlice 31 (.int .i64 8) (.int .i64 8)).run Tryz.prog w = .ok (.slice (some ⟨w.heap.size, 0, none⟩) 8 8) (w.alloc (.cells (madeCells #[.int .u8 0] 8) 5)) := fun w =>
    run_make_row' (P := Tryz.prog) 31 5 (.int .u8 0) 1 Tryz.underlying31 info_u8 rfl .i64 .i64 8 (by omega) (by omega) w
  have H0 := Lib.hid ((World.rowIs_made w (.int .u8 0) 8 5).congr (g := bcell x 0) (fun i hi => by unfold bcell; rw [if_neg (by omega)]))
  have Hb0 := Lib.hid ((Below.refl w.heap.size w).alloc (Nat.le_refl _) (.cells (madeCells #[Value.int .u8 0] 8) 5))
  go_enter Tryz.func223, Tryz.ntmps223
  go_wp2_with fail
  refine (HB.out _).mono ?_
  rintro e w' ⟨rfl, rfl⟩
  go_wp2
  generalize w.alloc (.cells (madeCells #[.int .u8 0] 8) 5) = w1 at *
  go_loopw [11] (fun i wr => ∃ j : Nat, j ≤ 8 ∧ i = .int .i64 (j : Int) ∧ wr.rowIs w.heap.size 5 8 (bcell x j) ∧ Below w.heap.size w wr) (fun i _ => 8 - (intOf i).toNat)
  case atStart => exact ⟨0, by omega, rfl, H0.out, Hb0.out⟩
  case round =>
    obtain ⟨j, hj, rfl, hrow, hbel⟩ := hrel
    have Hrow := Lib.hid hrow
    have Hbel := Lib.hid hbel
    by_cases hlt : j < 8
    · have hcell := hrow.cell (show 7 - j < 8 by omega)
      have hfz := hrow.frozen (7 - j)
      have Hset := Lib.hid (fun (u : Value) (hu : u = .int .u8 ((x / 2 ^ (8 * j) % 256 : Nat) : Int)) => (hrow.set (7 - j) u).congr (g := bcell x (j + 1)) (fun k hk => by
        unfold bcell
        by_cases e : k = 7 - j
        · rw [if_pos e, if_pos (by omega), hu, show 7 - k = j by omega]
        · rw [if_neg e]
          by_cases h2 : 8 ≤ k + j
          · rw [if_pos h2, if_pos (by omega)]
          · rw [if_neg h2, if_neg (by omega)]))
      clear hrow hbel hj
      rcases (show j = 0 ∨ j = 1 ∨ j = 2 ∨ j = 3 ∨ j = 4 ∨ j = 5 ∨ j = 6 ∨ j = 7 by omega) with rfl | rfl | rfl | rfl | rfl | rfl | rfl | rfl
      · go_wp2
        case roundEnd => exact ⟨⟨1, by omega, rfl, Hset.out _ (by simp only [Nat.reduceMul, Nat.reducePow]; congr 1; omega), Hbel.out.setCell (Nat.le_refl _) _⟩, by simp [intOf]⟩
      · go_wp2
        case roundEnd => exact ⟨⟨2, by omega, rfl, Hset.out _ (by simp only [Nat.reduceMul, Nat.reducePow]; congr 1), Hbel.out.setCell (Nat.le_refl _) _⟩, by simp [intOf]⟩
      · go_wp2
        case roundEnd => exact ⟨⟨3, by omega, rfl, Hset.out _ (by simp only [Nat.reduceMul, Nat.reducePow]; congr 1), Hbel.out.setCell (Nat.le_refl _) _⟩, by simp [intOf]⟩
      · go_wp2
        case roundEnd => exact ⟨⟨4, by omega, rfl, Hset.out _ (by simp only [Nat.reduceMul, Nat.reducePow]; congr 1), Hbel.out.setCell (Nat.le_refl _) _⟩, by simp [intOf]⟩
      · go_wp2
        case roundEnd => exact ⟨⟨5, by omega, rfl, Hset.out _ (by simp only [Nat.reduceMul, Nat.reducePow]; congr 1), Hbel.out.setCell (Nat.le_refl _) _⟩, by simp [intOf]⟩
      · go_wp2
        case roundEnd => exact ⟨⟨6, by omega, rfl, Hset.out _ (by simp only [Nat.reduceMul, Nat.reducePow]; congr 1), Hbel.out.setCell (Nat.le_refl _) _⟩, by simp [intOf]⟩
      · go_wp2
        case roundEnd => exact ⟨⟨7, by omega, rfl, Hset.out _ (by simp only [Nat.reduceMul, Nat.reducePow]; congr 1), Hbel.out.setCell (Nat.le_refl _) _⟩, by simp [intOf]⟩
      · go_wp2
        case roundEnd => exact ⟨⟨8, by omega, rfl, Hset.out _ (by simp only [Nat.reduceMul, Nat.reducePow]; congr 1; omega), Hbel.out.setCell (Nat.le_refl _) _⟩, by simp [intOf]⟩
    · obtain rfl : j = 8 := by omega
      have Hown := Lib.hid (show wr.ownsRow w.heap.size 5 1 (.slice (some ⟨w.heap.size, 0, none⟩) 8 8) 8 (u8s (be8 x)) from by
        obtain ⟨c, hb, hn, hc⟩ := hrow
        refine ⟨by simp [u8s, be8], .inr ⟨w.heap.size, 8, c, rfl, Nat.le_refl _, hb, Nat.le_refl _, by rw [maxLen_nat]; omega, by rw [hn], ?_⟩⟩
        apply List.ext_getElem?
        intro k
        rw [List.getElem?_take]
        by_cases hk : k < 8
        · rw [if_pos (by omega), Array.getElem?_toList, hc k hk]
          unfold bcell u8s be8
          rw [if_pos (by omega), List.map_map, List.getElem?_map, List.getElem?_range hk]
          rfl
        · rw [if_neg (by omega), List.getElem?_eq_none (by simp [u8s, be8]; omega)])
      clear hrow hbel hj hlt
      go_wp2
      go_ret
      exact ⟨_, rfl, by rw [show (be8 x).length = 8 by simp [be8]]; exact Hown.out, Hbel.out⟩
end Go.Proofs.YtpmjjefnmgbifaaGreatDoor

/- How a content answers form; the bytes that one value adds to a form. -/
namespace Go.Proofs.YtpmjjefnmgbifaaGreatDoor
open Go.RowKit Go.Shelf Fl

theorem fmeth_nil (n : Nat) (w : World) : (method (n + 1) 168 (.agg #[]) "clockwork/value.form").run Tryz.prog w = .ok (216, .agg #[]) w := by kernel_rfl
theorem fmeth_int (n : Nat) (x : Int) (w : World) : (method (n + 1) 169 (.int .i64 x) "clockwork/value.form").run Tryz.prog w = .ok (218, .int .i64 x) w := by kernel_rfl
theorem fmeth_float (n : Nat) (x : Nat) (w : World) : (method (n + 1) 170 (.float .f64 x) "clockwork/value.form").run Tryz.prog w = .ok (223, .float .f64 x) w := by kernel_rfl
theorem fmeth_text (n : Nat) (x : ByteArray) (w : World) : (method (n + 1) 171 (.string x) "clockwork/value.form").run Tryz.prog w = .ok (228, .string x) w := by kernel_rfl
theorem fmeth_list (n : Nat) (a : Option Addr) (len cap : Nat) (w : World) : (method (n + 1) 172 (.slice a len cap) "clockwork/value.form").run Tryz.prog w = .ok (230, .slice a len cap) w := by kernel_rfl

def FormAt (con : Value) (bs : List Nat) : Prop :=
  ∃ (T : TypeId) (v : Value) (f : FuncId), con = .iface T v ∧ (∀ (n : Nat) (w : World), (method (n + 1) T v "clockwork/value.form").run Tryz.prog w = .ok (f, v) w) ∧ (∀ args w, (callFunc f args).run Tryz.prog w = .ok (.enter f args) w) ∧
    ∀ w, Calls Tryz.prog f #[v] w (NewBytes w bs)

/-- What the form of a value has behind the kind, but not the values in it. -/
def contF (k n : Int) (f : Nat) (s : List Nat) (len : Nat) : List Nat :=
  if k = 1 then form (foldL n) else if k = 2 then be8 (bitsB f) else if k = 3 then formB s else if k = 4 then form len else []

def pieceV (v : V) : List Nat := form v.kind.toNat ++ contF v.kind v.n v.f v.s v.l.length

theorem contF_byte {k n : Int} {f : Nat} {s : List Nat} {len : Nat} (hs : ∀ c ∈ s, c < 256) : ∀ c ∈ contF k n f s len, c < 256 := by
  unfold contF
  split
  · exact form_byte _
  split
  · exact be8_byte _
  split
  · exact formB_byte hs
  split
  · exact form_byte _
  · simp

theorem formAt_any {k n : Int} {f : Nat} {s : List Nat} (a : Option Addr) {len cap : Nat} (hk : 0 ≤ k ∧ k ≤ 4) (hn : -9223372036854775808 ≤ n ∧ n ≤ 9223372036854775807) (hf : f < 18446744073709551616) (hs : ∀ c ∈ s, c < 256) (hsn : s.length ≤ 1000000) (hl : len < 18446744073709551616) :
    FormAt (conOf k n f s a len cap) (contF k n f s len) := by
  unfold conOf contF
  by_cases h0 : k = 0
  · subst h0
    rw [if_pos rfl, if_neg (by decide), if_neg (by decide), if_neg (by decide), if_neg (by decide)]
    exact ⟨_, _, _, rfl, fun n w => fmeth_nil n w, enters_of Tryz.func216 (by kernel_rfl) rfl, fun w => nilForm_any w⟩
  rw [if_neg h0]
  by_cases h1 : k = 1
  · rw [if_pos h1, if_pos h1]
    exact ⟨_, _, _, rfl, fun n w => fmeth_int n _ w, enters_of Tryz.func218 (by kernel_rfl) rfl, fun w => intForm_any n w hn.1 hn.2⟩
  rw [if_neg h1, if_neg h1]
  by_cases h2 : k = 2
  · rw [if_pos h2, if_pos h2]
    exact ⟨_, _, _, rfl, fun n w => fmeth_float n _ w, enters_of Tryz.func223 (by kernel_rfl) rfl, fun w => floatForm_any f w hf⟩
  rw [if_neg h2, if_neg h2]
  by_cases h3 : k = 3
  · rw [if_pos h3, if_pos h3]
    exact ⟨_, _, _, rfl, fun n w => fmeth_text n _ w, enters_of Tryz.func228 (by kernel_rfl) rfl, fun w => textForm_any s w hs hsn⟩
  have h4 : k = 4 := by omega
  rw [if_neg h3, if_neg h3, if_pos h4, if_pos h4]
  exact ⟨_, _, _, rfl, fun n w => fmeth_list n _ _ _ w, enters_of Tryz.func230 (by kernel_rfl) rfl, fun w => listForm_any a len cap w hl⟩

/-- The form so far, in its box. -/
def FormJ (B bs : Nat) (acc : List V) (w : World) : Prop := ∃ v, Boxed w bs 31 v ∧ w.ownsRow B 5 1 v (acc.flatMap pieceV).length (u8s (acc.flatMap pieceV))

/-- 'b = append(b, p...)' of bytes as one step of a region that draws. -/
theorem step_append_bytes {ops : Array Oper} {o : Oper} {a : Act} {w : World} {K : Act → World → Prop} {Q : Exit → Act → World → Prop} {E : Prop} (hgd : o.guard = none) (s x : Operand)
    (ho : o.op = .call { callee := .builtin .append, args := #[s, x], argTypes := #[31, 31] })
    (base : Nat) (v : Value) (l : List Nat) (hs : a.eval s = v) (hown : w.ownsRow base 5 1 v l.length (u8s l))
    (p : Option Addr) (m c : Nat) (l' : List Nat) (hx : a.eval x = .slice p m c) (hB : Bytes w p m c l')
    (hbytes : l.length + m ≤ 140737488355328) (hbase : base ≤ w.heap.size) (hpos : 0 < l.length + m)
    (h : ∀ g cap w', w'.ownsRow base 5 1 (.slice (some ⟨g, 0, none⟩) (l ++ l').length cap) (l ++ l').length (u8s (l ++ l')) → w.grownBy w' v.ownBlock → (v.ownBlock = some g ∨ w.heap.size ≤ g) → K (a.put o.dst (.slice (some ⟨g, 0, none⟩) (l ++ l').length cap)) w') :
    if Region.wanted o (yielded ops a.tmps) = true then Oper.wp Tryz.prog o a w K Q else E := by
  obtain ⟨i, hi, hz, hsz, hby⟩ := info_parts info_u8
  have hw : Region.wanted o (yielded ops a.tmps) = true := by simp [Region.wanted, hgd]
  rw [if_pos hw]
  have hlen : (l ++ l').length = l.length + m := by rw [List.length_append, hB.len]
  cases p with
  | none =>
    obtain rfl : c = 0 := hB.nil rfl
    obtain rfl : m = 0 := by have := hB.le; omega
    obtain rfl : l' = [] := List.length_eq_zero_iff.1 hB.len
    have hrun := run_append_owned_none (P := Tryz.prog) (w := w) base 31 o.type 5 i 1 Tryz.underlying31 hi v l.length (u8s l) hown
    obtain ⟨g, cap, rfl, hg1, hg2⟩ := hown.form (by omega)
    unfold Oper.wp
    have hh := h g cap w (by simpa using hown) ⟨rfl, rfl, rfl, Nat.le_refl _, fun _ _ _ => rfl⟩ (.inl rfl)
    simp [execOp, ho, resolve, invoke, builtin, hs, hx, hrun, Result.andThen]
    rw [Oper.upon_value]
    simpa using hh
  | some ad =>
    obtain ⟨v', w', hr, h2, h3, _, h5⟩ := run_append_own_at (P := Tryz.prog) w base 31 o.type 5 i (.int .u8 0) 1 1 Tryz.underlying31 hi hz hsz hby rfl (by omega) v l.length (u8s l) hown ad m c (u8s l') (by simp [u8s, hB.len]) (fun j u hu => by
      obtain ⟨hj, rfl⟩ := u8s_get hu
      have hj' : j < m := by rw [← hB.len]; exact hj
      obtain ⟨b, o', e1, hc⟩ := hB.cell (by omega)
      cases e1
      have hadd : (⟨b, o', none⟩ : Addr).add j = ⟨b, o' + j, none⟩ := by unfold Addr.add; split <;> simp_all
      rw [hadd]
      exact hc j hj') (u8s_one l') (by rw [maxLen_nat]; omega) (by omega) hbase
    rw [← u8s_append, ← hlen] at h2
    obtain ⟨g, cap, rfl, hg1, hg2⟩ := h2.form (by omega)
    unfold Oper.wp execOp
    simp only [ho, resolve, invoke, builtin, Sem.run_bind, Sem.run_pure, Result.andThen_ok, List.map_toArray, List.map_cons, List.map_nil, hs, hx, hr]
    refine h g cap w' h2 h3 ?_
    rcases h5 with h5 | h5
    · exact .inl h5.symm
    · have : g = w.heap.size := by simpa [Value.ownBlock] using h5
      exact .inr (by omega)

theorem neB : 31 ≠ 5 := by decide

/-- The box and the row behind 'form = append(form, ..)'. -/
theorem form_step {B bs g cap n : Nat} {L N : List Nat} {w1 w2 w3 : World} {u : Value} (hbs : B ≤ bs) (hB : B ≤ w1.heap.size) (hb : Boxed w1 bs 31 u) (hrow : w1.ownsRow B 5 1 u L.length (u8s L)) (hbel : Below w1.heap.size w1 w2) (hn : N.length = n)
    (h1 : w3.ownsRow B 5 1 (.slice (some ⟨g, 0, none⟩) N.length cap) N.length (u8s N)) (h2 : w2.grownBy w3 u.ownBlock) (h3 : u.ownBlock = some g ∨ w2.heap.size ≤ g) :
    (w3.cell? ⟨bs, 0, none⟩ = some u ∧ w3.frozen? ⟨bs, 0, none⟩ = false) ∧
    Boxed (w3.setCell ⟨bs, 0, none⟩ (.slice (some ⟨g, 0, none⟩) n cap)) bs 31 (.slice (some ⟨g, 0, none⟩) n cap) ∧
    (w3.setCell ⟨bs, 0, none⟩ (.slice (some ⟨g, 0, none⟩) n cap)).ownsRow B 5 1 (.slice (some ⟨g, 0, none⟩) n cap) n (u8s N) ∧
    Below B w1 (w3.setCell ⟨bs, 0, none⟩ (.slice (some ⟨g, 0, none⟩) n cap)) ∧
    (∀ b, b < w1.heap.size → b ≠ bs → u.ownBlock ≠ some b → (w3.setCell ⟨bs, 0, none⟩ (.slice (some ⟨g, 0, none⟩) n cap)).heap[b]? = w1.heap[b]?) ∧ (u.ownBlock = some g ∨ w1.heap.size ≤ g) := by
  subst hn
  have hlt := hb.lt
  have hne : some bs ≠ u.ownBlock := hb.not_row neB hrow
  have hb2 : Boxed w2 bs 31 u := (hbel.block bs hlt).trans hb
  have hb3 : Boxed w3 bs 31 u := hb2.kept h2 hne
  have hrowb : ∀ k, u.ownBlock = some k → B ≤ k := fun k hk => (hrow.lt k hk).1
  have hgne : bs ≠ g := by
    have := hb3.not_row neB h1
    intro e
    exact this (by rw [e]; rfl)
  refine ⟨⟨hb3.cell, hb3.frozen⟩, hb3.set _, ?_, ?_, fun b hbl hbn hbu => ?_, ?_⟩
  · refine ⟨h1.1, ?_⟩
    rcases h1.2 with hn | ⟨g', cap', cur, e, hbg, hg, rest⟩
    · exact .inl hn
    · have e2 : g = g' := by
        have := congrArg Value.ownBlock e
        simpa [Value.ownBlock] using this
      exact .inr ⟨g', cap', cur, e, hbg, (Below.heap_setCell _ _ _ _ (by rw [← e2]; exact fun h => hgne h.symm)).trans hg, rest⟩
  · exact ((hbel.mono hB).grown h2 (by have := hbel.size; omega) hrowb).setCell hbs _
  · rw [Below.heap_setCell _ _ _ _ hbn, h2.block b (by have := hbel.size; omega) (fun e => hbu e.symm), hbel.block b hbl]
  · exact h3.imp id (fun h => by have := hbel.size; omega)

theorem keep5b {w w' : World} {p : Nat} {a b c d e : Value} (hb : w'.heap[p]? = w.heap[p]?)
    (h : w.cell? ⟨p, 0, none⟩ = some a ∧ w.cell? ⟨p, 1, none⟩ = some b ∧ w.cell? ⟨p, 2, none⟩ = some c ∧ w.cell? ⟨p, 3, none⟩ = some d ∧ w.cell? ⟨p, 4, none⟩ = some e) :
    w'.cell? ⟨p, 0, none⟩ = some a ∧ w'.cell? ⟨p, 1, none⟩ = some b ∧ w'.cell? ⟨p, 2, none⟩ = some c ∧ w'.cell? ⟨p, 3, none⟩ = some d ∧ w'.cell? ⟨p, 4, none⟩ = some e := by
  unfold World.cell? at *
  rw [hb]
  exact h

theorem visit_done {B bs g n4 cap3 n8 : Nat} {w w1 w4 w8 : World} {u v8 : Value} {N N' : List Nat} (hbw : Boxed w bs 31 u) (hB : B ≤ w.heap.size) (hal : Below w.heap.size w w1)
    (s4 : Below B w1 w4) (o4 : ∀ b, b < w1.heap.size → b ≠ bs → u.ownBlock ≠ some b → w4.heap[b]? = w1.heap[b]?) (q4 : u.ownBlock = some g ∨ w1.heap.size ≤ g)
    (b8 : Boxed w8 bs 31 v8) (r8 : w8.ownsRow B 5 1 v8 n8 (u8s N)) (s8 : Below B w4 w8) (o8 : ∀ b, b < w4.heap.size → b ≠ bs → (Value.slice (some ⟨g, 0, none⟩) n4 cap3).ownBlock ≠ some b → w8.heap[b]? = w4.heap[b]?) (hN : N = N') :
    (∃ u, Boxed w8 bs 31 u ∧ w8.ownsRow B 5 1 u N'.length (u8s N')) ∧ Below B w w8 ∧ ∀ b, b < w.heap.size → b ≠ bs → (∀ u, Boxed w bs 31 u → u.ownBlock ≠ some b) → w8.heap[b]? = w.heap[b]? := by
  subst hN
  have hn : n8 = N.length := by have := r8.1; simp [u8s] at this; omega
  subst hn
  refine ⟨⟨v8, b8, r8⟩, (hal.mono hB).trans (s4.trans s8), fun b hb hne hno => ?_⟩
  have h1 := hno u hbw
  have hs1 := hal.size
  have hs4 := s4.size
  rw [o8 b (by omega) hne, o4 b (by omega) hne h1, hal.block b hb]
  intro e
  have e2 : g = b := by simpa [Value.ownBlock] using e
  rcases q4 with h | h
  · exact h1 (by rw [h, e2])
  · omega

set_option maxRecDepth 100000 in
set_option maxHeartbeats 3200000 in
theorem visit_bytes (B bs : Nat) (hbs : B ≤ bs) (acc : List V) (v : V) (x : Array Value) (d : Nat) (w : World) (hJ : FormJ B bs acc w) (hB : B ≤ w.heap.size) (hv : VIn w v x) (hk : 0 ≤ v.kind ∧ v.kind ≤ 4) (hsn : v.s.length ≤ 1000000) (hln : v.l.length < 18446744073709551616)
    (hlen : ((acc ++ [v]).flatMap pieceV).length ≤ 10000000) :
    Calls Tryz.prog 144 #[.agg x, .int .i64 (d : Int), .pointer (some ⟨bs, 0, none⟩)] w fun e w' => e = .returned (.bool true) ∧ FormJ B bs (acc ++ [v]) w' ∧ Below B w w' ∧
      ∀ b, b < w.heap.size → b ≠ bs → (∀ u, Boxed w bs 31 u → u.ownBlock ≠ some b) → w'.heap[b]? = w.heap[b]? := by
  obtain ⟨u, hb, hrow⟩ := hJ
  obtain ⟨_, hn, hf, hs, _, a, cap, rfl, _⟩ := hv.parts
  obtain ⟨kk, hkk⟩ : ∃ kk : Nat, v.kind = (kk : Int) := ⟨v.kind.toNat, by omega⟩
  have hk4 : (kk : Int) ≤ 4 := by omega
  have hwrap : IntKind.u64.wrap (kk : Int) = (kk : Int) := by
    rcases (show kk = 0 ∨ kk = 1 ∨ kk = 2 ∨ kk = 3 ∨ kk = 4 by omega) with rfl | rfl | rfl | rfl | rfl <;> decide
  have Hfa := Lib.hid (formAt_any a (cap := cap) hk hn hf hs hsn hln)
  have HC := Lib.hid (fun w => contentOf_any v.kind v.n v.f v.s a v.l.length cap w)
  have hpiece : pieceV v = form kk ++ contF v.kind v.n v.f v.s v.l.length := by unfold pieceV; rw [hkk]; rfl
  have Hc8 := Lib.hid (contF_byte (k := v.kind) (n := v.n) (f := v.f) (len := v.l.length) hs)
  rw [List.flatMap_append] at hlen
  have Hflat := Lib.hid (show (acc ++ [v]).flatMap pieceV = acc.flatMap pieceV ++ (form kk ++ contF v.kind v.n v.f v.s v.l.length) from by rw [List.flatMap_append, ← hpiece]; simp)
  have Hlen := Lib.hid (show (acc.flatMap pieceV).length + (form kk).length + (contF v.kind v.n v.f v.s v.l.length).length ≤ 10000000 from by
    have h : ([v].flatMap pieceV).length = (form kk).length + (contF v.kind v.n v.f v.s v.l.length).length := by simp [hpiece]
    rw [List.length_append, h] at hlen
    omega)
  have HJ2 : FormJ B bs (acc ++ [v]) = fun w' => ∃ u, Boxed w' bs 31 u ∧ w'.ownsRow B 5 1 u ((acc.flatMap pieceV) ++ (form kk ++ contF v.kind v.n v.f v.s v.l.length)).length (u8s ((acc.flatMap pieceV) ++ (form kk ++ contF v.kind v.n v.f v.s v.l.length))) := by
    funext w'
    unfold FormJ
    rw [Hflat.out]
  rw [HJ2]
  clear HJ2
  generalize acc.flatMap pieceV = L at *
  generalize contF v.kind v.n v.f v.s v.l.length = M at *
  have Hbs2 := Lib.hid hb.lt
  have Hu2 := Lib.hid (fun k hk => (hrow.lt k hk).2)
  have Hbw := Lib.hid hb
  have hb1 := hb.alloc (.cells (cells5 v.kind v.n v.f v.s a v.l.length cap) 26)
  have C0 := Lib.hid (new5 w (.int .i64 v.kind) (.int .i64 v.n) (.float .f64 v.f) (.string (str v.s)) (.slice a v.l.length cap) 26)
  have hal := (Below.refl w.heap.size w).alloc (Nat.le_refl _) (.cells (cells5 v.kind v.n v.f v.s a v.l.length cap) 26)
  have hrow1 := own_below hrow hal
  have Hal := Lib.hid hal
  obtain ⟨T, pv, fm, hci, hm, hen, hcall⟩ := Hfa.out
  rw [hci] at HC
  have HM := Lib.hid hm
  have HK := Lib.hid hcall
  clear hci hm hcall Hfa
  rw [hkk] at *
  clear hv hlen hpiece hrow hb hal hn hf hs hsn hln
  unfold cells5 at *
  go_enter Tryz.func144, Tryz.ntmps144
  go_wp2_with fail
  have hW1 : (w.alloc (.cells #[.int .i64 (kk : Int), .int .i64 v.n, .float .f64 v.f, .string (str v.s), .slice a v.l.length cap] 26)).heap.size = w.heap.size + 1 := by simp
  generalize w.alloc (.cells #[.int .i64 (kk : Int), .int .i64 v.n, .float .f64 v.f, .string (str v.s), .slice a v.l.length cap] 26) = w1 at *
  have HU := Lib.hid (uint_any kk w1.drew (by omega))
  obtain ⟨z0, z1, z2, z3, z4⟩ := C0.out
  have hc := hb1.cell
  have hfz := hb1.frozen
  have Hb1 := Lib.hid hb1
  have Hrow1 := Lib.hid hrow1
  clear hb1 hrow1
  go_region_law
    (first
      | (refine step_append_bytes rfl (.tmp 6) (.tmp 10) rfl B u L (by simp [Act.eval]) Hrow2.out p2 (form kk).length cp2 (form kk) (by simp [Act.eval]) HB2.out (by have := Hlen.out; omega) (by have := Hbe2.out.size; omega) (by have := form_pos kk; omega) ?_
         intro g cap3 w3 g1 g2 g3
         have hst := form_step (n := L.length + (form kk).length) hbs (by omega) Hb1.out Hrow1.out Hbe2.out (List.length_append) g1 g2 g3
         have Hst := Lib.hid hst
         obtain ⟨⟨k0, k1⟩, _⟩ := hst
         clear g1 g2 g3)
      | (go_simp; go_at_call 39; (with_reducible refine HU.out.mono ?_); rintro e w2 ⟨v2, rfl, hv2, hbe2⟩
         obtain ⟨p2, cp2, rfl, hB2⟩ := own_slice hv2 (form_byte kk)
         have HB2 := Lib.hid hB2
         have Hbe2 := Lib.hid (show Below w1.heap.size w1 w2 from ((Below.refl _ _).drew).trans hbe2)
         have Hrow2 := Lib.hid (own_below Hrow1.out Hbe2.out)
         have hc2 := cell_below Hbe2.out hc
         have z02 := cell_below Hbe2.out z0
         clear hv2 hbe2 hB2))
  all_goals obtain ⟨_, b4, r4, s4, o4, q4⟩ := Hst.out
  all_goals clear Hst k0 k1 hc hfz z0 z1 z2 z3 z4 z02 hc2
  all_goals generalize w3.setCell ⟨bs, 0, none⟩ (.slice (some ⟨g, 0, none⟩) (L.length + (form kk).length) cap3) = w4 at *
  all_goals have hxb : w4.heap[w.heap.size]? = w1.heap[w.heap.size]? := o4 _ (by omega) (by have := Hbs2.out; omega) (fun e => absurd (Hu2.out _ e) (Nat.lt_irrefl _))
  all_goals obtain ⟨y0, y1, y2, y3, y4⟩ := keep5b hxb C0.out
  all_goals have hc4 := b4.cell
  all_goals have HB4 := Lib.hid b4
  all_goals have R4 := Lib.hid r4
  all_goals have S4 := Lib.hid s4
  all_goals have O4 := Lib.hid o4
  all_goals have Q4 := Lib.hid q4
  all_goals clear b4 r4 s4 o4 q4 hxb
  all_goals go_wp2_with fail
  all_goals go_region_law
    (first
      | (refine step_append_bytes rfl (.tmp 12) (.tmp 15) rfl B (.slice (some ⟨g, 0, none⟩) (L.length + (form kk).length) cap3) (L ++ form kk) (by simp [Act.eval]) (by rw [List.length_append]; exact Hrow6.out) p6 M.length cp6 M (by simp [Act.eval]) HB6.out (by have := Hlen.out; rw [List.length_append]; omega) (by have := Hbe6.out.size; have := S4.out.size; omega) (by have := form_pos kk; rw [List.length_append]; omega) ?_
         intro g7 cap7 w7 g1 g2 g3
         have hst := form_step (n := L.length + ((form kk).length + M.length)) hbs (by have := S4.out.size; omega) HB4.out (by rw [List.length_append]; exact R4.out) Hbe6.out (by simp) g1 g2 g3
         have Hst := Lib.hid hst
         obtain ⟨⟨k0, k1⟩, _⟩ := hst
         clear g1 g2 g3)
      | (go_simp; go_at_call 139; (with_reducible refine (HC.out _).mono ?_); rintro e w5 ⟨rfl, hbe5⟩
         have Hbe5 := Lib.hid (show Below w4.heap.size w4 w5 from ((Below.refl _ _).drew).trans hbe5)
         have hc5 := cell_below Hbe5.out hc4
         clear hbe5)
      | (go_simp; rw [HM.out]; go_simp; (with_reducible refine (HK.out _).mono ?_); rintro e w6 ⟨v6, rfl, hv6, hbe6⟩
         obtain ⟨p6, cp6, rfl, hB6⟩ := own_slice hv6 Hc8.out
         have HB6 := Lib.hid hB6
         have Hbe6 := Lib.hid (show Below w4.heap.size w4 w6 from Hbe5.out.trans (hbe6.mono Hbe5.out.size))
         have Hrow6 := Lib.hid (own_below R4.out Hbe6.out)
         have hc6 := cell_below Hbe6.out hc4
         clear hv6 hbe6 hB6))
  all_goals obtain ⟨_, b8, r8, s8, o8, _⟩ := Hst.out
  all_goals have HD := Lib.hid (visit_done Hbw.out (by omega) Hal.out S4.out O4.out Q4.out b8 r8 s8 o8 (List.append_assoc L (form kk) M))
  all_goals clear Hst k0 k1 b8 r8 s8 o8 hc4 y0 y1 y2 y3 y4
  all_goals go_wp2
  all_goals go_ret
  all_goals exact ⟨rfl, HD.out⟩
end Go.Proofs.YtpmjjefnmgbifaaGreatDoor

/- The walk of the reference's Text: it returns the plain text. -/
namespace Go.Proofs.YtpmjjefnmgbifaaGreatDoor
open Go.RowKit Fl

def hexD (d : Nat) : Nat := if d < 10 then 48 + d else 87 + d
/-- The first j of the 16 digits. -/
def hexs (x : Nat) : Nat → List Nat
  | 0 => []
  | j + 1 => hexs x j ++ [hexD (x / 2 ^ (4 * (15 - j)) % 16)]

def textL (x : Nat) : List Nat :=
  if x = Q then [110, 97, 110] else if x = I then [105, 110, 102] else if x = W + I then [45, 105, 110, 102] else if x = 0 then [48] else if x = W then [45, 48] else 120 :: hexs x 16

theorem and15 {y : Nat} (h : y < 18446744073709551616) : bits .and .u64 (y : Int) 15 = ((y % 16 : Nat) : Int) := by
  have h1 := u64_and_nat y 15 h (by omega)
  have h2 := Nat.and_two_pow_sub_one_eq_mod y 4
  rw [show (2 : Nat) ^ 4 - 1 = 15 by decide, show (2 : Nat) ^ 4 = 16 by decide] at h2
  rw [h2] at h1
  exact h1

theorem digit_int (x u : Nat) : (x : Int) / 2 ^ (4 * u) = ((x / 2 ^ (4 * u) : Nat) : Int) := by
  rw [Int.natCast_ediv, Int.natCast_pow]
  rfl

theorem hexs_len (x j : Nat) : (hexs x j).length = j := by
  induction j with
  | zero => rfl
  | succ j ih => rw [hexs, List.length_append, ih]; rfl

theorem digit_all : ∀ d : Fin 16, (ByteArray.mk #[48, 49, 50, 51, 52, 53, 54, 55, 56, 57, 97, 98, 99, 100, 101, 102]).extract d.val (d.val + 1) = str [hexD d.val] := by decide +kernel

theorem digit_cat {d : Nat} (h : d < 16) (L : List Nat) : str L ++ (ByteArray.mk #[48, 49, 50, 51, 52, 53, 54, 55, 56, 57, 97, 98, 99, 100, 101, 102]).extract d (d + 1) = str (L ++ [hexD d]) := by
  rw [digit_all ⟨d, h⟩, str_append]

def TextRel (x : Nat) (s i : Value) : Prop := ∃ t : Nat, t ≤ 16 ∧ i = .int .i64 ((t : Int) - 1) ∧ s = .string (str (120 :: hexs x (16 - t)))

set_option maxRecDepth 100000 in
set_option maxHeartbeats 800000 in
theorem rtext_any (b : Nat) (w : World) (hb : b < 18446744073709551616) :
    Calls Tryz.prog 151 #[.float .f64 b] w fun e w' => e = .returned (.string (str (textL (bitsB b)))) ∧ w = w' := by
  have H1 := Lib.hid (rbits_any b w hb)
  have hlt := bitsB_lt hb
  clear hb
  generalize bitsB b = x at *
  by_cases c1 : x = Q
  · have Hf := Lib.hid (show textL x = [110, 97, 110] from if_pos c1)
    have d1 : ((x : Int) == 9221120237041090561) = true := beq_iff_eq.2 (by rw [c1]; rfl)
    rw [Hf.out]
    clear c1 hlt
    go_enter Tryz.func151, Tryz.ntmps151
    go_wp2_with fail
    refine H1.out.mono ?_
    rintro e w' ⟨rfl, rfl⟩
    go_wp2
    go_ret
    exact ⟨rfl, rfl⟩
  have d1 : ((x : Int) == 9221120237041090561) = false := beq_eq_false_iff_ne.2 (by unfold Q at c1; omega)
  by_cases c2 : x = I
  · have Hf := Lib.hid (show textL x = [105, 110, 102] by unfold textL; rw [if_neg c1, if_pos c2])
    have d2 : ((x : Int) == 9218868437227405312) = true := beq_iff_eq.2 (by rw [c2]; rfl)
    rw [Hf.out]
    clear c1 c2 hlt
    go_enter Tryz.func151, Tryz.ntmps151
    go_wp2_with fail
    refine H1.out.mono ?_
    rintro e w' ⟨rfl, rfl⟩
    go_wp2
    go_ret
    exact ⟨rfl, rfl⟩
  have d2 : ((x : Int) == 9218868437227405312) = false := beq_eq_false_iff_ne.2 (by unfold I at c2; omega)
  by_cases c3 : x = W + I
  · have Hf := Lib.hid (show textL x = [45, 105, 110, 102] by unfold textL; rw [if_neg c1, if_neg c2, if_pos c3])
    have d3 : ((x : Int) == 18442240474082181120) = true := beq_iff_eq.2 (by rw [c3]; rfl)
    rw [Hf.out]
    clear c1 c2 c3 hlt
    go_enter Tryz.func151, Tryz.ntmps151
    go_wp2_with fail
    refine H1.out.mono ?_
    rintro e w' ⟨rfl, rfl⟩
    go_wp2
    go_ret
    exact ⟨rfl, rfl⟩
  have d3 : ((x : Int) == 18442240474082181120) = false := beq_eq_false_iff_ne.2 (by unfold I W at c3; omega)
  by_cases c4 : x = 0
  · have Hf := Lib.hid (show textL x = [48] by unfold textL; rw [if_neg c1, if_neg c2, if_neg c3, if_pos c4])
    have d4 : ((x : Int) == 0) = true := beq_iff_eq.2 (by omega)
    rw [Hf.out]
    clear c1 c2 c3 c4 hlt
    go_enter Tryz.func151, Tryz.ntmps151
    go_wp2_with fail
    refine H1.out.mono ?_
    rintro e w' ⟨rfl, rfl⟩
    go_wp2
    go_ret
    exact ⟨rfl, rfl⟩
  have d4 : ((x : Int) == 0) = false := beq_eq_false_iff_ne.2 (by omega)
  by_cases c5 : x = W
  · have Hf := Lib.hid (show textL x = [45, 48] by unfold textL; rw [if_neg c1, if_neg c2, if_neg c3, if_neg c4, if_pos c5])
    have d5 : ((x : Int) == 9223372036854775808) = true := beq_iff_eq.2 (by rw [c5]; rfl)
    rw [Hf.out]
    clear c1 c2 c3 c4 c5 hlt
    go_enter Tryz.func151, Tryz.ntmps151
    go_wp2_with fail
    refine H1.out.mono ?_
    rintro e w' ⟨rfl, rfl⟩
    go_wp2
    go_ret
    exact ⟨rfl, rfl⟩
  have d5 : ((x : Int) == 9223372036854775808) = false := beq_eq_false_iff_ne.2 (by unfold W at c5; omega)
  have Hf := Lib.hid (show textL x = 120 :: hexs x 16 by unfold textL; rw [if_neg c1, if_neg c2, if_neg c3, if_neg c4, if_neg c5])
  rw [Hf.out]
  clear c1 c2 c3 c4 c5
  go_enter Tryz.func151, Tryz.ntmps151
  go_wp2_with fail
  refine H1.out.mono ?_
  rintro e w' ⟨rfl, rfl⟩
  go_wp2
  go_loop [4, 5] (fun s i => TextRel x s i) (fun _ i => (intOf i + 1).toNat)
  case atStart => exact ⟨16, Nat.le_refl _, rfl, rfl⟩
  case round =>
    obtain ⟨t, ht, rfl, rfl⟩ := hrel
    by_cases h0 : t = 0
    · subst h0
      go_wp2
      go_ret
      exact ⟨rfl, rfl⟩
    · obtain ⟨u, rfl⟩ : ∃ u, t = u + 1 := ⟨t - 1, by omega⟩
      rw [show (((u + 1 : Nat) : Int) - 1) = (u : Int) by omega]
      have hu : u ≤ 15 := by omega
      have hy : x / 2 ^ (4 * u) < 18446744073709551616 := Nat.lt_of_le_of_lt (Nat.div_le_self _ _) hlt
      have ha := and15 hy
      rw [← digit_int] at ha
      have hd : x / 2 ^ (4 * u) % 16 < 16 := Nat.mod_lt _ (by omega)
      generalize hdd : x / 2 ^ (4 * u) % 16 = d at ha hd
      have Hd := Lib.hid hdd
      clear hdd hy h0 ht
      generalize hL : (120 :: hexs x (16 - (u + 1))) = L
      have HL := Lib.hid hL
      have hsz : (str L).size ≤ 16 := by rw [str_size, ← hL, List.length_cons, hexs_len]; omega
      clear hL
      have hcat := digit_cat hd L
      go_wp2
      go_round
      case rel =>
        refine ⟨u, by omega, rfl, ?_⟩
        have e : 16 - u = (16 - (u + 1)) + 1 := by omega
        have e2 : 15 - (16 - (u + 1)) = u := by omega
        rw [e, hexs, e2, Hd.out, ← List.cons_append, HL.out]
      case measure => simp [intOf]
end Go.Proofs.YtpmjjefnmgbifaaGreatDoor

/- Decimal forms: the walks of the reference's digits and Decimal. -/
namespace Go.Proofs.YtpmjjefnmgbifaaGreatDoor
open Go.RowKit

/-- The decimal digits of a number. -/
def decD (n : Nat) : List Nat := if h : n < 10 then [48 + n] else decD (n / 10) ++ [48 + n % 10]
  termination_by n
  decreasing_by omega

theorem decD_low {n : Nat} (h : n < 10) : decD n = [48 + n] := by rw [decD, dif_pos h]
theorem decD_high {n : Nat} (h : ¬ n < 10) : decD n = decD (n / 10) ++ [48 + n % 10] := by rw [decD, dif_neg h]

theorem decD_len : ∀ (k n : Nat), n < 10 ^ (k + 1) → (decD n).length ≤ k + 1
  | 0, n, h => by rw [decD_low (by simpa using h)]; simp
  | k + 1, n, h => by
    by_cases h1 : n < 10
    · rw [decD_low h1]; simp
    · rw [decD_high h1, List.length_append]
      have h2 : n / 10 < 10 ^ (k + 1) := by
        rw [Nat.div_lt_iff_lt_mul (by omega), ← Nat.pow_succ]
        exact h
      have h3 := decD_len k (n / 10) h2
      simp only [List.length_cons, List.length_nil]
      omega

theorem decD_len20 {n : Nat} (h : n < 18446744073709551616) : (decD n).length ≤ 20 := decD_len 19 n (by omega)

theorem decD_byte : ∀ (k n : Nat), n < 10 ^ (k + 1) → ∀ c ∈ decD n, 48 ≤ c ∧ c ≤ 57
  | 0, n, h, c, hc => by
    have h10 : n < 10 := by simpa using h
    rw [decD_low h10] at hc
    have : c = 48 + n := by simpa using hc
    omega
  | k + 1, n, h, c, hc => by
    by_cases h1 : n < 10
    · rw [decD_low h1] at hc
      have : c = 48 + n := by simpa using hc
      omega
    · rw [decD_high h1, List.mem_append] at hc
      have h2 : n / 10 < 10 ^ (k + 1) := by
        rw [Nat.div_lt_iff_lt_mul (by omega), ← Nat.pow_succ]
        exact h
      rcases hc with hc | hc
      · exact decD_byte k (n / 10) h2 c hc
      · have : c = 48 + n % 10 := by simpa using hc
        omega

theorem ten_all : ∀ d : Fin 10, (ByteArray.mk #[48, 49, 50, 51, 52, 53, 54, 55, 56, 57]).extract d.val (d.val + 1) = str [48 + d.val] := by decide +kernel
theorem ten_at {d : Nat} (h : d < 10) : (ByteArray.mk #[48, 49, 50, 51, 52, 53, 54, 55, 56, 57]).extract d (d + 1) = str [48 + d] := ten_all ⟨d, h⟩

def DecRel (N : Nat) (x s : Value) : Prop := ∃ (n : Nat) (t : List Nat), x = .int .u64 (n : Int) ∧ s = .string (str ((48 + n % 10) :: t)) ∧ n ≤ N ∧ decD n ++ t = decD N

set_option maxRecDepth 100000 in
set_option maxHeartbeats 800000 in
theorem rdigits_any (N : Nat) (w : World) (hN : N < 18446744073709551616) :
    Calls Tryz.prog 118 #[.int .u64 (N : Int)] w fun e w' => e = .returned (.string (str (decD N))) ∧ w = w' := by
  have hd : N % 10 < 10 := Nat.mod_lt _ (by omega)
  have hex := ten_at hd
  have hmod : (N : Int) % 10 = ((N % 10 : Nat) : Int) := by omega
  have Hst := Lib.hid (show DecRel N (.int .u64 (N : Int)) (.string (str [48 + N % 10])) from ⟨N, [], rfl, rfl, Nat.le_refl _, by simp⟩)
  generalize hdd : N % 10 = d at *
  clear hdd
  go_enter Tryz.func118, Tryz.ntmps118
  go_wp2
  clear hex hmod hd
  go_loop [0, 3] (fun x s => DecRel N x s) (fun x _ => (intOf x).toNat)
  case atStart => exact Hst.out
  case round =>
    obtain ⟨n, t, rfl, rfl, hn, ht⟩ := hrel
    have hlen := decD_len20 hN
    rw [← ht, List.length_append] at hlen
    by_cases h10 : n < 10
    · have Hf := Lib.hid (show (48 + n % 10) :: t = decD N from by rw [← ht, decD_low h10, Nat.mod_eq_of_lt h10]; rfl)
      have hge : ¬ ((10 : Int) ≤ (n : Int)) := by omega
      clear ht hlen
      generalize hs : str ((48 + n % 10) :: t) = s
      have Hs := Lib.hid hs
      clear hs
      go_wp2
      go_ret
      exact ⟨by rw [← Hf.out, Hs.out]; rfl, rfl⟩
    · have hge : (10 : Int) ≤ (n : Int) := by omega
      have hd2 : n / 10 % 10 < 10 := Nat.mod_lt _ (by omega)
      have hex := ten_at hd2
      have hdiv : (n : Int) / 10 = ((n / 10 : Nat) : Int) := by omega
      have hmod : ((n / 10 : Nat) : Int) % 10 = ((n / 10 % 10 : Nat) : Int) := by omega
      have hcat := str_append [48 + n / 10 % 10] ((48 + n % 10) :: t)
      have hsz : (str ((48 + n % 10) :: t)).size ≤ 1000 := by rw [str_size, List.length_cons]; omega
      have hsz1 : (str [48 + n / 10 % 10]).size = 1 := by rw [str_size]; rfl
      have Hnext := Lib.hid (show DecRel N (.int .u64 ((n / 10 : Nat) : Int)) (.string (str ([48 + n / 10 % 10] ++ ((48 + n % 10) :: t)))) from ⟨n / 10, _, rfl, rfl, by omega, by rw [← ht, decD_high h10, List.append_assoc]; rfl⟩)
      have Hms := Lib.hid (show n / 10 < n by omega)
      have hm64 : n / 10 < 18446744073709551616 := by omega
      clear ht hlen
      generalize hS : str ([48 + n / 10 % 10] ++ ((48 + n % 10) :: t)) = S at *
      clear hS
      generalize str ((48 + n % 10) :: t) = s at *
      generalize n / 10 % 10 = d2 at *
      generalize n / 10 = m at *
      generalize str [48 + d2] = s1 at *
      go_wp2
      go_round
      case rel => exact Hnext.out
      case measure => simp [intOf]; have := Hms.out; omega

/-- The decimal form of a number with a sign. -/
def decL (n : Int) : List Nat := if n < 0 then 45 :: decD n.natAbs else decD n.natAbs

set_option maxRecDepth 100000 in
theorem rdecimal_any (n : Int) (w : World) (h1 : -9223372036854775808 ≤ n) (h2 : n ≤ 9223372036854775807) :
    Calls Tryz.prog 150 #[.int .i64 n] w fun e w' => e = .returned (.string (str (decL n))) ∧ w = w' := by
  by_cases hneg : n < 0
  · have H := Lib.hid (rdigits_any n.natAbs w (by omega))
    obtain ⟨m, hm⟩ : ∃ m : Int, m = (n.natAbs : Int) := ⟨_, rfl⟩
    have hmm : -(n + 1) + 1 = m := by omega
    have hm0 : 1 ≤ m ∧ m ≤ 9223372036854775808 := by omega
    have hf : decL n = 45 :: decD n.natAbs := if_pos hneg
    have hcat := str_append [45] (decD n.natAbs)
    have hsz : (str (decD n.natAbs)).size ≤ 1000 := by have := decD_len20 (n := n.natAbs) (by omega); rw [str_size]; omega
    have hS : str (decL n) = str [45] ++ str (decD n.natAbs) := by rw [hcat, hf]; rfl
    rw [← hm] at H
    have HS := Lib.hid hS
    clear hm hf hcat hS
    generalize str (decD n.natAbs) = s at *
    go_enter Tryz.func150, Tryz.ntmps150
    go_wp2_with fail
    refine H.out.mono ?_
    rintro e w' ⟨rfl, rfl⟩
    go_wp2
    go_ret
    exact ⟨by rw [HS.out]; rfl, rfl⟩
  · have H := Lib.hid (rdigits_any n.natAbs w (by omega))
    have hm : (n.natAbs : Int) = n := by omega
    have hf : decL n = decD n.natAbs := if_neg hneg
    rw [hm] at H
    rw [← hf] at H
    clear hm hf
    generalize str (decL n) = s at *
    go_enter Tryz.func150, Tryz.ntmps150
    go_wp2_with fail
    refine H.out.mono ?_
    rintro e w' ⟨rfl, rfl⟩
    go_wp2
    go_ret
    exact ⟨rfl, rfl⟩
end Go.Proofs.YtpmjjefnmgbifaaGreatDoor

/- Texts of numbers as lists: the digits are read again, and a text is that of one number alone. -/
namespace Go.Proofs.YtpmjjefnmgbifaaGreatDoor
open Go.RowKit Fl

/-- One byte of a text, read as a digit where it is one. -/
def stepH (b c : Nat) : Nat :=
  let b1 := if 48 ≤ c ∧ c ≤ 57 then (b * 16 + (c - 48)) % 18446744073709551616 else b
  if 97 ≤ c ∧ c ≤ 102 then (b1 * 16 + (c - 97) + 10) % 18446744073709551616 else b1

def hexv (l : List Nat) (b : Nat) : Nat := l.foldl stepH b

theorem stepH_digit {b d : Nat} (h : d < 16) (hb : b * 16 + d < 18446744073709551616) : stepH b (hexD d) = b * 16 + d := by
  unfold stepH hexD
  by_cases h1 : d < 10
  · rw [if_pos h1]
    simp only
    rw [if_pos (show 48 ≤ 48 + d ∧ 48 + d ≤ 57 by omega), if_neg (show ¬ (97 ≤ 48 + d ∧ 48 + d ≤ 102) by omega)]
    omega
  · rw [if_neg h1]
    simp only
    rw [if_neg (show ¬ (48 ≤ 87 + d ∧ 87 + d ≤ 57) by omega), if_pos (show 97 ≤ 87 + d ∧ 87 + d ≤ 102 by omega)]
    omega

theorem hexv_hexs {x : Nat} (hx : x < 18446744073709551616) : ∀ j : Nat, j ≤ 16 → hexv (hexs x j) 0 = x / 2 ^ (4 * (16 - j)) := by
  intro j
  induction j with
  | zero =>
    intro _
    have hp : (2 : Nat) ^ (4 * (16 - 0)) = 18446744073709551616 := by decide
    have h : x / 2 ^ (4 * (16 - 0)) = 0 := Nat.div_eq_of_lt (by rw [hp]; exact hx)
    rw [h]; rfl
  | succ j ih =>
    intro hj
    have h1 := ih (by omega)
    have e : hexv (hexs x (j + 1)) 0 = stepH (hexv (hexs x j) 0) (hexD (x / 2 ^ (4 * (15 - j)) % 16)) := by
      unfold hexv
      rw [hexs, List.foldl_append]; rfl
    rw [e, h1]
    have e2 : 4 * (16 - j) = 4 * (15 - j) + 4 := by omega
    have e3 : 16 - (j + 1) = 15 - j := by omega
    rw [e2, e3, Nat.pow_add, ← Nat.div_div_eq_div_mul]
    generalize hy : x / 2 ^ (4 * (15 - j)) = y
    have hle : y ≤ x := by rw [← hy]; exact Nat.div_le_self _ _
    have h4 : (2 : Nat) ^ 4 = 16 := by decide
    rw [h4]
    have h5 : y / 16 * 16 + y % 16 = y := by omega
    rw [stepH_digit (Nat.mod_lt _ (by omega)) (by omega), h5]

theorem hexv_text {x : Nat} (hx : x < 18446744073709551616) : hexv (hexs x 16) 0 = x := by
  rw [hexv_hexs hx 16 (Nat.le_refl _)]
  simp

/-- The numbers whose texts are words. -/
def special : List Nat := [Q, I, W + I, 0, W]

theorem textL_hex {x : Nat} (h : x ∉ special) : textL x = 120 :: hexs x 16 := by
  unfold special at h
  simp only [List.mem_cons, List.not_mem_nil, or_false, not_or] at h
  obtain ⟨h1, h2, h3, h4, h5⟩ := h
  unfold textL
  rw [if_neg h1, if_neg h2, if_neg h3, if_neg h4, if_neg h5]

theorem textL_special {x : Nat} (h : x ∈ special) : (x = Q ∧ textL x = [110, 97, 110]) ∨ (x = I ∧ textL x = [105, 110, 102]) ∨ (x = W + I ∧ textL x = [45, 105, 110, 102]) ∨ (x = 0 ∧ textL x = [48]) ∨ (x = W ∧ textL x = [45, 48]) := by
  unfold special at h
  simp only [List.mem_cons, List.not_mem_nil, or_false] at h
  have a1 : I ≠ Q := by decide
  have a2 : W + I ≠ Q := by decide
  have a3 : W + I ≠ I := by decide
  have a4 : (0 : Nat) ≠ Q := by decide
  have a5 : (0 : Nat) ≠ I := by decide
  have a6 : (0 : Nat) ≠ W + I := by decide
  have a7 : W ≠ Q := by decide
  have a8 : W ≠ I := by decide
  have a9 : W ≠ W + I := by decide
  have b1 : W ≠ 0 := by decide
  unfold textL
  rcases h with h | h | h | h | h
  · exact .inl ⟨h, if_pos h⟩
  · exact .inr (.inl ⟨h, by rw [h, if_neg a1, if_pos rfl]⟩)
  · exact .inr (.inr (.inl ⟨h, by rw [h, if_neg a2, if_neg a3, if_pos rfl]⟩))
  · exact .inr (.inr (.inr (.inl ⟨h, by rw [h, if_neg a4, if_neg a5, if_neg a6, if_pos rfl]⟩)))
  · exact .inr (.inr (.inr (.inr ⟨h, by rw [h, if_neg a7, if_neg a8, if_neg a9, if_neg b1, if_pos rfl]⟩)))

/-- A text is that of one number alone. -/
theorem textL_inj {x y : Nat} (hx : x < 18446744073709551616) (hy : y < 18446744073709551616) (h : textL x = textL y) : x = y := by
  by_cases sx : x ∈ special <;> by_cases sy : y ∈ special
  · rcases textL_special sx with ⟨ex, tx⟩ | ⟨ex, tx⟩ | ⟨ex, tx⟩ | ⟨ex, tx⟩ | ⟨ex, tx⟩ <;> rcases textL_special sy with ⟨ey, ty⟩ | ⟨ey, ty⟩ | ⟨ey, ty⟩ | ⟨ey, ty⟩ | ⟨ey, ty⟩ <;> first | (rw [ex, ey]; done) | (rw [tx, ty] at h; simp at h)
  · rw [textL_hex sy] at h
    rcases textL_special sx with ⟨ex, tx⟩ | ⟨ex, tx⟩ | ⟨ex, tx⟩ | ⟨ex, tx⟩ | ⟨ex, tx⟩ <;> (rw [tx] at h; simp at h)
  · rw [textL_hex sx] at h
    rcases textL_special sy with ⟨ey, ty⟩ | ⟨ey, ty⟩ | ⟨ey, ty⟩ | ⟨ey, ty⟩ | ⟨ey, ty⟩ <;> (rw [ty] at h; simp at h)
  · rw [textL_hex sx, textL_hex sy] at h
    have h1 : hexs x 16 = hexs y 16 := (List.cons.inj h).2
    rw [← hexv_text hx, h1, hexv_text hy]

theorem textL_byte (x : Nat) : ∀ c ∈ textL x, c < 256 := by
  have hh : ∀ j, ∀ c ∈ hexs x j, c < 256 := by
    intro j
    induction j with
    | zero => intro c hc; cases hc
    | succ j ih =>
      intro c hc
      rw [hexs] at hc
      rcases List.mem_append.1 hc with hc | hc
      · exact ih c hc
      · have e : c = hexD (x / 2 ^ (4 * (15 - j)) % 16) := by simpa using hc
        have hm : x / 2 ^ (4 * (15 - j)) % 16 < 16 := Nat.mod_lt _ (by omega)
        rw [e]
        unfold hexD
        split <;> omega
  by_cases s : x ∈ special
  · rcases textL_special s with ⟨_, t⟩ | ⟨_, t⟩ | ⟨_, t⟩ | ⟨_, t⟩ | ⟨_, t⟩ <;> (rw [t]; decide)
  · rw [textL_hex s]
    intro c hc
    rcases List.mem_cons.1 hc with rfl | hc
    · omega
    · exact hh 16 c hc

/-- Every text is that of what its digits say, or of one of the words' numbers. -/
theorem text_found {s : List Nat} {x : Nat} (hx : x < 18446744073709551616) (h : textL x = s) : x = hexv s.tail 0 ∨ x ∈ special := by
  by_cases sx : x ∈ special
  · exact .inr sx
  · left
    rw [← h, textL_hex sx]
    exact (hexv_text hx).symm
end Go.Proofs.YtpmjjefnmgbifaaGreatDoor

