import Derived.Test.YtpnfnmeilhiebaaGreatDoorMP6
import Derived.Test.YtpnfnmeilhiebaaGreatDoorMP7
import Derived.Shelf.Abstract
import Derived.RangeFuncBox
import Derived.Deep.AppendLies
import Derived.Deep.RegionLaw
import Derived.Test.YtpnfnmeilhiebaaGreatDoorMP4
import Derived.Test.YtpnfnmeilhiebaaGreatDoorMP1
/- The walk through a value and all values in it, whatever the function is that is called for each. -/
namespace Go.Proofs.YtpnfnmeilhiebaaGreatDoor
open Go.RowKit Go.Shelf Fl

/-- A value and all values in it, each in front of those in itself. -/
def preV : V → List V
  | .mk k n f s l => .mk k n f s l :: preL l
  where
  preL : List V → List V
  | [] => []
  | v :: r => preV v ++ preL r

/-- Whether a test holds for all of them, by the number of values around each. -/
def walkB (p : V → Nat → Bool) : Nat → V → Nat → Bool
  | 0, v, d => p v d
  | t + 1, v, d => p v d && v.l.all (fun u => walkB p t u (d + 1))

theorem preL_snoc : ∀ (a : List V) (u : V), preV.preL (a ++ [u]) = preV.preL a ++ preV u
  | [], u => by simp [preV.preL]
  | v :: r, u => by rw [List.cons_append, preV.preL, preL_snoc r u, preV.preL, List.append_assoc]

theorem preL_append : ∀ (a b : List V), preV.preL (a ++ b) = preV.preL a ++ preV.preL b
  | [], b => by simp [preV.preL]
  | v :: r, b => by rw [List.cons_append, preV.preL, preV.preL, preL_append r b, List.append_assoc]

theorem preL_split {l : List V} {j : Nat} (h : j < l.length) : preV.preL l = preV.preL (l.take j) ++ (preV l[j] ++ preV.preL (l.drop (j + 1))) := by
  have e : l = l.take j ++ (l[j] :: l.drop (j + 1)) := by rw [← List.drop_eq_getElem_cons h, List.take_append_drop]
  calc preV.preL l = preV.preL (l.take j ++ (l[j] :: l.drop (j + 1))) := by rw [← e]
    _ = _ := by rw [preL_append, preV.preL]

set_option maxRecDepth 100000 in
set_option maxHeartbeats 1600000 in
theorem walk_any (w0 : World) (G : Nat) (lb : Array Value) (eg : ∀ args w, (callFunc G args).run Tryz.prog w = .ok (.enter G args) w) (p : V → Nat → Bool) (J : List V → World → Prop) (Own : World → Nat → Prop) (Adm : List V → Prop) (hpre : ∀ a b, Adm (a ++ b) → Adm a)
    (hown : ∀ acc w b, J acc w → Own w b → w0.heap.size ≤ b ∧ b < w.heap.size)
    (hstay : ∀ acc w w', J acc w → Below w.heap.size w w' → J acc w' ∧ ∀ b, Own w' b → Own w b)
    (hvis : ∀ acc (x : V) xs (d : Nat) w, J acc w → Adm (acc ++ [x]) → Below w0.heap.size w0 w → VIn w x xs → d ≤ 1000 → Calls Tryz.prog G (#[.agg xs, .int .i64 (d : Int)] ++ lb) w fun e w' => e = .returned (.bool (p x d)) ∧ J (acc ++ [x]) w' ∧ Below w0.heap.size w w' ∧ ∀ b, b < w.heap.size → ¬ Own w b → w'.heap[b]? = w.heap[b]?) :
    ∀ (t : Nat) (v : V) (d : Nat) (acc : List V) (x : Array Value) (w : World), smallN t v = true → d + t ≤ 1000 → Adm (acc ++ preV v) → J acc w → Below w0.heap.size w0 w → VIn w0 v x →
      Calls Tryz.prog 21 #[.agg x, .int .i64 (d : Int), .func (.func G) #[] lb] w fun e w' => e = .returned (.bool (walkB p t v d)) ∧ (∃ acc', J acc' w' ∧ (walkB p t v d = true → acc' = acc ++ preV v)) ∧ Below w0.heap.size w0 w' := by
  intro t
  induction t with
  | zero => intro v d acc x w h; simp [smallN] at h
  | succ t ih =>
    intro v d acc x w hsm hd hadm hJ hb hv
    have hsm : v.l.all (smallN t) = true := hsm
    rw [List.all_eq_true] at hsm
    obtain ⟨k, n, f, s, l⟩ := v
    change ∀ u ∈ l, smallN t u = true at hsm
    obtain ⟨_, _, _, _, _, a, cap, rfl, hcap, hmax, _⟩ := hv.parts
    change VIn w0 (V.mk k n f s l) (cells5 k n f s a l.length cap) at hv
    change l.length ≤ cap at hcap
    change Calls _ _ #[.agg (cells5 k n f s a l.length cap), _, _] _ _
    have IH := Lib.hid ih
    have HAD := Lib.hid (show Adm (acc ++ [V.mk k n f s l] ++ preV.preL l) from by rw [List.append_assoc]; exact hadm)
    have HPR := Lib.hid hpre
    have HS := Lib.hid hsm
    have HO := Lib.hid hown
    have HT := Lib.hid hstay
    have HX := Lib.hid hvis
    have HV := Lib.hid hv
    have hal := (Below.refl w.heap.size w).alloc (Nat.le_refl _) (.cells (cells5 k n f s a l.length cap) 25)
    have HJ1 := Lib.hid (hstay _ _ _ hJ hal).1
    have hb1 := hb.trans (hal.mono hb.size)
    have HB1 := Lib.hid hb1
    have C0 := Lib.hid (new5 w (.int .i64 k) (.int .i64 n) (.float .f64 f) (.string (str s)) (.slice a l.length cap) 25)
    have hwz : (w.alloc (.cells #[.int .i64 k, .int .i64 n, .float .f64 f, .string (str s), .slice a l.length cap] 25)).heap.size = w.heap.size + 1 := by simp
    have HN := Lib.hid (show ¬ Own (w.alloc (.cells (cells5 k n f s a l.length cap) 25)) w.heap.size from fun h => absurd (hown _ _ _ hJ ((hstay _ _ _ hJ hal).2 _ h)).2 (Nat.lt_irrefl _))
    clear hJ hb hv hal ih hsm hown hstay hvis hadm hpre
    have hfl : ∀ (w : World) (a : Addr) (m : Mode) (b : Nat), (store a (.float .f64 b) m).run Tryz.prog w = stored Tryz.prog w a (.float .f64 b) m := fun w a m b => run_store Tryz.prog w a _ m rfl
    unfold cells5 at *
    go_enter Tryz.func21, Tryz.ntmps21
    go_wp2_with fail
    generalize w.alloc (.cells #[.int .i64 k, .int .i64 n, .float .f64 f, .string (str s), .slice a l.length cap] 25) = w1 at *
    refine (HX.out acc (V.mk k n f s l) _ d _ HJ1.out (HPR.out _ _ HAD.out) HB1.out (HV.out.below HB1.out) (by omega)).mono ?_
    rintro e w2 ⟨rfl, hJ2, hb2, hk2⟩
    have hbw : Below w0.heap.size w0 w2 := HB1.out.trans hb2
    have hbox : w2.heap[w.heap.size]? = w1.heap[w.heap.size]? := hk2 _ (by omega) HN.out
    have c4 : w2.cell? ⟨w.heap.size, 4, none⟩ = some (.slice a l.length cap) := by
      have h := C0.out.2.2.2.2
      unfold World.cell? at h ⊢
      rw [hbox]
      exact h
    have HJ2 := Lib.hid hJ2
    have HB2 := Lib.hid hbw
    have hd1 : (d : Int) ≤ 1000 := by omega
    have Hd := Lib.hid hd
    clear hJ2 hb2 hk2 hbw hbox hwz hd
    cases hp : p (V.mk k n f s l) d with
    | false =>
      have HF := Lib.hid (show walkB p (t + 1) (V.mk k n f s l) d = false from by rw [walkB, hp]; rfl)
      clear hp
      go_wp2
      go_ret
      exact ⟨ret_bool HF.out.symm, ⟨_, HJ2.out, fun h => absurd h (by rw [HF.out]; decide)⟩, HB2.out⟩
    | true =>
      have HP := Lib.hid hp
      clear hp
      go_wp2
      go_loopw [17] (fun i wr => ∃ (j : Nat) (acc' : List V), j ≤ l.length ∧ i = .int .i64 (j : Int) ∧ J acc' wr ∧ acc' = acc ++ [V.mk k n f s l] ++ preV.preL (l.take j) ∧ (∀ (i : Nat) (u : V), i < j → l[i]? = some u → walkB p t u (d + 1) = true) ∧ Below w0.heap.size w0 wr) (fun i _ => l.length - (intOf i).toNat)
      case atStart => exact ⟨0, _, Nat.zero_le _, rfl, HJ2.out, by rw [List.take_zero, preV.preL, List.append_nil], fun i u hi => absurd hi (by omega), HB2.out⟩
      case round =>
        obtain ⟨j, acc', hj, rfl, hJ3, hacc, hall, hbr⟩ := hrel
        have HJ3 := Lib.hid hJ3
        have Hacc := Lib.hid hacc
        have Hall := Lib.hid hall
        have Hbr := Lib.hid hbr
        by_cases hlt : j < l.length
        · have hji : (j : Int) < (l.length : Int) := by omega
          obtain ⟨b, o, rfl, hvs⟩ := HV.out.list (by show l ≠ []; intro e; rw [e] at hlt; simp at hlt)
          change VsIn w0 l b o at hvs
          obtain ⟨a', cap', hvy, c0, c1, c2, c3, c4⟩ := hvs.elem hlt
          have Hvy := Lib.hid hvy
          replace c0 := cell_below hbr c0
          replace c1 := cell_below hbr c1
          replace c2 := cell_below hbr c2
          replace c3 := cell_below hbr c3
          replace c4 := cell_below hbr c4
          obtain ⟨hget, hmem⟩ := get_mem hlt
          have htake := List.take_succ_eq_append_getElem hlt
          have Hget := Lib.hid hget
          have Htake := Lib.hid htake
          have hsu := HS.out _ hmem
          have Hlt := Lib.hid hlt
          have hadm2 : Adm (acc' ++ preV l[j]) := by
            have e : acc ++ [V.mk k n f s l] ++ preV.preL l = (acc' ++ preV l[j]) ++ preV.preL (l.drop (j + 1)) := by
              rw [hacc, preL_split hlt]
              simp only [List.append_assoc]
              rfl
            have h := HAD.out
            rw [e] at h
            exact HPR.out _ _ h
          generalize l[j] = u at *
          have hal := (Below.refl wr.heap.size wr).alloc (Nat.le_refl _) (.cells #[.int .i64 u.kind, .int .i64 u.n, .float .f64 u.f, .string (str u.s), .slice a' u.l.length cap'] 25)
          have HI := Lib.hid (IH.out u (d + 1) acc' _ _ hsu (by have := Hd.out; omega) hadm2 (HT.out _ _ _ hJ3 hal).1 (hbr.trans (hal.mono hbr.size)) hvy)
          obtain ⟨z0, z1, z2, z3, z4⟩ := new5 wr (.int .i64 u.kind) (.int .i64 u.n) (.float .f64 u.f) (.string (str u.s)) (.slice a' u.l.length cap') 25
          have hdr : -9223372036854775808 ≤ (d : Int) + 1 ∧ (d : Int) + 1 ≤ 9223372036854775807 := by have := Hd.out; omega
          rw [show ((d + 1 : Nat) : Int) = (d : Int) + 1 by omega] at HI
          clear hJ3 hacc hall hbr hvs hvy hget hmem htake hsu hal hlt hadm2
          go_wp2_with fail
          refine HI.out.mono ?_
          rintro e w4 ⟨rfl, ⟨acc4, hJ4, ha4⟩, hb4⟩
          have HJ4 := Lib.hid hJ4
          have Ha4 := Lib.hid ha4
          have Hb4 := Lib.hid hb4
          clear hJ4 ha4 hb4 hdr
          cases hp : walkB p t u (d + 1) with
          | false =>
            have HF := Lib.hid (show walkB p (t + 1) (V.mk k n f s l) d = false from by
              rw [walkB, Bool.and_eq_false_iff]
              refine .inr ?_
              rw [List.all_eq_false]
              exact ⟨u, List.mem_of_getElem? Hget.out, by rw [hp]; decide⟩)
            clear hp
            go_wp2
            go_ret
            exact ⟨ret_bool HF.out.symm, ⟨_, HJ4.out, fun h => absurd h (by rw [HF.out]; decide)⟩, Hb4.out⟩
          | true =>
            have HQ := Lib.hid hp
            clear hp
            go_wp2
            go_roundw
            case rel =>
              refine ⟨j + 1, acc4, Hlt.out, by go_num, HJ4.out, ?_, fun i u' hi hu' => ?_, Hb4.out⟩
              · rw [Ha4.out HQ.out, Hacc.out, Htake.out, preL_snoc, List.append_assoc]
              · rcases Nat.lt_or_eq_of_le (Nat.le_of_lt_succ hi) with h1 | h1
                · exact Hall.out i u' h1 hu'
                · rw [h1, Hget.out] at hu'
                  cases hu'
                  exact HQ.out
            case measure => simp [intOf]; have := Hlt.out; omega
        · have hji : ¬ ((j : Int) < (l.length : Int)) := by omega
          have HF := Lib.hid (show walkB p (t + 1) (V.mk k n f s l) d = true from by
            rw [walkB, HP.out, Bool.true_and, List.all_eq_true]
            intro u hu
            obtain ⟨i, hi, rfl⟩ := List.getElem_of_mem hu
            have hi' : i < l.length := hi
            exact hall i _ (by omega) (List.getElem?_eq_getElem hi))
          clear hJ3 hacc hall hbr
          go_wp2
          go_ret
          refine ⟨ret_bool HF.out.symm, ⟨_, HJ3.out, fun _ => ?_⟩, Hbr.out⟩
          rw [Hacc.out, List.take_of_length_le (by omega), List.append_assoc, preV]; rfl
end Go.Proofs.YtpnfnmeilhiebaaGreatDoor

/- How a content answers form; the bytes that one value adds to a form. -/
namespace Go.Proofs.YtpnfnmeilhiebaaGreatDoor
open Go.RowKit Go.Shelf Fl

theorem fmeth_nil (n : Nat) (w : World) : (method (n + 1) 66 (.agg #[]) "clockwork/value.form").run Tryz.prog w = .ok (152, .agg #[]) w := by kernel_rfl
theorem fmeth_int (n : Nat) (x : Int) (w : World) : (method (n + 1) 67 (.int .i64 x) "clockwork/value.form").run Tryz.prog w = .ok (154, .int .i64 x) w := by kernel_rfl
theorem fmeth_float (n : Nat) (x : Nat) (w : World) : (method (n + 1) 68 (.float .f64 x) "clockwork/value.form").run Tryz.prog w = .ok (159, .float .f64 x) w := by kernel_rfl
theorem fmeth_text (n : Nat) (x : ByteArray) (w : World) : (method (n + 1) 69 (.string x) "clockwork/value.form").run Tryz.prog w = .ok (161, .string x) w := by kernel_rfl
theorem fmeth_list (n : Nat) (a : Option Addr) (len cap : Nat) (w : World) : (method (n + 1) 70 (.slice a len cap) "clockwork/value.form").run Tryz.prog w = .ok (164, .slice a len cap) w := by kernel_rfl

def FormAt (con : Value) (bs : List Nat) : Prop :=
  ∃ (T : TypeId) (v : Value) (f : FuncId), con = .iface T v ∧ (∀ (n : Nat) (w : World), (method (n + 1) T v "clockwork/value.form").run Tryz.prog w = .ok (f, v) w) ∧ (∀ args w, (callFunc f args).run Tryz.prog w = .ok (.enter f args) w) ∧
    ∀ w, Calls Tryz.prog f #[v] w (NewBytes w bs)

/-- What the form of a value has behind the kind, but not the values in it. -/
def contF (k n : Int) (f : Nat) (s : List Nat) (len : Nat) : List Nat :=
  if k = 1 then form (foldL n) else if k = 2 then be8 (bitsB f) else if k = 3 then formB s else if k = 4 then form len else []

def pieceV (v : V) : List Nat := form v.kind.toNat ++ contF v.kind v.n v.f v.s v.l.length

theorem contF_byte {k n : Int} {f : Nat} {s : List Nat} {len : Nat} (hs : ∀ c ∈ s, c < 256) : ∀ c ∈ contF k n f s len, c < 256 := by
  unfold contF
  split
  · exact form_byte _
  split
  · exact be8_byte _
  split
  · exact formB_byte hs
  split
  · exact form_byte _
  · simp

theorem formAt_any {k n : Int} {f : Nat} {s : List Nat} (a : Option Addr) {len cap : Nat} (hk : 0 ≤ k ∧ k ≤ 4) (hn : -9223372036854775808 ≤ n ∧ n ≤ 9223372036854775807) (hf : f < 18446744073709551616) (hs : ∀ c ∈ s, c < 256) (hsn : s.length ≤ 1000000) (hl : len < 18446744073709551616) :
    FormAt (conOf k n f s a len cap) (contF k n f s len) := by
  unfold conOf contF
  by_cases h0 : k = 0
  · subst h0
    rw [if_pos rfl, if_neg (by decide), if_neg (by decide), if_neg (by decide), if_neg (by decide)]
    exact ⟨_, _, _, rfl, fun n w => fmeth_nil n w, enters_of Tryz.func152 (by kernel_rfl) rfl, fun w => nilForm_any w⟩
  rw [if_neg h0]
  by_cases h1 : k = 1
  · rw [if_pos h1, if_pos h1]
    exact ⟨_, _, _, rfl, fun n w => fmeth_int n _ w, enters_of Tryz.func154 (by kernel_rfl) rfl, fun w => intForm_any n w hn.1 hn.2⟩
  rw [if_neg h1, if_neg h1]
  by_cases h2 : k = 2
  · rw [if_pos h2, if_pos h2]
    exact ⟨_, _, _, rfl, fun n w => fmeth_float n _ w, enters_of Tryz.func159 (by kernel_rfl) rfl, fun w => floatForm_any f w hf⟩
  rw [if_neg h2, if_neg h2]
  by_cases h3 : k = 3
  · rw [if_pos h3, if_pos h3]
    exact ⟨_, _, _, rfl, fun n w => fmeth_text n _ w, enters_of Tryz.func161 (by kernel_rfl) rfl, fun w => textForm_any s w hs hsn⟩
  have h4 : k = 4 := by omega
  rw [if_neg h3, if_neg h3, if_pos h4, if_pos h4]
  exact ⟨_, _, _, rfl, fun n w => fmeth_list n _ _ _ w, enters_of Tryz.func164 (by kernel_rfl) rfl, fun w => listForm_any a len cap w hl⟩

/-- The form so far, in its box. -/
def FormJ (B bs : Nat) (acc : List V) (w : World) : Prop := ∃ v, Boxed w bs 28 v ∧ w.ownsRow B 5 1 v (acc.flatMap pieceV).length (u8s (acc.flatMap pieceV))

/-- 'b = append(b, p...)' of bytes as one step of a region that draws. -/
theorem step_append_bytes {ops : Array Oper} {o : Oper} {a : Act} {w : World} {K : Act → World → Prop} {Q : Exit → Act → World → Prop} {E : Prop} (hgd : o.guard = none) (s x : Operand)
    (ho : o.op = .call { callee := .builtin .append, args := #[s, x], argTypes := #[28, 28] })
    (base : Nat) (v : Value) (l : List Nat) (hs : a.eval s = v) (hown : w.ownsRow base 5 1 v l.length (u8s l))
    (p : Option Addr) (m c : Nat) (l' : List Nat) (hx : a.eval x = .slice p m c) (hB : Bytes w p m c l')
    (hbytes : l.length + m ≤ 140737488355328) (hbase : base ≤ w.heap.size) (hpos : 0 < l.length + m)
    (h : ∀ g cap w', w'.ownsRow base 5 1 (.slice (some ⟨g, 0, none⟩) (l ++ l').length cap) (l ++ l').length (u8s (l ++ l')) → w.grownBy w' v.ownBlock → (v.ownBlock = some g ∨ w.heap.size ≤ g) → K (a.put o.dst (.slice (some ⟨g, 0, none⟩) (l ++ l').length cap)) w') :
    if Region.wanted o (yielded ops a.tmps) = true then Oper.wp Tryz.prog o a w K Q else E := by
  obtain ⟨i, hi, hz, hsz, hby⟩ := info_parts info_u8
  have hw : Region.wanted o (yielded ops a.tmps) = true := by simp [Region.wanted, hgd]
  rw [if_pos hw]
  have hlen : (l ++ l').length = l.length + m := by rw [List.length_append, hB.len]
  cases p with
  | none =>
    obtain rfl : c = 0 := hB.nil rfl
    obtain rfl : m = 0 := by have := hB.le; omega
    obtain rfl : l' = [] := List.length_eq_zero_iff.1 hB.len
    have hrun := run_append_owned_none (P := Tryz.prog) (w := w) base 28 o.type 5 i 1 Tryz.underlying28 hi v l.length (u8s l) hown
    obtain ⟨g, cap, rfl, hg1, hg2⟩ := hown.form (by omega)
    unfold Oper.wp
    have hh := h g cap w (by simpa using hown) ⟨rfl, rfl, rfl, Nat.le_refl _, fun _ _ _ => rfl⟩ (.inl rfl)
    simp [execOp, ho, resolve, invoke, builtin, hs, hx, hrun, Result.andThen]
    rw [Oper.upon_value]
    simpa using hh
  | some ad =>
    obtain ⟨v', w', hr, h2, h3, _, h5⟩ := run_append_own_at (P := Tryz.prog) w base 28 o.type 5 i (.int .u8 0) 1 1 Tryz.underlying28 hi hz hsz hby rfl (by omega) v l.length (u8s l) hown ad m c (u8s l') (by simp [u8s, hB.len]) (fun j u hu => by
      obtain ⟨hj, rfl⟩ := u8s_get hu
      have hj' : j < m := by rw [← hB.len]; exact hj
      obtain ⟨b, o', e1, hc⟩ := hB.cell (by omega)
      cases e1
      have hadd : (⟨b, o', none⟩ : Addr).add j = ⟨b, o' + j, none⟩ := by unfold Addr.add; split <;> simp_all
      rw [hadd]
      exact hc j hj') (u8s_one l') (by rw [maxLen_nat]; omega) (by omega) hbase
    rw [← u8s_append, ← hlen] at h2
    obtain ⟨g, cap, rfl, hg1, hg2⟩ := h2.form (by omega)
    unfold Oper.wp execOp
    simp only [ho, resolve, invoke, builtin, Sem.run_bind, Sem.run_pure, Result.andThen_ok, List.map_toArray, List.map_cons, List.map_nil, hs, hx, hr]
    refine h g cap w' h2 h3 ?_
    rcases h5 with h5 | h5
    · exact .inl h5.symm
    · have : g = w.heap.size := by simpa [Value.ownBlock] using h5
      exact .inr (by omega)

theorem neB : 28 ≠ 5 := by decide

/-- The box and the row behind 'form = append(form, ..)'. -/
theorem form_step {B bs g cap n : Nat} {L N : List Nat} {w1 w2 w3 : World} {u : Value} (hbs : B ≤ bs) (hB : B ≤ w1.heap.size) (hb : Boxed w1 bs 28 u) (hrow : w1.ownsRow B 5 1 u L.length (u8s L)) (hbel : Below w1.heap.size w1 w2) (hn : N.length = n)
    (h1 : w3.ownsRow B 5 1 (.slice (some ⟨g, 0, none⟩) N.length cap) N.length (u8s N)) (h2 : w2.grownBy w3 u.ownBlock) (h3 : u.ownBlock = some g ∨ w2.heap.size ≤ g) :
    (w3.cell? ⟨bs, 0, none⟩ = some u ∧ w3.frozen? ⟨bs, 0, none⟩ = false) ∧
    Boxed (w3.setCell ⟨bs, 0, none⟩ (.slice (some ⟨g, 0, none⟩) n cap)) bs 28 (.slice (some ⟨g, 0, none⟩) n cap) ∧
    (w3.setCell ⟨bs, 0, none⟩ (.slice (some ⟨g, 0, none⟩) n cap)).ownsRow B 5 1 (.slice (some ⟨g, 0, none⟩) n cap) n (u8s N) ∧
    Below B w1 (w3.setCell ⟨bs, 0, none⟩ (.slice (some ⟨g, 0, none⟩) n cap)) ∧
    (∀ b, b < w1.heap.size → b ≠ bs → u.ownBlock ≠ some b → (w3.setCell ⟨bs, 0, none⟩ (.slice (some ⟨g, 0, none⟩) n cap)).heap[b]? = w1.heap[b]?) ∧ (u.ownBlock = some g ∨ w1.heap.size ≤ g) := by
  subst hn
  have hlt := hb.lt
  have hne : some bs ≠ u.ownBlock := hb.not_row neB hrow
  have hb2 : Boxed w2 bs 28 u := (hbel.block bs hlt).trans hb
  have hb3 : Boxed w3 bs 28 u := hb2.kept h2 hne
  have hrowb : ∀ k, u.ownBlock = some k → B ≤ k := fun k hk => (hrow.lt k hk).1
  have hgne : bs ≠ g := by
    have := hb3.not_row neB h1
    intro e
    exact this (by rw [e]; rfl)
  refine ⟨⟨hb3.cell, hb3.frozen⟩, hb3.set _, ?_, ?_, fun b hbl hbn hbu => ?_, ?_⟩
  · refine ⟨h1.1, ?_⟩
    rcases h1.2 with hn | ⟨g', cap', cur, e, hbg, hg, rest⟩
    · exact .inl hn
    · have e2 : g = g' := by
        have := congrArg Value.ownBlock e
        simpa [Value.ownBlock] using this
      exact .inr ⟨g', cap', cur, e, hbg, (Below.heap_setCell _ _ _ _ (by rw [← e2]; exact fun h => hgne h.symm)).trans hg, rest⟩
  · exact ((hbel.mono hB).grown h2 (by have := hbel.size; omega) hrowb).setCell hbs _
  · rw [Below.heap_setCell _ _ _ _ hbn, h2.block b (by have := hbel.size; omega) (fun e => hbu e.symm), hbel.block b hbl]
  · exact h3.imp id (fun h => by have := hbel.size; omega)

theorem keep5b {w w' : World} {p : Nat} {a b c d e : Value} (hb : w'.heap[p]? = w.heap[p]?)
    (h : w.cell? ⟨p, 0, none⟩ = some a ∧ w.cell? ⟨p, 1, none⟩ = some b ∧ w.cell? ⟨p, 2, none⟩ = some c ∧ w.cell? ⟨p, 3, none⟩ = some d ∧ w.cell? ⟨p, 4, none⟩ = some e) :
    w'.cell? ⟨p, 0, none⟩ = some a ∧ w'.cell? ⟨p, 1, none⟩ = some b ∧ w'.cell? ⟨p, 2, none⟩ = some c ∧ w'.cell? ⟨p, 3, none⟩ = some d ∧ w'.cell? ⟨p, 4, none⟩ = some e := by
  unfold World.cell? at *
  rw [hb]
  exact h

theorem visit_done {B bs g n4 cap3 n8 : Nat} {w w1 w4 w8 : World} {u v8 : Value} {N N' : List Nat} (hbw : Boxed w bs 28 u) (hB : B ≤ w.heap.size) (hal : Below w.heap.size w w1)
    (s4 : Below B w1 w4) (o4 : ∀ b, b < w1.heap.size → b ≠ bs → u.ownBlock ≠ some b → w4.heap[b]? = w1.heap[b]?) (q4 : u.ownBlock = some g ∨ w1.heap.size ≤ g)
    (b8 : Boxed w8 bs 28 v8) (r8 : w8.ownsRow B 5 1 v8 n8 (u8s N)) (s8 : Below B w4 w8) (o8 : ∀ b, b < w4.heap.size → b ≠ bs → (Value.slice (some ⟨g, 0, none⟩) n4 cap3).ownBlock ≠ some b → w8.heap[b]? = w4.heap[b]?) (hN : N = N') :
    (∃ u, Boxed w8 bs 28 u ∧ w8.ownsRow B 5 1 u N'.length (u8s N')) ∧ Below B w w8 ∧ ∀ b, b < w.heap.size → b ≠ bs → (∀ u, Boxed w bs 28 u → u.ownBlock ≠ some b) → w8.heap[b]? = w.heap[b]? := by
  subst hN
  have hn : n8 = N.length := by have := r8.1; simp [u8s] at this; omega
  subst hn
  refine ⟨⟨v8, b8, r8⟩, (hal.mono hB).trans (s4.trans s8), fun b hb hne hno => ?_⟩
  have h1 := hno u hbw
  have hs1 := hal.size
  have hs4 := s4.size
  rw [o8 b (by omega) hne, o4 b (by omega) hne h1, hal.block b hb]
  intro e
  have e2 : g = b := by simpa [Value.ownBlock] using e
  rcases q4 with h | h
  · exact h1 (by rw [h, e2])
  · omega

set_option maxRecDepth 100000 in
set_option maxHeartbeats 3200000 in
theorem visit_bytes (B bs : Nat) (hbs : B ≤ bs) (acc : List V) (v : V) (x : Array Value) (d : Nat) (w : World) (hJ : FormJ B bs acc w) (hB : B ≤ w.heap.size) (hv : VIn w v x) (hk : 0 ≤ v.kind ∧ v.kind ≤ 4) (hsn : v.s.length ≤ 1000000) (hln : v.l.length < 18446744073709551616)
    (hlen : ((acc ++ [v]).flatMap pieceV).length ≤ 10000000) :
    Calls Tryz.prog 22 #[.agg x, .int .i64 (d : Int), .pointer (some ⟨bs, 0, none⟩)] w fun e w' => e = .returned (.bool true) ∧ FormJ B bs (acc ++ [v]) w' ∧ Below B w w' ∧
      ∀ b, b < w.heap.size → b ≠ bs → (∀ u, Boxed w bs 28 u → u.ownBlock ≠ some b) → w'.heap[b]? = w.heap[b]? := by
  obtain ⟨u, hb, hrow⟩ := hJ
  obtain ⟨_, hn, hf, hs, _, a, cap, rfl, _⟩ := hv.parts
  obtain ⟨kk, hkk⟩ : ∃ kk : Nat, v.kind = (kk : Int) := ⟨v.kind.toNat, by omega⟩
  have hk4 : (kk : Int) ≤ 4 := by omega
  have hwrap : IntKind.u64.wrap (kk : Int) = (kk : Int) := by
    rcases (show kk = 0 ∨ kk = 1 ∨ kk = 2 ∨ kk = 3 ∨ kk = 4 by omega) with rfl | rfl | rfl | rfl | rfl <;> decide
  have Hfa := Lib.hid (formAt_any a (cap := cap) hk hn hf hs hsn hln)
  have HC := Lib.hid (fun w => contentOf_any v.kind v.n v.f v.s a v.l.length cap w)
  have hpiece : pieceV v = form kk ++ contF v.kind v.n v.f v.s v.l.length := by unfold pieceV; rw [hkk]; rfl
  have Hc8 := Lib.hid (contF_byte (k := v.kind) (n := v.n) (f := v.f) (len := v.l.length) hs)
  rw [List.flatMap_append] at hlen
  have Hflat := Lib.hid (show (acc ++ [v]).flatMap pieceV = acc.flatMap pieceV ++ (form kk ++ contF v.kind v.n v.f v.s v.l.length) from by rw [List.flatMap_append, ← hpiece]; simp)
  have Hlen := Lib.hid (show (acc.flatMap pieceV).length + (form kk).length + (contF v.kind v.n v.f v.s v.l.length).length ≤ 10000000 from by
    have h : ([v].flatMap pieceV).length = (form kk).length + (contF v.kind v.n v.f v.s v.l.length).length := by simp [hpiece]
    rw [List.length_append, h] at hlen
    omega)
  have HJ2 : FormJ B bs (acc ++ [v]) = fun w' => ∃ u, Boxed w' bs 28 u ∧ w'.ownsRow B 5 1 u ((acc.flatMap pieceV) ++ (form kk ++ contF v.kind v.n v.f v.s v.l.length)).length (u8s ((acc.flatMap pieceV) ++ (form kk ++ contF v.kind v.n v.f v.s v.l.length))) := by
    funext w'
    unfold FormJ
    rw [Hflat.out]
  rw [HJ2]
  clear HJ2
  generalize acc.flatMap pieceV = L at *
  generalize contF v.kind v.n v.f v.s v.l.length = M at *
  have Hbs2 := Lib.hid hb.lt
  have Hu2 := Lib.hid (fun k hk => (hrow.lt k hk).2)
  have Hbw := Lib.hid hb
  have hb1 := hb.alloc (.cells (cells5 v.kind v.n v.f v.s a v.l.length cap) 25)
  have C0 := Lib.hid (new5 w (.int .i64 v.kind) (.int .i64 v.n) (.float .f64 v.f) (.string (str v.s)) (.slice a v.l.length cap) 25)
  have hal := (Below.refl w.heap.size w).alloc (Nat.le_refl _) (.cells (cells5 v.kind v.n v.f v.s a v.l.length cap) 25)
  have hrow1 := own_below hrow hal
  have Hal := Lib.hid hal
  obtain ⟨T, pv, fm, hci, hm, hen, hcall⟩ := Hfa.out
  rw [hci] at HC
  have HM := Lib.hid hm
  have HK := Lib.hid hcall
  clear hci hm hcall Hfa
  rw [hkk] at *
  clear hv hlen hpiece hrow hb hal hn hf hs hsn hln
  unfold cells5 at *
  go_enter Tryz.func22, Tryz.ntmps22
  go_wp2_with fail
  have hW1 : (w.alloc (.cells #[.int .i64 (kk : Int), .int .i64 v.n, .float .f64 v.f, .string (str v.s), .slice a v.l.length cap] 25)).heap.size = w.heap.size + 1 := by simp
  generalize w.alloc (.cells #[.int .i64 (kk : Int), .int .i64 v.n, .float .f64 v.f, .string (str v.s), .slice a v.l.length cap] 25) = w1 at *
  have HU := Lib.hid (uint_any kk w1.drew (by omega))
  obtain ⟨z0, z1, z2, z3, z4⟩ := C0.out
  have hc := hb1.cell
  have hfz := hb1.frozen
  have Hb1 := Lib.hid hb1
  have Hrow1 := Lib.hid hrow1
  clear hb1 hrow1
  go_region_law
    (first
      | (refine step_append_bytes rfl (.tmp 6) (.tmp 10) rfl B u L (by simp [Act.eval]) Hrow2.out p2 (form kk).length cp2 (form kk) (by simp [Act.eval]) HB2.out (by have := Hlen.out; omega) (by have := Hbe2.out.size; omega) (by have := form_pos kk; omega) ?_
         intro g cap3 w3 g1 g2 g3
         have hst := form_step (n := L.length + (form kk).length) hbs (by omega) Hb1.out Hrow1.out Hbe2.out (List.length_append) g1 g2 g3
         have Hst := Lib.hid hst
         obtain ⟨⟨k0, k1⟩, _⟩ := hst
         clear g1 g2 g3)
      | (go_simp; go_at_call 23; (with_reducible refine HU.out.mono ?_); rintro e w2 ⟨v2, rfl, hv2, hbe2⟩
         obtain ⟨p2, cp2, rfl, hB2⟩ := own_slice hv2 (form_byte kk)
         have HB2 := Lib.hid hB2
         have Hbe2 := Lib.hid (show Below w1.heap.size w1 w2 from ((Below.refl _ _).drew).trans hbe2)
         have Hrow2 := Lib.hid (own_below Hrow1.out Hbe2.out)
         have hc2 := cell_below Hbe2.out hc
         have z02 := cell_below Hbe2.out z0
         clear hv2 hbe2 hB2))
  all_goals obtain ⟨_, b4, r4, s4, o4, q4⟩ := Hst.out
  all_goals clear Hst k0 k1 hc hfz z0 z1 z2 z3 z4 z02 hc2
  all_goals generalize w3.setCell ⟨bs, 0, none⟩ (.slice (some ⟨g, 0, none⟩) (L.length + (form kk).length) cap3) = w4 at *
  all_goals have hxb : w4.heap[w.heap.size]? = w1.heap[w.heap.size]? := o4 _ (by omega) (by have := Hbs2.out; omega) (fun e => absurd (Hu2.out _ e) (Nat.lt_irrefl _))
  all_goals obtain ⟨y0, y1, y2, y3, y4⟩ := keep5b hxb C0.out
  all_goals have hc4 := b4.cell
  all_goals have HB4 := Lib.hid b4
  all_goals have R4 := Lib.hid r4
  all_goals have S4 := Lib.hid s4
  all_goals have O4 := Lib.hid o4
  all_goals have Q4 := Lib.hid q4
  all_goals clear b4 r4 s4 o4 q4 hxb
  all_goals go_wp2_with fail
  all_goals go_region_law
    (first
      | (refine step_append_bytes rfl (.tmp 12) (.tmp 15) rfl B (.slice (some ⟨g, 0, none⟩) (L.length + (form kk).length) cap3) (L ++ form kk) (by simp [Act.eval]) (by rw [List.length_append]; exact Hrow6.out) p6 M.length cp6 M (by simp [Act.eval]) HB6.out (by have := Hlen.out; rw [List.length_append]; omega) (by have := Hbe6.out.size; have := S4.out.size; omega) (by have := form_pos kk; rw [List.length_append]; omega) ?_
         intro g7 cap7 w7 g1 g2 g3
         have hst := form_step (n := L.length + ((form kk).length + M.length)) hbs (by have := S4.out.size; omega) HB4.out (by rw [List.length_append]; exact R4.out) Hbe6.out (by simp) g1 g2 g3
         have Hst := Lib.hid hst
         obtain ⟨⟨k0, k1⟩, _⟩ := hst
         clear g1 g2 g3)
      | (go_simp; go_at_call 24; (with_reducible refine (HC.out _).mono ?_); rintro e w5 ⟨rfl, hbe5⟩
         have Hbe5 := Lib.hid (show Below w4.heap.size w4 w5 from ((Below.refl _ _).drew).trans hbe5)
         have hc5 := cell_below Hbe5.out hc4
         clear hbe5)
      | (go_simp; rw [HM.out]; go_simp; (with_reducible refine (HK.out _).mono ?_); rintro e w6 ⟨v6, rfl, hv6, hbe6⟩
         obtain ⟨p6, cp6, rfl, hB6⟩ := own_slice hv6 Hc8.out
         have HB6 := Lib.hid hB6
         have Hbe6 := Lib.hid (show Below w4.heap.size w4 w6 from Hbe5.out.trans (hbe6.mono Hbe5.out.size))
         have Hrow6 := Lib.hid (own_below R4.out Hbe6.out)
         have hc6 := cell_below Hbe6.out hc4
         clear hv6 hbe6 hB6))
  all_goals obtain ⟨_, b8, r8, s8, o8, _⟩ := Hst.out
  all_goals have HD := Lib.hid (visit_done Hbw.out (by omega) Hal.out S4.out O4.out Q4.out b8 r8 s8 o8 (List.append_assoc L (form kk) M))
  all_goals clear Hst k0 k1 b8 r8 s8 o8 hc4 y0 y1 y2 y3 y4
  all_goals go_wp2
  all_goals go_ret
  all_goals exact ⟨rfl, HD.out⟩
end Go.Proofs.YtpnfnmeilhiebaaGreatDoor

/- Valid and Count of the code. -/
namespace Go.Proofs.YtpnfnmeilhiebaaGreatDoor
open Go.RowKit Go.Shelf Fl

theorem test_right : ∀ (t : Nat) (v : V) (d : Nat), smallN t v = true → d ≤ 8 → walkB testB t v d = rightN (8 - d) v
  | 0, v, d, h, _ => by simp [smallN] at h
  | t + 1, .mk k n f s l, d, h, hd => by
    have hl : ∀ u ∈ l, smallN t u = true := by
      have h' : l.all (smallN t) = true := h
      exact List.all_eq_true.1 h'
    rw [walkB]
    change (testB (.mk k n f s l) d && l.all (fun u => walkB testB t u (d + 1))) = _
    by_cases hF : FieldsOk (.mk k n f s l) ∧ 0 ≤ k ∧ k ≤ 4
    · have hb : bareB (.mk k n f s l) = true := decide_eq_true hF
      rw [show testB (.mk k n f s l) d = (decide (k ≠ 4) || decide (d < 8)) from by unfold testB; rw [hb, Bool.true_and]; rfl]
      by_cases h4 : k = 4
      · by_cases h8 : d < 8
        · have e : l.all (fun u => walkB testB t u (d + 1)) = l.all (rightN (8 - (d + 1))) := by
            rw [Bool.eq_iff_iff, List.all_eq_true, List.all_eq_true]
            constructor
            · intro g u hu
              rw [← test_right t u (d + 1) (hl u hu) (by omega)]
              exact g u hu
            · intro g u hu
              rw [test_right t u (d + 1) (hl u hu) (by omega)]
              exact g u hu
          rw [decide_eq_true h8, Bool.or_true, Bool.true_and, e, show 8 - d = (8 - (d + 1)) + 1 by omega]
          exact (rightN_list hF.1 h4).symm
        · have e : 8 - d = 0 := by omega
          rw [decide_eq_false h8, decide_eq_false (fun h => h h4), e]
          unfold rightN
          rw [decide_eq_false (show ¬ (V.mk k n f s l).kind ≠ 4 from fun h => h h4)]
          simp
      · have hnil : l = [] := hF.1.2.2.2.resolve_left h4
        subst hnil
        rw [decide_eq_true h4, rightN_plain hF.1 h4 hF.2]
        rfl
    · have hb : bareB (.mk k n f s l) = false := decide_eq_false hF
      rw [show testB (.mk k n f s l) d = false from by unfold testB; rw [hb, Bool.false_and], Bool.false_and]
      by_cases h1 : FieldsOk (.mk k n f s l)
      · exact (rightN_kind (v := .mk k n f s l) (fun h => hF ⟨h1, h⟩)).symm
      · exact (rightN_fields h1).symm

theorem valid_walk (t : Nat) (ht : t ≤ 1000) (v : V) (x : Array Value) (w : World) (hs : smallN t v = true) (hv : VIn w v x) :
    Calls Tryz.prog 21 #[.agg x, .int .i64 0, .func (.func 27) #[] #[]] w fun e w' => e = .returned (.bool (rightN 8 v)) ∧ Below w.heap.size w w' := by
  have h := walk_any w 27 #[] (enters_of Tryz.func27 (by kernel_rfl) rfl) testB (fun _ _ => True) (fun _ _ => False) (fun _ => True) (fun _ _ _ => trivial) (fun _ _ _ _ h => h.elim) (fun _ _ _ _ _ => ⟨trivial, fun _ h => h⟩)
    (fun acc u xs d w1 _ _ hw1 hu _ => by
      obtain ⟨k, n, f, s, l⟩ := u
      obtain ⟨_, _, hf, hs, _, a, cap, rfl, _⟩ := hu.parts
      refine (visit_valid k n f s a l cap d w1 hf hs).mono ?_
      rintro e w2 ⟨rfl, hb⟩
      exact ⟨rfl, trivial, hb.mono hw1.size, fun b hb' _ => hb.block b hb'⟩)
    t v 0 [] x w hs (by omega) trivial trivial (Below.refl _ _) hv
  rw [test_right t v 0 hs (by omega)] at h
  exact h.mono fun e w' h => ⟨h.1, h.2.2⟩

set_option maxRecDepth 100000 in
set_option maxHeartbeats 1600000 in
theorem valid_any (t : Nat) (ht : t ≤ 1000) (v : V) (x : Array Value) (w : World) (hs : smallN t v = true) (hv : VIn w v x) :
    Calls Tryz.prog 9 #[.agg x] w fun e w' => e = .returned (.bool (rightN 8 v)) ∧ Below w.heap.size w w' := by
  obtain ⟨_, _, _, _, _, a, cap, rfl, _⟩ := hv.parts
  have hal := (Below.refl w.heap.size w).alloc (Nat.le_refl _) (.cells (cells5 v.kind v.n v.f v.s a v.l.length cap) 25)
  have HA := Lib.hid hal
  have HW := Lib.hid (valid_walk t ht v _ _ hs (hv.below hal))
  have HM := Lib.hid hal.size
  clear hv hs ht hal
  unfold cells5 at *
  go_enter Tryz.func9, Tryz.ntmps9
  go_wp2_with fail
  refine HW.out.mono ?_
  rintro e w1 ⟨rfl, hb⟩
  have HB := Lib.hid (HA.out.trans (hb.mono HM.out))
  clear hb
  go_wp2
  go_ret
  exact ⟨rfl, HB.out⟩
end Go.Proofs.YtpnfnmeilhiebaaGreatDoor

/- The walk of the reference's Text: it returns the plain text. -/
namespace Go.Proofs.YtpnfnmeilhiebaaGreatDoor
open Go.RowKit Fl

def hexD (d : Nat) : Nat := if d < 10 then 48 + d else 87 + d
/-- The first j of the 16 digits. -/
def hexs (x : Nat) : Nat → List Nat
  | 0 => []
  | j + 1 => hexs x j ++ [hexD (x / 2 ^ (4 * (15 - j)) % 16)]

def textL (x : Nat) : List Nat :=
  if x = Q then [110, 97, 110] else if x = I then [105, 110, 102] else if x = W + I then [45, 105, 110, 102] else if x = 0 then [48] else if x = W then [45, 48] else 120 :: hexs x 16

theorem and15 {y : Nat} (h : y < 18446744073709551616) : bits .and .u64 (y : Int) 15 = ((y % 16 : Nat) : Int) := by
  have h1 := u64_and_nat y 15 h (by omega)
  have h2 := Nat.and_two_pow_sub_one_eq_mod y 4
  rw [show (2 : Nat) ^ 4 - 1 = 15 by decide, show (2 : Nat) ^ 4 = 16 by decide] at h2
  rw [h2] at h1
  exact h1

theorem digit_int (x u : Nat) : (x : Int) / 2 ^ (4 * u) = ((x / 2 ^ (4 * u) : Nat) : Int) := by
  rw [Int.natCast_ediv, Int.natCast_pow]
  rfl

theorem hexs_len (x j : Nat) : (hexs x j).length = j := by
  induction j with
  | zero => rfl
  | succ j ih => rw [hexs, List.length_append, ih]; rfl

theorem digit_all : ∀ d : Fin 16, (ByteArray.mk #[48, 49, 50, 51, 52, 53, 54, 55, 56, 57, 97, 98, 99, 100, 101, 102]).extract d.val (d.val + 1) = str [hexD d.val] := by decide +kernel

theorem digit_cat {d : Nat} (h : d < 16) (L : List Nat) : str L ++ (ByteArray.mk #[48, 49, 50, 51, 52, 53, 54, 55, 56, 57, 97, 98, 99, 100, 101, 102]).extract d (d + 1) = str (L ++ [hexD d]) := by
  rw [digit_all ⟨d, h⟩, str_append]

def TextRel (x : Nat) (s i : Value) : Prop := ∃ t : Nat, t ≤ 16 ∧ i = .int .i64 ((t : Int) - 1) ∧ s = .string (str (120 :: hexs x (16 - t)))

set_option maxRecDepth 100000 in
set_option maxHeartbeats 800000 in
theorem rtext_any (b : Nat) (w : World) (hb : b < 18446744073709551616) :
    Calls Tryz.prog 46 #[.float .f64 b] w fun e w' => e = .returned (.string (str (textL (bitsB b)))) ∧ w = w' := by
  have H1 := Lib.hid (rbits_any b w hb)
  have hlt := bitsB_lt hb
  clear hb
  generalize bitsB b = x at *
  by_cases c1 : x = Q
  · have Hf := Lib.hid (show textL x = [110, 97, 110] from if_pos c1)
    have d1 : ((x : Int) == 9221120237041090561) = true := beq_iff_eq.2 (by rw [c1]; rfl)
    rw [Hf.out]
    clear c1 hlt
    go_enter Tryz.func46, Tryz.ntmps46
    go_wp2_with fail
    refine H1.out.mono ?_
    rintro e w' ⟨rfl, rfl⟩
    go_wp2
    go_ret
    exact ⟨rfl, rfl⟩
  have d1 : ((x : Int) == 9221120237041090561) = false := beq_eq_false_iff_ne.2 (by unfold Q at c1; omega)
  by_cases c2 : x = I
  · have Hf := Lib.hid (show textL x = [105, 110, 102] by unfold textL; rw [if_neg c1, if_pos c2])
    have d2 : ((x : Int) == 9218868437227405312) = true := beq_iff_eq.2 (by rw [c2]; rfl)
    rw [Hf.out]
    clear c1 c2 hlt
    go_enter Tryz.func46, Tryz.ntmps46
    go_wp2_with fail
    refine H1.out.mono ?_
    rintro e w' ⟨rfl, rfl⟩
    go_wp2
    go_ret
    exact ⟨rfl, rfl⟩
  have d2 : ((x : Int) == 9218868437227405312) = false := beq_eq_false_iff_ne.2 (by unfold I at c2; omega)
  by_cases c3 : x = W + I
  · have Hf := Lib.hid (show textL x = [45, 105, 110, 102] by unfold textL; rw [if_neg c1, if_neg c2, if_pos c3])
    have d3 : ((x : Int) == 18442240474082181120) = true := beq_iff_eq.2 (by rw [c3]; rfl)
    rw [Hf.out]
    clear c1 c2 c3 hlt
    go_enter Tryz.func46, Tryz.ntmps46
    go_wp2_with fail
    refine H1.out.mono ?_
    rintro e w' ⟨rfl, rfl⟩
    go_wp2
    go_ret
    exact ⟨rfl, rfl⟩
  have d3 : ((x : Int) == 18442240474082181120) = false := beq_eq_false_iff_ne.2 (by unfold I W at c3; omega)
  by_cases c4 : x = 0
  · have Hf := Lib.hid (show textL x = [48] by unfold textL; rw [if_neg c1, if_neg c2, if_neg c3, if_pos c4])
    have d4 : ((x : Int) == 0) = true := beq_iff_eq.2 (by omega)
    rw [Hf.out]
    clear c1 c2 c3 c4 hlt
    go_enter Tryz.func46, Tryz.ntmps46
    go_wp2_with fail
    refine H1.out.mono ?_
    rintro e w' ⟨rfl, rfl⟩
    go_wp2
    go_ret
    exact ⟨rfl, rfl⟩
  have d4 : ((x : Int) == 0) = false := beq_eq_false_iff_ne.2 (by omega)
  by_cases c5 : x = W
  · have Hf := Lib.hid (show textL x = [45, 48] by unfold textL; rw [if_neg c1, if_neg c2, if_neg c3, if_neg c4, if_pos c5])
    have d5 : ((x : Int) == 9223372036854775808) = true := beq_iff_eq.2 (by rw [c5]; rfl)
    rw [Hf.out]
    clear c1 c2 c3 c4 c5 hlt
    go_enter Tryz.func46, Tryz.ntmps46
    go_wp2_with fail
    refine H1.out.mono ?_
    rintro e w' ⟨rfl, rfl⟩
    go_wp2
    go_ret
    exact ⟨rfl, rfl⟩
  have d5 : ((x : Int) == 9223372036854775808) = false := beq_eq_false_iff_ne.2 (by unfold W at c5; omega)
  have Hf := Lib.hid (show textL x = 120 :: hexs x 16 by unfold textL; rw [if_neg c1, if_neg c2, if_neg c3, if_neg c4, if_neg c5])
  rw [Hf.out]
  clear c1 c2 c3 c4 c5
  go_enter Tryz.func46, Tryz.ntmps46
  go_wp2_with fail
  refine H1.out.mono ?_
  rintro e w' ⟨rfl, rfl⟩
  go_wp2
  go_loop [4, 5] (fun s i => TextRel x s i) (fun _ i => (intOf i + 1).toNat)
  case atStart => exact ⟨16, Nat.le_refl _, rfl, rfl⟩
  case round =>
    obtain ⟨t, ht, rfl, rfl⟩ := hrel
    by_cases h0 : t = 0
    · subst h0
      go_wp2
      go_ret
      exact ⟨rfl, rfl⟩
    · obtain ⟨u, rfl⟩ : ∃ u, t = u + 1 := ⟨t - 1, by omega⟩
      rw [show (((u + 1 : Nat) : Int) - 1) = (u : Int) by omega]
      have hu : u ≤ 15 := by omega
      have hy : x / 2 ^ (4 * u) < 18446744073709551616 := Nat.lt_of_le_of_lt (Nat.div_le_self _ _) hlt
      have ha := and15 hy
      rw [← digit_int] at ha
      have hd : x / 2 ^ (4 * u) % 16 < 16 := Nat.mod_lt _ (by omega)
      generalize hdd : x / 2 ^ (4 * u) % 16 = d at ha hd
      have Hd := Lib.hid hdd
      clear hdd hy h0 ht
      generalize hL : (120 :: hexs x (16 - (u + 1))) = L
      have HL := Lib.hid hL
      have hsz : (str L).size ≤ 16 := by rw [str_size, ← hL, List.length_cons, hexs_len]; omega
      clear hL
      have hcat := digit_cat hd L
      go_wp2
      go_round
      case rel =>
        refine ⟨u, by omega, rfl, ?_⟩
        have e : 16 - u = (16 - (u + 1)) + 1 := by omega
        have e2 : 15 - (16 - (u + 1)) = u := by omega
        rw [e, hexs, e2, Hd.out, ← List.cons_append, HL.out]
      case measure => simp [intOf]
end Go.Proofs.YtpnfnmeilhiebaaGreatDoor

