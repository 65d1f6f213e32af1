import Derived.Test.YtnbddiiedagllaaGreatSSB25
import Derived.Test.YtnbddiiedagllaaGreatSSB20
import Derived.Test.YtnbddiiedagllaaGreatSSB13
import Derived.OwnWalkIn
import Derived.TacticsInMore
import Derived.LoopNIn
import Derived.LoopIn
import Derived.Maps.OwnIn
import Derived.BigQuiet
import Derived.Deep.RegionHeld
import Derived.Maps.AppendAt
/- The walks of Size and of each: a sum over records; the iterator over the frames of bytes. -/
namespace Go.Proofs.YtnbddiiedagllaaGreat
open Go.RowKit Crc

attribute [local go_sem] Oper.semAt_some

theorem sizeL_take {ls : List (List Nat)} {k : Nat} (h : k < ls.length) : sizeL (ls.take (k + 1)) = sizeL (ls.take k) + ((ls.getD k []).length + 8) := by
 rw [List.take_succ_eq_append_getElem h, sizeL_append, sizeL_cons, sizeL_nil, List.getD_eq_getElem?_getD, List.getElem?_eq_getElem h]
 rfl

theorem sizeL_le {ls : List (List Nat)} {k : Nat} : sizeL (ls.take k) ≤ sizeL ls := by
 conv => rhs; rw [← List.take_append_drop k ls, sizeL_append]
 omega

set_option maxRecDepth 100000 in
theorem size_any (a : Option Addr) (n cap : Nat) (ls : List (List Nat)) (w : World) (hl : Parts w a n cap ls) (hm : sizeL ls ≤ 100000000000000) :
  Calls Tryz.prog 51 #[.slice a n cap] w fun e w' => e = .returned (.int .i64 (sizeL ls : Nat)) ∧ w = w' := by
 have hls := Lib.hid hl.len
 have hnb := hl.max
 have hP := Lib.hid hl
 clear hl
 go_enter Tryz.func51, Tryz.ntmps51
 go_wp2
 go_loop [3, 8] (fun t i => ∃ k : Nat, k ≤ n ∧ i = .int .i64 k ∧ t = .int .i64 (sizeL (ls.take k) : Nat)) (fun _ i => n - (intOf i).toNat)
 case atStart => exact ⟨0, Nat.zero_le _, rfl, rfl⟩
 case round =>
  obtain ⟨k, hk, rfl, rfl⟩ := hrel
  by_cases hlt : k < n
  ·obtain ⟨b, o, a', n', c', rfl, hc, hB⟩ := bytes_get_all hP.out hlt
   have hle := sizeL_le (ls := ls) (k := k + 1)
   have hs := sizeL_take (ls := ls) (show k < ls.length by rw [hls.out]; exact hlt)
   rw [hB.len] at hs
   have hle2 : sizeL (ls.take k) + (n' + 8) ≤ 100000000000000 := by omega
   have Hs := Lib.hid hs
   clear hs hle hB
   generalize sizeL (ls.take k) = s at *
   go_wp2
   go_round
   case rel => exact ⟨k + 1, by omega, by go_num, by rw [Hs.out]; go_num⟩
   case measure => simp [intOf]; omega
  ·obtain rfl : k = n := by omega
   have ht : ls.take k = ls := by rw [← hls.out, List.take_length]
   rw [ht]
   go_wp2
   go_ret
   exact ⟨rfl, rfl⟩

set_option maxRecDepth 100000 in
theorem each_any (a : Option Addr) (n cap : Nat) (w : World) :
  Calls Tryz.prog 199 #[.slice a n cap] w fun e w' => e = .returned (.func (.func 208) #[] #[.pointer (some ⟨w.heap.size, 0, none⟩)]) ∧ w' = w.alloc (.cells #[.slice a n cap] 58) := by
 go_enter Tryz.func199, Tryz.ntmps199
 go_wp2
 go_ret
 exact ⟨rfl, rfl⟩

structure Rec where
 p : Option Addr
 cp : Nat
 l : List Nat

def recEnc (x : Rec) : Array Value := #[.slice x.p x.l.length x.cp]
def RecAt (N : Nat) (x : Rec) (W : World) : Prop := Bytes W x.p x.l.length x.cp x.l ∧ ∀ y, x.p = some y → N ≤ y.block

def lenOf : Value → Nat
 | .slice _ n _ => n
 | _ => 0

def Rest (a : Option Addr) (n cap j : Nat) (v : Value) : Prop := ∃ a', v = .slice a' (n - j) (cap - j) ∧ j ≤ n ∧ (j < n → Formed a' (cap - j)) ∧ ∀ (w : World) (l : List Nat), Bytes w a n cap l → Bytes w a' (n - j) (cap - j) (l.drop j)

theorem Rest.start {w : World} {a : Option Addr} {n cap : Nat} {l : List Nat} (h : Bytes w a n cap l) : Rest a n cap 0 (.slice a n cap) :=
 ⟨a, rfl, Nat.zero_le _, fun hn => by obtain ⟨b, o, rfl, _⟩ := h.cell hn; exact formed_at b o _, fun _ _ h => h⟩

theorem Rest.next {a : Option Addr} {n cap j k : Nat} {a' : Option Addr} (hj : j + k ≤ n) (hk : 0 < k) (hn : n ≤ cap) (hf : j < n → Formed a' (cap - j)) (hB : ∀ (w : World) (l : List Nat), Bytes w a n cap l → Bytes w a' (n - j) (cap - j) (l.drop j)) :
  ∃ v, (∀ (w : World) (kl : IntKind), (Instr.slice 58 (.slice a' (n - j) (cap - j)) (some (.int kl (k : Int))) none none).run Tryz.prog w = .ok v w) ∧ Rest a n cap (j + k) v ∧ lenOf v = n - (j + k) := by
 obtain ⟨q, h1, h2, h3⟩ := slice_from (P := Tryz.prog) (T := 58) (E := 5) Tryz.underlying58 info_u8 (a := a') (n := n - j) (c := cap - j) (k := k) (by omega) (by omega) (hf (by omega))
 refine ⟨.slice q (n - j - k) (cap - j - k), h1, ⟨q, by rw [Nat.sub_sub, Nat.sub_sub], hj, fun _ => by rw [← Nat.sub_sub]; exact h2, fun w l h => ?_⟩, by show n - j - k = _; omega⟩
 have := h3 w _ (hB w l h)
 rw [List.drop_drop] at this
 rw [Nat.sub_sub, Nat.sub_sub] at this
 exact this

theorem splits_end {L : List Nat} {pre : List Rec} {j : Nat} (hL : L = joinL (pre.map Rec.l) ++ L.drop j) (hr : ∀ r ∈ pre, r.l.length ≤ 1048576) (hno : NoFrame (L.drop j)) : ∃ t, Splits L (pre.map Rec.l) t :=
 ⟨_, hL, fun r h => by obtain ⟨x, hx, rfl⟩ := List.mem_map.1 h; exact hr x hx, hno⟩

theorem splits_more {L : List Nat} {pre : List Rec} {j : Nat} {x : Rec} {t : List Nat} (hj : j ≤ L.length) (hL : L = joinL (pre.map Rec.l) ++ L.drop j) (hd : L.drop j = frameL x.l ++ t) :
  j + (x.l.length + 8) ≤ L.length ∧ L = joinL ((pre ++ [x]).map Rec.l) ++ L.drop (j + (x.l.length + 8)) := by
 have h1 := congrArg List.length hd
 rw [List.length_drop, List.length_append, frameL_len] at h1
 refine ⟨by omega, ?_⟩
 rw [← List.drop_drop, hd, ← frameL_len, List.drop_left, List.map_append, List.map_cons, List.map_nil, joinL_snoc, List.append_assoc, ← hd]
 exact hL

theorem joinL_many : ∀ ls : List (List Nat), ls.length ≤ (joinL ls).length
 | [] => Nat.le_refl _
 | r :: ls => by
  have := joinL_many ls
  rw [joinL_cons, List.length_append, frameL_len, List.length_cons]
  omega

theorem pre_len {L : List Nat} {pre : List Rec} {t : List Nat} (hL : L = joinL (pre.map Rec.l) ++ t) : pre.length ≤ L.length := by
 have h1 := joinL_many (pre.map Rec.l)
 have h2 := congrArg List.length hL
 rw [List.length_append] at h2
 rw [List.length_map] at h1
 omega

set_option maxRecDepth 100000 in
set_option maxHeartbeats 2000000 in
theorem each1_told (n : Nat) (hn : 2 ≤ n) (Bn : Nat) (a : Option Addr) (k cap : Nat) (L : List Nat) (hk : k ≤ 100000000000000) (I : List Rec → Nat → World → Prop)
  (hI : ∀ s N W, I s N W → Bytes W a k cap L ∧ W.cell? ⟨Bn, 0, none⟩ = some (.slice a k cap)) :
  Told n Tryz.prog 208 #[.pointer (some ⟨Bn, 0, none⟩)] recEnc I RecAt (fun xs => ∃ t, Splits L (xs.map Rec.l) t) (k + 1) := by
 intro l J W N hg hm hJI hY h0
 obtain ⟨hB0, hc0⟩ := hI _ _ _ (hJI _ _ _ h0)
 refine callsIn_of_wp Tryz.func208 rfl trivial ?_ rfl
 simp only [Tryz.ntmps208, List.size_toArray, List.length_cons, List.length_nil, Nat.reduceAdd, Nat.reduceSub, Array.replicate_succ, Array.replicate_zero, List.push_toArray, List.append_toArray, List.nil_append, List.cons_append]
 gi_wp2
 gi_loopw [3] (fun u wr => ∃ (pre : List Rec) (N' j : Nat), Rest a k cap j u ∧ (∀ r ∈ pre, r.l.length ≤ 1048576) ∧ L = joinL (pre.map Rec.l) ++ L.drop j ∧ J pre N' wr) (fun u _ => lenOf u)
 case atStart => exact ⟨[], N, 0, Rest.start hB0, fun r h => (by cases h), rfl, h0⟩
 case round =>
  obtain ⟨pre, N', j, ⟨a', rfl, hj, hf, hR⟩, hr, hL, hJ⟩ := hrel
  obtain ⟨hB, _⟩ := hI _ _ _ (hJI _ _ _ hJ)
  have hB' := hR wr L hB
  have Hj := Lib.hid (hm _ _ _ hJ)
  have HX := Lib.hid (next_any a' (k - j) (cap - j) (L.drop j) wr hB' (by omega))
  gi_wp2_with fail
  refine ⟨trivial, fun _ => by omega, (callsIn_wide.2 HX.out).mono ?_⟩
  rintro e w1 ⟨hb1, ⟨r, t, p, cp, hd, hrm, rfl, hBr, hfr, _⟩ | ⟨hno, rfl⟩⟩
  ·have hz : (((r.length : Int) + 8) == 0) = false := by rw [beq_eq_false_iff_ne]; omega
   have hm := splits_more (x := ⟨p, cp, r⟩) (by rw [hB.len]; exact hj) hL hd
   rw [hB.len] at hm
   obtain ⟨v, hv0, hRv, hlv⟩ := Rest.next hm.1 (by show 0 < r.length + 8; omega) hB.le hf hR
   have hv := fun w => hv0 w .i64
   rw [show ((({ p := p, cp := cp, l := r } : Rec).l.length + 8 : Nat) : Int) = (r.length : Int) + 8 from rfl] at hv
   obtain ⟨fn, tmps, assign, body, hy, hRd⟩ := hY pre ⟨p, cp, r⟩ wr.heap.size w1 (hg _ _ _ _ Hj.out hb1) ⟨hBr, hfr⟩ (by have := pre_len hL; rw [hB.len] at this; omega)
   dsimp only [recEnc] at hy
   have Hlv := Lib.hid hlv
   have HRv := Lib.hid hRv
   have Hm := Lib.hid hm.2
   have Hm1 := Lib.hid hm.1
   clear HX hB' hB hd hBr hfr hv0 hlv hRv hm hL hR hf
   gi_wp2
   refine ⟨fun _ => by omega, hRd.mono ?_⟩
   rintro e W3 ⟨rfl, N3, hJ3⟩
   gi_wp2
   go_roundw
   case rel =>
    refine ⟨pre ++ [⟨p, cp, r⟩], N3, j + (r.length + 8), HRv.out, fun x hx => ?_, Hm.out, hJ3⟩
    rcases List.mem_append.1 hx with hx | hx
    ·exact hr x hx
    ·rw [List.mem_singleton.1 hx]; exact hrm
   case measure =>
    have e1 : lenOf v = k - (j + (r.length + 8)) := Hlv.out
    have e2 : j + (r.length + 8) ≤ k := Hm1.out
    rw [e1]
    show k - (j + (r.length + 8)) < k - j
    omega
  ·have Hno := Lib.hid hno
   clear HX hno
   gi_wp2
   refine ⟨fun _ h => (by cases h), ?_⟩
   gi_wp2
   refine bodyPost_ret (results_none rfl _ _ _) rfl ?_
   exact ⟨⟨_, rfl⟩, pre, _, hg _ _ _ _ Hj.out hb1, splits_end hL hr Hno.out⟩
end Go.Proofs.YtnbddiiedagllaaGreat

/- The walk of Split, of the code: a loop over the iterator that collects the records. -/
namespace Go.Proofs.YtnbddiiedagllaaGreat
open Go.RowKit Go.Shelf Crc

attribute [local go_sem] Oper.semAt_some

theorem cell_not_cells {W : World} {l : Nat} {o : Obj} (h : W.heap[l]? = some o) (ho : o.isCells = false) (i : Nat) : W.cell? ⟨l, i, none⟩ = none := by
 unfold World.cell?
 rw [h]
 cases o <;> first | rfl | cases ho

theorem Bytes.not_obj {W : World} {a : Option Addr} {n c l : Nat} {bs : List Nat} {o : Obj} (h : Bytes W a n c bs) (hn : 0 < n) (hl : W.heap[l]? = some o) (ho : o.isCells = false) : ∀ x, a = some x → x.block ≠ l := by
 rintro x rfl e
 obtain ⟨b, off, e2, hc⟩ := h.cell hn
 cases e2
 have e3 : b = l := e
 subst e3
 have h0 := hc 0 hn
 rw [cell_not_cells hl ho] at h0
 cases h0

theorem Bytes.putObj {W : World} {a : Option Addr} {n c l : Nat} {bs : List Nat} {o o' : Obj} (h : Bytes W a n c bs) (hl : W.heap[l]? = some o) (ho : o.isCells = false) : Bytes (W.putObj l o') a n c bs :=
 h.off fun hn x hx _ => World.putObj_heap_other (fun e => h.not_obj hn hl ho x hx e)

theorem OwnParts.lt {W : World} {base : Nat} {v : Value} {ls : List (List Nat)} (h : OwnParts W base v ls) : ∀ k, v.ownBlock = some k → base ≤ k ∧ k < W.heap.size := by
 obtain ⟨vs, h1, h2, h3⟩ := h
 exact fun k hk => h2.lt k hk

theorem OwnParts.base {W : World} {b b' : Nat} {v : Value} {ls : List (List Nat)} (h : OwnParts W b v ls) (hb : b' ≤ b) : OwnParts W b' v ls := by
 obtain ⟨vs, h1, h2, h3⟩ := h
 exact ⟨vs, h1, own_base h2 hb, h3⟩

end Go.Proofs.YtnbddiiedagllaaGreat

/- The walk of the reference's Next. -/
namespace Go.Proofs.YtnbddiiedagllaaGreat
open Go.RowKit Crc

def OpenAt (b o m cap : Nat) (w : World) (l : List Nat) (e : Ending) (w' : World) : Prop :=
 Below w.heap.size w w' ∧ ((∃ x, sealL x = l ∧ e = .returned (.tuple #[.slice (some ⟨b, o, none⟩) m cap, .bool true]) ∧ Bytes w' (some ⟨b, o, none⟩) m cap x) ∨ ((∀ b, sealL b ≠ l) ∧ e = .returned (.tuple #[.slice none 0 0, .bool false])))

set_option maxRecDepth 100000 in
set_option maxHeartbeats 1600000 in
theorem ropen_at (b o m cap : Nat) (l : List Nat) (w : World) (hl : Bytes w (some ⟨b, o, none⟩) (m + 4) cap l) (hm : m ≤ 100000000000000) :
  Calls Tryz.prog 149 #[.slice (some ⟨b, o, none⟩) (m + 4) cap] w (OpenAt b o m cap w l) := by
 have HB := Lib.hid hl
 have hle := hl.le
 have HT := Lib.hid (hl.takeTo (m := m) (c := cap) (by omega) (by omega) (Nat.le_refl _))
 have HD := hl.dropTo (m := m) (by omega)
 rw [show m + 4 - m = 4 by omega] at HD
 have HD := Lib.hid HD
 rename_i HD0; clear hl HD0
 have hd : decide ((m : Int) < 0) = false := decide_eq_false (by omega)
 have hbd : Below w.heap.size w w.drew := (Below.refl _ _).drew
 have HTd := Lib.hid (HT.out.grow hbd)
 have HDd := Lib.hid (HD.out.grow hbd)
 have hs : inv (feedL 4294967295 (l.take m)) < 4294967296 := by unfold inv; omega
 have HR := Lib.hid (rsum_any (some ⟨b, o, none⟩) m cap (l.take m) w.drew HTd.out)
 have HL := Lib.hid (little_any (inv (feedL 4294967295 (l.take m))) w.drew hs)
 have hsl : sealL (l.take m) = l.take m ++ little (inv (feedL 4294967295 (l.take m))) := rfl
 generalize inv (feedL 4294967295 (l.take m)) = s at *
 have Hsl := Lib.hid hsl
 clear hsl
 have hS0 := convert_bytes (P := Tryz.prog) HDd.out 58 5 9 Tryz.underlying58 Tryz.underlying5 Tryz.underlying9
 have hcm : ¬ (cap = m) := by omega
 have hi1 : (m : Int) ≤ (cap : Int) := by omega
 have hi2 : (0 : Int) ≤ (m : Int) := by omega
 have hi3 : (m : Int) ≤ (m : Int) + 4 := by omega
 have hi4 : (m : Int) + 4 ≤ (cap : Int) := by omega
 by_cases hq : little s = l.drop m
 ·have hqb : ((str (little s)).toList == (str (l.drop m)).toList) = true := by rw [hq]; exact str_eq _
  have Hq := Lib.hid hq
  clear hq
  go_enter Tryz.func149, Tryz.ntmps149
  go_wp2
  go_region_held (fun w' => (convert 58 9 (.slice (some ⟨b, o + m, none⟩) 4 (cap - m))).run Tryz.prog w' = .ok (.string (str (l.drop m))) w')
   (first | exact hS0 | exact hS1)
   (first
    | (go_at_call 158; (with_reducible refine HR.out.mono ?_); rintro e w0 ⟨rfl, rfl⟩)
    | (go_at_call 116; (with_reducible refine HL.out.mono ?_); rintro e w1 ⟨v, rfl, hown, hb1⟩; obtain ⟨p, cp, rfl, hC⟩ := own_slice hown (little_lt hs); have hS1 := convert_bytes (P := Tryz.prog) (HDd.out.grow hb1) 58 5 9 Tryz.underlying58 Tryz.underlying5 Tryz.underlying9; have hS2 := convert_bytes (P := Tryz.prog) hC 58 5 9 Tryz.underlying58 Tryz.underlying5 Tryz.underlying9; clear hown hC))
  all_goals go_wp2
  all_goals go_ret2
  all_goals exact ⟨hbd.trans hb1, .inl ⟨l.take m, by rw [Hsl.out, Hq.out, List.take_append_drop], rfl, HTd.out.grow hb1⟩⟩
 ·have hqb : ((str (little s)).toList == (str (l.drop m)).toList) = false := str_ne (little_lt hs) HD.out.byte hq
  have Hq := Lib.hid hq
  clear hq
  go_enter Tryz.func149, Tryz.ntmps149
  go_wp2
  go_region_held (fun w' => (convert 58 9 (.slice (some ⟨b, o + m, none⟩) 4 (cap - m))).run Tryz.prog w' = .ok (.string (str (l.drop m))) w')
   (first | exact hS0 | exact hS1)
   (first
    | (go_at_call 158; (with_reducible refine HR.out.mono ?_); rintro e w0 ⟨rfl, rfl⟩)
    | (go_at_call 116; (with_reducible refine HL.out.mono ?_); rintro e w1 ⟨v, rfl, hown, hb1⟩; obtain ⟨p, cp, rfl, hC⟩ := own_slice hown (little_lt hs); have hS1 := convert_bytes (P := Tryz.prog) (HDd.out.grow hb1) 58 5 9 Tryz.underlying58 Tryz.underlying5 Tryz.underlying9; have hS2 := convert_bytes (P := Tryz.prog) hC 58 5 9 Tryz.underlying58 Tryz.underlying5 Tryz.underlying9; clear hown hC))
  all_goals go_wp2
  all_goals go_ret2
  all_goals refine ⟨hbd.trans hb1, .inr ⟨fun x hx => Hq.out ?_, rfl⟩⟩
  all_goals
   have hlx : x.length = m := by have := sealL_len x; rw [hx, HB.out.len] at this; omega
   have e1 : l.take m = x := by rw [← hx, ← hlx]; exact List.take_left
   have e2 : l = l.take m ++ little s := by rw [← Hsl.out, e1, hx]
   have e3 : l.drop m = little s := by
    conv => lhs; rw [e2]
    rw [List.drop_append_of_le_length (by rw [List.length_take, HB.out.len]; omega), List.drop_eq_nil_of_le (by rw [List.length_take]; omega)]; rfl
   exact e3.symm

def RNextEnd (a : Option Addr) (w : World) (l : List Nat) (e : Ending) (w' : World) : Prop :=
 Below w.heap.size w w' ∧ ((∃ r t p cp, l = frameL r ++ t ∧ r.length ≤ 1048576 ∧ e = .returned (.tuple #[.slice p r.length cp, .int .i64 ((r.length + 8 : Nat) : Int)]) ∧ Bytes w' p r.length cp r ∧
   (∀ x, p = some x → ∃ y, a = some y ∧ x.block = y.block)) ∨
  (NoFrame l ∧ e = .returned (.tuple #[.slice none 0 0, .int .i64 0])))

theorem slice_rec4 (g o N cap : Nat) (hc : N + 4 ≤ cap) : ∃ p, (∀ w : World, (Instr.slice 58 (.slice (some ⟨g, o, none⟩) (N + 4) cap) (some (.int .i64 4)) none none).run Tryz.prog w = .ok (.slice p N (cap - 4)) w) ∧
  (∀ x, p = some x → x.block = g) ∧ (0 < N → p = some ⟨g, o + 4, none⟩) ∧ p ≠ none := by
 obtain ⟨i, hi, _, hsz, _⟩ := info_parts info_u8
 have hT' : Tryz.prog.underlying 58 = some (.slice (Tryz.prog.elem 58)) := by kernel_rfl
 have hE : Tryz.prog.elem 58 = 5 := by kernel_rfl
 have hsize : ∀ w : World, (sizeOf (Tryz.prog.elem 58)).run Tryz.prog w = .ok 1 w := fun w => by rw [hE]; simp [sizeOf, typeInfo, hi, hsz]
 refine ⟨if cap = 4 then some ⟨g, o, none⟩ else (some ⟨g, o, none⟩ : Option Addr).map (·.add (4 * 1)), fun w => ?_, fun x hx => ?_, fun h => ?_, ?_⟩
 ·rw [show (Value.int .i64 4) = .int .i64 ((4 : Nat) : Int) from rfl, run_slice_l w 58 (some ⟨g, o, none⟩) (N + 4) cap hT' .i64 ((4 : Nat) : Int) (by omega) (by omega), hsize]
  rfl
 ·split at hx
  ·cases hx; rfl
  ·simp only [Option.map_some, addr_add] at hx
   cases hx; rfl
 ·rw [if_neg (by omega)]
  simp only [Option.map_some, addr_add]
 ·split <;> simp

set_option maxRecDepth 100000 in
theorem rnext_short (a : Option Addr) (n cap : Nat) (l : List Nat) (w : World) (hl : Bytes w a n cap l) (hn : n < 8) :
  Calls Tryz.prog 107 #[.slice a n cap] w (RNextEnd a w l) := by
 have HB := Lib.hid hl
 clear hl
 go_enter Tryz.func107, Tryz.ntmps107
 go_wp2
 go_ret2
 exact ⟨Below.refl _ _, .inr ⟨noFrame_short (by rw [HB.out.len]; exact hn), rfl⟩⟩

set_option maxRecDepth 100000 in
theorem rnext_long (b o n cap : Nat) (l : List Nat) (w : World) (hl : Bytes w (some ⟨b, o, none⟩) n cap l) (hn : 8 ≤ n) (hm : n ≤ 100000000000000) :
  Calls Tryz.prog 107 #[.slice (some ⟨b, o, none⟩) n cap] w (RNextEnd (some ⟨b, o, none⟩) w l) := by
 have HB := Lib.hid hl
 have hle := hl.le
 have hcm := hl.capmax
 obtain ⟨b', o', e, hc⟩ := hl.cell (by omega)
 cases e
 have c0 : w.cell? ⟨b, o, none⟩ = some (.int .u8 (byteAt l 0 : Nat)) := hc 0 (by omega)
 have c1 : w.cell? ⟨b, o + 1, none⟩ = some (.int .u8 (byteAt l 1 : Nat)) := hc 1 (by omega)
 have c2 : w.cell? ⟨b, o + 2, none⟩ = some (.int .u8 (byteAt l 2 : Nat)) := hc 2 (by omega)
 have c3 : w.cell? ⟨b, o + 3, none⟩ = some (.int .u8 (byteAt l 3 : Nat)) := hc 3 (by omega)
 have b0 := byteAt_lt hl.byte 0
 have b1 := byteAt_lt hl.byte 1
 have b2 := byteAt_lt hl.byte 2
 have b3 := byteAt_lt hl.byte 3
 obtain ⟨N, hN⟩ : ∃ N, N = num4 l := ⟨_, rfl⟩
 have hsum : ((byteAt l 0 : Nat) : Int) + ((byteAt l 1 : Nat) : Int) * 256 + ((byteAt l 2 : Nat) : Int) * 65536 + ((byteAt l 3 : Nat) : Int) * 16777216 = (N : Int) := by
  have e : N = byteAt l 0 + 256 * byteAt l 1 + 65536 * byteAt l 2 + 16777216 * byteAt l 3 := hN
  omega
 have Hsum := Lib.hid hsum
 have HF := Lib.hid hN
 clear hc hl hsum hN
 go_enter Tryz.func107, Tryz.ntmps107
 go_wp2
 go_quiet (fail)
 rw [Hsum.out]
 have hb1 := below_drewN (Below.refl w.heap.size w) nq
 generalize w.drewN nq = w1 at *
 generalize byteAt l 0 = x0 at *
 generalize byteAt l 1 = x1 at *
 generalize byteAt l 2 = x2 at *
 generalize byteAt l 3 = x3 at *
 have Hb1 := Lib.hid hb1
 clear c0 c1 c2 c3 b0 b1 b2 b3 Hsum hb1
 by_cases hN : N ≤ 1048576
 ·have hN1 : (N : Int) ≤ 1048576 := by omega
  by_cases hN2 : N + 8 ≤ n
  ·have hN3 : (N : Int) ≤ (n : Int) - 8 := by omega
   have hT : Bytes w1 (some ⟨b, o, none⟩) (N + 8) cap (l.take (N + 8)) := (HB.out.grow Hb1.out).takeTo hN2 (by omega) (Nat.le_refl _)
   have HO := Lib.hid (ropen_at b o (N + 4) cap (l.take (N + 8)) w1 hT (by omega))
   clear hT
   go_wp2_with fail
   refine HO.out.mono ?_
   rintro e w2 ⟨hb2, ⟨x, hx, rfl, hC⟩ | ⟨hno, rfl⟩⟩
   ·have hxl : x.length = N + 4 := hC.len
    obtain ⟨p, hp, hpb, hp4, hpn⟩ := slice_rec4 b o N cap (by omega)
    have HX := Lib.hid (frame_of_seal HF.out (by rw [HB.out.len]; exact hN2) hx HB.out.byte)
    have HC := Lib.hid hC
    have Hx := Lib.hid hxl
    have Hb2 := Lib.hid (Hb1.out.trans (hb2.mono Hb1.out.size))
    have Hp := Lib.hid hpb
    have Hp4 := Lib.hid hp4
    have Hpn := Lib.hid hpn
    clear hC hxl hx hb2 hpb hp4 HO hpn
    go_wp2
    go_ret2
    obtain ⟨e1, e2⟩ := HX.out
    refine ⟨Hb2.out, .inl ⟨x.drop 4, l.drop (N + 8), p, cap - 4, e1, by omega, by rw [e2]; rfl, ?_, fun y hy => ⟨_, rfl, Hp.out y hy⟩⟩⟩
    rw [e2]
    rcases Nat.eq_zero_or_pos N with h0 | h0
    ·have e3 : x.drop 4 = [] := List.length_eq_zero_iff.1 (by omega)
     rw [e3, h0]
     exact bytes_none (by omega) (fun h => absurd h Hpn.out)
    ·rw [Hp4.out h0]
     have hd := HC.out.dropTo (m := 4) (by omega)
     rw [show N + 4 - 4 = N by omega] at hd
     exact hd
   ·have Hno := Lib.hid hno
    have Hb2 := Lib.hid (Hb1.out.trans (hb2.mono Hb1.out.size))
    clear hno hb2 HO
    go_wp2
    go_ret2
    exact ⟨Hb2.out, .inr ⟨noFrame_seal HF.out Hno.out, rfl⟩⟩
  ·have hN3 : (n : Int) - 8 < (N : Int) := by omega
   go_wp2
   go_ret2
   exact ⟨Hb1.out, .inr ⟨noFrame_len (by rw [HB.out.len, ← HF.out]; omega), rfl⟩⟩
 ·have hN1 : 1048576 < (N : Int) := by omega
  go_wp2
  go_ret2
  exact ⟨Hb1.out, .inr ⟨noFrame_most (by rw [← HF.out]; omega), rfl⟩⟩

theorem rnext_any (a : Option Addr) (n cap : Nat) (l : List Nat) (w : World) (hl : Bytes w a n cap l) (hm : n ≤ 100000000000000) :
  Calls Tryz.prog 107 #[.slice a n cap] w (RNextEnd a w l) := by
 by_cases hn : n < 8
 ·exact rnext_short a n cap l w hl hn
 ·obtain ⟨b, o, rfl, _⟩ := hl.cell (by omega)
  exact rnext_long b o n cap l w hl (by omega) hm
end Go.Proofs.YtnbddiiedagllaaGreat

/- The walk of the reference's Split. -/
namespace Go.Proofs.YtnbddiiedagllaaGreat
open Go.RowKit Crc

theorem rsplit_more {L r t : List Nat} {ls : List (List Nat)} {j : Nat} (hj : j ≤ L.length) (hL : L = joinL ls ++ L.drop j) (hd : L.drop j = frameL r ++ t) :
  j + (r.length + 8) ≤ L.length ∧ L = joinL (ls ++ [r]) ++ L.drop (j + (r.length + 8)) := by
 have h1 := congrArg List.length hd
 rw [List.length_drop, List.length_append, frameL_len] at h1
 refine ⟨by omega, ?_⟩
 rw [← List.drop_drop, hd, ← frameL_len, List.drop_left, joinL_snoc, List.append_assoc, ← hd]
 exact hL

end Go.Proofs.YtnbddiiedagllaaGreat

