import Derived.WalkKit
import Derived.WalkLawsBesides
import Derived.WalkSpells
import Derived.Lib.Hide
import Derived.Laws.AppendOwnNone
import Derived.Laws.CopyOwn
import Derived.Test.YtnbddiiedagllaaGreatRows
import Derived.Laws.BytesArg
import Derived.Deep.QuietTactic
import Derived.BigQuiet
import Derived.Maps.OwnSet
import Derived.Maps.OwnOps
import Derived.Maps.RangeWalk
import Derived.Maps.AppendAt
import Derived.Sort.KeysCollected
/- Slices of bytes, and slices of these, as plain lists: what a world holds of them, and how it is kept while only new memory is made. -/
namespace Go.Proofs.YtnbddiiedagllaaGreat
open Go.RowKit

theorem u32_eq {a b : Nat} (h : a = b) : Value.int .u32 (a : Int) = Value.int .u32 (b : Int) := by rw [h]
theorem ret_u32 {a b : Nat} (h : a = b) : Ending.returned (.int .u32 (a : Int)) = Ending.returned (.int .u32 (b : Int)) := by rw [h]
theorem ret_bool {a b : Bool} (h : a = b) : Ending.returned (.bool a) = Ending.returned (.bool b) := by rw [h]

structure Bytes (w : World) (a : Option Addr) (n cap : Nat) (l : List Nat) : Prop where
 len : l.length = n
 le : n ≤ cap
 capmax : cap ≤ 9223372036854775807
 byte : ∀ x ∈ l, x < 256
 nil : a = none → cap = 0
 cell : 0 < n → ∃ b o, a = some ⟨b, o, none⟩ ∧ ∀ i, i < n → w.cell? ⟨b, o + i, none⟩ = some (.int .u8 (l.getD i 0 : Nat))

theorem Bytes.max {w : World} {a : Option Addr} {n cap : Nat} {l : List Nat} (h : Bytes w a n cap l) : n ≤ 9223372036854775807 := Nat.le_trans h.le h.capmax

theorem Bytes.get {w : World} {a : Option Addr} {n cap : Nat} {l : List Nat} (h : Bytes w a n cap l) {i : Nat} (hi : i < n) :
  l.getD i 0 < 256 := by
 have h1 := h.len
 rw [List.getD_eq_getElem?_getD, List.getElem?_eq_getElem (by omega)]
 exact h.byte _ (List.getElem_mem _)

theorem Bytes.lt {w : World} {b o n cap : Nat} {l : List Nat} (h : Bytes w (some ⟨b, o, none⟩) n cap l) (hn : 0 < n) : b < w.heap.size := by
 obtain ⟨b', o', e, hc⟩ := h.cell hn
 cases e
 exact World.block_lt_of_cell? _ _ (hc 0 hn)

theorem Bytes.keep {w w' : World} {a : Option Addr} {n cap : Nat} {l : List Nat} (h : Bytes w a n cap l) (hw : ∀ p : Addr, p.block < w.heap.size → (∀ x, a = some x → p.block = x.block) → w'.cell? p = w.cell? p) : Bytes w' a n cap l := by
 obtain ⟨h1, h2, h3, h4, h5, h6⟩ := h
 refine ⟨h1, h2, h3, h4, h5, fun hn => ?_⟩
 obtain ⟨b, o, rfl, hc⟩ := h6 hn
 exact ⟨b, o, rfl, fun i hi => by rw [hw ⟨b, o + i, none⟩ (World.block_lt_of_cell? _ _ (hc i hi)) (fun x hx => by cases hx; rfl)]; exact hc i hi⟩

theorem Bytes.grow {w w' : World} {a : Option Addr} {n cap : Nat} {l : List Nat} (h : Bytes w a n cap l) (hw : Below w.heap.size w w') : Bytes w' a n cap l :=
 h.keep fun _ hp _ => hw.cell hp

structure Parts (w : World) (a : Option Addr) (n cap : Nat) (ls : List (List Nat)) : Prop where
 len : ls.length = n
 le : n ≤ cap
 capmax : cap ≤ 9223372036854775807
 cell : 0 < n → ∃ b o, a = some ⟨b, o, none⟩ ∧ b < w.heap.size ∧
  ∀ i, i < n → ∃ a' n' c', w.cell? ⟨b, o + i, none⟩ = some (.slice a' n' c') ∧ Bytes w a' n' c' (ls.getD i [])

theorem Parts.max {w : World} {a : Option Addr} {n cap : Nat} {ls : List (List Nat)} (h : Parts w a n cap ls) : n ≤ 9223372036854775807 := Nat.le_trans h.le h.capmax

theorem Parts.grow {w w' : World} {a : Option Addr} {n cap : Nat} {ls : List (List Nat)} (h : Parts w a n cap ls) (hw : Below w.heap.size w w') : Parts w' a n cap ls := by
 obtain ⟨h1, h2, h3, h4⟩ := h
 refine ⟨h1, h2, h3, fun hn => ?_⟩
 obtain ⟨b, o, rfl, hb, hc⟩ := h4 hn
 refine ⟨b, o, rfl, Nat.lt_of_lt_of_le hb hw.size, fun i hi => ?_⟩
 obtain ⟨a', n', c', g1, g2⟩ := hc i hi
 exact ⟨a', n', c', by rw [hw.cell (p := ⟨b, o + i, none⟩) hb]; exact g1, g2.grow hw⟩

theorem Parts.byte {w : World} {a : Option Addr} {n cap : Nat} {ls : List (List Nat)} (h : Parts w a n cap ls) : ∀ l ∈ ls, ∀ x ∈ l, x < 256 := by
 intro l hl
 obtain ⟨i, hi, rfl⟩ := List.getElem_of_mem hl
 have hn : i < n := by rw [← h.len]; exact hi
 obtain ⟨b, o, _, _, hc⟩ := h.cell (by omega)
 obtain ⟨a', n', c', _, g2⟩ := hc i hn
 have e : ls.getD i [] = ls[i] := by rw [List.getD_eq_getElem?_getD, List.getElem?_eq_getElem hi]; rfl
 rw [← e]
 exact g2.byte

theorem byte_one {l : List Nat} (h : ∀ x ∈ l, x < 256) : ∀ m ∈ [l], ∀ x ∈ m, x < 256 := by
 intro m hm
 have e : m = l := by simpa using hm
 rw [e]
 exact h

theorem parts_one {w : World} {a : Option Addr} {n cap : Nat} {l : List Nat} (h : Bytes w a n cap l) (t : TypeId) :
  Parts (w.alloc (.cells #[.slice a n cap] t)) (some ⟨w.heap.size, 0, none⟩) 1 1 [l] := by
 refine ⟨rfl, Nat.le_refl _, by omega, fun _ => ⟨w.heap.size, 0, rfl, by simp, fun i hi => ?_⟩⟩
 obtain rfl : i = 0 := by omega
 refine ⟨a, n, cap, ?_, h.grow ((Below.refl _ _).alloc (Nat.le_refl _) _)⟩
 rw [Nat.zero_add, cell_of_row _ _ _ _ _ (0, 0) (heap_alloc_new _ _)]; rfl

theorem bytes_nil (w : World) : Bytes w none 0 0 [] := ⟨rfl, Nat.le_refl _, Nat.zero_le _, fun _ h => (by cases h), fun _ => rfl, fun h => absurd h (Nat.lt_irrefl _)⟩

theorem below_call {w w' : World} {o : Obj} (h : Below (w.alloc o).heap.size (w.alloc o) w') : Below w.heap.size w w' :=
 ((Below.refl _ _).alloc (Nat.le_refl _) o).trans (h.mono (by simp))

def u8s (l : List Nat) : List Value := l.map fun x : Nat => Value.int .u8 (x : Int)

theorem u8s_get {l : List Nat} {i : Nat} {u : Value} (h : (u8s l)[i]? = some u) : i < l.length ∧ u = .int .u8 (l.getD i 0 : Nat) := by
 unfold u8s at h
 rw [List.getElem?_map] at h
 obtain ⟨x, hx, rfl⟩ := Option.map_eq_some_iff.1 h
 obtain ⟨hi, rfl⟩ := List.getElem?_eq_some_iff.1 hx
 exact ⟨hi, by rw [List.getD_eq_getElem?_getD, hx]; rfl⟩

theorem u8s_one (l : List Nat) : ∀ u ∈ u8s l, u.oneCell' = true := by
 intro u hu
 obtain ⟨x, _, rfl⟩ := List.mem_map.1 hu
 rfl

theorem u8s_append (a b : List Nat) : u8s (a ++ b) = u8s a ++ u8s b := List.map_append

theorem bytes_of_own {w : World} {base : Nat} {e : TypeId} {a : Option Addr} {n cap m : Nat} {l : List Nat} (h : w.ownsRow base e 1 (.slice a n cap) m (u8s l)) (hb : ∀ x ∈ l, x < 256) :
  Bytes w a n cap l := by
 have hlen : l.length = m := by have := h.1; simpa [u8s] using this
 rcases h.2 with ⟨hv, rfl⟩ | ⟨g, cap', cur, hv, _, hg, hle, hcm, hsz, htake⟩
 ·cases hv
  exact ⟨hlen, Nat.le_refl _, Nat.zero_le _, hb, fun _ => rfl, fun h => absurd h (Nat.lt_irrefl _)⟩
 ·cases hv
  refine ⟨hlen, hle, hcm, hb, fun h => (by cases h), fun _ => ⟨g, 0, rfl, fun i hi => ?_⟩⟩
  rw [Nat.zero_add, cell_of_row w g i cur e (0, 0) hg]
  have e1 : (u8s l)[i]? = some (.int .u8 (l.getD i 0 : Nat)) := by
   unfold u8s
   rw [List.getElem?_map, List.getElem?_eq_getElem (by omega), List.getD_eq_getElem?_getD, List.getElem?_eq_getElem (by omega)]; rfl
  rw [← htake, List.getElem?_take, if_pos (by omega)] at e1
  simpa using e1

theorem own_slice {w : World} {base : Nat} {e : TypeId} {v : Value} {m : Nat} {l : List Nat} (h : w.ownsRow base e 1 v m (u8s l)) (hb : ∀ x ∈ l, x < 256) :
  ∃ p cp, v = .slice p m cp ∧ Bytes w p m cp l := by
 have h0 := h
 rcases h.2 with ⟨rfl, rfl⟩ | ⟨g, cap', cur, rfl, _⟩
 ·exact ⟨none, 0, rfl, bytes_of_own h0 hb⟩
 ·exact ⟨_, _, rfl, bytes_of_own h0 hb⟩

theorem maxLen_nat : maxLen = 9223372036854775807 := rfl

section
variable {P : Program} (w : World)

theorem wpList_append_bytes {ops : Array Oper} {rest : List Oper} {o : Oper} {a : Act} {Q : Exit → Act → World → Prop} (hgd : o.guard = none) (s x : Operand) (t : TypeId)
  (ho : o.op = .call { callee := .builtin .append, args := #[s, x], argTypes := #[t, t] })
  (base : Nat) (e : TypeId) (ht : P.underlying t = some (.slice e)) (hinfo : (P.info? e).map (fun i => (i.zero, i.size, i.bytes)) = some (some (.int .u8 0), 1, 1))
  (v : Value) (n : Nat) (l : List Nat) (hs : a.eval s = v) (hown : w.ownsRow base e 1 v n (u8s l))
  (p : Option Addr) (m c : Nat) (l' : List Nat) (hx : a.eval x = .slice p m c) (hB : Bytes w p m c l')
  (hbytes : n + m ≤ 140737488355328) (hbase : base ≤ w.heap.size)
  (h : ∀ v' w', w'.ownsRow base e 1 v' (n + m) (u8s (l ++ l')) → w.grownBy w' v.ownBlock → wpList P ops Q rest (a.put o.dst v') w') : wpList P ops Q (o :: rest) a w := by
 obtain ⟨i, hi, hz, hsz, hby⟩ := info_parts hinfo
 cases p with
 | none =>
  obtain rfl : c = 0 := hB.nil rfl
  obtain rfl : m = 0 := by have := hB.le; omega
  obtain rfl : l' = [] := List.length_eq_zero_iff.1 hB.len
  refine wpList_append_own_none hgd s x t ho base e i 1 ht hi v n (u8s l) hs hown hx ?_
  have := h v w (by simpa using hown) ⟨rfl, rfl, rfl, Nat.le_refl _, fun _ _ _ => rfl⟩
  exact this
 | some ad =>
  refine wpList_append_own w hgd s x t ho base e i (.int .u8 0) 1 1 ht hi hz hsz hby rfl (by omega) v n (u8s l) hs hown ad m c (u8s l') hx (by simp [u8s, hB.len]) ?_ (u8s_one l') (by rw [maxLen_nat]; omega) (by omega) hbase ?_
  ·intro j u hu
   obtain ⟨hj, rfl⟩ := u8s_get hu
   have hj' : j < m := by rw [← hB.len]; exact hj
   obtain ⟨b, o', e1, hc⟩ := hB.cell (by omega)
   cases e1
   have hadd : (⟨b, o', none⟩ : Addr).add j = ⟨b, o' + j, none⟩ := by unfold Addr.add; split <;> simp_all
   rw [hadd]
   exact hc j hj'
  ·intro v' w' g1 g2 _
   rw [← u8s_append] at g1
   exact h v' w' g1 g2
end
end Go.Proofs.YtnbddiiedagllaaGreat

/- Byte slices as strings, appended to, copied and compared: the laws and walks that the statements on sealed bytes want. -/
namespace Go.Proofs.YtnbddiiedagllaaGreat
open Go.RowKit

def str (l : List Nat) : ByteArray := ⟨(l.map UInt8.ofNat).toArray⟩

theorem str_list (l : List Nat) : (str l).toList = l.map UInt8.ofNat := by
 rw [ByteArray.toList_eq]; rfl

theorem str_size (l : List Nat) : (str l).size = l.length := by
 show ((l.map UInt8.ofNat).toArray).size = _
 simp

theorem str_append (a b : List Nat) : str a ++ str b = str (a ++ b) := by
 apply ByteArray.ext
 unfold str
 simp

theorem ofNat_inj {a b : List Nat} (ha : ∀ x ∈ a, x < 256) (hb : ∀ x ∈ b, x < 256) (h1 : a.map UInt8.ofNat = b.map UInt8.ofNat) : a = b := by
 have h2 := congrArg (List.map UInt8.toNat) h1
 rw [List.map_map, List.map_map] at h2
 have id_of : ∀ l : List Nat, (∀ x ∈ l, x < 256) → l.map (UInt8.toNat ∘ UInt8.ofNat) = l := by
  intro l hl
  have : l.map (UInt8.toNat ∘ UInt8.ofNat) = l.map id := List.map_congr_left (fun x hx => by
   have := hl x hx
   simp [UInt8.toNat_ofNat']; omega)
  rw [this, List.map_id]
 rwa [id_of a ha, id_of b hb] at h2

theorem str_eq (a : List Nat) : ((str a).toList == (str a).toList) = true := beq_self_eq_true _
theorem str_ne {a b : List Nat} (ha : ∀ x ∈ a, x < 256) (hb : ∀ x ∈ b, x < 256) (h : a ≠ b) : ((str a).toList == (str b).toList) = false := by
 rw [str_list, str_list]
 exact beq_eq_false_iff_ne.2 (fun e => h (ofNat_inj ha hb e))

section
variable {P : Program} {w : World}

theorem str_of_nums (l : List Nat) : strOfNums (l.map fun x : Nat => (x : Int)) = str l := by
 unfold strOfNums str
 congr 2
 rw [List.map_map]
 exact List.map_congr_left (fun x _ => by simp)

theorem convert_bytes {a : Option Addr} {n cap : Nat} {l : List Nat} (h : Bytes w a n cap l) (src e dst : TypeId) (hs : P.underlying src = some (.slice e)) (he : P.underlying e = some (.int .u8)) (hd : P.underlying dst = some .string) :
  (convert src dst (.slice a n cap)).run P w = .ok (.string (str l)) w := by
 rw [← str_of_nums]
 by_cases hn : 0 < n
 ·obtain ⟨b, o, rfl, hc⟩ := h.cell hn
  refine run_convert_bytes_arg w src e hs he b o n cap _ (by simp [h.len]) (fun i hi => ?_) dst hd
  rw [hc i hi]
  have hi' : i < l.length := by rw [h.len]; exact hi
  simp [List.getD, List.getElem?_eq_getElem hi']
 ·obtain rfl : n = 0 := by omega
  obtain rfl : l = [] := List.length_eq_zero_iff.1 h.len
  rw [run_convert_bytes_string w src dst e _ 0 cap hs he hd]
  cases a with
  | none => simp [Conv.bytesToString, strOfNums]; rfl
  | some a =>
   have hl : (loadCells a 0).run P w = .ok #[] w := rfl
   rw [run_bytesToString w a 0 cap [] hl]
   rfl
end
end Go.Proofs.YtnbddiiedagllaaGreat

/- Appending to byte slices; new memory that holds bytes. -/
namespace Go.Proofs.YtnbddiiedagllaaGreat
open Go.RowKit

section
variable {P : Program} (w : World)

theorem wpList_append_capped {ops : Array Oper} {rest : List Oper} {o : Oper} {a : Act} {Q : Exit → Act → World → Prop} (hgd : o.guard = none) (s x : Operand) (t : TypeId)
  (ho : o.op = .call { callee := .builtin .append, args := #[s, x], argTypes := #[t, t] })
  (e : TypeId) (ht : P.underlying t = some (.slice e)) (hinfo : (P.info? e).map (fun i => (i.zero, i.size, i.bytes)) = some (some (.int .u8 0), 1, 1))
  (b : Option Addr) (n : Nat) (l : List Nat) (hs : a.eval s = .slice b n n) (hS : Bytes w b n n l)
  (p : Option Addr) (m c : Nat) (l' : List Nat) (hx : a.eval x = .slice p m c) (hB : Bytes w p m c l') (hm : 0 < m)
  (hbytes : n + m ≤ 140737488355328)
  (h : ∀ v' w', w'.ownsRow w.heap.size e 1 v' (n + m) (u8s (l ++ l')) → Below w.heap.size w w' → wpList P ops Q rest (a.put o.dst v') w') : wpList P ops Q (o :: rest) a w := by
 cases b with
 | none =>
  obtain rfl : n = 0 := hS.nil rfl
  obtain rfl : l = [] := List.length_eq_zero_iff.1 hS.len
  refine wpList_append_bytes w hgd s x t ho w.heap.size e ht hinfo (.slice none 0 0) 0 [] hs (World.ownsRow_nil _ _ _ _) p m c l' hx hB hbytes (Nat.le_refl _) ?_
  intro v' w' g1 g2
  exact h v' w' g1 ((Below.refl _ _).grown g2 (Nat.le_refl _) (fun k hk => by cases hk))
 | some bd =>
  obtain ⟨i, hi, hz, hsz, hby⟩ := info_parts hinfo
  obtain ⟨b', o', rfl, hc⟩ := hB.cell hm
  have hadd : ∀ (x y j : Nat), (⟨x, y, none⟩ : Addr).add j = ⟨x, y + j, none⟩ := fun x y j => by unfold Addr.add; split <;> simp_all
  have holds : ∀ j v, (u8s l)[j]? = some v → w.cell? (bd.add j) = some v := by
   intro j u hu
   obtain ⟨hj, rfl⟩ := u8s_get hu
   have hj' : j < n := by rw [← hS.len]; exact hj
   obtain ⟨b2, o2, e1, hc2⟩ := hS.cell (by omega)
   cases e1
   rw [hadd]
   exact hc2 j hj'
  have hnews : ∀ j v, (u8s l')[j]? = some v → w.cell? ((⟨b', o', none⟩ : Addr).add j) = some v := by
   intro j u hu
   obtain ⟨hj, rfl⟩ := u8s_get hu
   rw [hadd]
   exact hc j (by rw [← hB.len]; exact hj)
  have hr := run_append_grow (P := P) (w := w) t o.type e i (.int .u8 0) ht hi hz bd n n (u8s l) (by simp [u8s, hS.len, hsz]) holds ⟨b', o', none⟩ m c (u8s l') (by simp [u8s, hB.len, hsz]) hnews (by omega) (by omega) (growslice_fits (by omega) (by rw [hby]; omega))
  have hcap := grownCap_ge w (n + m) n e
  have hcm : grownCap w (n + m) n e ≤ maxLen := grownCap_le_maxLen w (n + m) n e (by rw [maxLen_nat]; omega)
  obtain ⟨g, hg⟩ : ∃ g, g = grownCap w (n + m) n e := ⟨_, rfl⟩
  rw [← hg] at hr hcap hcm
  refine wpList_plain hgd fun K hK => ?_
  unfold Oper.wp execOp
  simp only [ho, resolve, invoke, builtin, Sem.run_bind, Sem.run_pure, Result.andThen_ok, List.map_toArray, List.map_cons, List.map_nil, hs, hx, hr]
  refine hK _ _ (h _ _ ?_ ?_)
  ·refine ⟨by simp [u8s, hS.len, hB.len], .inr ⟨w.heap.size, _, _, rfl, Nat.le_refl _, heap_alloc_new w.drew _, hcap, hcm, ?_, ?_⟩⟩
   ·simp only [Array.size_append, List.size_toArray, size_zeroCells, u8s, List.length_map, hS.len, hB.len, Value.cells]
    simp
    omega
   ·simp only [Array.toList_append, List.append_assoc, u8s_append]
    rw [← List.append_assoc, show (n + m) * 1 = (u8s l ++ u8s l').length by simp [u8s, hS.len, hB.len]]
    exact List.take_left
  ·exact ((Below.refl _ _).drew).alloc (Nat.le_refl _) _
end

theorem info_u8 : (Tryz.prog.info? 5).map (fun i => (i.zero, i.size, i.bytes)) = some (some (.int .u8 0), 1, 1) := by kernel_rfl

def OwnBytes (w w' : World) (v : Value) (l : List Nat) : Prop := w'.ownsRow w.heap.size 5 1 v l.length (u8s l) ∧ Below w.heap.size w w'
def NewBytes (w : World) (l : List Nat) (e : Ending) (w' : World) : Prop := ∃ v, e = .returned v ∧ OwnBytes w w' v l

theorem below_drewN {B : Nat} {a w : World} (h : Below B a w) (n : Nat) : Below B a (w.drewN n) := ⟨h.os, h.tape, h.output, h.size, h.block⟩

theorem new_row (w : World) (l : List Nat) (hm : l.length ≤ 9223372036854775807) : (w.alloc (.cells (u8s l).toArray 5)).ownsRow w.heap.size 5 1 (.slice (some ⟨w.heap.size, 0, none⟩) l.length l.length) l.length (u8s l) :=
 ⟨by simp [u8s], .inr ⟨w.heap.size, l.length, _, rfl, Nat.le_refl _, heap_alloc_new w _, Nat.le_refl _, hm, by simp [u8s], by rw [Nat.mul_one]; exact List.take_of_length_le (by simp [u8s])⟩⟩

theorem own_base {w : World} {base base' n : Nat} {e : TypeId} {v : Value} {xs : List Value} (h : w.ownsRow base e 1 v n xs) (hb : base' ≤ base) : w.ownsRow base' e 1 v n xs :=
 ⟨h.1, h.2.elim Or.inl (fun ⟨g, cap, cur, hv, hg, r⟩ => Or.inr ⟨g, cap, cur, hv, Nat.le_trans hb hg, r⟩)⟩

theorem own_below {w w' : World} {base n : Nat} {e : TypeId} {v : Value} {xs : List Value} (h : w.ownsRow base e 1 v n xs) (hb : Below w.heap.size w w') : w'.ownsRow base e 1 v n xs := by
 refine ⟨h.1, ?_⟩
 rcases h.2 with hn | ⟨g, cap, cur, rfl, hbg, hg, rest⟩
 ·exact .inl hn
 ·exact .inr ⟨g, cap, cur, rfl, hbg, (hb.block g (Array.getElem?_eq_some_iff.1 hg).1).trans hg, rest⟩

theorem Bytes.takeTo {w : World} {a : Option Addr} {n cap m c : Nat} {l : List Nat} (h : Bytes w a n cap l) (hm : m ≤ n) (hc : m ≤ c) (hc2 : c ≤ cap) : Bytes w a m c (l.take m) := by
 refine ⟨by rw [List.length_take, h.len]; omega, hc, Nat.le_trans hc2 h.capmax, fun x hx => h.byte x (List.mem_of_mem_take hx), fun ha => ?_, fun h0 => ?_⟩
 ·have := h.nil ha; omega
 ·obtain ⟨b, o, e, hcell⟩ := h.cell (by omega)
  refine ⟨b, o, e, fun i hi => ?_⟩
  rw [hcell i (by omega), List.getD_eq_getElem?_getD, List.getD_eq_getElem?_getD, List.getElem?_take, if_pos hi]

theorem Bytes.dropTo {w : World} {b o n cap m : Nat} {l : List Nat} (h : Bytes w (some ⟨b, o, none⟩) n cap l) (hm : m < n) : Bytes w (some ⟨b, o + m, none⟩) (n - m) (cap - m) (l.drop m) := by
 have hle := h.le
 have hcm := h.capmax
 refine ⟨by rw [List.length_drop, h.len], by omega, by omega, fun x hx => h.byte x (List.mem_of_mem_drop hx), fun ha => (by cases ha), fun h0 => ?_⟩
 obtain ⟨b', o', e, hcell⟩ := h.cell (by omega)
 cases e
 refine ⟨b, o + m, rfl, fun i hi => ?_⟩
 have := hcell (m + i) (by omega)
 rw [← Nat.add_assoc] at this
 rw [this, List.getD_eq_getElem?_getD, List.getD_eq_getElem?_getD, List.getElem?_drop]

end Go.Proofs.YtnbddiiedagllaaGreat

/- Disks as plain data: files in the order of their names; what a change does. -/
namespace Go.Proofs.YtnbddiiedagllaaGreat
open Go.RowKit Go.Maps

section
variable {α β : Type}
def insN (f : α → List UInt8) (x : α) : List α → List α
 | [] => [x]
 | y :: r => if bytesBefore (f x) (f y) then x :: y :: r else y :: insN f x r
def delN (f : α → List UInt8) (n : List UInt8) (l : List α) : List α := l.filter fun y => !(f y == n)
def putN (f : α → List UInt8) (x : α) (l : List α) : List α := insN f x (delN f (f x) l)
def findN (f : α → List UInt8) (n : List UInt8) (l : List α) : Option α := l.find? fun y => f y == n
def setN (f : α → List UInt8) (x : α) (l : List α) : List α := l.map fun y => if f y == f x then x else y

theorem insN_map (f : α → List UInt8) (f' : β → List UInt8) (g : α → β) (h : ∀ x, f' (g x) = f x) (x : α) : ∀ l, (insN f x l).map g = insN f' (g x) (l.map g)
 | [] => rfl
 | y :: r => by
  show (if bytesBefore (f x) (f y) = true then x :: y :: r else y :: insN f x r).map g = if bytesBefore (f' (g x)) (f' (g y)) = true then g x :: g y :: r.map g else g y :: insN f' (g x) (r.map g)
  rw [h, h]
  split
  ·rfl
  ·rw [List.map_cons, insN_map f f' g h x r]

theorem delN_map (f : α → List UInt8) (f' : β → List UInt8) (g : α → β) (h : ∀ x, f' (g x) = f x) (n : List UInt8) (l : List α) : (delN f n l).map g = delN f' n (l.map g) := by
 unfold delN
 rw [List.filter_map]
 congr 1
 exact List.filter_congr (fun y _ => by simp [h])

theorem putN_map (f : α → List UInt8) (f' : β → List UInt8) (g : α → β) (h : ∀ x, f' (g x) = f x) (x : α) (l : List α) : (putN f x l).map g = putN f' (g x) (l.map g) := by
 unfold putN
 rw [insN_map f f' g h, delN_map f f' g h, h]

theorem findN_map (f : α → List UInt8) (f' : β → List UInt8) (g : α → β) (h : ∀ x, f' (g x) = f x) (n : List UInt8) (l : List α) : findN f' n (l.map g) = (findN f n l).map g := by
 unfold findN
 rw [List.find?_map]
 congr 2
 funext y
 simp [h]

theorem setN_map (f : α → List UInt8) (f' : β → List UInt8) (g : α → β) (h : ∀ x, f' (g x) = f x) (x : α) (l : List α) : (setN f x l).map g = setN f' (g x) (l.map g) := by
 unfold setN
 rw [List.map_map, List.map_map]
 refine List.map_congr_left (fun y _ => ?_)
 simp only [Function.comp, h]
 split <;> rfl

theorem mem_insN (f : α → List UInt8) (x : α) : ∀ (l : List α) (z : α), z ∈ insN f x l ↔ z = x ∨ z ∈ l
 | [], z => by simp [insN]
 | y :: r, z => by
  unfold insN
  split
  ·simp
  ·rw [List.mem_cons, mem_insN f x r z, List.mem_cons]
   constructor
   ·rintro (h | h | h)
    ·exact .inr (.inl h)
    ·exact .inl h
    ·exact .inr (.inr h)
   ·rintro (h | h | h)
    ·exact .inr (.inl h)
    ·exact .inl h
    ·exact .inr (.inr h)

theorem perm_insN (f : α → List UInt8) (x : α) : ∀ (l : List α), (insN f x l).Perm (x :: l)
 | [] => .refl _
 | y :: r => by
  unfold insN
  split
  ·exact .refl _
  ·exact ((perm_insN f x r).cons y).trans (List.Perm.swap x y r)

theorem findN_some {f : α → List UInt8} {n : List UInt8} {l : List α} {x : α} (h : findN f n l = some x) : x ∈ l ∧ f x = n :=
 ⟨List.mem_of_find?_eq_some h, by simpa using List.find?_some h⟩
theorem findN_none {f : α → List UInt8} {n : List UInt8} {l : List α} (h : findN f n l = none) : ∀ x ∈ l, f x ≠ n := fun x hx e => by
 have := List.find?_eq_none.1 h x hx
 simp [e] at this
theorem delN_none {f : α → List UInt8} {n : List UInt8} {l : List α} (h : findN f n l = none) : delN f n l = l := by
 unfold delN
 rw [List.filter_eq_self]
 intro y hy
 have := findN_none h y hy
 simpa using this
end

structure F where
 n : List UInt8
 b : List Nat
 d : Nat

structure DM where
 room : Nat
 fs : List F
 down : Bool
 plan : Nat

def usedF (l : List F) : Nat := (l.map fun f => f.b.length).sum

def failM (M : DM) : DM := if M.down = true then M else if M.plan = 1 then { M with plan := 0, down := true } else { M with plan := M.plan - 1 }

def okByte (c : UInt8) : Bool := (decide (97 ≤ c.toNat) && decide (c.toNat ≤ 122)) || (decide (48 ≤ c.toNat) && decide (c.toNat ≤ 57)) || c.toNat == 45 || c.toNat == 46
def named (n : List UInt8) : Bool := decide (1 ≤ n.length) && decide (n.length ≤ 100) && n.all okByte

def chgM (M : DM) (n : List UInt8) (act : DM → DM × Int) : DM × Int := if (failM M).down = true then (failM M, 10) else if named n = true then act (failM M) else (failM M, 6)
def onM (n : List UInt8) (act : F → DM → DM × Int) (M : DM) : DM × Int := match findN F.n n M.fs with | none => (M, 6) | some f => act f M

def createM (n : List UInt8) (M : DM) : DM × Int := chgM M n fun M => match findN F.n n M.fs with | some _ => (M, 7) | none => ({ M with fs := putN F.n ⟨n, [], 0⟩ M.fs }, 0)
def appendM (n : List UInt8) (b : List Nat) (M : DM) : DM × Int := chgM M n (onM n fun f M => if usedF M.fs + b.length ≤ M.room then ({ M with fs := setN F.n ⟨n, f.b ++ b, f.d⟩ M.fs }, 0) else (M, 5))
def syncM (n : List UInt8) (M : DM) : DM × Int := chgM M n (onM n fun f M => ({ M with fs := setN F.n ⟨n, f.b, f.b.length⟩ M.fs }, 0))
def renameM (n to : List UInt8) (M : DM) : DM × Int := chgM M n (onM n fun f M => if named to = true then ({ M with fs := putN F.n ⟨to, f.b, f.d⟩ (delN F.n n M.fs) }, 0) else (M, 6))
def removeM (n : List UInt8) (M : DM) : DM × Int := chgM M n (onM n fun _ M => ({ M with fs := delN F.n n M.fs }, 0))
def readM (n : List UInt8) (M : DM) : List Nat × Int := if M.down = true then ([], 10) else match findN F.n n M.fs with | none => ([], 6) | some f => (f.b, 0)
def cutF (f : F) (k : Int) : F := ⟨f.n, f.b.take (f.d + min (max k 0).toNat (f.b.length - f.d)), f.d + min (max k 0).toNat (f.b.length - f.d)⟩
def crashM (ks : List Int) (M : DM) : DM := { M with fs := M.fs.mapIdx fun i f => cutF f (ks.getD i 0), down := false, plan := 0 }
def armM (k : Int) (M : DM) : DM := { M with plan := k.toNat }
def newM (room : Int) : DM := ⟨room.toNat, [], false, 0⟩

structure FW where
 f : F
 blk : Nat
 v : Value

def FW.n (x : FW) : List UInt8 := x.f.n
def ent (x : FW) : Lit × DataW Unit := (.string x.n, .lit (.int .i64 (x.blk : Int)))
def dirD (L : List FW) : DataW Unit := .map (L.map ent)
def ptrR : Value → Option (DataW Unit × List MemPlace)
 | .pointer none => some (.nil, [])
 | .pointer (some ⟨b, 0, none⟩) => some (.lit (.int .i64 (b : Int)), [])
 | _ => none
def fileV : Option FW → Value
 | none => .pointer none
 | some x => .pointer (some ⟨x.blk, 0, none⟩)

theorem insert_ent (x : FW) : ∀ L : List FW, DataW.insert (ent x) (L.map ent) = (insN FW.n x L).map ent
 | [] => rfl
 | y :: r => by
  show (if bytesBefore x.n y.n = true then ent x :: ent y :: r.map ent else ent y :: DataW.insert (ent x) (r.map ent)) = (if bytesBefore x.n y.n = true then x :: y :: r else y :: insN FW.n x r).map ent
  split
  ·rfl
  ·rw [List.map_cons, insert_ent x r]

theorem filter_ent (n : List UInt8) (L : List FW) : (L.map ent).filter (fun p => !p.1.sameKey (.string n)) = (delN FW.n n L).map ent := by
 unfold delN
 rw [List.filter_map]
 rfl

theorem dirD_put (x : FW) (L : List FW) : (dirD L).put (.string x.n) (.lit (.int .i64 (x.blk : Int))) = dirD (putN FW.n x L) := by
 show DataW.map (DataW.insert (ent x) ((L.map ent).filter fun p => !p.1.sameKey (.string x.n))) = _
 rw [filter_ent, insert_ent]
 rfl

theorem dirD_del (n : List UInt8) (L : List FW) : (dirD L).del (.string n) = dirD (delN FW.n n L) := by
 show DataW.map ((L.map ent).filter fun p => !p.1.sameKey (.string n)) = _
 rw [filter_ent]
 rfl

theorem dirD_at (n : List UInt8) (L : List FW) (z : DataW Unit) : (dirD L).atKey (.string n) z = match findN FW.n n L with | some x => .lit (.int .i64 (x.blk : Int)) | none => z := by
 unfold dirD DataW.atKey findN
 simp only
 rw [show (L.map ent).find? (fun p => p.1.sameKey (.string n)) = (L.find? fun y => y.n == n).map ent from List.find?_map]
 cases L.find? fun y => y.n == n <;> rfl

theorem dirD_keys (L : List FW) : strKeys (dirD L) = L.map FW.n := by
 show (L.map ent).map (fun p => strOf p.1) = _
 rw [List.map_map]
 rfl

theorem dirD_size (L : List FW) : Maps.size (dirD L) = L.length := List.length_map ..
end Go.Proofs.YtnbddiiedagllaaGreat

/- A disk in memory. -/
namespace Go.Proofs.YtnbddiiedagllaaGreat
open Go.RowKit Go.Maps

structure FileOk (w : World) (x : FW) : Prop where
 blk : w.heap[x.blk]? = some (.cells #[x.v, .int .i64 (x.f.d : Int)] 140 (0, 0))
 row : w.ownsRow 0 5 1 x.v x.f.b.length (u8s x.f.b)
 byte : ∀ c ∈ x.f.b, c < 256
 dur : x.f.d ≤ x.f.b.length

def fpOne (x : FW) : List Nat := x.blk :: x.v.ownBlock.toList
def fpOf (L : List FW) : List Nat := L.flatMap fpOne

structure DiskAt (S : Nat → Prop) (w : World) (d mb : Nat) (p : Int) (L : List FW) (M : DM) : Prop where
 files : M.fs = L.map FW.f
 head : w.heap[d]? = some (.cells #[.int .i64 (M.room : Int), .map (some mb), .bool M.down, .int .i64 p] 118 (0, 0))
 plan : M.plan = p.toNat
 lo : -9223372036854775808 ≤ p
 hi : p < 9223372036854775808
 dir : w.ownsMap Tryz.prog 9 ptrR mb L.length (dirD L)
 ok : ∀ x ∈ L, FileOk w x
 apart : (d :: mb :: fpOf L).Nodup
 sub : ∀ b ∈ d :: mb :: fpOf L, S b
 bound : ∀ b, S b → b < w.heap.size
 used : usedF M.fs ≤ M.room
 room : M.room < 9223372036854775808

def DiskIn (S : Nat → Prop) (w : World) (d : Nat) (M : DM) : Prop := ∃ mb p L, DiskAt S w d mb p L M

structure Chg (S : Nat → Prop) (w w' : World) : Prop where
 os : w'.os = w.os
 tape : w'.tape = w.tape
 output : w'.output = w.output
 size : w.heap.size ≤ w'.heap.size
 block : ∀ b, b < w.heap.size → ¬ S b → w'.heap[b]? = w.heap[b]?

theorem Chg.refl (S : Nat → Prop) (w : World) : Chg S w w := ⟨rfl, rfl, rfl, Nat.le_refl _, fun _ _ _ => rfl⟩
theorem Chg.trans {S S1 : Nat → Prop} {w w1 w2 : World} (h : Chg S w w1) (h1 : Chg S1 w1 w2) (hs : ∀ b, S1 b → S b ∨ w.heap.size ≤ b) : Chg S w w2 :=
 ⟨h1.os.trans h.os, h1.tape.trans h.tape, h1.output.trans h.output, Nat.le_trans h.size h1.size, fun b hb hn =>
  (h1.block b (Nat.lt_of_lt_of_le hb h.size) (fun hb1 => (hs b hb1).elim hn (fun hle => absurd hle (by omega)))).trans (h.block b hb hn)⟩
theorem Chg.same {S : Nat → Prop} {w w1 w2 : World} (h : Chg S w w1) (h1 : Chg S w1 w2) : Chg S w w2 := h.trans h1 fun _ h => .inl h
theorem Chg.of_below {S : Nat → Prop} {w w' : World} (h : Below w.heap.size w w') : Chg S w w' := ⟨h.os, h.tape, h.output, h.size, fun b hb _ => h.block b hb⟩
theorem Chg.below {S : Nat → Prop} {w w' : World} {k : Nat} (h : Chg S w w') (hS : ∀ b, S b → k ≤ b) (hk : k ≤ w.heap.size) : Below k w w' :=
 ⟨h.os, h.tape, h.output, h.size, fun b hb => h.block b (by omega) (fun hs => absurd (hS b hs) (by omega))⟩
theorem Chg.grown {S : Nat → Prop} {w w' : World} {r : Option Nat} (h : w.grownBy w' r) (hr : ∀ k, r = some k → S k ∨ w.heap.size ≤ k) : Chg S w w' :=
 ⟨h.os, h.tape, h.output, h.size, fun b hb hn => h.block b hb (fun e => (hr b e.symm).elim hn (fun hle => absurd hle (by omega)))⟩
theorem Chg.set (S : Nat → Prop) (w : World) {g i : Nat} (hg : S g) (v : Value) : Chg S w (w.setCell ⟨g, i, none⟩ v) :=
 ⟨rfl, rfl, rfl, by simp, fun b _ hn => Below.heap_setCell w ⟨g, i, none⟩ v b (by rintro rfl; exact hn hg)⟩
theorem Chg.alloc (S : Nat → Prop) (w : World) (o : Obj) : Chg S w (w.alloc o) := Chg.of_below ((Below.refl _ _).alloc (Nat.le_refl _) _)
theorem Chg.drew (S : Nat → Prop) (w : World) : Chg S w w.drew := ⟨rfl, rfl, rfl, Nat.le_refl _, fun _ _ _ => rfl⟩
theorem Chg.cell {S : Nat → Prop} {w w' : World} (h : Chg S w w') {a : Addr} {v : Value} (hc : w.cell? a = some v) (hs : ¬ S a.block) : w'.cell? a = some v := by
 rw [World.cell?_of_block (h.block a.block (World.block_lt_of_cell? _ _ hc) hs)]
 exact hc

def Step (S : Nat → Prop) (w : World) (d : Nat) (M' : DM) (w' : World) : Prop := ∃ S', DiskIn S' w' d M' ∧ (∀ b, S' b → S b ∨ w.heap.size ≤ b) ∧ Chg S w w'

theorem Step.same {S : Nat → Prop} {w w' : World} {d : Nat} {M : DM} (h : DiskIn S w' d M) (hc : Chg S w w') : Step S w d M w' := ⟨S, h, fun _ h => .inl h, hc⟩

theorem row_of_heap {w w' : World} {base n : Nat} {e : TypeId} {v : Value} {xs : List Value} (h : w.ownsRow base e 1 v n xs) (hk : ∀ b, v.ownBlock = some b → w'.heap[b]? = w.heap[b]?) : w'.ownsRow base e 1 v n xs := by
 refine ⟨h.1, ?_⟩
 rcases h.2 with hn | ⟨g, cap, cur, rfl, hbg, hg, rest⟩
 ·exact .inl hn
 ·exact .inr ⟨g, cap, cur, rfl, hbg, (hk g rfl).trans hg, rest⟩

theorem map_of_heap {w w' : World} {P : Program} {k : TypeId} {R : Value → Option (DataW Unit × List MemPlace)} {b n : Nat} {D : DataW Unit} (h : w.ownsMap P k R b n D) (hk : w'.heap[b]? = w.heap[b]?) : w'.ownsMap P k R b n D := by
 obtain ⟨es, clock, hb, r⟩ := h
 exact ⟨es, clock, hk.trans hb, r⟩

theorem FileOk.keep {w w' : World} {x : FW} (h : FileOk w x) (hk : ∀ b ∈ fpOne x, w'.heap[b]? = w.heap[b]?) : FileOk w' x :=
 ⟨(hk _ (List.mem_cons_self ..)).trans h.blk, row_of_heap h.row (fun b hb => hk b (List.mem_cons_of_mem _ (by simp [hb]))), h.byte, h.dur⟩

theorem mem_fpOf {L : List FW} {x : FW} (hx : x ∈ L) {b : Nat} (hb : b ∈ fpOne x) : b ∈ fpOf L := List.mem_flatMap.2 ⟨x, hx, hb⟩

theorem DiskAt.keep {S S' : Nat → Prop} {w w' : World} {d mb : Nat} {p : Int} {L : List FW} {M : DM} (h : DiskAt S w d mb p L M) (hk : ∀ b ∈ d :: mb :: fpOf L, w'.heap[b]? = w.heap[b]?)
  (hs : ∀ b, S b → S' b) (hb : ∀ b, S' b → b < w'.heap.size) : DiskAt S' w' d mb p L M :=
 ⟨h.files, (hk d (by simp)).trans h.head, h.plan, h.lo, h.hi, map_of_heap h.dir (hk mb (by simp)), fun x hx => (h.ok x hx).keep (fun b hb => hk b (by simp [mem_fpOf hx hb])), h.apart, fun b hb => hs b (h.sub b hb), hb, h.used, h.room⟩

theorem DiskAt.below {S : Nat → Prop} {w w' : World} {d mb : Nat} {p : Int} {L : List FW} {M : DM} (h : DiskAt S w d mb p L M) (hb : Below w.heap.size w w') : DiskAt S w' d mb p L M :=
 h.keep (fun b hb' => hb.block b (h.bound b (h.sub b hb'))) (fun _ h => h) (fun b hs => Nat.lt_of_lt_of_le (h.bound b hs) hb.size)
theorem DiskIn.below {S : Nat → Prop} {w w' : World} {d : Nat} {M : DM} (h : DiskIn S w d M) (hb : Below w.heap.size w w') : DiskIn S w' d M := let ⟨mb, p, L, h⟩ := h; ⟨mb, p, L, h.below hb⟩
theorem DiskIn.aside {S T : Nat → Prop} {w w' : World} {d : Nat} {M : DM} (h : DiskIn S w d M) (hc : Chg T w w') (ht : ∀ b, S b → ¬ T b) : DiskIn S w' d M := by
 obtain ⟨mb, p, L, h⟩ := h
 exact ⟨mb, p, L, h.keep (fun b hb' => hc.block b (h.bound b (h.sub b hb')) (ht b (h.sub b hb'))) (fun _ h => h) (fun b hs => Nat.lt_of_lt_of_le (h.bound b hs) hc.size)⟩

theorem DiskAt.cells {S : Nat → Prop} {w : World} {d mb : Nat} {p : Int} {L : List FW} {M : DM} (h : DiskAt S w d mb p L M) :
  w.cell? ⟨d, 0, none⟩ = some (.int .i64 (M.room : Int)) ∧ w.cell? ⟨d, 1, none⟩ = some (.map (some mb)) ∧ w.cell? ⟨d, 2, none⟩ = some (.bool M.down) ∧ w.cell? ⟨d, 3, none⟩ = some (.int .i64 p) ∧
  ∀ i, w.frozen? ⟨d, i, none⟩ = false := by
 have hh := h.head
 refine ⟨?_, ?_, ?_, ?_, fun i => ?_⟩
 ·rw [cell_of_row _ _ _ _ _ _ hh]; rfl
 ·rw [cell_of_row _ _ _ _ _ _ hh]; rfl
 ·rw [cell_of_row _ _ _ _ _ _ hh]; rfl
 ·rw [cell_of_row _ _ _ _ _ _ hh]; rfl
 ·simp [World.frozen?, hh]

theorem FileOk.cells {w : World} {x : FW} (h : FileOk w x) : w.cell? ⟨x.blk, 0, none⟩ = some x.v ∧ w.cell? ⟨x.blk, 1, none⟩ = some (.int .i64 (x.f.d : Int)) ∧ ∀ i, w.frozen? ⟨x.blk, i, none⟩ = false := by
 have hh := h.blk
 refine ⟨?_, ?_, fun i => ?_⟩
 ·rw [cell_of_row _ _ _ _ _ _ hh]; rfl
 ·rw [cell_of_row _ _ _ _ _ _ hh]; rfl
 ·simp [World.frozen?, hh]

theorem DiskAt.head_set {S : Nat → Prop} {w w' : World} {d mb : Nat} {p p' : Int} {L : List FW} {M M' : DM} (h : DiskAt S w d mb p L M) (hc : Chg (fun b => b = d) w w') (hf : M'.fs = M.fs) (hr : M'.room = M.room)
  (hh : w'.heap[d]? = some (.cells #[.int .i64 (M'.room : Int), .map (some mb), .bool M'.down, .int .i64 p'] 118 (0, 0))) (hp : M'.plan = p'.toNat) (hlo : -9223372036854775808 ≤ p') (hhi : p' < 9223372036854775808) :
  DiskAt S w' d mb p' L M' := by
 have hnd := List.nodup_cons.1 h.apart
 have hk : ∀ b ∈ mb :: fpOf L, w'.heap[b]? = w.heap[b]? := fun b hb => hc.block b (h.bound b (h.sub b (List.mem_cons_of_mem _ hb))) (fun e => hnd.1 (e ▸ hb))
 exact ⟨hf.trans h.files, hh, hp, hlo, hhi, map_of_heap h.dir (hk mb (by simp)), fun x hx => (h.ok x hx).keep (fun b hb => hk b (by simp [mem_fpOf hx hb])), h.apart, h.sub, fun b hs => Nat.lt_of_lt_of_le (h.bound b hs) hc.size,
  by rw [hf, hr]; exact h.used, by rw [hr]; exact h.room⟩

theorem set_head {w : World} {d i : Nat} {cs : Array Value} {t : TypeId} {m : Nat × Nat} (h : w.heap[d]? = some (.cells cs t m)) (v : Value) : (w.setCell ⟨d, i, none⟩ v).heap[d]? = some (.cells (cs.setIfInBounds i v) t m) := by
 simp [World.setCell, Array.getElem?_modify, h]

theorem keyN (n : List UInt8) (hn : n.length ≤ 9223372036854775807) : keyOf Tryz.prog 9 (encStr n) = some (.string n) :=
 WideMaps.keyOf_string_mk Tryz.underlying9 (by rw [maxLen_nat]; show (n.toArray).size ≤ _; simpa using hn)

theorem mapKey : Keyed Tryz.prog 9 := string_keyed Tryz.underlying9

theorem ptrR_fileV {x : Option FW} {v : Value} {ps : List MemPlace} (h : ptrR v = some (match x with | some x => .lit (.int .i64 (x.blk : Int)) | none => .nil, ps)) : v = fileV x := by
 unfold ptrR at h
 split at h
 ·cases x
  ·rfl
  ·cases h
 ·cases x
  ·cases h
  ·rename_i b x
   simp at h
   have e : b = x.blk := by omega
   rw [e]
   rfl
 ·cases h

theorem DiskAt.look {S : Nat → Prop} {w : World} {d mb : Nat} {p : Int} {L : List FW} {M : DM} (h : DiskAt S w d mb p L M) (n : List UInt8) (hn : n.length ≤ 9223372036854775807) :
  (Instr.lookup 116 (.map (some mb)) (encStr n) false).run Tryz.prog w = .ok (fileV (findN FW.n n L)) w := by
 have hz : (zeroValue 125).run Tryz.prog w = .ok (.pointer none) w := by kernel_rfl
 obtain ⟨v, ps, hrun, hv⟩ := h.dir.lookup mapKey Tryz.underlying116 hz (zd := .nil) (zp := []) rfl (keyN n hn)
 rw [dirD_at] at hv
 rw [hrun, ptrR_fileV hv]
end Go.Proofs.YtnbddiiedagllaaGreat

