import Derived.WalkKit
import Derived.WalkLawsBesides
import Derived.WalkSpells
import Derived.Lib.Hide
import Derived.Laws.AppendOwnNone
import Derived.Laws.CopyOwn
import Derived.Test.YtcapbaocchaenaaGreatDoorRows
import Derived.Laws.BytesArg
import Derived.Deep.QuietTactic
import Derived.BigQuiet
/- Slices of bytes, and slices of these, as plain lists: what a world holds of them, and how it is kept while only new memory is made. -/
namespace Go.Proofs.YtcapbaocchaenaaGreatDoor
open Go.RowKit

theorem ret_bool {a b : Bool} (h : a = b) : Ending.returned (.bool a) = Ending.returned (.bool b) := by rw [h]

/-- The bytes l lie at the start of a slice's value. -/
structure Bytes (w : World) (a : Option Addr) (n cap : Nat) (l : List Nat) : Prop where
  len : l.length = n
  le : n ≤ cap
  capmax : cap ≤ 9223372036854775807
  byte : ∀ x ∈ l, x < 256
  nil : a = none → cap = 0
  cell : 0 < n → ∃ b o, a = some ⟨b, o, none⟩ ∧ ∀ i, i < n → w.cell? ⟨b, o + i, none⟩ = some (.int .u8 (l.getD i 0 : Nat))

theorem Bytes.max {w : World} {a : Option Addr} {n cap : Nat} {l : List Nat} (h : Bytes w a n cap l) : n ≤ 9223372036854775807 := Nat.le_trans h.le h.capmax

/-- Another world in which the same cells hold the same. -/
theorem Bytes.keep {w w' : World} {a : Option Addr} {n cap : Nat} {l : List Nat} (h : Bytes w a n cap l) (hw : ∀ p : Addr, p.block < w.heap.size → (∀ x, a = some x → p.block = x.block) → w'.cell? p = w.cell? p) : Bytes w' a n cap l := by
  obtain ⟨h1, h2, h3, h4, h5, h6⟩ := h
  refine ⟨h1, h2, h3, h4, h5, fun hn => ?_⟩
  obtain ⟨b, o, rfl, hc⟩ := h6 hn
  exact ⟨b, o, rfl, fun i hi => by rw [hw ⟨b, o + i, none⟩ (World.block_lt_of_cell? _ _ (hc i hi)) (fun x hx => by cases hx; rfl)]; exact hc i hi⟩

theorem Bytes.grow {w w' : World} {a : Option Addr} {n cap : Nat} {l : List Nat} (h : Bytes w a n cap l) (hw : Below w.heap.size w w') : Bytes w' a n cap l :=
  h.keep fun _ hp _ => hw.cell hp

/-- The byte strings ls lie at the start of a slice of slices. -/
structure Parts (w : World) (a : Option Addr) (n cap : Nat) (ls : List (List Nat)) : Prop where
  len : ls.length = n
  le : n ≤ cap
  capmax : cap ≤ 9223372036854775807
  cell : 0 < n → ∃ b o, a = some ⟨b, o, none⟩ ∧ b < w.heap.size ∧
    ∀ i, i < n → ∃ a' n' c', w.cell? ⟨b, o + i, none⟩ = some (.slice a' n' c') ∧ Bytes w a' n' c' (ls.getD i [])

theorem Parts.max {w : World} {a : Option Addr} {n cap : Nat} {ls : List (List Nat)} (h : Parts w a n cap ls) : n ≤ 9223372036854775807 := Nat.le_trans h.le h.capmax

theorem Parts.grow {w w' : World} {a : Option Addr} {n cap : Nat} {ls : List (List Nat)} (h : Parts w a n cap ls) (hw : Below w.heap.size w w') : Parts w' a n cap ls := by
  obtain ⟨h1, h2, h3, h4⟩ := h
  refine ⟨h1, h2, h3, fun hn => ?_⟩
  obtain ⟨b, o, rfl, hb, hc⟩ := h4 hn
  refine ⟨b, o, rfl, Nat.lt_of_lt_of_le hb hw.size, fun i hi => ?_⟩
  obtain ⟨a', n', c', g1, g2⟩ := hc i hi
  exact ⟨a', n', c', by rw [hw.cell (p := ⟨b, o + i, none⟩) hb]; exact g1, g2.grow hw⟩

theorem Parts.byte {w : World} {a : Option Addr} {n cap : Nat} {ls : List (List Nat)} (h : Parts w a n cap ls) : ∀ l ∈ ls, ∀ x ∈ l, x < 256 := by
  intro l hl
  obtain ⟨i, hi, rfl⟩ := List.getElem_of_mem hl
  have hn : i < n := by rw [← h.len]; exact hi
  obtain ⟨b, o, _, _, hc⟩ := h.cell (by omega)
  obtain ⟨a', n', c', _, g2⟩ := hc i hn
  have e : ls.getD i [] = ls[i] := by rw [List.getD_eq_getElem?_getD, List.getElem?_eq_getElem hi]; rfl
  rw [← e]
  exact g2.byte

theorem bytes_nil (w : World) : Bytes w none 0 0 [] := ⟨rfl, Nat.le_refl _, Nat.zero_le _, fun _ h => (by cases h), fun _ => rfl, fun h => absurd h (Nat.lt_irrefl _)⟩

/-- Bytes as cells. -/
def u8s (l : List Nat) : List Value := l.map fun x : Nat => Value.int .u8 (x : Int)

theorem u8s_get {l : List Nat} {i : Nat} {u : Value} (h : (u8s l)[i]? = some u) : i < l.length ∧ u = .int .u8 (l.getD i 0 : Nat) := by
  unfold u8s at h
  rw [List.getElem?_map] at h
  obtain ⟨x, hx, rfl⟩ := Option.map_eq_some_iff.1 h
  obtain ⟨hi, rfl⟩ := List.getElem?_eq_some_iff.1 hx
  exact ⟨hi, by rw [List.getD_eq_getElem?_getD, hx]; rfl⟩

theorem u8s_one (l : List Nat) : ∀ u ∈ u8s l, u.oneCell' = true := by
  intro u hu
  obtain ⟨x, _, rfl⟩ := List.mem_map.1 hu
  rfl

theorem u8s_append (a b : List Nat) : u8s (a ++ b) = u8s a ++ u8s b := List.map_append

/-- A row of the call's own, written as bytes, is read as a byte slice. -/
theorem bytes_of_own {w : World} {base : Nat} {e : TypeId} {a : Option Addr} {n cap m : Nat} {l : List Nat} (h : w.ownsRow base e 1 (.slice a n cap) m (u8s l)) (hb : ∀ x ∈ l, x < 256) :
    Bytes w a n cap l := by
  have hlen : l.length = m := by have := h.1; simpa [u8s] using this
  rcases h.2 with ⟨hv, rfl⟩ | ⟨g, cap', cur, hv, _, hg, hle, hcm, hsz, htake⟩
  · cases hv
    exact ⟨hlen, Nat.le_refl _, Nat.zero_le _, hb, fun _ => rfl, fun h => absurd h (Nat.lt_irrefl _)⟩
  · cases hv
    refine ⟨hlen, hle, hcm, hb, fun h => (by cases h), fun _ => ⟨g, 0, rfl, fun i hi => ?_⟩⟩
    rw [Nat.zero_add, cell_of_row w g i cur e (0, 0) hg]
    have e1 : (u8s l)[i]? = some (.int .u8 (l.getD i 0 : Nat)) := by
      unfold u8s
      rw [List.getElem?_map, List.getElem?_eq_getElem (by omega), List.getD_eq_getElem?_getD, List.getElem?_eq_getElem (by omega)]; rfl
    rw [← htake, List.getElem?_take, if_pos (by omega)] at e1
    simpa using e1

theorem own_slice {w : World} {base : Nat} {e : TypeId} {v : Value} {m : Nat} {l : List Nat} (h : w.ownsRow base e 1 v m (u8s l)) (hb : ∀ x ∈ l, x < 256) :
    ∃ p cp, v = .slice p m cp ∧ Bytes w p m cp l := by
  have h0 := h
  rcases h.2 with ⟨rfl, rfl⟩ | ⟨g, cap', cur, rfl, _⟩
  · exact ⟨none, 0, rfl, bytes_of_own h0 hb⟩
  · exact ⟨_, _, rfl, bytes_of_own h0 hb⟩

theorem maxLen_nat : maxLen = 9223372036854775807 := rfl

section
variable {P : Program} (w : World)

/-- 'append(out, p...)': out the call's own bytes, p any byte slice. -/
theorem wpList_append_bytes {ops : Array Oper} {rest : List Oper} {o : Oper} {a : Act} {Q : Exit → Act → World → Prop} (hgd : o.guard = none) (s x : Operand) (t : TypeId)
    (ho : o.op = .call { callee := .builtin .append, args := #[s, x], argTypes := #[t, t] })
    (base : Nat) (e : TypeId) (ht : P.underlying t = some (.slice e)) (hinfo : (P.info? e).map (fun i => (i.zero, i.size, i.bytes)) = some (some (.int .u8 0), 1, 1))
    (v : Value) (n : Nat) (l : List Nat) (hs : a.eval s = v) (hown : w.ownsRow base e 1 v n (u8s l))
    (p : Option Addr) (m c : Nat) (l' : List Nat) (hx : a.eval x = .slice p m c) (hB : Bytes w p m c l')
    (hbytes : n + m ≤ 140737488355328) (hbase : base ≤ w.heap.size)
    (h : ∀ v' w', w'.ownsRow base e 1 v' (n + m) (u8s (l ++ l')) → w.grownBy w' v.ownBlock → wpList P ops Q rest (a.put o.dst v') w') : wpList P ops Q (o :: rest) a w := by
  obtain ⟨i, hi, hz, hsz, hby⟩ := info_parts hinfo
  cases p with
  | none =>
    obtain rfl : c = 0 := hB.nil rfl
    obtain rfl : m = 0 := by have := hB.le; omega
    obtain rfl : l' = [] := List.length_eq_zero_iff.1 hB.len
    refine wpList_append_own_none hgd s x t ho base e i 1 ht hi v n (u8s l) hs hown hx ?_
    have := h v w (by simpa using hown) ⟨rfl, rfl, rfl, Nat.le_refl _, fun _ _ _ => rfl⟩
    exact this
  | some ad =>
    refine wpList_append_own w hgd s x t ho base e i (.int .u8 0) 1 1 ht hi hz hsz hby rfl (by omega) v n (u8s l) hs hown ad m c (u8s l') hx (by simp [u8s, hB.len]) ?_ (u8s_one l') (by rw [maxLen_nat]; omega) (by omega) hbase ?_
    · intro j u hu
      obtain ⟨hj, rfl⟩ := u8s_get hu
      have hj' : j < m := by rw [← hB.len]; exact hj
      obtain ⟨b, o', e1, hc⟩ := hB.cell (by omega)
      cases e1
      have hadd : (⟨b, o', none⟩ : Addr).add j = ⟨b, o' + j, none⟩ := by unfold Addr.add; split <;> simp_all
      rw [hadd]
      exact hc j hj'
    · intro v' w' g1 g2 _
      rw [← u8s_append] at g1
      exact h v' w' g1 g2
end
end Go.Proofs.YtcapbaocchaenaaGreatDoor

/- Byte slices as strings, appended to, copied and compared: the laws and walks that the statements on sealed bytes want. -/
namespace Go.Proofs.YtcapbaocchaenaaGreatDoor
open Go.RowKit

/-- Bytes as a string. -/
def str (l : List Nat) : ByteArray := ⟨(l.map UInt8.ofNat).toArray⟩

theorem str_list (l : List Nat) : (str l).toList = l.map UInt8.ofNat := by
  rw [ByteArray.toList_eq]; rfl

theorem str_size (l : List Nat) : (str l).size = l.length := by
  show ((l.map UInt8.ofNat).toArray).size = _
  simp

theorem str_append (a b : List Nat) : str a ++ str b = str (a ++ b) := by
  apply ByteArray.ext
  unfold str
  simp

theorem ofNat_inj {a b : List Nat} (ha : ∀ x ∈ a, x < 256) (hb : ∀ x ∈ b, x < 256) (h1 : a.map UInt8.ofNat = b.map UInt8.ofNat) : a = b := by
  have h2 := congrArg (List.map UInt8.toNat) h1
  rw [List.map_map, List.map_map] at h2
  have id_of : ∀ l : List Nat, (∀ x ∈ l, x < 256) → l.map (UInt8.toNat ∘ UInt8.ofNat) = l := by
    intro l hl
    have : l.map (UInt8.toNat ∘ UInt8.ofNat) = l.map id := List.map_congr_left (fun x hx => by
      have := hl x hx
      simp [UInt8.toNat_ofNat']; omega)
    rw [this, List.map_id]
  rwa [id_of a ha, id_of b hb] at h2

theorem str_eq (a : List Nat) : ((str a).toList == (str a).toList) = true := beq_self_eq_true _
theorem str_ne {a b : List Nat} (ha : ∀ x ∈ a, x < 256) (hb : ∀ x ∈ b, x < 256) (h : a ≠ b) : ((str a).toList == (str b).toList) = false := by
  rw [str_list, str_list]
  exact beq_eq_false_iff_ne.2 (fun e => h (ofNat_inj ha hb e))

section
variable {P : Program} {w : World}

theorem str_of_nums (l : List Nat) : strOfNums (l.map fun x : Nat => (x : Int)) = str l := by
  unfold strOfNums str
  congr 2
  rw [List.map_map]
  exact List.map_congr_left (fun x _ => by simp)

theorem convert_bytes {a : Option Addr} {n cap : Nat} {l : List Nat} (h : Bytes w a n cap l) (src e dst : TypeId) (hs : P.underlying src = some (.slice e)) (he : P.underlying e = some (.int .u8)) (hd : P.underlying dst = some .string) :
    (convert src dst (.slice a n cap)).run P w = .ok (.string (str l)) w := by
  rw [← str_of_nums]
  by_cases hn : 0 < n
  · obtain ⟨b, o, rfl, hc⟩ := h.cell hn
    refine run_convert_bytes_arg w src e hs he b o n cap _ (by simp [h.len]) (fun i hi => ?_) dst hd
    rw [hc i hi]
    have hi' : i < l.length := by rw [h.len]; exact hi
    simp [List.getD, List.getElem?_eq_getElem hi']
  · obtain rfl : n = 0 := by omega
    obtain rfl : l = [] := List.length_eq_zero_iff.1 h.len
    rw [run_convert_bytes_string w src dst e _ 0 cap hs he hd]
    cases a with
    | none => simp [Conv.bytesToString, strOfNums]; rfl
    | some a =>
      have hl : (loadCells a 0).run P w = .ok #[] w := rfl
      rw [run_bytesToString w a 0 cap [] hl]
      rfl
end
end Go.Proofs.YtcapbaocchaenaaGreatDoor

/- Appending to byte slices; new memory that holds bytes. -/
namespace Go.Proofs.YtcapbaocchaenaaGreatDoor
open Go.RowKit


theorem info_u8 : (Tryz.prog.info? 5).map (fun i => (i.zero, i.size, i.bytes)) = some (some (.int .u8 0), 1, 1) := by kernel_rfl

/-- A value that is new memory holding bytes. -/
def OwnBytes (w w' : World) (v : Value) (l : List Nat) : Prop := w'.ownsRow w.heap.size 5 1 v l.length (u8s l) ∧ Below w.heap.size w w'
def NewBytes (w : World) (l : List Nat) (e : Ending) (w' : World) : Prop := ∃ v, e = .returned v ∧ OwnBytes w w' v l

theorem below_drewN {B : Nat} {a w : World} (h : Below B a w) (n : Nat) : Below B a (w.drewN n) := ⟨h.os, h.tape, h.output, h.size, h.block⟩

theorem own_base {w : World} {base base' n : Nat} {e : TypeId} {v : Value} {xs : List Value} (h : w.ownsRow base e 1 v n xs) (hb : base' ≤ base) : w.ownsRow base' e 1 v n xs :=
  ⟨h.1, h.2.elim Or.inl (fun ⟨g, cap, cur, hv, hg, r⟩ => Or.inr ⟨g, cap, cur, hv, Nat.le_trans hb hg, r⟩)⟩

theorem own_below {w w' : World} {base n : Nat} {e : TypeId} {v : Value} {xs : List Value} (h : w.ownsRow base e 1 v n xs) (hb : Below w.heap.size w w') : w'.ownsRow base e 1 v n xs := by
  refine ⟨h.1, ?_⟩
  rcases h.2 with hn | ⟨g, cap, cur, rfl, hbg, hg, rest⟩
  · exact .inl hn
  · exact .inr ⟨g, cap, cur, rfl, hbg, (hb.block g (Array.getElem?_eq_some_iff.1 hg).1).trans hg, rest⟩

end Go.Proofs.YtcapbaocchaenaaGreatDoor

