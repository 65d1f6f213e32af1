import Derived.Test.YtngnbmaocdadaaaMN5
import Derived.Test.YtngnbmaocdadaaaMN2
import Derived.Test.YtngnbmaocdadaaaMN1
import Derived.Maps.OwnSet
import Derived.Maps.OwnOps
import Derived.Maps.RangeWalk
import Derived.Maps.AppendAt
import Derived.Sort.KeysCollected
import Derived.Lib.SlicesCompact
/- The walk of the statement SumSeals: it returns true whatever the bytes are. -/
namespace Go.Proofs.Ytngnbmaocdadaaa
open Go.RowKit Crc

theorem sealL_inj {a b : List Nat} (h : sealL a = sealL b) : a = b := by
  have hl : a.length = b.length := by
    have := congrArg List.length h
    rw [sealL_len, sealL_len] at this
    omega
  have h1 : (sealL a).take a.length = a := List.take_left
  have h2 : (sealL b).take b.length = b := List.take_left
  rw [← h1, ← h2, h, hl]

/-- Open and the reference's Open answer alike. -/
def TwoOpens (w : World) (l : List Nat) (e : Ending) (w' : World) (y : Option Addr × Nat × Nat) (is : Bool) (k : List Nat) : Prop :=
  e = .returned (.tuple #[.slice y.1 y.2.1 y.2.2, .bool is]) ∧ Below w.heap.size w w' ∧ Bytes w' y.1 y.2.1 y.2.2 k ∧ ((is = true ∧ sealL k = l) ∨ (is = false ∧ k = [] ∧ ∀ b, sealL b ≠ l))

theorem two_of_open {w w' : World} {l : List Nat} {e : Ending} (h : OpenEnd w l e w') : ∃ y is k, TwoOpens w l e w' y is k := by
  obtain ⟨hb, ⟨x, hx, p, n', cp, rfl, hB⟩ | ⟨hno, rfl⟩⟩ := h
  · exact ⟨(p, n', cp), true, x, rfl, hb, hB, .inl ⟨rfl, hx⟩⟩
  · exact ⟨(none, 0, 0), false, [], rfl, hb, bytes_nil w', .inr ⟨rfl, rfl, hno⟩⟩

theorem two_same {l k k' : List Nat} {is is' : Bool} (h : (is = true ∧ sealL k = l) ∨ (is = false ∧ k = [] ∧ ∀ b, sealL b ≠ l)) (h' : (is' = true ∧ sealL k' = l) ∨ (is' = false ∧ k' = [] ∧ ∀ b, sealL b ≠ l)) : is = is' ∧ k = k' := by
  rcases h with ⟨rfl, h⟩ | ⟨rfl, rfl, h⟩ <;> rcases h' with ⟨rfl, h'⟩ | ⟨rfl, rfl, h'⟩
  · exact ⟨rfl, sealL_inj (h.trans h'.symm)⟩
  · exact absurd h (h' k)
  · exact absurd h' (h k')
  · exact ⟨rfl, rfl⟩

def IncRel (w2 : World) (g N : Nat) (i : Value) (wr : World) : Prop := ∃ k : Nat, k ≤ N ∧ i = .int .i64 k ∧ U8Row wr g N ∧ Below w2.heap.size w2 wr

end Go.Proofs.Ytngnbmaocdadaaa

/- Records and their frames as plain lists: what a frame is, and that bytes fall apart into frames in one way alone. -/
namespace Go.Proofs.Ytngnbmaocdadaaa
open Go.RowKit Crc

/-- The frame of a record. -/
def frameL (r : List Nat) : List Nat := sealL (little r.length ++ r)

theorem frameL_len (r : List Nat) : (frameL r).length = r.length + 8 := by
  unfold frameL
  rw [sealL_len, List.length_append, little_len]
  omega

theorem frameL_byte {r : List Nat} (h : ∀ x ∈ r, x < 256) (hr : r.length < 4294967296) : ∀ x ∈ frameL r, x < 256 := by
  refine sealL_byte fun x hx => ?_
  rcases List.mem_append.1 hx with hx | hx
  · exact little_lt hr x hx
  · exact h x hx

/-- The number that four bytes stand for. -/
def num4 (b : List Nat) : Nat := b.getD 0 0 + 256 * b.getD 1 0 + 65536 * b.getD 2 0 + 16777216 * b.getD 3 0

theorem frameL_cons (r : List Nat) (t : List Nat) : ∃ s, frameL r ++ t = r.length % 256 :: r.length / 256 % 256 :: r.length / 65536 % 256 :: r.length / 16777216 :: s :=
  ⟨_, rfl⟩

theorem num4_frame (r t : List Nat) : num4 (frameL r ++ t) = r.length := by
  obtain ⟨s, e⟩ := frameL_cons r t
  rw [e]
  show r.length % 256 + 256 * (r.length / 256 % 256) + 65536 * (r.length / 65536 % 256) + 16777216 * (r.length / 16777216) = r.length
  omega

/-- Bytes that begin with no frame. -/
def NoFrame (b : List Nat) : Prop := ∀ r t : List Nat, r.length ≤ 1048576 → b ≠ frameL r ++ t

theorem frame_uniq {r r' t t' : List Nat} (h : frameL r ++ t = frameL r' ++ t') : r = r' ∧ t = t' := by
  have hl : r.length = r'.length := by
    have := congrArg num4 h
    rwa [num4_frame, num4_frame] at this
  have h1 : frameL r = frameL r' := by
    have e1 : (frameL r ++ t).take (r.length + 8) = frameL r := by rw [← frameL_len]; exact List.take_left
    have e2 : (frameL r' ++ t').take (r.length + 8) = frameL r' := by rw [hl, ← frameL_len]; exact List.take_left
    rw [← e1, ← e2, h]
  have h2 := sealL_inj h1
  rw [hl] at h2
  refine ⟨List.append_cancel_left h2, ?_⟩
  rw [h1] at h
  exact List.append_cancel_left h

theorem noFrame_short {b : List Nat} (h : b.length < 8) : NoFrame b := by
  intro r t _ e
  have := congrArg List.length e
  rw [List.length_append, frameL_len] at this
  omega

theorem noFrame_nil : NoFrame [] := noFrame_short (by decide)

theorem noFrame_most {b : List Nat} (h : 1048576 < num4 b) : NoFrame b := by
  intro r t hr e
  have := congrArg num4 e
  rw [num4_frame] at this
  omega

theorem noFrame_len {b : List Nat} (h : b.length < num4 b + 8) : NoFrame b := by
  intro r t hr e
  have h1 := congrArg num4 e
  have h2 := congrArg List.length e
  rw [num4_frame] at h1
  rw [List.length_append, frameL_len] at h2
  omega

theorem noFrame_take {r t : List Nat} {k : Nat} (h : k < r.length + 8) : NoFrame ((frameL r ++ t).take k) := by
  intro r' t' hr e
  have e2 : frameL r ++ t = frameL r' ++ (t' ++ (frameL r ++ t).drop k) := by
    conv => lhs; rw [← List.take_append_drop k (frameL r ++ t), e]
    rw [List.append_assoc]
  obtain ⟨rfl, _⟩ := frame_uniq e2
  have := congrArg List.length e
  rw [List.length_append, frameL_len, List.length_take] at this
  omega

/-- What Open answers of the bytes in front says whether there is a frame. -/
theorem frame_of_seal {b x : List Nat} {n : Nat} (hn : n = num4 b) (hb : n + 8 ≤ b.length) (hx : sealL x = b.take (n + 8)) (h256 : ∀ y ∈ b, y < 256) : b = frameL (x.drop 4) ++ b.drop (n + 8) ∧ (x.drop 4).length = n := by
  have hl : x.length = n + 4 := by
    have := congrArg List.length hx
    rw [sealL_len, List.length_take] at this
    omega
  have e4 : x.take 4 = b.take 4 := by
    have e1 : (sealL x).take 4 = x.take 4 := by unfold sealL; rw [List.take_append_of_le_length (by omega)]
    rw [← e1, hx, List.take_take, Nat.min_eq_left (by omega)]
  have hd : (x.drop 4).length = n := by rw [List.length_drop]; omega
  have eb : ∃ b0 b1 b2 b3 s, b = b0 :: b1 :: b2 :: b3 :: s := by
    rcases b with _ | ⟨b0, _ | ⟨b1, _ | ⟨b2, _ | ⟨b3, s⟩⟩⟩⟩
    all_goals first | (simp at hb; done) | exact ⟨_, _, _, _, _, rfl⟩
  have el : little n = b.take 4 := by
    obtain ⟨b0, b1, b2, b3, s, rfl⟩ := eb
    have h0 := h256 b0 (by simp)
    have h1 := h256 b1 (by simp)
    have h2 := h256 b2 (by simp)
    have h3 := h256 b3 (by simp)
    have hn2 : n = b0 + 256 * b1 + 65536 * b2 + 16777216 * b3 := hn
    show [n % 256, n / 256 % 256, n / 65536 % 256, n / 16777216] = [b0, b1, b2, b3]
    simp only [List.cons.injEq, and_true]
    omega
  refine ⟨?_, hd⟩
  have e5 : frameL (x.drop 4) = b.take (n + 8) := by
    unfold frameL
    rw [hd, el, ← e4, List.take_append_drop, hx]
  rw [e5, List.take_append_drop]

theorem noFrame_seal {b : List Nat} {n : Nat} (hn : n = num4 b) (hx : ∀ x, sealL x ≠ b.take (n + 8)) : NoFrame b := by
  intro r t hr e
  have h1 : n = r.length := by rw [hn, e, num4_frame]
  refine hx (little r.length ++ r) ?_
  rw [e, h1, ← frameL_len]
  exact List.take_left.symm

/-- The frames of records, one after the other. -/
def joinL (ls : List (List Nat)) : List Nat := (ls.map frameL).flatten
def sizeL (ls : List (List Nat)) : Nat := (ls.map fun r => r.length + 8).sum

theorem joinL_nil : joinL [] = [] := rfl
theorem joinL_cons (r : List Nat) (ls : List (List Nat)) : joinL (r :: ls) = frameL r ++ joinL ls := rfl
theorem joinL_append (a b : List (List Nat)) : joinL (a ++ b) = joinL a ++ joinL b := by unfold joinL; rw [List.map_append, List.flatten_append]
theorem joinL_snoc (a : List (List Nat)) (r : List Nat) : joinL (a ++ [r]) = joinL a ++ frameL r := by rw [joinL_append, joinL_cons, joinL_nil, List.append_nil]
theorem sizeL_nil : sizeL [] = 0 := rfl
theorem sizeL_cons (r : List Nat) (ls : List (List Nat)) : sizeL (r :: ls) = r.length + 8 + sizeL ls := by simp [sizeL]
theorem sizeL_append (a b : List (List Nat)) : sizeL (a ++ b) = sizeL a + sizeL b := by simp [sizeL]

theorem joinL_len (ls : List (List Nat)) : (joinL ls).length = sizeL ls := by
  induction ls with
  | nil => rfl
  | cons r ls ih => rw [joinL_cons, sizeL_cons, List.length_append, frameL_len, ih]

theorem joinL_byte {ls : List (List Nat)} (h : ∀ r ∈ ls, ∀ x ∈ r, x < 256) (hr : ∀ r ∈ ls, r.length ≤ 1048576) : ∀ x ∈ joinL ls, x < 256 := by
  intro x hx
  obtain ⟨f, hf, hx⟩ := List.mem_flatten.1 hx
  obtain ⟨r, hr1, rfl⟩ := List.mem_map.1 hf
  have := hr r hr1
  exact frameL_byte (h r hr1) (by omega) x hx

/-- Bytes as frames and a rest that begins with none. -/
structure Splits (b : List Nat) (ls : List (List Nat)) (t : List Nat) : Prop where
  eq : b = joinL ls ++ t
  recs : ∀ r ∈ ls, r.length ≤ 1048576
  no : NoFrame t

theorem splits_uniq : ∀ {ls ls' : List (List Nat)} {b t t' : List Nat}, Splits b ls t → Splits b ls' t' → ls = ls' ∧ t = t'
  | [], [], b, t, t', h, h' => ⟨rfl, by have := h.eq.symm.trans h'.eq; simpa [joinL_nil] using this⟩
  | [], r :: ls', b, t, t', h, h' => by
    have e := h.eq.symm.trans h'.eq
    rw [joinL_nil, List.nil_append, joinL_cons, List.append_assoc] at e
    exact absurd e (h.no r _ (h'.recs r (by simp)))
  | r :: ls, [], b, t, t', h, h' => by
    have e := h'.eq.symm.trans h.eq
    rw [joinL_nil, List.nil_append, joinL_cons, List.append_assoc] at e
    exact absurd e (h'.no r _ (h.recs r (by simp)))
  | r :: ls, r' :: ls', b, t, t', h, h' => by
    have e := h.eq.symm.trans h'.eq
    rw [joinL_cons, joinL_cons, List.append_assoc, List.append_assoc] at e
    obtain ⟨rfl, e2⟩ := frame_uniq e
    have h1 : Splits (joinL ls ++ t) ls t := ⟨rfl, fun r hr => h.recs r (by simp [hr]), h.no⟩
    have h2 : Splits (joinL ls ++ t) ls' t' := ⟨e2, fun r hr => h'.recs r (by simp [hr]), h'.no⟩
    obtain ⟨rfl, rfl⟩ := splits_uniq h1 h2
    exact ⟨rfl, rfl⟩

theorem splits_all (ls : List (List Nat)) (h : ∀ r ∈ ls, r.length ≤ 1048576) : Splits (joinL ls) ls [] :=
  ⟨(List.append_nil _).symm, h, noFrame_nil⟩

/-- Of a beginning of frames: those that are complete. -/
theorem splits_cut (ls : List (List Nat)) (h : ∀ r ∈ ls, r.length ≤ 1048576) (i k : Nat) (hi : i ≤ ls.length) (hk : sizeL (ls.take i) ≤ k) (hno : i < ls.length → k < sizeL (ls.take (i + 1))) :
    ∃ t, Splits ((joinL ls).take k) (ls.take i) t := by
  have e : joinL ls = joinL (ls.take i) ++ joinL (ls.drop i) := by rw [← joinL_append, List.take_append_drop]
  have hl := joinL_len (ls.take i)
  refine ⟨(joinL (ls.drop i)).take (k - sizeL (ls.take i)), ?_, fun r hr => h r (List.mem_of_mem_take hr), ?_⟩
  · rw [e, List.take_append, hl, List.take_of_length_le (by omega)]
  · by_cases hlt : i < ls.length
    · have hd : ls.drop i = ls[i] :: ls.drop (i + 1) := List.drop_eq_getElem_cons hlt
      have h1 := hno hlt
      rw [List.take_succ_eq_append_getElem hlt, sizeL_append, sizeL_cons, sizeL_nil] at h1
      rw [hd, joinL_cons]
      exact noFrame_take (by omega)
    · rw [List.drop_eq_nil_of_le (by omega), joinL_nil, List.take_nil]
      exact noFrame_nil

theorem splits_follow (ls : List (List Nat)) (h : ∀ r ∈ ls, r.length ≤ 1048576) {more : List Nat} {ys : List (List Nat)} {t : List Nat} (hy : Splits more ys t) : Splits (joinL ls ++ more) (ls ++ ys) t := by
  refine ⟨by rw [hy.eq, joinL_append, List.append_assoc], fun r hr => ?_, hy.no⟩
  rcases List.mem_append.1 hr with hr | hr
  · exact h r hr
  · exact hy.recs r hr

theorem splits_step {b : List Nat} {ls : List (List Nat)} {r t : List Nat} {rest : List Nat} (hb : b = joinL ls ++ rest) (hr : rest = frameL r ++ t) : b = joinL (ls ++ [r]) ++ t := by
  rw [hb, hr, joinL_snoc, List.append_assoc]
end Go.Proofs.Ytngnbmaocdadaaa

/- Disks as plain data: files in the order of their names; what a change does. -/
namespace Go.Proofs.Ytngnbmaocdadaaa
open Go.RowKit Go.Maps

section
variable {α β : Type}
/-- Lists in the order of names: put, take out, find. -/
def insN (f : α → List UInt8) (x : α) : List α → List α
  | [] => [x]
  | y :: r => if bytesBefore (f x) (f y) then x :: y :: r else y :: insN f x r
def delN (f : α → List UInt8) (n : List UInt8) (l : List α) : List α := l.filter fun y => !(f y == n)
def putN (f : α → List UInt8) (x : α) (l : List α) : List α := insN f x (delN f (f x) l)
def findN (f : α → List UInt8) (n : List UInt8) (l : List α) : Option α := l.find? fun y => f y == n
def setN (f : α → List UInt8) (x : α) (l : List α) : List α := l.map fun y => if f y == f x then x else y

theorem insN_map (f : α → List UInt8) (f' : β → List UInt8) (g : α → β) (h : ∀ x, f' (g x) = f x) (x : α) : ∀ l, (insN f x l).map g = insN f' (g x) (l.map g)
  | [] => rfl
  | y :: r => by
    show (if bytesBefore (f x) (f y) = true then x :: y :: r else y :: insN f x r).map g = if bytesBefore (f' (g x)) (f' (g y)) = true then g x :: g y :: r.map g else g y :: insN f' (g x) (r.map g)
    rw [h, h]
    split
    · rfl
    · rw [List.map_cons, insN_map f f' g h x r]

theorem delN_map (f : α → List UInt8) (f' : β → List UInt8) (g : α → β) (h : ∀ x, f' (g x) = f x) (n : List UInt8) (l : List α) : (delN f n l).map g = delN f' n (l.map g) := by
  unfold delN
  rw [List.filter_map]
  congr 1
  exact List.filter_congr (fun y _ => by simp [h])

theorem putN_map (f : α → List UInt8) (f' : β → List UInt8) (g : α → β) (h : ∀ x, f' (g x) = f x) (x : α) (l : List α) : (putN f x l).map g = putN f' (g x) (l.map g) := by
  unfold putN
  rw [insN_map f f' g h, delN_map f f' g h, h]

theorem findN_map (f : α → List UInt8) (f' : β → List UInt8) (g : α → β) (h : ∀ x, f' (g x) = f x) (n : List UInt8) (l : List α) : findN f' n (l.map g) = (findN f n l).map g := by
  unfold findN
  rw [List.find?_map]
  congr 2
  funext y
  simp [h]

theorem setN_map (f : α → List UInt8) (f' : β → List UInt8) (g : α → β) (h : ∀ x, f' (g x) = f x) (x : α) (l : List α) : (setN f x l).map g = setN f' (g x) (l.map g) := by
  unfold setN
  rw [List.map_map, List.map_map]
  refine List.map_congr_left (fun y _ => ?_)
  simp only [Function.comp, h]
  split <;> rfl

theorem mem_insN (f : α → List UInt8) (x : α) : ∀ (l : List α) (z : α), z ∈ insN f x l ↔ z = x ∨ z ∈ l
  | [], z => by simp [insN]
  | y :: r, z => by
    unfold insN
    split
    · simp
    · rw [List.mem_cons, mem_insN f x r z, List.mem_cons]
      constructor
      · rintro (h | h | h)
        · exact .inr (.inl h)
        · exact .inl h
        · exact .inr (.inr h)
      · rintro (h | h | h)
        · exact .inr (.inl h)
        · exact .inl h
        · exact .inr (.inr h)

theorem perm_insN (f : α → List UInt8) (x : α) : ∀ (l : List α), (insN f x l).Perm (x :: l)
  | [] => .refl _
  | y :: r => by
    unfold insN
    split
    · exact .refl _
    · exact ((perm_insN f x r).cons y).trans (List.Perm.swap x y r)

theorem findN_some {f : α → List UInt8} {n : List UInt8} {l : List α} {x : α} (h : findN f n l = some x) : x ∈ l ∧ f x = n :=
  ⟨List.mem_of_find?_eq_some h, by simpa using List.find?_some h⟩
theorem findN_none {f : α → List UInt8} {n : List UInt8} {l : List α} (h : findN f n l = none) : ∀ x ∈ l, f x ≠ n := fun x hx e => by
  have := List.find?_eq_none.1 h x hx
  simp [e] at this
theorem delN_none {f : α → List UInt8} {n : List UInt8} {l : List α} (h : findN f n l = none) : delN f n l = l := by
  unfold delN
  rw [List.filter_eq_self]
  intro y hy
  have := findN_none h y hy
  simpa using this
end

/-- A file: its name, its bytes, how many of them are durable. -/
structure F where
  n : List UInt8
  b : List Nat
  d : Nat

/-- A disk. -/
structure DM where
  room : Nat
  fs : List F
  down : Bool
  plan : Nat

def usedF (l : List F) : Nat := (l.map fun f => f.b.length).sum

/-- What a change does to the plan. -/
def failM (M : DM) : DM := if M.down = true then M else if M.plan = 1 then { M with plan := 0, down := true } else { M with plan := M.plan - 1 }

def okByte (c : UInt8) : Bool := (decide (97 ≤ c.toNat) && decide (c.toNat ≤ 122)) || (decide (48 ≤ c.toNat) && decide (c.toNat ≤ 57)) || c.toNat == 45 || c.toNat == 46
def named (n : List UInt8) : Bool := decide (1 ≤ n.length) && decide (n.length ≤ 100) && n.all okByte

/-- A change of the file with a name. -/
def chgM (M : DM) (n : List UInt8) (act : DM → DM × Int) : DM × Int := if (failM M).down = true then (failM M, 10) else if named n = true then act (failM M) else (failM M, 6)
def onM (n : List UInt8) (act : F → DM → DM × Int) (M : DM) : DM × Int := match findN F.n n M.fs with | none => (M, 6) | some f => act f M

def createM (n : List UInt8) (M : DM) : DM × Int := chgM M n fun M => match findN F.n n M.fs with | some _ => (M, 7) | none => ({ M with fs := putN F.n ⟨n, [], 0⟩ M.fs }, 0)
def appendM (n : List UInt8) (b : List Nat) (M : DM) : DM × Int := chgM M n (onM n fun f M => if usedF M.fs + b.length ≤ M.room then ({ M with fs := setN F.n ⟨n, f.b ++ b, f.d⟩ M.fs }, 0) else (M, 5))
def syncM (n : List UInt8) (M : DM) : DM × Int := chgM M n (onM n fun f M => ({ M with fs := setN F.n ⟨n, f.b, f.b.length⟩ M.fs }, 0))
def renameM (n to : List UInt8) (M : DM) : DM × Int := chgM M n (onM n fun f M => if named to = true then ({ M with fs := putN F.n ⟨to, f.b, f.d⟩ (delN F.n n M.fs) }, 0) else (M, 6))
def removeM (n : List UInt8) (M : DM) : DM × Int := chgM M n (onM n fun _ M => ({ M with fs := delN F.n n M.fs }, 0))
def readM (n : List UInt8) (M : DM) : List Nat × Int := if M.down = true then ([], 10) else match findN F.n n M.fs with | none => ([], 6) | some f => (f.b, 0)
def cutF (f : F) (k : Int) : F := ⟨f.n, f.b.take (f.d + min (max k 0).toNat (f.b.length - f.d)), f.d + min (max k 0).toNat (f.b.length - f.d)⟩
def crashM (ks : List Int) (M : DM) : DM := { M with fs := M.fs.mapIdx fun i f => cutF f (ks.getD i 0), down := false, plan := 0 }
def armM (k : Int) (M : DM) : DM := { M with plan := k.toNat }
def newM (room : Int) : DM := ⟨room.toNat, [], false, 0⟩

/-- A file in memory: the block of its struct, the slice that its bytes lie in. -/
structure FW where
  f : F
  blk : Nat
  v : Value

def FW.n (x : FW) : List UInt8 := x.f.n
def ent (x : FW) : Lit × DataW Unit := (.string x.n, .lit (.int .i64 (x.blk : Int)))
def dirD (L : List FW) : DataW Unit := .map (L.map ent)
/-- How a pointer to a file reads. -/
def ptrR : Value → Option (DataW Unit × List MemPlace)
  | .pointer none => some (.nil, [])
  | .pointer (some ⟨b, 0, none⟩) => some (.lit (.int .i64 (b : Int)), [])
  | _ => none
def fileV : Option FW → Value
  | none => .pointer none
  | some x => .pointer (some ⟨x.blk, 0, none⟩)

theorem insert_ent (x : FW) : ∀ L : List FW, DataW.insert (ent x) (L.map ent) = (insN FW.n x L).map ent
  | [] => rfl
  | y :: r => by
    show (if bytesBefore x.n y.n = true then ent x :: ent y :: r.map ent else ent y :: DataW.insert (ent x) (r.map ent)) = (if bytesBefore x.n y.n = true then x :: y :: r else y :: insN FW.n x r).map ent
    split
    · rfl
    · rw [List.map_cons, insert_ent x r]

theorem filter_ent (n : List UInt8) (L : List FW) : (L.map ent).filter (fun p => !p.1.sameKey (.string n)) = (delN FW.n n L).map ent := by
  unfold delN
  rw [List.filter_map]
  rfl

theorem dirD_put (x : FW) (L : List FW) : (dirD L).put (.string x.n) (.lit (.int .i64 (x.blk : Int))) = dirD (putN FW.n x L) := by
  show DataW.map (DataW.insert (ent x) ((L.map ent).filter fun p => !p.1.sameKey (.string x.n))) = _
  rw [filter_ent, insert_ent]
  rfl

theorem dirD_del (n : List UInt8) (L : List FW) : (dirD L).del (.string n) = dirD (delN FW.n n L) := by
  show DataW.map ((L.map ent).filter fun p => !p.1.sameKey (.string n)) = _
  rw [filter_ent]
  rfl

theorem dirD_at (n : List UInt8) (L : List FW) (z : DataW Unit) : (dirD L).atKey (.string n) z = match findN FW.n n L with | some x => .lit (.int .i64 (x.blk : Int)) | none => z := by
  unfold dirD DataW.atKey findN
  simp only
  rw [show (L.map ent).find? (fun p => p.1.sameKey (.string n)) = (L.find? fun y => y.n == n).map ent from List.find?_map]
  cases L.find? fun y => y.n == n <;> rfl

theorem dirD_keys (L : List FW) : strKeys (dirD L) = L.map FW.n := by
  show (L.map ent).map (fun p => strOf p.1) = _
  rw [List.map_map]
  rfl

theorem dirD_size (L : List FW) : Maps.size (dirD L) = L.length := List.length_map ..
end Go.Proofs.Ytngnbmaocdadaaa

/- Lists of numbers in ascending order: what sorting and leaving out neighbours that are equal gives, and what insertion gives. -/
namespace Go.Proofs.Ytngnbmaocdadaaa
open Go.RowKit

/-- Ascending, each once. -/
def Asc (l : List Int) : Prop := l.Pairwise (· < ·)

/-- The numbers of all segments among some names. -/
def NumsOf (ls : List (List Nat)) (x : Int) : Prop := ∃ l ∈ ls, 0 < segNum l ∧ x = ((segNum l : Nat) : Int)

theorem asc_eq : ∀ {a b : List Int}, Asc a → Asc b → (∀ x, x ∈ a ↔ x ∈ b) → a = b
  | [], [], _, _, _ => rfl
  | [], y :: b, _, _, h => absurd ((h y).2 (by simp)) (by simp)
  | x :: a, [], _, _, h => absurd ((h x).1 (by simp)) (by simp)
  | x :: a, y :: b, ha, hb, h => by
    obtain ⟨ha1, ha2⟩ := List.pairwise_cons.1 ha
    obtain ⟨hb1, hb2⟩ := List.pairwise_cons.1 hb
    have hxy : x = y := by
      have h1 := (h x).1 (by simp)
      have h2 := (h y).2 (by simp)
      rcases List.mem_cons.1 h1 with e | e
      · exact e
      · rcases List.mem_cons.1 h2 with e2 | e2
        · exact e2.symm
        · have := hb1 x e
          have := ha1 y e2
          omega
    subst hxy
    rw [asc_eq ha2 hb2 (fun z => ?_)]
    constructor
    · intro hz
      rcases List.mem_cons.1 ((h z).1 (by simp [hz])) with e | e
      · have := ha1 z hz; omega
      · exact e
    · intro hz
      rcases List.mem_cons.1 ((h z).2 (by simp [hz])) with e | e
      · have := hb1 z hz; omega
      · exact e

theorem asc_insert {l : List Int} {j : Nat} {n : Int} (h : Asc l) (hj : j ≤ l.length) (hlo : ∀ i, i < j → l.getD i 0 < n) (hhi : j < l.length → ¬ l.getD j 0 < n) (hn : n ∉ l) : Asc (l.take j ++ n :: l.drop j) := by
  have hsp : l.take j ++ l.drop j = l := List.take_append_drop j l
  have h0 := h
  unfold Asc at h0
  rw [← hsp, List.pairwise_append] at h0
  obtain ⟨h1, h2, h3⟩ := h0
  have hlo2 : ∀ x ∈ l.take j, x < n := by
    intro x hx
    obtain ⟨i, hi, rfl⟩ := List.getElem_of_mem hx
    have hij : i < j := by rw [List.length_take] at hi; omega
    have := hlo i hij
    rw [List.getD_eq_getElem?_getD, List.getElem?_eq_getElem (by omega)] at this
    rw [List.getElem_take]
    exact this
  have hhi2 : ∀ x ∈ l.drop j, n < x := by
    intro x hx
    by_cases hjl : j < l.length
    · have hd : l.drop j = l[j] :: l.drop (j + 1) := List.drop_eq_getElem_cons hjl
      have hge := hhi hjl
      rw [List.getD_eq_getElem?_getD, List.getElem?_eq_getElem hjl] at hge
      have hge : ¬ l[j] < n := hge
      have hne : l[j] ≠ n := fun e => hn (by rw [← e]; exact List.getElem_mem hjl)
      rw [hd] at hx h2
      rcases List.mem_cons.1 hx with e | e
      · omega
      · have := (List.pairwise_cons.1 h2).1 x e
        omega
    · rw [List.drop_eq_nil_of_le (by omega)] at hx
      cases hx
  unfold Asc
  rw [List.pairwise_append]
  refine ⟨h1, List.pairwise_cons.2 ⟨hhi2, h2⟩, fun x hx y hy => ?_⟩
  rcases List.mem_cons.1 hy with e | e
  · have := hlo2 x hx; omega
  · exact h3 x hx y e

theorem mem_insert {l : List Int} {j : Nat} {n x : Int} : x ∈ l.take j ++ n :: l.drop j ↔ x = n ∨ x ∈ l := by
  rw [List.mem_append, List.mem_cons]
  conv => rhs; rw [← List.take_append_drop j l, List.mem_append]
  constructor
  · rintro (h | h | h)
    · exact .inr (.inl h)
    · exact .inl h
    · exact .inr (.inr h)
  · rintro (h | h | h)
    · exact .inr (.inl h)
    · exact .inl h
    · exact .inr (.inr h)

theorem compact_upto (d : Array Int) (hd : ∀ i j, i ≤ j → j < d.size → d[i]! ≤ d[j]!) : ∀ m, m ≤ d.size →
    Asc (Lib.compactUpTo d m) ∧ ∀ x, x ∈ Lib.compactUpTo d m ↔ ∃ j, j < m ∧ d[j]! = x
  | 0, _ => ⟨by unfold Asc; exact List.Pairwise.nil, fun x => ⟨fun h => (by cases h), fun ⟨j, h, _⟩ => (by omega)⟩⟩
  | m + 1, hm => by
    obtain ⟨h1, h2⟩ := compact_upto d hd m (by omega)
    rw [Lib.compactUpTo_succ]
    by_cases hk : m = 0 ∨ d[m]! ≠ d[m - 1]!
    · have hkk : Lib.keeps d m = true := by unfold Lib.keeps; exact decide_eq_true hk
      rw [hkk, if_pos rfl]
      refine ⟨?_, fun x => ?_⟩
      · unfold Asc
        rw [List.pairwise_append]
        refine ⟨h1, List.pairwise_singleton _ _, fun x hx y hy => ?_⟩
        obtain rfl : y = d[m]! := by simpa using hy
        obtain ⟨j, hj, rfl⟩ := (h2 x).1 hx
        rcases hk with hk | hk
        · omega
        · have a1 := hd j (m - 1) (by omega) (by omega)
          have a2 := hd (m - 1) m (by omega) (by omega)
          omega
      · rw [List.mem_append, h2 x, List.mem_singleton]
        constructor
        · rintro (⟨j, hj, e⟩ | e)
          · exact ⟨j, by omega, e⟩
          · exact ⟨m, by omega, e.symm⟩
        · rintro ⟨j, hj, e⟩
          by_cases hjm : j = m
          · subst hjm; exact .inr e.symm
          · exact .inl ⟨j, by omega, e⟩
    · have hkk : Lib.keeps d m = false := by unfold Lib.keeps; exact decide_eq_false hk
      rw [hkk]
      simp only [Bool.false_eq_true, if_false, List.append_nil]
      have hm0 : m ≠ 0 := fun e => hk (.inl e)
      have heq : d[m]! = d[m - 1]! := Classical.byContradiction (fun e => hk (.inr e))
      refine ⟨h1, fun x => ?_⟩
      rw [h2 x]
      constructor
      · rintro ⟨j, hj, e⟩
        exact ⟨j, by omega, e⟩
      · rintro ⟨j, hj, e⟩
        by_cases hjm : j = m
        · subst hjm; exact ⟨j - 1, by omega, by rw [← heq]; exact e⟩
        · exact ⟨j, by omega, e⟩

/-- Sorted, and each once. -/
theorem compact_sorted (zs : List Int) : Asc (Lib.compact (zs.mergeSort fun x y => decide (x ≤ y))) ∧ ∀ x, x ∈ Lib.compact (zs.mergeSort fun x y => decide (x ≤ y)) ↔ x ∈ zs := by
  have hs : (zs.mergeSort fun x y => decide (x ≤ y)).Pairwise (fun x y => decide (x ≤ y) = true) := List.pairwise_mergeSort (by intro a b c; simp; omega) (by intro a b; simp; omega) zs
  have hm : ∀ x, x ∈ zs.mergeSort (fun x y => decide (x ≤ y)) ↔ x ∈ zs := fun x => List.mem_mergeSort
  generalize zs.mergeSort (fun x y => decide (x ≤ y)) = l at *
  have hd : ∀ i j, i ≤ j → j < l.toArray.size → l.toArray[i]! ≤ l.toArray[j]! := by
    intro i j hij hj
    have hj' : j < l.length := by simpa using hj
    rcases Nat.eq_or_lt_of_le hij with e | e
    · subst e; exact Int.le_refl _
    · have := List.pairwise_iff_getElem.1 hs i j (by omega) hj' e
      simp [getElem!_pos, show i < l.length by omega, hj']
      simpa using this
  obtain ⟨h1, h2⟩ := compact_upto l.toArray hd l.toArray.size (Nat.le_refl _)
  have e : Lib.compact l = Lib.compactUpTo l.toArray l.toArray.size := by unfold Lib.compact; simp
  rw [e]
  refine ⟨h1, fun x => ?_⟩
  rw [h2 x, ← hm x]
  constructor
  · rintro ⟨j, hj, rfl⟩
    have hj' : j < l.length := by simpa using hj
    simp [getElem!_pos, hj']
  · intro hx
    obtain ⟨i, hi, rfl⟩ := List.getElem_of_mem hx
    exact ⟨i, by simpa using hi, by simp [getElem!_pos, hi]⟩
end Go.Proofs.Ytngnbmaocdadaaa

