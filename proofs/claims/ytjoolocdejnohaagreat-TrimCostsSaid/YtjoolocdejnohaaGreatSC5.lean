import Derived.Test.YtjoolocdejnohaaGreatSC1
import Derived.Maps.OwnSet
import Derived.Maps.OwnOps
import Derived.Maps.RangeWalk
import Derived.Maps.AppendAt
import Derived.Sort.KeysCollected
import Derived.Lib.SlicesCompact
import Derived.Test.YtjoolocdejnohaaGreatSC4
import Derived.Test.YtjoolocdejnohaaGreatSC2
import Derived.Shelf.Abstract
/- Disks as plain data: files in the order of their names; what a change does. -/
namespace Go.Proofs.YtjoolocdejnohaaGreat
open Go.RowKit Go.Maps

section
variable {α β : Type}
/-- Lists in the order of names: put, take out, find. -/
def insN (f : α → List UInt8) (x : α) : List α → List α
  | [] => [x]
  | y :: r => if bytesBefore (f x) (f y) then x :: y :: r else y :: insN f x r
def delN (f : α → List UInt8) (n : List UInt8) (l : List α) : List α := l.filter fun y => !(f y == n)
def putN (f : α → List UInt8) (x : α) (l : List α) : List α := insN f x (delN f (f x) l)
def findN (f : α → List UInt8) (n : List UInt8) (l : List α) : Option α := l.find? fun y => f y == n
def setN (f : α → List UInt8) (x : α) (l : List α) : List α := l.map fun y => if f y == f x then x else y

theorem insN_map (f : α → List UInt8) (f' : β → List UInt8) (g : α → β) (h : ∀ x, f' (g x) = f x) (x : α) : ∀ l, (insN f x l).map g = insN f' (g x) (l.map g)
  | [] => rfl
  | y :: r => by
    show (if bytesBefore (f x) (f y) = true then x :: y :: r else y :: insN f x r).map g = if bytesBefore (f' (g x)) (f' (g y)) = true then g x :: g y :: r.map g else g y :: insN f' (g x) (r.map g)
    rw [h, h]
    split
    · rfl
    · rw [List.map_cons, insN_map f f' g h x r]

theorem delN_map (f : α → List UInt8) (f' : β → List UInt8) (g : α → β) (h : ∀ x, f' (g x) = f x) (n : List UInt8) (l : List α) : (delN f n l).map g = delN f' n (l.map g) := by
  unfold delN
  rw [List.filter_map]
  congr 1
  exact List.filter_congr (fun y _ => by simp [h])

theorem putN_map (f : α → List UInt8) (f' : β → List UInt8) (g : α → β) (h : ∀ x, f' (g x) = f x) (x : α) (l : List α) : (putN f x l).map g = putN f' (g x) (l.map g) := by
  unfold putN
  rw [insN_map f f' g h, delN_map f f' g h, h]

theorem findN_map (f : α → List UInt8) (f' : β → List UInt8) (g : α → β) (h : ∀ x, f' (g x) = f x) (n : List UInt8) (l : List α) : findN f' n (l.map g) = (findN f n l).map g := by
  unfold findN
  rw [List.find?_map]
  congr 2
  funext y
  simp [h]

theorem setN_map (f : α → List UInt8) (f' : β → List UInt8) (g : α → β) (h : ∀ x, f' (g x) = f x) (x : α) (l : List α) : (setN f x l).map g = setN f' (g x) (l.map g) := by
  unfold setN
  rw [List.map_map, List.map_map]
  refine List.map_congr_left (fun y _ => ?_)
  simp only [Function.comp, h]
  split <;> rfl

theorem mem_insN (f : α → List UInt8) (x : α) : ∀ (l : List α) (z : α), z ∈ insN f x l ↔ z = x ∨ z ∈ l
  | [], z => by simp [insN]
  | y :: r, z => by
    unfold insN
    split
    · simp
    · rw [List.mem_cons, mem_insN f x r z, List.mem_cons]
      constructor
      · rintro (h | h | h)
        · exact .inr (.inl h)
        · exact .inl h
        · exact .inr (.inr h)
      · rintro (h | h | h)
        · exact .inr (.inl h)
        · exact .inl h
        · exact .inr (.inr h)

theorem perm_insN (f : α → List UInt8) (x : α) : ∀ (l : List α), (insN f x l).Perm (x :: l)
  | [] => .refl _
  | y :: r => by
    unfold insN
    split
    · exact .refl _
    · exact ((perm_insN f x r).cons y).trans (List.Perm.swap x y r)

theorem findN_some {f : α → List UInt8} {n : List UInt8} {l : List α} {x : α} (h : findN f n l = some x) : x ∈ l ∧ f x = n :=
  ⟨List.mem_of_find?_eq_some h, by simpa using List.find?_some h⟩
theorem findN_none {f : α → List UInt8} {n : List UInt8} {l : List α} (h : findN f n l = none) : ∀ x ∈ l, f x ≠ n := fun x hx e => by
  have := List.find?_eq_none.1 h x hx
  simp [e] at this
theorem delN_none {f : α → List UInt8} {n : List UInt8} {l : List α} (h : findN f n l = none) : delN f n l = l := by
  unfold delN
  rw [List.filter_eq_self]
  intro y hy
  have := findN_none h y hy
  simpa using this
end

/-- A file: its name, its bytes, how many of them are durable. -/
structure F where
  n : List UInt8
  b : List Nat
  d : Nat

/-- A disk. -/
structure DM where
  room : Nat
  fs : List F
  down : Bool
  plan : Nat

def usedF (l : List F) : Nat := (l.map fun f => f.b.length).sum

/-- What a change does to the plan. -/
def failM (M : DM) : DM := if M.down = true then M else if M.plan = 1 then { M with plan := 0, down := true } else { M with plan := M.plan - 1 }

def okByte (c : UInt8) : Bool := (decide (97 ≤ c.toNat) && decide (c.toNat ≤ 122)) || (decide (48 ≤ c.toNat) && decide (c.toNat ≤ 57)) || c.toNat == 45 || c.toNat == 46
def named (n : List UInt8) : Bool := decide (1 ≤ n.length) && decide (n.length ≤ 100) && n.all okByte

/-- A change of the file with a name. -/
def chgM (M : DM) (n : List UInt8) (act : DM → DM × Int) : DM × Int := if (failM M).down = true then (failM M, 10) else if named n = true then act (failM M) else (failM M, 6)
def onM (n : List UInt8) (act : F → DM → DM × Int) (M : DM) : DM × Int := match findN F.n n M.fs with | none => (M, 6) | some f => act f M

def createM (n : List UInt8) (M : DM) : DM × Int := chgM M n fun M => match findN F.n n M.fs with | some _ => (M, 7) | none => ({ M with fs := putN F.n ⟨n, [], 0⟩ M.fs }, 0)
def appendM (n : List UInt8) (b : List Nat) (M : DM) : DM × Int := chgM M n (onM n fun f M => if usedF M.fs + b.length ≤ M.room then ({ M with fs := setN F.n ⟨n, f.b ++ b, f.d⟩ M.fs }, 0) else (M, 5))
def syncM (n : List UInt8) (M : DM) : DM × Int := chgM M n (onM n fun f M => ({ M with fs := setN F.n ⟨n, f.b, f.b.length⟩ M.fs }, 0))
def renameM (n to : List UInt8) (M : DM) : DM × Int := chgM M n (onM n fun f M => if named to = true then ({ M with fs := putN F.n ⟨to, f.b, f.d⟩ (delN F.n n M.fs) }, 0) else (M, 6))
def removeM (n : List UInt8) (M : DM) : DM × Int := chgM M n (onM n fun _ M => ({ M with fs := delN F.n n M.fs }, 0))
def readM (n : List UInt8) (M : DM) : List Nat × Int := if M.down = true then ([], 10) else match findN F.n n M.fs with | none => ([], 6) | some f => (f.b, 0)
def armM (k : Int) (M : DM) : DM := { M with plan := k.toNat }
def newM (room : Int) : DM := ⟨room.toNat, [], false, 0⟩

/-- A file in memory: the block of its struct, the slice that its bytes lie in. -/
structure FW where
  f : F
  blk : Nat
  v : Value

def FW.n (x : FW) : List UInt8 := x.f.n
def ent (x : FW) : Lit × DataW Unit := (.string x.n, .lit (.int .i64 (x.blk : Int)))
def dirD (L : List FW) : DataW Unit := .map (L.map ent)
/-- How a pointer to a file reads. -/
def ptrR : Value → Option (DataW Unit × List MemPlace)
  | .pointer none => some (.nil, [])
  | .pointer (some ⟨b, 0, none⟩) => some (.lit (.int .i64 (b : Int)), [])
  | _ => none
def fileV : Option FW → Value
  | none => .pointer none
  | some x => .pointer (some ⟨x.blk, 0, none⟩)

theorem insert_ent (x : FW) : ∀ L : List FW, DataW.insert (ent x) (L.map ent) = (insN FW.n x L).map ent
  | [] => rfl
  | y :: r => by
    show (if bytesBefore x.n y.n = true then ent x :: ent y :: r.map ent else ent y :: DataW.insert (ent x) (r.map ent)) = (if bytesBefore x.n y.n = true then x :: y :: r else y :: insN FW.n x r).map ent
    split
    · rfl
    · rw [List.map_cons, insert_ent x r]

theorem filter_ent (n : List UInt8) (L : List FW) : (L.map ent).filter (fun p => !p.1.sameKey (.string n)) = (delN FW.n n L).map ent := by
  unfold delN
  rw [List.filter_map]
  rfl

theorem dirD_put (x : FW) (L : List FW) : (dirD L).put (.string x.n) (.lit (.int .i64 (x.blk : Int))) = dirD (putN FW.n x L) := by
  show DataW.map (DataW.insert (ent x) ((L.map ent).filter fun p => !p.1.sameKey (.string x.n))) = _
  rw [filter_ent, insert_ent]
  rfl

theorem dirD_del (n : List UInt8) (L : List FW) : (dirD L).del (.string n) = dirD (delN FW.n n L) := by
  show DataW.map ((L.map ent).filter fun p => !p.1.sameKey (.string n)) = _
  rw [filter_ent]
  rfl

theorem dirD_at (n : List UInt8) (L : List FW) (z : DataW Unit) : (dirD L).atKey (.string n) z = match findN FW.n n L with | some x => .lit (.int .i64 (x.blk : Int)) | none => z := by
  unfold dirD DataW.atKey findN
  simp only
  rw [show (L.map ent).find? (fun p => p.1.sameKey (.string n)) = (L.find? fun y => y.n == n).map ent from List.find?_map]
  cases L.find? fun y => y.n == n <;> rfl

theorem dirD_keys (L : List FW) : strKeys (dirD L) = L.map FW.n := by
  show (L.map ent).map (fun p => strOf p.1) = _
  rw [List.map_map]
  rfl

theorem dirD_size (L : List FW) : Maps.size (dirD L) = L.length := List.length_map ..
end Go.Proofs.YtjoolocdejnohaaGreat

/- Lists of numbers in ascending order: what sorting and leaving out neighbours that are equal gives, and what insertion gives. -/
namespace Go.Proofs.YtjoolocdejnohaaGreat
open Go.RowKit

/-- Ascending, each once. -/
def Asc (l : List Int) : Prop := l.Pairwise (· < ·)

/-- The numbers of all segments among some names. -/
def NumsOf (ls : List (List Nat)) (x : Int) : Prop := ∃ l ∈ ls, 0 < segNum l ∧ x = ((segNum l : Nat) : Int)

theorem asc_eq : ∀ {a b : List Int}, Asc a → Asc b → (∀ x, x ∈ a ↔ x ∈ b) → a = b
  | [], [], _, _, _ => rfl
  | [], y :: b, _, _, h => absurd ((h y).2 (by simp)) (by simp)
  | x :: a, [], _, _, h => absurd ((h x).1 (by simp)) (by simp)
  | x :: a, y :: b, ha, hb, h => by
    obtain ⟨ha1, ha2⟩ := List.pairwise_cons.1 ha
    obtain ⟨hb1, hb2⟩ := List.pairwise_cons.1 hb
    have hxy : x = y := by
      have h1 := (h x).1 (by simp)
      have h2 := (h y).2 (by simp)
      rcases List.mem_cons.1 h1 with e | e
      · exact e
      · rcases List.mem_cons.1 h2 with e2 | e2
        · exact e2.symm
        · have := hb1 x e
          have := ha1 y e2
          omega
    subst hxy
    rw [asc_eq ha2 hb2 (fun z => ?_)]
    constructor
    · intro hz
      rcases List.mem_cons.1 ((h z).1 (by simp [hz])) with e | e
      · have := ha1 z hz; omega
      · exact e
    · intro hz
      rcases List.mem_cons.1 ((h z).2 (by simp [hz])) with e | e
      · have := hb1 z hz; omega
      · exact e

theorem asc_insert {l : List Int} {j : Nat} {n : Int} (h : Asc l) (hj : j ≤ l.length) (hlo : ∀ i, i < j → l.getD i 0 < n) (hhi : j < l.length → ¬ l.getD j 0 < n) (hn : n ∉ l) : Asc (l.take j ++ n :: l.drop j) := by
  have hsp : l.take j ++ l.drop j = l := List.take_append_drop j l
  have h0 := h
  unfold Asc at h0
  rw [← hsp, List.pairwise_append] at h0
  obtain ⟨h1, h2, h3⟩ := h0
  have hlo2 : ∀ x ∈ l.take j, x < n := by
    intro x hx
    obtain ⟨i, hi, rfl⟩ := List.getElem_of_mem hx
    have hij : i < j := by rw [List.length_take] at hi; omega
    have := hlo i hij
    rw [List.getD_eq_getElem?_getD, List.getElem?_eq_getElem (by omega)] at this
    rw [List.getElem_take]
    exact this
  have hhi2 : ∀ x ∈ l.drop j, n < x := by
    intro x hx
    by_cases hjl : j < l.length
    · have hd : l.drop j = l[j] :: l.drop (j + 1) := List.drop_eq_getElem_cons hjl
      have hge := hhi hjl
      rw [List.getD_eq_getElem?_getD, List.getElem?_eq_getElem hjl] at hge
      have hge : ¬ l[j] < n := hge
      have hne : l[j] ≠ n := fun e => hn (by rw [← e]; exact List.getElem_mem hjl)
      rw [hd] at hx h2
      rcases List.mem_cons.1 hx with e | e
      · omega
      · have := (List.pairwise_cons.1 h2).1 x e
        omega
    · rw [List.drop_eq_nil_of_le (by omega)] at hx
      cases hx
  unfold Asc
  rw [List.pairwise_append]
  refine ⟨h1, List.pairwise_cons.2 ⟨hhi2, h2⟩, fun x hx y hy => ?_⟩
  rcases List.mem_cons.1 hy with e | e
  · have := hlo2 x hx; omega
  · exact h3 x hx y e

theorem mem_insert {l : List Int} {j : Nat} {n x : Int} : x ∈ l.take j ++ n :: l.drop j ↔ x = n ∨ x ∈ l := by
  rw [List.mem_append, List.mem_cons]
  conv => rhs; rw [← List.take_append_drop j l, List.mem_append]
  constructor
  · rintro (h | h | h)
    · exact .inr (.inl h)
    · exact .inl h
    · exact .inr (.inr h)
  · rintro (h | h | h)
    · exact .inr (.inl h)
    · exact .inl h
    · exact .inr (.inr h)

theorem compact_upto (d : Array Int) (hd : ∀ i j, i ≤ j → j < d.size → d[i]! ≤ d[j]!) : ∀ m, m ≤ d.size →
    Asc (Lib.compactUpTo d m) ∧ ∀ x, x ∈ Lib.compactUpTo d m ↔ ∃ j, j < m ∧ d[j]! = x
  | 0, _ => ⟨by unfold Asc; exact List.Pairwise.nil, fun x => ⟨fun h => (by cases h), fun ⟨j, h, _⟩ => (by omega)⟩⟩
  | m + 1, hm => by
    obtain ⟨h1, h2⟩ := compact_upto d hd m (by omega)
    rw [Lib.compactUpTo_succ]
    by_cases hk : m = 0 ∨ d[m]! ≠ d[m - 1]!
    · have hkk : Lib.keeps d m = true := by unfold Lib.keeps; exact decide_eq_true hk
      rw [hkk, if_pos rfl]
      refine ⟨?_, fun x => ?_⟩
      · unfold Asc
        rw [List.pairwise_append]
        refine ⟨h1, List.pairwise_singleton _ _, fun x hx y hy => ?_⟩
        obtain rfl : y = d[m]! := by simpa using hy
        obtain ⟨j, hj, rfl⟩ := (h2 x).1 hx
        rcases hk with hk | hk
        · omega
        · have a1 := hd j (m - 1) (by omega) (by omega)
          have a2 := hd (m - 1) m (by omega) (by omega)
          omega
      · rw [List.mem_append, h2 x, List.mem_singleton]
        constructor
        · rintro (⟨j, hj, e⟩ | e)
          · exact ⟨j, by omega, e⟩
          · exact ⟨m, by omega, e.symm⟩
        · rintro ⟨j, hj, e⟩
          by_cases hjm : j = m
          · subst hjm; exact .inr e.symm
          · exact .inl ⟨j, by omega, e⟩
    · have hkk : Lib.keeps d m = false := by unfold Lib.keeps; exact decide_eq_false hk
      rw [hkk]
      simp only [Bool.false_eq_true, if_false, List.append_nil]
      have hm0 : m ≠ 0 := fun e => hk (.inl e)
      have heq : d[m]! = d[m - 1]! := Classical.byContradiction (fun e => hk (.inr e))
      refine ⟨h1, fun x => ?_⟩
      rw [h2 x]
      constructor
      · rintro ⟨j, hj, e⟩
        exact ⟨j, by omega, e⟩
      · rintro ⟨j, hj, e⟩
        by_cases hjm : j = m
        · subst hjm; exact ⟨j - 1, by omega, by rw [← heq]; exact e⟩
        · exact ⟨j, by omega, e⟩

/-- Sorted, and each once. -/
theorem compact_sorted (zs : List Int) : Asc (Lib.compact (zs.mergeSort fun x y => decide (x ≤ y))) ∧ ∀ x, x ∈ Lib.compact (zs.mergeSort fun x y => decide (x ≤ y)) ↔ x ∈ zs := by
  have hs : (zs.mergeSort fun x y => decide (x ≤ y)).Pairwise (fun x y => decide (x ≤ y) = true) := List.pairwise_mergeSort (by intro a b c; simp; omega) (by intro a b; simp; omega) zs
  have hm : ∀ x, x ∈ zs.mergeSort (fun x y => decide (x ≤ y)) ↔ x ∈ zs := fun x => List.mem_mergeSort
  generalize zs.mergeSort (fun x y => decide (x ≤ y)) = l at *
  have hd : ∀ i j, i ≤ j → j < l.toArray.size → l.toArray[i]! ≤ l.toArray[j]! := by
    intro i j hij hj
    have hj' : j < l.length := by simpa using hj
    rcases Nat.eq_or_lt_of_le hij with e | e
    · subst e; exact Int.le_refl _
    · have := List.pairwise_iff_getElem.1 hs i j (by omega) hj' e
      simp [getElem!_pos, show i < l.length by omega, hj']
      simpa using this
  obtain ⟨h1, h2⟩ := compact_upto l.toArray hd l.toArray.size (Nat.le_refl _)
  have e : Lib.compact l = Lib.compactUpTo l.toArray l.toArray.size := by unfold Lib.compact; simp
  rw [e]
  refine ⟨h1, fun x => ?_⟩
  rw [h2 x, ← hm x]
  constructor
  · rintro ⟨j, hj, rfl⟩
    have hj' : j < l.length := by simpa using hj
    simp [getElem!_pos, hj']
  · intro hx
    obtain ⟨i, hi, rfl⟩ := List.getElem_of_mem hx
    exact ⟨i, by simpa using hi, by simp [getElem!_pos, hi]⟩
end Go.Proofs.YtjoolocdejnohaaGreat

/- Logs as plain data: what Put and Sync do, and what the files of a log are while no change fails. -/
namespace Go.Proofs.YtjoolocdejnohaaGreat
open Go.RowKit Go.Maps

/-- The name of a segment, as a file's. -/
def nmB (i : Nat) : List UInt8 := (nameL i).map UInt8.ofNat

theorem nmB_inj {i j : Nat} (hi : i ≤ 99999999) (hj : j ≤ 99999999) (h : nmB i = nmB j) : i = j :=
  nameL_inj hi hj (ofNat_inj (nameL_byte i) (nameL_byte j) h)

theorem before_less : ∀ {a b : List Nat}, (∀ x ∈ a, x < 256) → (∀ x ∈ b, x < 256) → bytesBefore (a.map UInt8.ofNat) (b.map UInt8.ofNat) = ltL a b
  | [], [], _, _ => rfl
  | [], _ :: _, _, _ => rfl
  | _ :: _, [], _, _ => rfl
  | c :: r, c' :: r', ha, hb => by
    have hc := ha c (by simp)
    have hc' := hb c' (by simp)
    have e : UInt8.ofNat c < UInt8.ofNat c' ↔ c < c' := by
      rw [UInt8.lt_iff_toNat_lt, UInt8.toNat_ofNat', UInt8.toNat_ofNat']
      omega
    have e2 : UInt8.ofNat c = UInt8.ofNat c' ↔ c = c' := by
      constructor
      · intro h
        have h2 := congrArg UInt8.toNat h
        rw [UInt8.toNat_ofNat', UInt8.toNat_ofNat'] at h2
        omega
      · intro h; rw [h]
    have ih := before_less (a := r) (b := r') (fun x hx => ha x (by simp [hx])) (fun x hx => hb x (by simp [hx]))
    rw [List.map_cons, List.map_cons, ltL, bytesBefore, ih]
    by_cases h1 : c < c'
    · simp [e, h1]
    · by_cases h2 : c' < c
      · have h3 : ¬ c = c' := by omega
        simp [e, e2, h1, h2, h3]
      · have h3 : c = c' := by omega
        subst h3
        simp

theorem nmB_before {i j : Nat} (hi : i ≤ 99999999) (hj : j ≤ 99999999) : bytesBefore (nmB i) (nmB j) = decide (i < j) := by
  unfold nmB
  rw [before_less (nameL_byte i) (nameL_byte j), ltL_name hi hj]

theorem nmB_named (i : Nat) : named (nmB i) = true := by
  unfold named nmB
  have hl : ((nameL i).map UInt8.ofNat).length = 12 := by rw [List.length_map, nameL_len]
  rw [hl, List.all_map]
  have h : (nameL i).all (okByte ∘ UInt8.ofNat) = true := by
    rw [List.all_eq_true]
    intro c hc
    rcases List.mem_append.1 hc with h | h
    · unfold logL at h
      simp only [List.mem_cons, List.not_mem_nil, or_false] at h
      rcases h with rfl | rfl | rfl | rfl <;> decide
    · have hd := digN_digit 8 i c h
      show okByte (UInt8.ofNat c) = true
      have : ∀ k : Fin 10, okByte (UInt8.ofNat (48 + k.val)) = true := by decide
      have h2 := this ⟨c - 48, by omega⟩
      rwa [show 48 + (c - 48) = c by omega] at h2
  rw [h]
  rfl

/-- A log. -/
structure WM where
  D : DM
  most : Int
  n : Nat
  size : Nat
  wait : Nat

def syncW (W : WM) : WM × Int :=
  ({ W with D := (syncM (nmB W.n) W.D).1, wait := if (syncM (nmB W.n) W.D).2 = 0 then 0 else W.wait }, (syncM (nmB W.n) W.D).2)

def rotW (W : WM) : WM × Int :=
  if 99999999 ≤ W.n then (W, 2)
  else if (syncM (nmB W.n) W.D).2 ≠ 0 then ({ W with D := (syncM (nmB W.n) W.D).1 }, (syncM (nmB W.n) W.D).2)
  else if (createM (nmB (W.n + 1)) (syncM (nmB W.n) W.D).1).2 ≠ 0 then ({ W with D := (createM (nmB (W.n + 1)) (syncM (nmB W.n) W.D).1).1 }, (createM (nmB (W.n + 1)) (syncM (nmB W.n) W.D).1).2)
  else ({ W with D := (createM (nmB (W.n + 1)) (syncM (nmB W.n) W.D).1).1, n := W.n + 1, size := 0, wait := 0 }, 0)

def appW (W : WM) (l : List Nat) : WM × Int :=
  if (appendM (nmB W.n) (frameL l) W.D).2 = 0 then ({ W with D := (appendM (nmB W.n) (frameL l) W.D).1, size := W.size + (l.length + 8), wait := W.wait + 1 }, 0)
  else ({ W with D := (appendM (nmB W.n) (frameL l) W.D).1 }, (appendM (nmB W.n) (frameL l) W.D).2)

def putW (W : WM) (l : List Nat) : WM × Int :=
  if l = [] then (W, 2)
  else if 1048576 < l.length ∨ W.most < ((l.length + 8 : Nat) : Int) then (W, 4)
  else if 0 < W.size ∧ W.most < ((W.size + (l.length + 8) : Nat) : Int) then (if (rotW W).2 ≠ 0 then rotW W else appW (rotW W).1 l)
  else appW W l

section
variable {pre : List F} {x f : F}

theorem findN_last (hp : ∀ y ∈ pre, y.n ≠ x.n) : findN F.n x.n (pre ++ [x]) = some x := by
  unfold findN
  rw [List.find?_append]
  have : pre.find? (fun y => y.n == x.n) = none := List.find?_eq_none.2 (fun y hy => by simpa using hp y hy)
  rw [this]
  simp

theorem findN_not {n : List UInt8} (hp : ∀ y ∈ pre, y.n ≠ n) : findN F.n n pre = none :=
  List.find?_eq_none.2 (fun y hy => by simpa using hp y hy)

theorem setN_last (hp : ∀ y ∈ pre, y.n ≠ x.n) (hf : f.n = x.n) : setN F.n x (pre ++ [f]) = pre ++ [x] := by
  unfold setN
  rw [List.map_append]
  congr 1
  · conv => rhs; rw [← List.map_id pre]
    refine List.map_congr_left (fun y hy => ?_)
    have : (y.n == x.n) = false := by simpa using hp y hy
    simp [this]
  · simp [hf]

theorem insN_last : ∀ {pre : List F}, (∀ y ∈ pre, bytesBefore x.n y.n = false) → insN F.n x pre = pre ++ [x]
  | [], _ => rfl
  | y :: r, h => by
    unfold insN
    rw [h y (by simp)]
    simp only [Bool.false_eq_true, if_false]
    rw [insN_last (fun z hz => h z (by simp [hz]))]
    rfl
end

/-- The file of a segment that is complete. -/
def fullF (i : Nat) (c : List (List Nat)) : F := ⟨nmB (i + 1), joinL c, (joinL c).length⟩
/-- The file of the current segment, of whose records k wait. -/
def lastF (i : Nat) (c : List (List Nat)) (k : Nat) : F := ⟨nmB (i + 1), joinL c, sizeL (c.take (c.length - k))⟩
def filesL (B : List (List (List Nat))) (c : List (List Nat)) (k : Nat) : List F := B.mapIdx fullF ++ [lastF B.length c k]

theorem pre_names {B : List (List (List Nat))} {y : F} (h : y ∈ B.mapIdx fullF) : ∃ i, i < B.length ∧ y.n = nmB (i + 1) := by
  obtain ⟨i, hi, rfl⟩ := List.mem_mapIdx.1 h
  exact ⟨i, hi, rfl⟩

theorem used_append : ∀ a b : List F, usedF (a ++ b) = usedF a + usedF b
  | [], b => by simp [usedF]
  | x :: r, b => by
    have h := used_append r b
    unfold usedF at h ⊢
    rw [List.cons_append, List.map_cons, List.sum_cons, List.map_cons, List.sum_cons, h]
    omega

theorem used_full (B : List (List (List Nat))) : ∀ i, usedF (B.mapIdx fun k c => fullF (i + k) c) = sizeL B.flatten := by
  induction B with
  | nil => intro i; rfl
  | cons c r ih =>
    intro i
    rw [List.mapIdx_cons, List.flatten_cons, sizeL_append]
    have e : (r.mapIdx fun k c => fullF (i + (k + 1)) c) = r.mapIdx fun k c => fullF (i + 1 + k) c := by
      congr 1
      funext k c
      rw [show i + (k + 1) = i + 1 + k by omega]
    show usedF (fullF (i + 0) c :: _) = _
    rw [e]
    have h := ih (i + 1)
    unfold usedF at h ⊢
    rw [List.map_cons, List.sum_cons, h]
    show (joinL c).length + _ = _
    rw [joinL_len]

/-- A log on a disk on which nothing has failed: the records of its complete segments, and those of the current one. -/
structure LInv (W : WM) (B : List (List (List Nat))) (c : List (List Nat)) : Prop where
  n : W.n = B.length + 1
  nmax : W.n ≤ 99999999
  fs : W.D.fs = filesL B c W.wait
  down : W.D.down = false
  plan : W.D.plan = 0
  size : W.size = sizeL c
  wait : W.wait ≤ c.length
  recs : ∀ r ∈ B.flatten ++ c, r ≠ [] ∧ r.length ≤ 1048576
  most : ∀ b ∈ B ++ [c], b ≠ [] → ((sizeL b : Nat) : Int) ≤ W.most

theorem filesL_used (B : List (List (List Nat))) (c : List (List Nat)) (k : Nat) : usedF (filesL B c k) = sizeL (B.flatten ++ c) := by
  unfold filesL
  rw [used_append, sizeL_append]
  have h := used_full B 0
  simp only [Nat.zero_add] at h
  have e : (B.mapIdx fun k c => fullF k c) = B.mapIdx fullF := rfl
  rw [e] at h
  rw [h]
  show sizeL B.flatten + usedF [lastF B.length c k] = _
  congr 1
  unfold usedF lastF
  simp [joinL_len]

section
variable {W : WM} {B : List (List (List Nat))} {c : List (List Nat)}

theorem LInv.alive (h : LInv W B c) : failM W.D = W.D := by
  unfold failM
  rw [h.down, h.plan]
  simp
  obtain ⟨⟨room, fs, down, plan⟩, most, n, size, wait⟩ := W
  have := h.down
  have := h.plan
  simp_all

theorem pre_ne (h : B.length + 1 ≤ 99999999) : ∀ y ∈ B.mapIdx fullF, y.n ≠ nmB (B.length + 1) := by
  intro y hy e
  obtain ⟨i, hi, hn⟩ := pre_names hy
  have := nmB_inj (by omega) h (hn.symm.trans e)
  omega

theorem LInv.sync (h : LInv W B c) : (syncW W).2 = 0 ∧ LInv (syncW W).1 B c ∧ (syncW W).1.wait = 0 ∧ (syncW W).1.most = W.most ∧ (syncW W).1.D.room = W.D.room := by
  have hn := h.n
  have hne := pre_ne (B := B) (by rw [← hn]; exact h.nmax)
  have e : syncM (nmB W.n) W.D = ({ W.D with fs := filesL B c 0 }, 0) := by
    unfold syncM chgM
    rw [h.alive, h.down, nmB_named]
    simp only [Bool.false_eq_true, if_false, if_true]
    unfold onM
    rw [h.fs, hn]
    have hx : (lastF B.length c W.wait).n = nmB (B.length + 1) := rfl
    have h1 : findN F.n (nmB (B.length + 1)) (filesL B c W.wait) = some (lastF B.length c W.wait) := findN_last (x := lastF B.length c W.wait) hne
    rw [h1]
    show ({ W.D with fs := setN F.n ⟨nmB (B.length + 1), joinL c, (joinL c).length⟩ W.D.fs }, (0 : Int)) = _
    rw [h.fs]
    have h2 : setN F.n ⟨nmB (B.length + 1), joinL c, (joinL c).length⟩ (filesL B c W.wait) = filesL B c 0 := by
      unfold filesL
      rw [setN_last (x := ⟨nmB (B.length + 1), joinL c, (joinL c).length⟩) (f := lastF B.length c W.wait) hne rfl]
      congr 2
      unfold lastF
      rw [Nat.sub_zero, List.take_length, joinL_len]
    rw [h2]
  unfold syncW
  rw [e]
  exact ⟨rfl, ⟨hn, h.nmax, rfl, h.down, h.plan, h.size, Nat.zero_le _, h.recs, h.most⟩, rfl, rfl, rfl⟩

theorem LInv.append (h : LInv W B c) {l : List Nat} (hl : l ≠ []) (hm : l.length ≤ 1048576) (hroom : sizeL (B.flatten ++ c) + (l.length + 8) ≤ W.D.room) (hfit : ((sizeL c + (l.length + 8) : Nat) : Int) ≤ W.most) :
    (appW W l).2 = 0 ∧ LInv (appW W l).1 B (c ++ [l]) ∧ (appW W l).1.wait = W.wait + 1 ∧ (appW W l).1.most = W.most ∧ (appW W l).1.D.room = W.D.room := by
  have hn := h.n
  have hne := pre_ne (B := B) (by rw [← hn]; exact h.nmax)
  have hw := h.wait
  have e : appendM (nmB W.n) (frameL l) W.D = ({ W.D with fs := filesL B (c ++ [l]) (W.wait + 1) }, 0) := by
    unfold appendM chgM
    rw [h.alive, h.down, nmB_named]
    simp only [Bool.false_eq_true, if_false, if_true]
    unfold onM
    rw [h.fs, hn]
    have h1 : findN F.n (nmB (B.length + 1)) (filesL B c W.wait) = some (lastF B.length c W.wait) := findN_last (x := lastF B.length c W.wait) hne
    rw [h1]
    show (if usedF W.D.fs + (frameL l).length ≤ W.D.room then ({ W.D with fs := setN F.n ⟨nmB (B.length + 1), joinL c ++ frameL l, sizeL (c.take (c.length - W.wait))⟩ W.D.fs }, (0 : Int)) else (W.D, 5)) = _
    rw [h.fs, filesL_used, frameL_len, if_pos hroom]
    have h2 : setN F.n ⟨nmB (B.length + 1), joinL c ++ frameL l, sizeL (c.take (c.length - W.wait))⟩ (filesL B c W.wait) = filesL B (c ++ [l]) (W.wait + 1) := by
      unfold filesL
      rw [setN_last (x := ⟨nmB (B.length + 1), joinL c ++ frameL l, sizeL (c.take (c.length - W.wait))⟩) (f := lastF B.length c W.wait) hne rfl]
      congr 2
      unfold lastF
      rw [joinL_snoc, List.length_append, List.length_singleton, show c.length + 1 - (W.wait + 1) = c.length - W.wait by omega, List.take_append_of_le_length (by omega)]
    rw [h2]
  unfold appW
  rw [e]
  simp only [if_true]
  refine ⟨trivial, ⟨hn, h.nmax, rfl, h.down, h.plan, ?_, ?_, ?_, ?_⟩, trivial, trivial, trivial⟩
  · show W.size + _ = _
    rw [h.size, sizeL_append, sizeL_cons, sizeL_nil]
  · show W.wait + 1 ≤ _
    rw [List.length_append, List.length_singleton]
    omega
  · intro r hr
    rw [← List.append_assoc] at hr
    rcases List.mem_append.1 hr with hr | hr
    · exact h.recs r hr
    · have : r = l := by simpa using hr
      rw [this]; exact ⟨hl, hm⟩
  · intro b hb hbn
    rcases List.mem_append.1 hb with hb | hb
    · exact h.most b (List.mem_append.2 (.inl hb)) hbn
    · have : b = c ++ [l] := by simpa using hb
      rw [this, sizeL_append, sizeL_cons, sizeL_nil]
      exact hfit

theorem LInv.rotate (h : LInv W B c) (hnm : W.n < 99999999) :
    (rotW W).2 = 0 ∧ LInv (rotW W).1 (B ++ [c]) [] ∧ (rotW W).1.wait = 0 ∧ (rotW W).1.most = W.most ∧ (rotW W).1.D.room = W.D.room := by
  obtain ⟨h0, h1, h2, h3, h4⟩ := h.sync
  have hn := h.n
  have hs0 : (syncM (nmB W.n) W.D).2 = 0 := h0
  have hD : (syncW W).1.D = (syncM (nmB W.n) W.D).1 := rfl
  have e : createM (nmB (W.n + 1)) (syncM (nmB W.n) W.D).1 = ({ (syncM (nmB W.n) W.D).1 with fs := filesL (B ++ [c]) [] 0 }, 0) := by
    rw [← hD]
    unfold createM chgM
    rw [h1.alive, h1.down, nmB_named]
    simp only [Bool.false_eq_true, if_false, if_true]
    have hfs := h1.fs
    rw [h2] at hfs
    have hnames : ∀ y ∈ filesL B c 0, ∃ i, i < B.length + 1 ∧ y.n = nmB (i + 1) := by
      intro y hy
      rcases List.mem_append.1 hy with hy | hy
      · obtain ⟨i, hi, e⟩ := pre_names hy
        exact ⟨i, by omega, e⟩
      · have : y = lastF B.length c 0 := by simpa using hy
        exact ⟨B.length, by omega, by rw [this]; rfl⟩
    have hnot : ∀ y ∈ filesL B c 0, y.n ≠ nmB (W.n + 1) := by
      intro y hy e
      obtain ⟨i, hi, e2⟩ := hnames y hy
      have := nmB_inj (by omega) (by omega) (e2.symm.trans e)
      omega
    have hbef : ∀ y ∈ filesL B c 0, bytesBefore (nmB (W.n + 1)) y.n = false := by
      intro y hy
      obtain ⟨i, hi, e2⟩ := hnames y hy
      rw [e2, nmB_before (by omega) (by omega)]
      exact decide_eq_false (by omega)
    have hf : findN F.n (nmB (W.n + 1)) (filesL B c 0) = none := findN_not hnot
    rw [hfs, hf]
    show ({ (syncW W).1.D with fs := putN F.n ⟨nmB (W.n + 1), [], 0⟩ (filesL B c 0) }, (0 : Int)) = _
    have hp : putN F.n ⟨nmB (W.n + 1), [], 0⟩ (filesL B c 0) = filesL (B ++ [c]) [] 0 := by
      unfold putN
      rw [show (F.n ⟨nmB (W.n + 1), [], 0⟩) = nmB (W.n + 1) from rfl, delN_none hf, insN_last (x := ⟨nmB (W.n + 1), [], 0⟩) hbef]
      unfold filesL
      rw [List.mapIdx_append, hn]
      congr 1
      · congr 1
        show [lastF B.length c 0] = [fullF (0 + B.length) c]
        unfold lastF fullF
        rw [Nat.sub_zero, List.take_length, joinL_len, Nat.zero_add]
      · show [_] = [lastF (B ++ [c]).length [] 0]
        unfold lastF
        rw [List.length_append, List.length_singleton]
        rfl
    rw [hp]
  unfold rotW
  rw [if_neg (by omega), if_neg (by rw [hs0]; simp), if_neg (by rw [e]; simp), e]
  refine ⟨rfl, ⟨?_, ?_, rfl, ?_, ?_, rfl, Nat.zero_le _, ?_, ?_⟩, rfl, rfl, h4⟩
  · show W.n + 1 = _
    rw [List.length_append, List.length_singleton, hn]
  · show W.n + 1 ≤ _
    omega
  · exact h1.down
  · exact h1.plan
  · intro r hr
    rw [List.flatten_append, List.append_nil] at hr
    simp only [List.flatten_cons, List.flatten_nil, List.append_nil] at hr
    exact h.recs r hr
  · intro b hb hbn
    rcases List.mem_append.1 hb with hb | hb
    · exact h.most b hb hbn
    · have : b = [] := by simpa using hb
      exact absurd this hbn

/-- A record that Put takes, while no change fails and there is room. -/
def okR (most : Int) (l : List Nat) : Bool := decide (l ≠ [] ∧ l.length ≤ 1048576 ∧ ((l.length + 8 : Nat) : Int) ≤ most)

/-- Put, while no change fails and there is room. -/
theorem LInv.put (h : LInv W B c) (l : List Nat) (hroom : sizeL (B.flatten ++ c) + (l.length + 8) ≤ W.D.room) (hnm : W.n < 99999999) :
    (okR W.most l = false ∧ (putW W l).2 ≠ 0 ∧ (putW W l).1 = W) ∨ (okR W.most l = true ∧ (putW W l).2 = 0 ∧ ∃ B' c', LInv (putW W l).1 B' c' ∧ B'.flatten ++ c' = (B.flatten ++ c) ++ [l] ∧ (putW W l).1.n ≤ W.n + 1 ∧ (putW W l).1.most = W.most ∧ (putW W l).1.D.room = W.D.room ∧
      ((B' = B ∧ c' = c ++ [l] ∧ (putW W l).1.wait = W.wait + 1) ∨ (B' = B ++ [c] ∧ c' = [l] ∧ (putW W l).1.wait = 1))) := by
  unfold putW
  by_cases h1 : l = []
  · rw [if_pos h1]; exact .inl ⟨decide_eq_false (fun q => q.1 h1), by simp, rfl⟩
  rw [if_neg h1]
  by_cases h2 : 1048576 < l.length ∨ W.most < ((l.length + 8 : Nat) : Int)
  · rw [if_pos h2]; exact .inl ⟨decide_eq_false (fun q => by omega), by simp, rfl⟩
  rw [if_neg h2]
  have hm : l.length ≤ 1048576 := by omega
  have hfit : ((l.length + 8 : Nat) : Int) ≤ W.most := by omega
  have hok : okR W.most l = true := decide_eq_true ⟨h1, hm, hfit⟩
  by_cases h3 : 0 < W.size ∧ W.most < ((W.size + (l.length + 8) : Nat) : Int)
  · rw [if_pos h3]
    obtain ⟨r0, r1, r2, r3, r4⟩ := h.rotate hnm
    rw [if_neg (by rw [r0]; simp)]
    obtain ⟨a0, a1, a2, a3, a4⟩ := r1.append h1 hm (by rw [r4, List.append_nil, List.flatten_append]; simpa using hroom) (by rw [r3]; simpa [sizeL_nil] using hfit)
    refine .inr ⟨hok, a0, _, _, a1, by simp, ?_, by rw [a3, r3], by rw [a4, r4], .inr ⟨rfl, rfl, by rw [a2, r2]⟩⟩
    have e1 := a1.n
    have e2 := h.n
    rw [e1, e2, List.length_append, List.length_singleton]
    omega
  · rw [if_neg h3]
    have hfit2 : ((sizeL c + (l.length + 8) : Nat) : Int) ≤ W.most := by
      rw [← h.size]
      by_cases h0 : 0 < W.size
      · have : ¬ W.most < ((W.size + (l.length + 8) : Nat) : Int) := fun q => h3 ⟨h0, q⟩
        omega
      · omega
    obtain ⟨a0, a1, a2, a3, a4⟩ := h.append h1 hm hroom hfit2
    refine .inr ⟨hok, a0, _, _, a1, by rw [List.append_assoc], ?_, a3, a4, .inl ⟨rfl, rfl, a2⟩⟩
    have e1 := a1.n
    have e2 := h.n
    omega
end
end Go.Proofs.YtjoolocdejnohaaGreat

/- The walk of a place's file: the name of the current segment. -/
namespace Go.Proofs.YtjoolocdejnohaaGreat
open Go.RowKit Go.Maps Go.Shelf

/-- Where a log goes on, as a value. -/
def placeV (n s k : Int) : Value := .agg #[.int .i64 n, .int .i64 s, .int .i64 k]

/-- The cells of a log. -/
def logC (W : WM) (d : Nat) : Array Value := #[.int .i64 (W.n : Int), .int .i64 (W.size : Int), .int .i64 (W.wait : Int), .pointer (some ⟨d, 0, none⟩), .int .i64 W.most]

theorem plfile_any (N : Nat) (s k : Int) (w : World) (h1 : 1 ≤ N) (hN : N ≤ 99999999) :
    Calls Tryz.prog 123 #[placeV (N : Int) s k] w fun e w' => e = .returned (encStr (nmB N)) ∧ Below w.heap.size w w' := by
  have HI := Lib.hid (fun w1 => segname_yes N w1 h1 hN)
  clear h1 hN
  unfold placeV
  go_enter Tryz.func123, Tryz.ntmps123
  go_wp2_with fail
  refine (HI.out _).mono ?_
  rintro e w' ⟨rfl, hb⟩
  have Hb := Lib.hid (((Below.refl w.heap.size w).alloc (Nat.le_refl _) _).trans (hb.mono (by simp)))
  clear hb
  go_wp2
  go_ret
  exact ⟨rfl, Hb.out⟩

end Go.Proofs.YtjoolocdejnohaaGreat

/- A disk in memory. -/
namespace Go.Proofs.YtjoolocdejnohaaGreat
open Go.RowKit Go.Maps

structure FileOk (w : World) (x : FW) : Prop where
  blk : w.heap[x.blk]? = some (.cells #[x.v, .int .i64 (x.f.d : Int)] 140 (0, 0))
  row : w.ownsRow 0 5 1 x.v x.f.b.length (u8s x.f.b)
  byte : ∀ c ∈ x.f.b, c < 256
  dur : x.f.d ≤ x.f.b.length

def fpOne (x : FW) : List Nat := x.blk :: x.v.ownBlock.toList
def fpOf (L : List FW) : List Nat := L.flatMap fpOne

/-- A disk whose struct lies in block d, its map in block mb, its files as L says; all blocks that it has are among S. -/
structure DiskAt (S : Nat → Prop) (w : World) (d mb : Nat) (p : Int) (L : List FW) (M : DM) : Prop where
  files : M.fs = L.map FW.f
  head : w.heap[d]? = some (.cells #[.int .i64 (M.room : Int), .map (some mb), .bool M.down, .int .i64 p] 118 (0, 0))
  plan : M.plan = p.toNat
  lo : -9223372036854775808 ≤ p
  hi : p < 9223372036854775808
  dir : w.ownsMap Tryz.prog 9 ptrR mb L.length (dirD L)
  ok : ∀ x ∈ L, FileOk w x
  apart : (d :: mb :: fpOf L).Nodup
  sub : ∀ b ∈ d :: mb :: fpOf L, S b
  bound : ∀ b, S b → b < w.heap.size
  used : usedF M.fs ≤ M.room
  room : M.room < 9223372036854775808

def DiskIn (S : Nat → Prop) (w : World) (d : Nat) (M : DM) : Prop := ∃ mb p L, DiskAt S w d mb p L M

/-- Nothing but blocks of S and new ones has turned. -/
structure Chg (S : Nat → Prop) (w w' : World) : Prop where
  os : w'.os = w.os
  tape : w'.tape = w.tape
  output : w'.output = w.output
  size : w.heap.size ≤ w'.heap.size
  block : ∀ b, b < w.heap.size → ¬ S b → w'.heap[b]? = w.heap[b]?

theorem Chg.refl (S : Nat → Prop) (w : World) : Chg S w w := ⟨rfl, rfl, rfl, Nat.le_refl _, fun _ _ _ => rfl⟩
theorem Chg.trans {S S1 : Nat → Prop} {w w1 w2 : World} (h : Chg S w w1) (h1 : Chg S1 w1 w2) (hs : ∀ b, S1 b → S b ∨ w.heap.size ≤ b) : Chg S w w2 :=
  ⟨h1.os.trans h.os, h1.tape.trans h.tape, h1.output.trans h.output, Nat.le_trans h.size h1.size, fun b hb hn =>
    (h1.block b (Nat.lt_of_lt_of_le hb h.size) (fun hb1 => (hs b hb1).elim hn (fun hle => absurd hle (by omega)))).trans (h.block b hb hn)⟩
theorem Chg.same {S : Nat → Prop} {w w1 w2 : World} (h : Chg S w w1) (h1 : Chg S w1 w2) : Chg S w w2 := h.trans h1 fun _ h => .inl h
theorem Chg.of_below {S : Nat → Prop} {w w' : World} (h : Below w.heap.size w w') : Chg S w w' := ⟨h.os, h.tape, h.output, h.size, fun b hb _ => h.block b hb⟩
theorem Chg.below {S : Nat → Prop} {w w' : World} {k : Nat} (h : Chg S w w') (hS : ∀ b, S b → k ≤ b) (hk : k ≤ w.heap.size) : Below k w w' :=
  ⟨h.os, h.tape, h.output, h.size, fun b hb => h.block b (by omega) (fun hs => absurd (hS b hs) (by omega))⟩
theorem Chg.grown {S : Nat → Prop} {w w' : World} {r : Option Nat} (h : w.grownBy w' r) (hr : ∀ k, r = some k → S k ∨ w.heap.size ≤ k) : Chg S w w' :=
  ⟨h.os, h.tape, h.output, h.size, fun b hb hn => h.block b hb (fun e => (hr b e.symm).elim hn (fun hle => absurd hle (by omega)))⟩
theorem Chg.set (S : Nat → Prop) (w : World) {g i : Nat} (hg : S g) (v : Value) : Chg S w (w.setCell ⟨g, i, none⟩ v) :=
  ⟨rfl, rfl, rfl, by simp, fun b _ hn => Below.heap_setCell w ⟨g, i, none⟩ v b (by rintro rfl; exact hn hg)⟩
theorem Chg.alloc (S : Nat → Prop) (w : World) (o : Obj) : Chg S w (w.alloc o) := Chg.of_below ((Below.refl _ _).alloc (Nat.le_refl _) _)
theorem Chg.drew (S : Nat → Prop) (w : World) : Chg S w w.drew := ⟨rfl, rfl, rfl, Nat.le_refl _, fun _ _ _ => rfl⟩
theorem Chg.cell {S : Nat → Prop} {w w' : World} (h : Chg S w w') {a : Addr} {v : Value} (hc : w.cell? a = some v) (hs : ¬ S a.block) : w'.cell? a = some v := by
  rw [World.cell?_of_block (h.block a.block (World.block_lt_of_cell? _ _ hc) hs)]
  exact hc

/-- What a call leaves of a disk. -/
def Step (S : Nat → Prop) (w : World) (d : Nat) (M' : DM) (w' : World) : Prop := ∃ S', DiskIn S' w' d M' ∧ (∀ b, S' b → S b ∨ w.heap.size ≤ b) ∧ Chg S w w'

theorem Step.same {S : Nat → Prop} {w w' : World} {d : Nat} {M : DM} (h : DiskIn S w' d M) (hc : Chg S w w') : Step S w d M w' := ⟨S, h, fun _ h => .inl h, hc⟩

theorem row_of_heap {w w' : World} {base n : Nat} {e : TypeId} {v : Value} {xs : List Value} (h : w.ownsRow base e 1 v n xs) (hk : ∀ b, v.ownBlock = some b → w'.heap[b]? = w.heap[b]?) : w'.ownsRow base e 1 v n xs := by
  refine ⟨h.1, ?_⟩
  rcases h.2 with hn | ⟨g, cap, cur, rfl, hbg, hg, rest⟩
  · exact .inl hn
  · exact .inr ⟨g, cap, cur, rfl, hbg, (hk g rfl).trans hg, rest⟩

theorem map_of_heap {w w' : World} {P : Program} {k : TypeId} {R : Value → Option (DataW Unit × List MemPlace)} {b n : Nat} {D : DataW Unit} (h : w.ownsMap P k R b n D) (hk : w'.heap[b]? = w.heap[b]?) : w'.ownsMap P k R b n D := by
  obtain ⟨es, clock, hb, r⟩ := h
  exact ⟨es, clock, hk.trans hb, r⟩

theorem FileOk.keep {w w' : World} {x : FW} (h : FileOk w x) (hk : ∀ b ∈ fpOne x, w'.heap[b]? = w.heap[b]?) : FileOk w' x :=
  ⟨(hk _ (List.mem_cons_self ..)).trans h.blk, row_of_heap h.row (fun b hb => hk b (List.mem_cons_of_mem _ (by simp [hb]))), h.byte, h.dur⟩

theorem mem_fpOf {L : List FW} {x : FW} (hx : x ∈ L) {b : Nat} (hb : b ∈ fpOne x) : b ∈ fpOf L := List.mem_flatMap.2 ⟨x, hx, hb⟩

/-- The disk in another world that holds the same in its blocks. -/
theorem DiskAt.keep {S S' : Nat → Prop} {w w' : World} {d mb : Nat} {p : Int} {L : List FW} {M : DM} (h : DiskAt S w d mb p L M) (hk : ∀ b ∈ d :: mb :: fpOf L, w'.heap[b]? = w.heap[b]?)
    (hs : ∀ b, S b → S' b) (hb : ∀ b, S' b → b < w'.heap.size) : DiskAt S' w' d mb p L M :=
  ⟨h.files, (hk d (by simp)).trans h.head, h.plan, h.lo, h.hi, map_of_heap h.dir (hk mb (by simp)), fun x hx => (h.ok x hx).keep (fun b hb => hk b (by simp [mem_fpOf hx hb])), h.apart, fun b hb => hs b (h.sub b hb), hb, h.used, h.room⟩

theorem DiskAt.below {S : Nat → Prop} {w w' : World} {d mb : Nat} {p : Int} {L : List FW} {M : DM} (h : DiskAt S w d mb p L M) (hb : Below w.heap.size w w') : DiskAt S w' d mb p L M :=
  h.keep (fun b hb' => hb.block b (h.bound b (h.sub b hb'))) (fun _ h => h) (fun b hs => Nat.lt_of_lt_of_le (h.bound b hs) hb.size)
theorem DiskIn.below {S : Nat → Prop} {w w' : World} {d : Nat} {M : DM} (h : DiskIn S w d M) (hb : Below w.heap.size w w') : DiskIn S w' d M := let ⟨mb, p, L, h⟩ := h; ⟨mb, p, L, h.below hb⟩
/-- .. while something else is written. -/
theorem DiskIn.aside {S T : Nat → Prop} {w w' : World} {d : Nat} {M : DM} (h : DiskIn S w d M) (hc : Chg T w w') (ht : ∀ b, S b → ¬ T b) : DiskIn S w' d M := by
  obtain ⟨mb, p, L, h⟩ := h
  exact ⟨mb, p, L, h.keep (fun b hb' => hc.block b (h.bound b (h.sub b hb')) (ht b (h.sub b hb'))) (fun _ h => h) (fun b hs => Nat.lt_of_lt_of_le (h.bound b hs) hc.size)⟩

theorem DiskAt.cells {S : Nat → Prop} {w : World} {d mb : Nat} {p : Int} {L : List FW} {M : DM} (h : DiskAt S w d mb p L M) :
    w.cell? ⟨d, 0, none⟩ = some (.int .i64 (M.room : Int)) ∧ w.cell? ⟨d, 1, none⟩ = some (.map (some mb)) ∧ w.cell? ⟨d, 2, none⟩ = some (.bool M.down) ∧ w.cell? ⟨d, 3, none⟩ = some (.int .i64 p) ∧
    ∀ i, w.frozen? ⟨d, i, none⟩ = false := by
  have hh := h.head
  refine ⟨?_, ?_, ?_, ?_, fun i => ?_⟩
  · rw [cell_of_row _ _ _ _ _ _ hh]; rfl
  · rw [cell_of_row _ _ _ _ _ _ hh]; rfl
  · rw [cell_of_row _ _ _ _ _ _ hh]; rfl
  · rw [cell_of_row _ _ _ _ _ _ hh]; rfl
  · simp [World.frozen?, hh]

theorem FileOk.cells {w : World} {x : FW} (h : FileOk w x) : w.cell? ⟨x.blk, 0, none⟩ = some x.v ∧ w.cell? ⟨x.blk, 1, none⟩ = some (.int .i64 (x.f.d : Int)) ∧ ∀ i, w.frozen? ⟨x.blk, i, none⟩ = false := by
  have hh := h.blk
  refine ⟨?_, ?_, fun i => ?_⟩
  · rw [cell_of_row _ _ _ _ _ _ hh]; rfl
  · rw [cell_of_row _ _ _ _ _ _ hh]; rfl
  · simp [World.frozen?, hh]

/-- A new state of the disk's own struct alone. -/
theorem DiskAt.head_set {S : Nat → Prop} {w w' : World} {d mb : Nat} {p p' : Int} {L : List FW} {M M' : DM} (h : DiskAt S w d mb p L M) (hc : Chg (fun b => b = d) w w') (hf : M'.fs = M.fs) (hr : M'.room = M.room)
    (hh : w'.heap[d]? = some (.cells #[.int .i64 (M'.room : Int), .map (some mb), .bool M'.down, .int .i64 p'] 118 (0, 0))) (hp : M'.plan = p'.toNat) (hlo : -9223372036854775808 ≤ p') (hhi : p' < 9223372036854775808) :
    DiskAt S w' d mb p' L M' := by
  have hnd := List.nodup_cons.1 h.apart
  have hk : ∀ b ∈ mb :: fpOf L, w'.heap[b]? = w.heap[b]? := fun b hb => hc.block b (h.bound b (h.sub b (List.mem_cons_of_mem _ hb))) (fun e => hnd.1 (e ▸ hb))
  exact ⟨hf.trans h.files, hh, hp, hlo, hhi, map_of_heap h.dir (hk mb (by simp)), fun x hx => (h.ok x hx).keep (fun b hb => hk b (by simp [mem_fpOf hx hb])), h.apart, h.sub, fun b hs => Nat.lt_of_lt_of_le (h.bound b hs) hc.size,
    by rw [hf, hr]; exact h.used, by rw [hr]; exact h.room⟩

theorem set_head {w : World} {d i : Nat} {cs : Array Value} {t : TypeId} {m : Nat × Nat} (h : w.heap[d]? = some (.cells cs t m)) (v : Value) : (w.setCell ⟨d, i, none⟩ v).heap[d]? = some (.cells (cs.setIfInBounds i v) t m) := by
  simp [World.setCell, Array.getElem?_modify, h]

theorem keyN (n : List UInt8) (hn : n.length ≤ 9223372036854775807) : keyOf Tryz.prog 9 (encStr n) = some (.string n) :=
  WideMaps.keyOf_string_mk Tryz.underlying9 (by rw [maxLen_nat]; show (n.toArray).size ≤ _; simpa using hn)

theorem mapKey : Keyed Tryz.prog 9 := string_keyed Tryz.underlying9

theorem ptrR_fileV {x : Option FW} {v : Value} {ps : List MemPlace} (h : ptrR v = some (match x with | some x => .lit (.int .i64 (x.blk : Int)) | none => .nil, ps)) : v = fileV x := by
  unfold ptrR at h
  split at h
  · cases x
    · rfl
    · cases h
  · cases x
    · cases h
    · rename_i b x
      simp at h
      have e : b = x.blk := by omega
      rw [e]
      rfl
  · cases h

/-- 'files[name]'. -/
theorem DiskAt.look {S : Nat → Prop} {w : World} {d mb : Nat} {p : Int} {L : List FW} {M : DM} (h : DiskAt S w d mb p L M) (n : List UInt8) (hn : n.length ≤ 9223372036854775807) :
    (Instr.lookup 116 (.map (some mb)) (encStr n) false).run Tryz.prog w = .ok (fileV (findN FW.n n L)) w := by
  have hz : (zeroValue 125).run Tryz.prog w = .ok (.pointer none) w := by kernel_rfl
  obtain ⟨v, ps, hrun, hv⟩ := h.dir.lookup mapKey Tryz.underlying116 hz (zd := .nil) (zp := []) rfl (keyN n hn)
  rw [dirD_at] at hv
  rw [hrun, ptrR_fileV hv]
end Go.Proofs.YtjoolocdejnohaaGreat

