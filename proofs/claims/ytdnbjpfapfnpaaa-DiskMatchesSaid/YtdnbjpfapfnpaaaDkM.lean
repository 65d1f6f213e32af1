/- Disks as plain data: files in the order of their names; what a change does. -/
import Derived.Test.YtdnbjpfapfnpaaaAppend
import Derived.Maps.OwnSet
import Derived.Maps.OwnOps
import Derived.Maps.RangeWalk
import Derived.Maps.AppendAt
import Derived.Sort.KeysCollected
namespace Go.Proofs.Ytdnbjpfapfnpaaa
open Go.RowKit Go.Maps

section
variable {α β : Type}
/-- Lists in the order of names: put, take out, find. -/
def insN (f : α → List UInt8) (x : α) : List α → List α
  | [] => [x]
  | y :: r => if bytesBefore (f x) (f y) then x :: y :: r else y :: insN f x r
def delN (f : α → List UInt8) (n : List UInt8) (l : List α) : List α := l.filter fun y => !(f y == n)
def putN (f : α → List UInt8) (x : α) (l : List α) : List α := insN f x (delN f (f x) l)
def findN (f : α → List UInt8) (n : List UInt8) (l : List α) : Option α := l.find? fun y => f y == n
def setN (f : α → List UInt8) (x : α) (l : List α) : List α := l.map fun y => if f y == f x then x else y

theorem insN_map (f : α → List UInt8) (f' : β → List UInt8) (g : α → β) (h : ∀ x, f' (g x) = f x) (x : α) : ∀ l, (insN f x l).map g = insN f' (g x) (l.map g)
  | [] => rfl
  | y :: r => by
    show (if bytesBefore (f x) (f y) = true then x :: y :: r else y :: insN f x r).map g = if bytesBefore (f' (g x)) (f' (g y)) = true then g x :: g y :: r.map g else g y :: insN f' (g x) (r.map g)
    rw [h, h]
    split
    · rfl
    · rw [List.map_cons, insN_map f f' g h x r]

theorem delN_map (f : α → List UInt8) (f' : β → List UInt8) (g : α → β) (h : ∀ x, f' (g x) = f x) (n : List UInt8) (l : List α) : (delN f n l).map g = delN f' n (l.map g) := by
  unfold delN
  rw [List.filter_map]
  congr 1
  exact List.filter_congr (fun y _ => by simp [h])

theorem putN_map (f : α → List UInt8) (f' : β → List UInt8) (g : α → β) (h : ∀ x, f' (g x) = f x) (x : α) (l : List α) : (putN f x l).map g = putN f' (g x) (l.map g) := by
  unfold putN
  rw [insN_map f f' g h, delN_map f f' g h, h]

theorem findN_map (f : α → List UInt8) (f' : β → List UInt8) (g : α → β) (h : ∀ x, f' (g x) = f x) (n : List UInt8) (l : List α) : findN f' n (l.map g) = (findN f n l).map g := by
  unfold findN
  rw [List.find?_map]
  congr 2
  funext y
  simp [h]

theorem setN_map (f : α → List UInt8) (f' : β → List UInt8) (g : α → β) (h : ∀ x, f' (g x) = f x) (x : α) (l : List α) : (setN f x l).map g = setN f' (g x) (l.map g) := by
  unfold setN
  rw [List.map_map, List.map_map]
  refine List.map_congr_left (fun y _ => ?_)
  simp only [Function.comp, h]
  split <;> rfl

theorem mem_insN (f : α → List UInt8) (x : α) : ∀ (l : List α) (z : α), z ∈ insN f x l ↔ z = x ∨ z ∈ l
  | [], z => by simp [insN]
  | y :: r, z => by
    unfold insN
    split
    · simp
    · rw [List.mem_cons, mem_insN f x r z, List.mem_cons]
      constructor
      · rintro (h | h | h)
        · exact .inr (.inl h)
        · exact .inl h
        · exact .inr (.inr h)
      · rintro (h | h | h)
        · exact .inr (.inl h)
        · exact .inl h
        · exact .inr (.inr h)

theorem perm_insN (f : α → List UInt8) (x : α) : ∀ (l : List α), (insN f x l).Perm (x :: l)
  | [] => .refl _
  | y :: r => by
    unfold insN
    split
    · exact .refl _
    · exact ((perm_insN f x r).cons y).trans (List.Perm.swap x y r)

theorem findN_some {f : α → List UInt8} {n : List UInt8} {l : List α} {x : α} (h : findN f n l = some x) : x ∈ l ∧ f x = n :=
  ⟨List.mem_of_find?_eq_some h, by simpa using List.find?_some h⟩
theorem findN_none {f : α → List UInt8} {n : List UInt8} {l : List α} (h : findN f n l = none) : ∀ x ∈ l, f x ≠ n := fun x hx e => by
  have := List.find?_eq_none.1 h x hx
  simp [e] at this
theorem delN_none {f : α → List UInt8} {n : List UInt8} {l : List α} (h : findN f n l = none) : delN f n l = l := by
  unfold delN
  rw [List.filter_eq_self]
  intro y hy
  have := findN_none h y hy
  simpa using this
end

/-- A file: its name, its bytes, how many of them are durable. -/
structure F where
  n : List UInt8
  b : List Nat
  d : Nat

/-- A disk. -/
structure DM where
  room : Nat
  fs : List F
  down : Bool
  plan : Nat

def usedF (l : List F) : Nat := (l.map fun f => f.b.length).sum

/-- What a change does to the plan. -/
def failM (M : DM) : DM := if M.down = true then M else if M.plan = 1 then { M with plan := 0, down := true } else { M with plan := M.plan - 1 }

def okByte (c : UInt8) : Bool := (decide (97 ≤ c.toNat) && decide (c.toNat ≤ 122)) || (decide (48 ≤ c.toNat) && decide (c.toNat ≤ 57)) || c.toNat == 45 || c.toNat == 46
def named (n : List UInt8) : Bool := decide (1 ≤ n.length) && decide (n.length ≤ 100) && n.all okByte

/-- A change of the file with a name. -/
def chgM (M : DM) (n : List UInt8) (act : DM → DM × Int) : DM × Int := if (failM M).down = true then (failM M, 10) else if named n = true then act (failM M) else (failM M, 6)
def onM (n : List UInt8) (act : F → DM → DM × Int) (M : DM) : DM × Int := match findN F.n n M.fs with | none => (M, 6) | some f => act f M

def createM (n : List UInt8) (M : DM) : DM × Int := chgM M n fun M => match findN F.n n M.fs with | some _ => (M, 7) | none => ({ M with fs := putN F.n ⟨n, [], 0⟩ M.fs }, 0)
def appendM (n : List UInt8) (b : List Nat) (M : DM) : DM × Int := chgM M n (onM n fun f M => if usedF M.fs + b.length ≤ M.room then ({ M with fs := setN F.n ⟨n, f.b ++ b, f.d⟩ M.fs }, 0) else (M, 5))
def syncM (n : List UInt8) (M : DM) : DM × Int := chgM M n (onM n fun f M => ({ M with fs := setN F.n ⟨n, f.b, f.b.length⟩ M.fs }, 0))
def renameM (n to : List UInt8) (M : DM) : DM × Int := chgM M n (onM n fun f M => if named to = true then ({ M with fs := putN F.n ⟨to, f.b, f.d⟩ (delN F.n n M.fs) }, 0) else (M, 6))
def removeM (n : List UInt8) (M : DM) : DM × Int := chgM M n (onM n fun _ M => ({ M with fs := delN F.n n M.fs }, 0))
def readM (n : List UInt8) (M : DM) : List Nat × Int := if M.down = true then ([], 10) else match findN F.n n M.fs with | none => ([], 6) | some f => (f.b, 0)
def cutF (f : F) (k : Int) : F := ⟨f.n, f.b.take (f.d + min (max k 0).toNat (f.b.length - f.d)), f.d + min (max k 0).toNat (f.b.length - f.d)⟩
def crashM (ks : List Int) (M : DM) : DM := { M with fs := M.fs.mapIdx fun i f => cutF f (ks.getD i 0), down := false, plan := 0 }
def armM (k : Int) (M : DM) : DM := { M with plan := k.toNat }
def newM (room : Int) : DM := ⟨room.toNat, [], false, 0⟩

/-- A file in memory: the block of its struct, the slice that its bytes lie in. -/
structure FW where
  f : F
  blk : Nat
  v : Value

def FW.n (x : FW) : List UInt8 := x.f.n
def ent (x : FW) : Lit × DataW Unit := (.string x.n, .lit (.int .i64 (x.blk : Int)))
def dirD (L : List FW) : DataW Unit := .map (L.map ent)
/-- How a pointer to a file reads. -/
def ptrR : Value → Option (DataW Unit × List MemPlace)
  | .pointer none => some (.nil, [])
  | .pointer (some ⟨b, 0, none⟩) => some (.lit (.int .i64 (b : Int)), [])
  | _ => none
def fileV : Option FW → Value
  | none => .pointer none
  | some x => .pointer (some ⟨x.blk, 0, none⟩)

theorem insert_ent (x : FW) : ∀ L : List FW, DataW.insert (ent x) (L.map ent) = (insN FW.n x L).map ent
  | [] => rfl
  | y :: r => by
    show (if bytesBefore x.n y.n = true then ent x :: ent y :: r.map ent else ent y :: DataW.insert (ent x) (r.map ent)) = (if bytesBefore x.n y.n = true then x :: y :: r else y :: insN FW.n x r).map ent
    split
    · rfl
    · rw [List.map_cons, insert_ent x r]

theorem filter_ent (n : List UInt8) (L : List FW) : (L.map ent).filter (fun p => !p.1.sameKey (.string n)) = (delN FW.n n L).map ent := by
  unfold delN
  rw [List.filter_map]
  rfl

theorem dirD_put (x : FW) (L : List FW) : (dirD L).put (.string x.n) (.lit (.int .i64 (x.blk : Int))) = dirD (putN FW.n x L) := by
  show DataW.map (DataW.insert (ent x) ((L.map ent).filter fun p => !p.1.sameKey (.string x.n))) = _
  rw [filter_ent, insert_ent]
  rfl

theorem dirD_del (n : List UInt8) (L : List FW) : (dirD L).del (.string n) = dirD (delN FW.n n L) := by
  show DataW.map ((L.map ent).filter fun p => !p.1.sameKey (.string n)) = _
  rw [filter_ent]
  rfl

theorem dirD_at (n : List UInt8) (L : List FW) (z : DataW Unit) : (dirD L).atKey (.string n) z = match findN FW.n n L with | some x => .lit (.int .i64 (x.blk : Int)) | none => z := by
  unfold dirD DataW.atKey findN
  simp only
  rw [show (L.map ent).find? (fun p => p.1.sameKey (.string n)) = (L.find? fun y => y.n == n).map ent from List.find?_map]
  cases L.find? fun y => y.n == n <;> rfl

theorem dirD_keys (L : List FW) : strKeys (dirD L) = L.map FW.n := by
  show (L.map ent).map (fun p => strOf p.1) = _
  rw [List.map_map]
  rfl

theorem dirD_size (L : List FW) : Maps.size (dirD L) = L.length := List.length_map ..
end Go.Proofs.Ytdnbjpfapfnpaaa
