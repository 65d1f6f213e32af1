import Derived.Test.YtcapbaocchaenaaGreatDoorSG30
import Derived.Test.YtcapbaocchaenaaGreatDoorSG1
import Derived.Test.YtcapbaocchaenaaGreatDoorSG18
import Derived.Test.YtcapbaocchaenaaGreatDoorSG8
import Derived.Test.YtcapbaocchaenaaGreatDoorSG29
import Derived.Test.YtcapbaocchaenaaGreatDoorSG15
import Derived.Test.YtcapbaocchaenaaGreatDoorSG12
import Derived.Below
import Derived.Test.YtcapbaocchaenaaGreatDoorSG26
import Derived.Test.YtcapbaocchaenaaGreatDoorSG28
/- The walks of a reader's exported methods, for a reader and for none. -/
namespace Go.Proofs.YtcapbaocchaenaaGreatDoor
open Go.RowKit

theorem only_below {a b c : World} {r : Option Nat} (h : a.grownBy b r) (k : Below b.heap.size b c) : a.grownBy c r :=
  ⟨k.os.trans h.os, k.tape.trans h.tape, k.output.trans h.output, Nat.le_trans h.size k.size, fun i hi hne => (k.block i (Nat.lt_of_lt_of_le hi h.size)).trans (h.block i hi hne)⟩

theorem RdEnd.below {w w1 w2 : World} {g : Nat} {s : List Nat × Bool} (h : RdEnd w g s w1) (hb : Below w1.heap.size w1 w2) : RdEnd w g s w2 := ⟨h.1.below hb, only_below h.2 hb⟩

/-- What orNone answers: the receiver, or a new reader. -/
def OrNone (v : Value) (g : Nat) (w w1 : World) : Prop := Calls Tryz.prog 73 #[v] w fun e w' => e = .returned (.pointer (some ⟨g, 0, none⟩)) ∧ w1 = w'

section
variable (v : Value) (g : Nat) (l : List Nat) (ok : Bool) (w w1 : World) (hO : OrNone v g w w1) (hR : Rd w1 g l ok)
include hO hR

end

/-- A reader whose bytes lie beyond what there was. -/
def RdF (w : World) (g : Nat) (l : List Nat) (ok : Bool) (base : Nat) : Prop :=
  ∃ a n c, w.heap[g]? = some (.cells #[.slice a n c, .bool ok] 103 (0, 0)) ∧ Bytes w a n c l ∧ Formed a c ∧ ∀ x, a = some x → base ≤ x.block

theorem RdF.below {w w' : World} {g : Nat} {l : List Nat} {ok : Bool} {base : Nat} (h : RdF w g l ok base) (hb : Below w.heap.size w w') : RdF w' g l ok base := by
  obtain ⟨a, n, c, h1, h2, h3, h4⟩ := h
  exact ⟨a, n, c, (hb.block g (Array.getElem?_eq_some_iff.1 h1).1).trans h1, h2.grow hb, h3, h4⟩

end Go.Proofs.YtcapbaocchaenaaGreatDoor

/- The walks of a reader's methods, where the bytes lie in blocks of which K holds: those that are left lie there too. -/
namespace Go.Proofs.YtcapbaocchaenaaGreatDoor
open Go.RowKit

/-- A reader in block g: the bytes that are left, whether it is ok, and where the bytes lie. -/
def RdK (K : Nat → Prop) (w : World) (g : Nat) (l : List Nat) (ok : Bool) : Prop :=
  ∃ a n c, w.heap[g]? = some (.cells #[.slice a n c, .bool ok] 103 (0, 0)) ∧ Bytes w a n c l ∧ Formed a c ∧ ∀ x : Addr, a = some x → K x.block

theorem RdK.below {K : Nat → Prop} {w w' : World} {g : Nat} {l : List Nat} {ok : Bool} (h : RdK K w g l ok) (hb : Below w.heap.size w w') : RdK K w' g l ok := by
  obtain ⟨a, n, c, h1, h2, h3, h4⟩ := h
  exact ⟨a, n, c, (hb.block g (Array.getElem?_eq_some_iff.1 h1).1).trans h1, h2.grow hb, h3, h4⟩

def RdEndK (K : Nat → Prop) (w : World) (g : Nat) (s : List Nat × Bool) (w' : World) : Prop := RdK K w' g s.1 s.2 ∧ w.grownBy w' (some g)

theorem RdEndK.below {K : Nat → Prop} {w w1 w2 : World} {g : Nat} {s : List Nat × Bool} (h : RdEndK K w g s w1) (hb : Below w1.heap.size w1 w2) : RdEndK K w g s w2 := ⟨h.1.below hb, only_below h.2 hb⟩
section
variable {K : Nat → Prop}

section
variable (v : Value) (g : Nat) (l : List Nat) (ok : Bool) (w w1 : World) (hO : OrNone v g w w1) (hR : RdK K w1 g l ok)
include hO hR

end
end
end Go.Proofs.YtcapbaocchaenaaGreatDoor

/- The walks of read where the bytes begin with no valid value, and of read at what is no list. -/
namespace Go.Proofs.YtcapbaocchaenaaGreatDoor
open Go.RowKit Go.Shelf Fl

theorem RdK.byte {K : Nat → Prop} {w : World} {g : Nat} {l : List Nat} {ok : Bool} (h : RdK K w g l ok) : ∀ c ∈ l, c < 256 := by
  obtain ⟨a, n, c, _, h2, _⟩ := h
  exact h2.byte


end Go.Proofs.YtcapbaocchaenaaGreatDoor

/- Bytes that are read as an event, field by field: plain. -/
namespace Go.Proofs.YtcapbaocchaenaaGreatDoor
open Go.RowKit Go.Shelf Fl

/-- The bytes l begin with the form of a valid event, and r comes behind it. -/
def IsE (l : List Nat) (e : Ev) (r : List Nat) : Prop := okE e = true ∧ EvB e ∧ l = formE e ++ r
theorem IsE.parts {k : Nat} {l2 r : List Nat} {e : Ev} (h : IsE (form 1 ++ (form k ++ l2)) e r) (hk : k < 18446744073709551616) : e.k = (k : Int) ∧ (1 ≤ k ∧ k ≤ 11) ∧ l2 = ((evFields (k : Int)).map (pieceE e)).flatten ++ r ∧ ∀ i ∈ evFields (k : Int), i < 6 ∧ rightE e i = true := by
  obtain ⟨ho, hb, he⟩ := h
  obtain ⟨hk1, _⟩ := okE_parts ho
  unfold formE at he
  rw [List.append_assoc, List.append_assoc] at he
  have he := List.append_cancel_left he
  obtain ⟨e1, e2⟩ := form_split hk (by omega) he
  have hkk : e.k = (k : Int) := by omega
  rw [hkk] at e2
  exact ⟨hkk, by omega, e2, fun i hi => by rw [← hkk] at hi; exact ⟨evFields_lt _ _ hi, okE_right ho hi⟩⟩

theorem IsE.uniq {l r r' : List Nat} {e e' : Ev} (h : IsE l e r) (h' : IsE l e' r') : sameE e e' = true ∧ r = r' := by
  obtain ⟨ho, hb, he⟩ := h
  obtain ⟨hk1, _⟩ := okE_parts ho
  have hkn : e.k = ((e.k.toNat : Nat) : Int) := by omega
  have hl : l = form 1 ++ (form e.k.toNat ++ (((evFields e.k).map (pieceE e)).flatten ++ r)) := by rw [he]; unfold formE; rw [List.append_assoc, List.append_assoc]
  rw [hl] at h'
  have h1 := h'.parts (by omega)
  rw [← hkn] at h1
  obtain ⟨hk', _, h2, hr⟩ := h1
  obtain ⟨ho', hb', _⟩ := h'
  obtain ⟨h3, h4⟩ := pieces_split hb hb' (evFields e.k) _ _ (fun i hi => ⟨evFields_lt _ _ hi, okE_right ho hi, (hr i hi).2⟩) h2
  exact ⟨same_of_fields ho ho' hk'.symm h3, h4⟩

end Go.Proofs.YtcapbaocchaenaaGreatDoor

/- Bytes that are read as a batch: plain. -/
namespace Go.Proofs.YtcapbaocchaenaaGreatDoor
open Go.RowKit Fl

theorem sameEs_cons {e e' : Ev} {l l' : List Ev} (h : sameE e e' = true) (hl : sameEs l l' = true) : sameEs (e :: l) (e' :: l') = true := by
  unfold sameEs at *
  rw [Bool.and_eq_true, decide_eq_true_eq] at hl ⊢
  refine ⟨by rw [List.length_cons, List.length_cons, hl.1], ?_⟩
  rw [List.zip_cons_cons, List.all_cons, h, hl.2]
  rfl
theorem sameEs_uncons {e e' : Ev} {l l' : List Ev} (h : sameEs (e :: l) (e' :: l') = true) : sameE e e' = true ∧ sameEs l l' = true := by
  unfold sameEs at *
  rw [Bool.and_eq_true, decide_eq_true_eq] at h ⊢
  obtain ⟨h1, h2⟩ := h
  rw [List.zip_cons_cons, List.all_cons, Bool.and_eq_true] at h2
  exact ⟨h2.1, by rw [List.length_cons, List.length_cons] at h1; omega, h2.2⟩
theorem sameEs_nil : sameEs [] [] = true := by simp [sameEs]

/-- What a valid batch's parts are bounded by. -/
structure BtB (t : Bt) : Prop where
  fl : t.flow.length < 18446744073709551616
  at_ : t.at_ < 18446744073709551616
  n : t.es.length < 18446744073709551616
  es : ∀ e ∈ t.es, okE e = true ∧ EvB e

/-- The bytes l are the form of the valid batch t. -/
def IsB (l : List Nat) (t : Bt) : Prop := okB t = true ∧ BtB t ∧ l = formBt t
theorem formBt_is (t : Bt) : formBt t = formB t.flow ++ (form t.at_ ++ (form t.es.length ++ (t.es.map formE).flatten)) := by
  unfold formBt headB
  simp only [List.append_assoc]

theorem IsB.parts {s l : List Nat} {at_ n : Nat} {t : Bt} (h : IsB (formB s ++ (form at_ ++ (form n ++ l))) t) (hs : s.length < 18446744073709551616) (ha : at_ < 18446744073709551616) (hn : n < 18446744073709551616) :
    s = t.flow ∧ at_ = t.at_ ∧ n = t.es.length ∧ l = (t.es.map formE).flatten := by
  obtain ⟨_, hb, he⟩ := h
  rw [formBt_is] at he
  obtain ⟨e1, he⟩ := formB_split hs hb.fl he
  obtain ⟨e2, he⟩ := form_split ha hb.at_ he
  obtain ⟨e3, he⟩ := form_split hn hb.n he
  exact ⟨e1, e2, e3, he⟩

end Go.Proofs.YtcapbaocchaenaaGreatDoor

/- The forms of valid batches in memory. -/
namespace Go.Proofs.YtcapbaocchaenaaGreatDoor
open Go.RowKit Go.Shelf Fl

theorem btIn_isB {w : World} {t : Bt} {x : Array Value} (h : BtIn w t x) (hok : okB t = true) (hn : t.es.length ≤ 1048576) : IsB (formBt t) t := by
  obtain ⟨k1, k2, k3⟩ := okB_parts hok
  obtain ⟨_, hat, a, n, c, _, hE⟩ := h
  refine ⟨hok, ⟨by omega, hat, by omega, fun e he => ⟨List.all_eq_true.1 k3 e he, ?_⟩⟩, rfl⟩
  obtain ⟨i, hi, rfl⟩ := List.getElem_of_mem he
  obtain ⟨b, o, _, hc⟩ := hE.cell (by have := hE.len; omega)
  obtain ⟨a', cap', hI, _⟩ := hc i hi
  exact hI.bound

theorem formBt_byte {w : World} {t : Bt} {x : Array Value} (h : BtIn w t x) : ∀ c ∈ formBt t, c < 256 := by
  obtain ⟨hf, _, a, n, c, _, hE⟩ := h
  intro x hx
  rw [formBt_is] at hx
  rcases List.mem_append.1 hx with h | hx
  · exact formB_byte hf.1 x h
  rcases List.mem_append.1 hx with h | hx
  · exact form_byte _ x h
  rcases List.mem_append.1 hx with h | hx
  · exact form_byte _ x h
  · exact forms_byte hE x hx

/-- What Bytes of a batch gives. -/
def formOr (t : Bt) : List Nat := if okB t = true then formBt t else []

theorem bytes_end {w w' : World} {t : Bt} {x : Array Value} {r : Ending} (h : BBytesEnd w t r w') (hI : BtIn w t x) : ∃ p cp, r = .returned (.tuple #[.slice p (formOr t).length cp, .bool (okB t)]) ∧ Bytes w' p (formOr t).length cp (formOr t) ∧ Below w.heap.size w w' := by
  unfold formOr
  rcases h with ⟨h0, rfl, hb⟩ | ⟨h1, u, rfl, hown, hb⟩
  · rw [h0]
    exact ⟨none, 0, rfl, bytes_nil _, hb⟩
  · rw [h1]
    obtain ⟨p, cp, rfl, hB⟩ := own_slice hown (formBt_byte hI)
    exact ⟨p, cp, rfl, hB, hb⟩

end Go.Proofs.YtcapbaocchaenaaGreatDoor

