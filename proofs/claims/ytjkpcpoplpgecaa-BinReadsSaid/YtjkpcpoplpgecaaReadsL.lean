/- What the walk of BinReads wants: the two readers beside each other. -/
import Derived.Test.YtjkpcpoplpgecaaBinOnly
import Derived.Test.YtjkpcpoplpgecaaRReader
import Derived.Test.YtjkpcpoplpgecaaNums
import Derived.Laws.IdiomStrings
namespace Go.Proofs.Ytjkpcpoplpgecaa
open Go.RowKit

/-- '[]byte(s)': new memory. -/
theorem to_bytes (l : List Nat) (w : World) (hl : ∀ x ∈ l, x < 256) (hn : l.length ≤ 1000000) :
    ∃ c w', (convert 9 23 (.string (str l))).run Try.prog w = .ok (.slice (some ⟨w.heap.size, 0, none⟩) l.length c) w' ∧ Bytes w' (some ⟨w.heap.size, 0, none⟩) l.length c l ∧ Below w.heap.size w w' := by
  have hr := run_bytes_of_string (P := Try.prog) w 9 23 5 (str l) Try.underlying9 Try.underlying23 Try.underlying5
  have hge := grownCap_ge w (str l).size 0 5
  have hcm := grownCap_le_maxLen w (str l).size 0 5 (by rw [maxLen_nat, str_size]; omega)
  rw [maxLen_nat] at hcm
  rw [str_size] at hr hge hcm
  obtain ⟨c, hc⟩ : ∃ c, c = grownCap w l.length 0 5 := ⟨_, rfl⟩
  rw [← hc] at hr hge hcm
  refine ⟨c, _, hr, ⟨rfl, hge, hcm, hl, (fun h => (by cases h)), fun _ => ⟨w.heap.size, 0, rfl, fun i hi => ?_⟩⟩, ((Below.refl _ _).drew).alloc (Nat.le_refl _) _⟩
  rw [Nat.zero_add]
  have hsz : i < (str l).data.size := by
    have := str_size l
    show i < (str l).size
    omega
  have h1 := bytesRow_at (str l) c i hsz
  have h2 : (w.drew.alloc (.cells (bytesRow (str l) c) 5 ((bytesRow (str l) c).size, (bytesRow (str l) c).size + 1))).cell? ⟨w.heap.size, i, none⟩ = (bytesRow (str l) c)[i]? := cell_of_row _ _ _ _ _ _ (heap_alloc_new w.drew _)
  rw [h2, h1]
  congr 2
  have h3 : (str l).data[i] = UInt8.ofNat (l.getD i 0) := by
    rw [List.getD_eq_getElem?_getD, List.getElem?_eq_getElem hi]
    have h5 : i < (l.map UInt8.ofNat).length := by rw [List.length_map]; exact hi
    show ((l.map UInt8.ofNat).toArray)[i]'(by simpa using h5) = _
    rw [List.getElem_toArray]
    exact List.getElem_map _
  rw [h3]
  have h4 : l.getD i 0 < 256 := by
    rw [List.getD_eq_getElem?_getD, List.getElem?_eq_getElem hi]
    exact hl _ (List.getElem_mem _)
  simp [UInt8.toNat_ofNat']
  simp at h4
  omega

/-- The reference's reader in block g. -/
def RB (w : World) (g : Nat) (l : List Nat) (ok : Bool) : Prop :=
  ∃ a n c, w.heap[g]? = some (.cells #[.slice a n c, .bool (!ok)] 35 (0, 0)) ∧ Bytes w a n c l ∧ Formed a c

theorem RB.below {w w' : World} {g : Nat} {l : List Nat} {ok : Bool} (h : RB w g l ok) (hb : Below w.heap.size w w') : RB w' g l ok := by
  obtain ⟨a, n, c, h1, h2, h3⟩ := h
  exact ⟨a, n, c, (hb.block g (Array.getElem?_eq_some_iff.1 h1).1).trans h1, h2.grow hb, h3⟩

theorem bytes_keep {w w' : World} {a : Option Addr} {n c g : Nat} {l : List Nat} (h : Bytes w a n c l) (hg : w.grownBy w' (some g)) (hne : 0 < n → ∀ x, a = some x → x.block ≠ g) : Bytes w' a n c l := by
  rcases Nat.eq_zero_or_pos n with rfl | hn
  · obtain rfl : l = [] := List.length_eq_zero_iff.1 h.len
    exact ⟨rfl, h.le, h.capmax, h.byte, h.nil, fun h => absurd h (Nat.lt_irrefl _)⟩
  · refine h.keep fun p hp hpx => ?_
    obtain ⟨b, o, rfl, _⟩ := h.cell hn
    have hb := hne hn _ rfl
    have hb2 := hpx _ rfl
    simp only at hb hb2
    exact World.cell?_of_block (hg.block p.block hp (fun e2 => by cases e2; exact hb hb2.symm))

/-- The code's reader turns: the reference's is as it was. -/
theorem RB.keepRd {w w' : World} {g B : Nat} {l l0 : List Nat} {ok ok0 : Bool} {s : List Nat × Bool} (h : RB w B l ok) (hR : Rd w g l0 ok0) (hE : RdEnd w g s w') (hne : B ≠ g) : RB w' B l ok := by
  obtain ⟨a, n, c, h1, h2, h3⟩ := h
  obtain ⟨_, _, _, k1, _, _⟩ := hR
  exact ⟨a, n, c, (hE.2.block B (Array.getElem?_eq_some_iff.1 h1).1 (fun e => by cases e; exact hne rfl)).trans h1, bytes_keep h2 hE.2 (fun hn x hx => rd_other k1 h2 hn hx), h3⟩

/-- The reference's reader is stored: the code's is as it was, and so are all bytes. -/
def Stored (w w3 W' : World) (g B : Nat) (l : List Nat) (ok : Bool) : Prop :=
  RB W' B l ok ∧ Rd W' g l ok ∧ Below w.heap.size w W' ∧ ∀ p m c G, Bytes w3 p m c G → Bytes W' p m c G

theorem stored {w w3 : World} {g B : Nat} {l : List Nat} {ok ok0 : Bool} {a3 a0 : Option Addr} {n3 c3 n0 c0 : Nat} (hw3 : Below w.heap.size w w3) (hB : w.heap.size ≤ B) (hne : B ≠ g)
    (k : w3.heap[B]? = some (.cells #[.slice a0 n0 c0, .bool ok0] 35 (0, 0))) (hB3 : Bytes w3 a3 n3 c3 l) (hf3 : Formed a3 c3) (hR : Rd w3 g l ok) :
    Stored w w3 ((w3.setCell ⟨B, 0, none⟩ (.slice a3 n3 c3)).setCell ⟨B, 1, none⟩ (.bool (!ok))) g B l ok := by
  have far : ∀ p m c G, Bytes w3 p m c G → Bytes ((w3.setCell ⟨B, 0, none⟩ (.slice a3 n3 c3)).setCell ⟨B, 1, none⟩ (.bool (!ok))) p m c G := by
    intro p m c G h
    have h1 : 0 < m → ∀ x, p = some x → x.block ≠ B := fun hn x hx => rd_other k h hn hx
    exact (h.setFar h1 _).setFar h1 _
  refine ⟨⟨a3, n3, c3, rd_store1 (rd_store0 k), far _ _ _ _ hB3, hf3⟩, ?_, (hw3.setCell hB _).setCell hB _, far⟩
  obtain ⟨a, n, c, h1, h2, h3⟩ := hR
  refine ⟨a, n, c, ?_, far _ _ _ _ h2, h3⟩
  exact (Below.heap_setCell _ _ _ g (fun e => hne e.symm)).trans ((Below.heap_setCell _ _ _ g (fun e => hne e.symm)).trans h1)

/-- Where the ways of a round meet: both readers, and what both have returned. -/
def Met (w : World) (g B : Nat) (x y i j got want : Value) (wx : World) : Prop :=
  ∃ (X : Nat) (Y : Int) (p q : Option Addr) (mp mq cp cq : Nat) (G l : List Nat) (ok : Bool), x = .int .u64 (X : Int) ∧ y = .int .u64 (X : Int) ∧ i = .int .i64 Y ∧ j = .int .i64 Y ∧ got = .slice p mp cp ∧ want = .slice q mq cq ∧
    Bytes wx p mp cp G ∧ Bytes wx q mq cq G ∧ Rd wx g l ok ∧ RB wx B l ok ∧ l.length ≤ 500 ∧ Below w.heap.size w wx

def ReadsRel (w : World) (g B m : Nat) (i : Value) (wr : World) : Prop :=
  ∃ (k : Nat) (l : List Nat) (ok : Bool), k ≤ m ∧ i = .int .i64 k ∧ Rd wr g l ok ∧ RB wr B l ok ∧ l.length ≤ 500 ∧ Below w.heap.size w wr

theorem readN_le {l : List Nat} {ok : Bool} : (readN l ok).2.1.length ≤ l.length := by
  unfold readN
  split
  · rw [List.length_drop]; omega
  · exact Nat.le_refl _
theorem readB_le {l : List Nat} {ok : Bool} : (readB l ok).2.1.length ≤ l.length ∧ (readB l ok).1.length ≤ l.length := by
  unfold readB
  split
  · simp only [List.length_drop, List.length_take]; omega
  · exact ⟨Nat.le_refl _, Nat.zero_le _⟩
theorem takeN_le {l : List Nat} {ok : Bool} {k : Int} : (takeN l ok k).2.1.length ≤ l.length := by
  unfold takeN
  split
  · rw [List.length_drop]; omega
  · exact Nat.le_refl _
theorem readB_byte {l : List Nat} {ok : Bool} (hl : ∀ x ∈ l, x < 256) : ∀ x ∈ (readB l ok).1, x < 256 := by
  unfold readB
  split
  · intro x hx
    exact hl x (List.mem_of_mem_drop (List.mem_of_mem_take hx))
  · intro x hx
    cases hx

section
variable (a : Option Addr) (n c : Nat) (ok : Bool) (l : List Nat) (w : World) (hB : Bytes w a n c l) (hf : Formed a c)
include hB hf
theorem cUint : Calls Try.prog 19 #[.agg #[.slice a n c, .bool (!ok)]] w (RUEnd w (readN l ok)) := by
  have := readUint_any a n c (!ok) l w hB hf
  rwa [Bool.not_not] at this
theorem cInt : Calls Try.prog 21 #[.agg #[.slice a n c, .bool (!ok)]] w (RIEnd w (readN l ok)) := by
  have := readInt_any a n c (!ok) l w hB hf
  rwa [Bool.not_not] at this
theorem cBytes : Calls Try.prog 23 #[.agg #[.slice a n c, .bool (!ok)]] w (RTEnd w (readB l ok)) := by
  have := readBytes_any a n c (!ok) l w hB hf
  rwa [Bool.not_not] at this
theorem cTake (k : Int) (k1 : -9223372036854775808 ≤ k) (k2 : k ≤ 9223372036854775807) : Calls Try.prog 26 #[.agg #[.slice a n c, .bool (!ok)], .int .i64 k] w (RTEnd w (takeN l ok k)) := by
  have := rtake_any a n c (!ok) l k w hB hf k1 k2
  rwa [Bool.not_not] at this
end

section
variable {g : Nat} {l : List Nat} {ok : Bool} {w : World} {n : Nat} {d : Bool}
theorem rLeft (hR : Rd w g l ok) (hn : l.length = n) : Calls Try.prog 27 #[.pointer (some ⟨g, 0, none⟩)] w fun e w' => e = .returned (.int .i64 (n : Int)) ∧ w = w' := by
  subst hn
  exact mLeft _ g l ok w w (orNone_some g w) hR
theorem rOk (hR : Rd w g l ok) : Calls Try.prog 28 #[.pointer (some ⟨g, 0, none⟩)] w fun e w' => e = .returned (.bool ok) ∧ w = w' := mOk _ g l ok w w (orNone_some g w) hR
theorem rDone (hR : Rd w g l ok) (hd : doneB l ok = d) : Calls Try.prog 29 #[.pointer (some ⟨g, 0, none⟩)] w fun e w' => e = .returned (.bool d) ∧ w = w' := by
  subst hd
  exact mDone g l ok w hR
theorem cDone {a : Option Addr} {c : Nat} (hB : Bytes w a n c l) (hd : doneB l ok = d) : Calls Try.prog 30 #[.agg #[.slice a n c, .bool (!ok)]] w fun e w' => e = .returned (.bool d) ∧ Below w.heap.size w w' := by
  subst hd
  exact rdone_any a n c ok l w hB
end
end Go.Proofs.Ytjkpcpoplpgecaa
