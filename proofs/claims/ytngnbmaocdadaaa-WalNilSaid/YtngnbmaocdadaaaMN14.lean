import Derived.Test.YtngnbmaocdadaaaMN13
/- Slices of ints that came in, as lists of integers. -/
namespace Go.Proofs.Ytngnbmaocdadaaa
open Go.ChangeShapes Go.WideShapes Go.ChangeAt Go.RowKit Go.Deep

/-- The ints l lie at the start of a slice's value. -/
structure Nums (w : World) (a : Option Addr) (n cap : Nat) (l : List Int) : Prop where
  len : l.length = n
  le : n ≤ cap
  capmax : cap ≤ 9223372036854775807
  wf : ∀ x ∈ l, -9223372036854775808 ≤ x ∧ x ≤ 9223372036854775807
  cell : 0 < n → ∃ b o, a = some ⟨b, o, none⟩ ∧ ∀ i, i < n → w.cell? ⟨b, o + i, none⟩ = some (.int .i64 (l.getD i 0))

theorem Nums.grow {w w' : World} {a : Option Addr} {n cap : Nat} {l : List Int} (h : Nums w a n cap l) (hw : Below w.heap.size w w') : Nums w' a n cap l := by
  obtain ⟨h1, h2, h3, h4, h6⟩ := h
  refine ⟨h1, h2, h3, h4, fun hn => ?_⟩
  obtain ⟨b, o, rfl, hc⟩ := h6 hn
  exact ⟨b, o, rfl, fun i hi => by rw [hw.cell (p := ⟨b, o + i, none⟩) (World.block_lt_of_cell? _ _ (hc i hi))]; exact hc i hi⟩

theorem Nums.get {w : World} {a : Option Addr} {n cap : Nat} {l : List Int} (h : Nums w a n cap l) {i : Nat} (hi : i < n) : -9223372036854775808 ≤ l.getD i 0 ∧ l.getD i 0 ≤ 9223372036854775807 := by
  have h1 := h.len
  rw [List.getD_eq_getElem?_getD, List.getElem?_eq_getElem (by omega)]
  exact h.wf _ (List.getElem_mem _)

section
variable {H : Type} {enc : TypeId × Value → H} {P : Program}

theorem nums_of_ints {W : World} {A : Option Addr} {len cap : Nat} {zs : List Int} (hl : len ≤ cap) (hm : cap ≤ maxLen) (hz : zs.length = cap)
    (hcell : ∀ a, A = some a → ∀ c, c < cap → W.cell? (a.add c) = some (.int .i64 (zs.getD c 0))) (hnil : A = none → cap = 0) (hw : ∀ n ∈ zs, (Lit.int .i64 n).wf = true) :
    Nums W A len cap (zs.take len) := by
  refine ⟨by simp; omega, hl, hm, fun x hx => wf_i64_of (hw x (List.mem_of_mem_take hx)), fun hn => ?_⟩
  cases A with
  | none => have := hnil rfl; omega
  | some a =>
    obtain ⟨b, o, spot⟩ := a
    have hspot : spot = none := by simpa [Addr.add] using World.cell?_spot (hcell _ rfl 0 (by omega))
    subst hspot
    refine ⟨b, o, rfl, fun i hi => ?_⟩
    have hc := hcell _ rfl i (by omega)
    rw [add_plain] at hc
    rw [hc, List.getD_eq_getElem?_getD, List.getD_eq_getElem?_getD, List.getElem?_take, if_pos hi]

/-- A slice of ints that came in. -/
theorem open_nums {W : World} {t e : TypeId} {v : Value} {d : DataW H} {p : List MemPlace} (ht : P.underlying t = some (.slice e)) (he : P.underlying e = some (.int .i64)) (ce : P.cellsOf e = 1)
    {base : Nat} (hv : Value.okWide P W .any base t v) (h : DataW.Trod enc P W 0 (fun _ => true) true t v d p) : ∃ a n cap l, v = .slice a n cap ∧ Nums W a n cap l := by
  obtain ⟨a0, len, cap, rfl⟩ := okWide_slice ht hv
  obtain ⟨fuel, hf⟩ := h
  rcases open_ints ht he ce hf with ⟨hcs, _⟩ | ⟨a, len', cap', zs, hcs, _, hl, hm, hz, _, hcell, hw⟩
  · simp [Value.cells] at hcs
    obtain ⟨rfl, rfl, rfl⟩ := hcs
    exact ⟨none, 0, 0, [], rfl, rfl, Nat.le_refl _, by omega, by simp, fun h => absurd h (Nat.lt_irrefl _)⟩
  · simp [Value.cells] at hcs
    obtain ⟨rfl, rfl, rfl⟩ := hcs
    simp only [if_true] at hz
    refine ⟨some a, len, cap, _, rfl, nums_of_ints (zs := zs) hl hm hz (fun a' ha' c hc => ?_) (fun h => by cases h) hw⟩
    cases ha'
    exact hcell c (by omega)
end
end Go.Proofs.Ytngnbmaocdadaaa

/- The walk of a disk's Crash. -/
namespace Go.Proofs.Ytngnbmaocdadaaa
open Go.RowKit Go.Maps Go.Shelf

/-- The files of which the first i ones are cut. -/
def uptoF (ks : List Int) (i : Nat) (fs : List F) : List F := fs.mapIdx fun j f => if j < i then cutF f (ks.getD j 0) else f

theorem uptoF_at (ks : List Int) (i : Nat) (fs : List F) (j : Nat) (h : j < (uptoF ks i fs).length) (hj : j < fs.length) : (uptoF ks i fs)[j] = if j < i then cutF fs[j] (ks.getD j 0) else fs[j] := by
  simp only [uptoF, List.getElem_mapIdx]

theorem uptoF_zero (ks : List Int) (fs : List F) : uptoF ks 0 fs = fs := by
  unfold uptoF
  apply List.ext_getElem (by simp)
  intro j h1 h2
  simp

theorem uptoF_all (ks : List Int) (fs : List F) : uptoF ks fs.length fs = fs.mapIdx fun i f => cutF f (ks.getD i 0) := by
  unfold uptoF
  apply List.ext_getElem (by simp)
  intro j h1 h2
  have : j < fs.length := by simpa using h1
  simp [this]

theorem uptoF_length (ks : List Int) (i : Nat) (fs : List F) : (uptoF ks i fs).length = fs.length := by unfold uptoF; simp

theorem uptoF_get (ks : List Int) (i : Nat) (fs : List F) (hi : i < fs.length) : (uptoF ks i fs)[i]'(by rw [uptoF_length]; exact hi) = fs[i] := by
  unfold uptoF
  simp

theorem uptoF_name (ks : List Int) (i j : Nat) (fs : List F) (hj : j < fs.length) : ((uptoF ks i fs)[j]'(by rw [uptoF_length]; exact hj)).n = (fs[j]).n := by
  unfold uptoF
  rw [List.getElem_mapIdx]
  split <;> rfl

theorem setN_get {α : Type} (f : α → List UInt8) (x : α) (l : List α) (j : Nat) (hj : j < l.length) : (setN f x l)[j]'(by unfold setN; simpa using hj) = if f l[j] == f x then x else l[j] := by
  simp only [setN, List.getElem_map]

theorem uptoF_step (ks : List Int) (i : Nat) (fs : List F) (hi : i < fs.length) (hp : fs.Pairwise fun x y => x.n ≠ y.n) : setN F.n (cutF fs[i] (ks.getD i 0)) (uptoF ks i fs) = uptoF ks (i + 1) fs := by
  have hne : ∀ j (hj : j < fs.length), j ≠ i → (fs[j]).n ≠ (fs[i]).n := by
    intro j hj hji
    rcases Nat.lt_or_gt_of_ne hji with h | h
    · exact List.pairwise_iff_getElem.1 hp j i hj hi h
    · exact fun e => List.pairwise_iff_getElem.1 hp i j hi hj h e.symm
  apply List.ext_getElem (by unfold setN uptoF; simp)
  intro j h1 h2
  have hj : j < fs.length := by rw [uptoF_length] at h2; exact h2
  rw [setN_get F.n _ _ j (by rw [uptoF_length]; exact hj)]
  have hn : ((uptoF ks i fs)[j]'(by rw [uptoF_length]; exact hj)).n = (fs[j]).n := uptoF_name ks i j fs hj
  rw [uptoF_at ks (i + 1) fs j h2 hj]
  by_cases e : j = i
  · subst e
    rw [if_pos (by rw [beq_iff_eq, hn]; rfl), if_pos (Nat.lt_succ_self _)]
  · rw [if_neg (by rw [beq_iff_eq, hn]; exact hne j hj e), uptoF_at ks i fs j _ hj]
    by_cases h : j < i
    · rw [if_pos h, if_pos (by omega)]
    · rw [if_neg h, if_neg (by omega)]

theorem find_mem : ∀ {L : List FW} {y : FW}, (L.Pairwise fun x y => x.n ≠ y.n) → y ∈ L → findN FW.n y.n L = some y
  | [], _, _, h => by cases h
  | x :: L, y, hp, h => by
    obtain ⟨h1, h2⟩ := List.pairwise_cons.1 hp
    unfold findN
    rw [List.find?_cons]
    rcases List.mem_cons.1 h with e | h
    · rw [e]; simp
    · have : (x.n == y.n) = false := beq_eq_false_iff_ne.2 (h1 y h)
      rw [this]
      exact find_mem h2 h

theorem Nums.chg {S : Nat → Prop} {w w' : World} {a : Option Addr} {n c : Nat} {l : List Int} (h : Nums w a n c l) (hc : Chg S w w') (ha : 0 < n → ∀ x, a = some x → ¬ S x.block) : Nums w' a n c l := by
  obtain ⟨h1, h2, h3, h4, h6⟩ := h
  refine ⟨h1, h2, h3, h4, fun hn => ?_⟩
  obtain ⟨b, o, rfl, hcl⟩ := h6 hn
  exact ⟨b, o, rfl, fun i hi => hc.cell (hcl i hi) (show ¬ S b from ha hn ⟨b, o, none⟩ rfl)⟩

end Go.Proofs.Ytngnbmaocdadaaa

/- A disk that the call itself has made: what each method leaves of it. -/
namespace Go.Proofs.Ytngnbmaocdadaaa
open Go.RowKit Go.Maps Go.Shelf

/-- The disk d has been made since w0, lies in no block of X, and is M. -/
def Own (w0 : World) (X : Nat → Prop) (w : World) (d : Nat) (M : DM) : Prop := ∃ S, DiskIn S w d M ∧ (∀ b, S b → w0.heap.size ≤ b ∧ ¬ X b) ∧ (∀ b, X b → b < w.heap.size) ∧ Below w0.heap.size w0 w

theorem Own.below {w0 : World} {X : Nat → Prop} {w : World} {d : Nat} {M : DM} (h : Own w0 X w d M) {w' : World} (hb : Below w.heap.size w w') : Own w0 X w' d M := by
  obtain ⟨S, hD, hS, hX, h0⟩ := h
  exact ⟨S, hD.below hb, hS, fun b hx => Nat.lt_of_lt_of_le (hX b hx) hb.size, h0.trans (hb.mono h0.size)⟩

theorem Own.base {w0 : World} {X : Nat → Prop} {w : World} {d : Nat} {M : DM} (h : Own w0 X w d M) : Below w0.heap.size w0 w := by obtain ⟨_, _, _, _, h⟩ := h; exact h

/-- New blocks are not the disk's. -/
theorem Own.more {w0 : World} {X Y : Nat → Prop} {w w' : World} {d : Nat} {M : DM} (h : Own w0 X w d M) (hb : Below w.heap.size w w') (hY : ∀ b, Y b → X b ∨ (w.heap.size ≤ b ∧ b < w'.heap.size)) : Own w0 Y w' d M := by
  obtain ⟨S, hD, hS, hX, h0⟩ := h
  refine ⟨S, hD.below hb, fun b hs => ⟨(hS b hs).1, fun hy => ?_⟩, fun b hy => ?_, h0.trans (hb.mono h0.size)⟩
  · rcases hY b hy with h1 | ⟨h1, _⟩
    · exact (hS b hs).2 h1
    · obtain ⟨_, _, _, hD⟩ := hD
      have := hD.bound b hs
      omega
  · rcases hY b hy with h1 | ⟨_, h1⟩
    · exact Nat.lt_of_lt_of_le (hX b h1) hb.size
    · exact h1

/-- What a call leaves: the disk, and the blocks of X as they were. -/
def OwnEnd (w0 : World) (X : Nat → Prop) (w : World) (d : Nat) (M : DM) (w' : World) : Prop := Own w0 X w' d M ∧ (∀ b, X b → w'.heap[b]? = w.heap[b]?) ∧ Below w0.heap.size w w' ∧ w.heap.size ≤ w'.heap.size

theorem Own.step {w0 : World} {X S : Nat → Prop} {w w' : World} {d : Nat} {M' : DM} (hS : ∀ b, S b → w0.heap.size ≤ b ∧ ¬ X b) (hX : ∀ b, X b → b < w.heap.size) (h0 : Below w0.heap.size w0 w) (h : Step S w d M' w') : OwnEnd w0 X w d M' w' := by
  obtain ⟨S', hD, hs, hc⟩ := h
  have hb := hc.below (fun b hb => (hS b hb).1) h0.size
  refine ⟨⟨S', hD, fun b hb => ?_, fun b hx => Nat.lt_of_lt_of_le (hX b hx) hc.size, h0.trans hb⟩, fun b hx => hc.block b (hX b hx) (fun h => (hS b h).2 hx), hb, hc.size⟩
  rcases hs b hb with h1 | h1
  · exact hS b h1
  · exact ⟨Nat.le_trans h0.size h1, fun hx => absurd (hX b hx) (by omega)⟩

/-- What a change answers and leaves. -/
def OwnAct (w0 : World) (X : Nat → Prop) (w : World) (d : Nat) (r : DM × Int) (e : Ending) (w' : World) : Prop := e = .returned (.int .i64 r.2) ∧ OwnEnd w0 X w d r.1 w'

theorem own_new (room : Int) (w : World) (hhi : room < 9223372036854775808) : Calls Try.prog 14 #[.int .i64 room] w fun e w' => ∃ d, e = .returned (.pointer (some ⟨d, 0, none⟩)) ∧ Own w (fun _ => False) w' d (newM room) ∧ Below w.heap.size w w' :=
  (new_any room w hhi).mono fun _ _ ⟨d, he, hD, hb⟩ => ⟨d, he, ⟨_, hD, fun _ hb => ⟨hb.1, fun h => h⟩, fun _ h => h.elim, hb⟩, hb⟩

theorem own_create {w0 : World} {X : Nat → Prop} {w : World} {d : Nat} {M : DM} (h : Own w0 X w d M) (n : List UInt8) (hn : n.length ≤ 9223372036854775807) (hL : M.fs.length < 1000000) :
    Calls Try.prog 15 #[.pointer (some ⟨d, 0, none⟩), .string ⟨n.toArray⟩] w (OwnAct w0 X w d (createM n M)) := by
  obtain ⟨S, hD, hS, hX, h0⟩ := h
  exact (create_any hD n hn hL).mono fun e w' hq => ⟨hq.1, Own.step hS hX h0 hq.2⟩

theorem own_append {w0 : World} {X : Nat → Prop} {w : World} {d : Nat} {M : DM} (h : Own w0 X w d M) (n : List UInt8) (hn : n.length ≤ 9223372036854775807) (pa : Option Addr) (m c : Nat) (l : List Nat) (hB : Bytes w pa m c l) (hap : 0 < m → ∀ a, pa = some a → X a.block ∨ a.block < w0.heap.size)
    (hlim : usedF M.fs + l.length ≤ 140737488355328) : Calls Try.prog 34 #[.pointer (some ⟨d, 0, none⟩), .string ⟨n.toArray⟩, .slice pa m c] w (OwnAct w0 X w d (appendM n l M)) := by
  obtain ⟨S, hD, hS, hX, h0⟩ := h
  refine (append_any hD n hn pa m c l hB (fun h0' a ha hs => ?_) hlim).mono fun e w' hq => ⟨hq.1, Own.step hS hX h0 hq.2⟩
  rcases hap h0' a ha with h1 | h1
  · exact (hS _ hs).2 h1
  · have := (hS _ hs).1; omega

theorem own_sync {w0 : World} {X : Nat → Prop} {w : World} {d : Nat} {M : DM} (h : Own w0 X w d M) (n : List UInt8) (hn : n.length ≤ 9223372036854775807) :
    Calls Try.prog 36 #[.pointer (some ⟨d, 0, none⟩), .string ⟨n.toArray⟩] w (OwnAct w0 X w d (syncM n M)) := by
  obtain ⟨S, hD, hS, hX, h0⟩ := h
  exact (sync_any hD n hn).mono fun e w' hq => ⟨hq.1, Own.step hS hX h0 hq.2⟩

theorem own_used {w0 : World} {X : Nat → Prop} {w : World} {d : Nat} {M : DM} (h : Own w0 X w d M) :
    Calls Try.prog 13 #[.pointer (some ⟨d, 0, none⟩)] w fun e w' => e = .returned (.int .i64 (usedF M.fs : Int)) ∧ Below w.heap.size w w' := by
  obtain ⟨S, hD, _⟩ := h
  exact used_any hD

/-- The blocks of a slice's value. -/
def blkOf (p : Option Addr) (b : Nat) : Prop := ∃ a, p = some a ∧ b = a.block

/-- What has been read is kept aside. -/
theorem Own.read {w0 : World} {X : Nat → Prop} {w w' : World} {d : Nat} {M : DM} (h : Own w0 X w d M) (hb : Below w.heap.size w w') {p : Option Addr} (hp : ∀ a, p = some a → w.heap.size ≤ a.block ∧ a.block < w'.heap.size) : Own w0 (fun b => X b ∨ blkOf p b) w' d M :=
  h.more hb fun b hy => hy.imp id fun ⟨a, ha, e⟩ => by rw [e]; exact hp a ha

theorem Bytes.aside {w w' : World} {a : Option Addr} {n c : Nat} {l : List Nat} (h : Bytes w a n c l) (hk : ∀ b, blkOf a b → w'.heap[b]? = w.heap[b]?) : Bytes w' a n c l := by
  rcases Nat.eq_zero_or_pos n with rfl | hn
  · obtain rfl : l = [] := List.length_eq_zero_iff.1 h.len
    exact ⟨rfl, h.le, h.capmax, h.byte, h.nil, fun h => absurd h (Nat.lt_irrefl _)⟩
  · refine h.keep fun p _ hpa => ?_
    obtain ⟨b, o, rfl, _⟩ := h.cell hn
    have e := hpa _ rfl
    exact World.cell?_of_block (hk p.block ⟨_, rfl, e⟩)

theorem nums_nil (w : World) : Nums w none 0 0 [] := ⟨rfl, Nat.le_refl _, by omega, fun _ h => (by cases h), fun h => absurd h (Nat.lt_irrefl _)⟩
theorem nums_one (w : World) (k : Int) (hlo : -9223372036854775808 ≤ k) (hhi : k ≤ 9223372036854775807) : Nums (w.alloc (.cells #[.int .i64 k] 3)) (some ⟨w.heap.size, 0, none⟩) 1 1 [k] := by
  refine ⟨rfl, Nat.le_refl _, by omega, fun x hx => by rw [List.mem_singleton.1 hx]; exact ⟨hlo, hhi⟩, fun _ => ⟨w.heap.size, 0, rfl, fun i hi => ?_⟩⟩
  obtain rfl : i = 0 := by omega
  rw [Nat.zero_add, cell_of_row _ _ _ _ _ (0, 0) (heap_alloc_new _ _)]
  rfl

theorem bytes_new (w : World) (l : List Nat) (hb : ∀ x ∈ l, x < 256) (hm : l.length ≤ 9223372036854775807) : Bytes (w.alloc (.cells (u8s l).toArray 5)) (some ⟨w.heap.size, 0, none⟩) l.length l.length l := by
  refine ⟨rfl, Nat.le_refl _, hm, hb, fun h => (by cases h), fun _ => ⟨w.heap.size, 0, rfl, fun i hi => ?_⟩⟩
  rw [Nat.zero_add, cell_of_row _ _ _ _ _ (0, 0) (heap_alloc_new _ _)]
  simp [u8s, List.getElem?_map, List.getElem?_eq_getElem hi, List.getD_eq_getElem?_getD]
end Go.Proofs.Ytngnbmaocdadaaa

/- The walks of a disk's Remove and Rename. -/
namespace Go.Proofs.Ytngnbmaocdadaaa
open Go.RowKit Go.Maps Go.Shelf

theorem delN_sub {A B : List FW} {x : FW} {n : List UInt8} (hn : x.n = n) : (delN FW.n n (A ++ x :: B)).Sublist (A ++ B) := by
  unfold delN
  rw [List.filter_append, List.filter_cons, if_neg (by rw [hn]; simp)]
  exact List.Sublist.append (List.filter_sublist ..) (List.filter_sublist ..)

end Go.Proofs.Ytngnbmaocdadaaa

