import Derived.Test.YtjoolocdejnohaaGreatSC10
import Derived.Test.YtjoolocdejnohaaGreatIter
import Derived.Maps.Ext
import Derived.Test.YtjoolocdejnohaaGreatSC1
import Derived.ProofKit
import Derived.SizedLaws
import Derived.Deep.Matrix
/- The walk of a disk's List: the names in their order. -/
namespace Go.Proofs.YtjoolocdejnohaaGreat
open Go.RowKit Go.Maps Go.Shelf Go.Sort

theorem before_lt : ∀ (a b : List UInt8), bytesBefore a b = true ↔ a < b
  | [], [] => by simp [bytesBefore]
  | [], _ :: _ => by simp [bytesBefore]
  | _ :: _, [] => by simp [bytesBefore]
  | x :: r, y :: s => by
    rw [List.cons_lt_cons_iff]
    unfold bytesBefore
    rw [Bool.or_eq_true, Bool.and_eq_true, decide_eq_true_eq, beq_iff_eq, before_lt r s]

theorem DiskAt.sorted {S : Nat → Prop} {w : World} {d mb : Nat} {p : Int} {L : List FW} {M : DM} (h : DiskAt S w d mb p L M) : L.Pairwise fun x y => x.n < y.n := by
  obtain ⟨es, he, hp, _⟩ := h.dir.canon mapKey
  have e : es = L.map ent := (DataW.map.inj he).symm
  rw [e, List.pairwise_map] at hp
  exact hp.imp (fun {a b} hab => (before_lt a.n b.n).1 hab)

theorem sorted_names {S : Nat → Prop} {w : World} {d mb : Nat} {p : Int} {L : List FW} {M : DM} (h : DiskAt S w d mb p L M) {ss : List (List UInt8)} (hp : ss.Perm (strKeys (dirD L))) : ss.mergeSort (fun x y => decide (x ≤ y)) = M.fs.map F.n := by
  rw [dirD_keys] at hp
  rw [mergeSort_of_perm hp, h.files, List.map_map]
  refine List.mergeSort_of_pairwise ?_
  rw [List.pairwise_map]
  exact h.sorted.imp (fun {a b} hab => by simpa using List.le_of_lt hab)

set_option maxRecDepth 100000 in
set_option maxHeartbeats 1600000 in
theorem list_any {S : Nat → Prop} {w : World} {d : Nat} {M : DM} (h : DiskIn S w d M) (hlen : M.fs.length < 1000000) :
    Calls Tryz.prog 41 #[.pointer (some ⟨d, 0, none⟩)] w fun e w' => ∃ v, e = .returned v ∧ w'.ownsRow w.heap.size 9 1 v M.fs.length ((M.fs.map F.n).map encStr) ∧ Below w.heap.size w w' := by
  obtain ⟨mb, p, L, h⟩ := h
  obtain ⟨_, c1, _, _, _⟩ := h.cells
  have hL : L.length = M.fs.length := by rw [h.files, List.length_map]
  have HK := Lib.hid (callsIn_wide.1 (Tryz.maps_Keys_90 (some mb) w))
  have HS := Lib.hid (callsIn_wide.1 (Tryz.slices_Sorted_keys_89_90 mb L.length (dirD L) ptrR w h.dir (by rw [dirD_size, maxLen_nat]; omega) (by rw [dirD_size]; omega)))
  have H := Lib.hid h
  have Hb := Lib.hid ((Below.refl w.heap.size w).alloc (Nat.le_refl _) (.cells #[.map (some mb)] 116))
  clear h
  go_enter Tryz.func41, Tryz.ntmps41
  go_wp2_with fail
  refine HK.out.mono ?_
  rintro e w' ⟨rfl, rfl⟩
  go_wp2_with fail
  refine HS.out.mono ?_
  rintro e w2 ⟨v, ss, rfl, hp, hrow, _, hb⟩
  have e1 := sorted_names H.out hp
  rw [e1] at hrow
  have e2 : ss.length = M.fs.length := by
    have := hp.length_eq
    rw [dirD_keys, List.length_map] at this
    omega
  rw [e2] at hrow
  have Hrow := Lib.hid (own_base hrow (base' := w.heap.size) (by simp))
  have Hb2 := Lib.hid (Hb.out.trans (hb.mono (by simp)))
  clear hp hrow hb e1 e2 hL
  go_wp2
  go_ret
  exact ⟨v, rfl, Hrow.out, Hb2.out⟩
end Go.Proofs.YtjoolocdejnohaaGreat

/- How a statement that answers true, and writes into new memory only, is lifted from its contract; how byte slices that come in are read as lists. -/
namespace Go.Proofs.YtjoolocdejnohaaGreat
open Go.ChangeShapes Go.WideShapes Go.ChangeAt Go.RowKit Go.Deep

section
variable {H : Type} {enc : TypeId × Value → H} {P : Program}

theorem below_trodAll (hl : laidOutB P = true) {W W' : World} (hb : Below W.heap.size W W') : ∀ {ts : List TypeId} {vs : List Value} {ds : List (DataW H)} {ps : List MemPlace},
    ts.all (fun t => P.readableRec t && decide (t < P.types.size)) = true → DataW.TrodAll enc P W 0 (fun _ => true) true ts vs ds ps →
    DataW.TrodAll enc P W' 0 (fun b => decide (b < W.heap.size)) true ts vs ds ps
  | [], vs, ds, ps, _, h => by
    obtain ⟨rfl, rfl, rfl⟩ := trodAll_nil h
    exact rfl
  | t :: ts, vs, ds, ps, ht, h => by
    obtain ⟨v, vs', d, ds', p, q, rfl, rfl, rfl, h0, h1⟩ := trodAll_cons h
    simp only [List.all_cons, Bool.and_eq_true, decide_eq_true_eq] at ht
    have hlt : ∀ x ∈ p, x.block < W.heap.size := fun x hx => h.lt x (by simp [hx])
    exact ⟨p, q, Below.trod hl ht.1.1 ht.1.2 h0 hb hlt, below_trodAll hl hb ht.2 h1, rfl⟩

theorem law_post {fn : Func} {s : ChangeSpec} {tb : TypeId} (hl : laidOutB P = true) (hrd : fn.params.toList.all (fun t => P.readableRec t && decide (t < P.types.size)) = true)
    (hvars : s.vars = []) (hrt : fn.resultTypes = #[tb]) (htb : P.underlying tb = some .bool)
    {W W' : World} {args : Array Value} {ds gs : List (DataW H)} {before : List MemPlace} (hW : DataW.Whole enc P fn.params.toList s.vars false W args.toList ds gs before)
    (hspec : s.fn H (ds ++ []) = { results := [.lit (.bool true)], args := ds }) (hb : Below W.heap.size W W') :
    s.post enc P fn false true false false W args (.bool true) W' := by
  have hW' := hW
  obtain ⟨p, q, hA, hV, rfl, _, _⟩ := hW
  rw [hvars] at hV
  obtain ⟨rfl, rfl⟩ := trodVars_none hV
  refine ⟨ds, [], p ++ [], [], p, [], hW', ?_, ?_, ?_, hb.frame _, fun h => by cases h⟩
  · rw [hspec, hrt]
    exact trodAll_mk1 (shut_bool htb _)
  · rw [hspec]
    exact below_trodAll hl hb hrd hA
  · rw [hspec, hvars]
    exact rfl

theorem wf_u8 {n : Int} (h : (Lit.int .u8 n).wf = true) : 0 ≤ n ∧ n < 256 := by
  have h1 : IntKind.u8.min = 0 := rfl
  have h2 : IntKind.u8.max = 255 := rfl
  simp only [Lit.wf, Bool.and_eq_true, decide_eq_true_eq] at h
  omega

theorem bytes_of_ints {W : World} {A : Option Addr} {len cap : Nat} {zs : List Int} (hl : len ≤ cap) (hm : cap ≤ maxLen) (hz : zs.length = cap) (hnil : A = none → cap = 0)
    (hcell : ∀ a, A = some a → ∀ c, c < cap → W.cell? (a.add c) = some (.int .u8 (zs.getD c 0))) (hw : ∀ n ∈ zs, (Lit.int .u8 n).wf = true) :
    Bytes W A len cap ((zs.take len).map Int.toNat) := by
  refine ⟨by simp; omega, hl, hm, ?_, hnil, fun hn => ?_⟩
  · intro x hx
    obtain ⟨n, hn, rfl⟩ := List.mem_map.1 hx
    have := wf_u8 (hw n (List.mem_of_mem_take hn))
    omega
  · cases A with
    | none => have := hnil rfl; omega
    | some a =>
      obtain ⟨b, o, spot⟩ := a
      have hspot : spot = none := by simpa [Addr.add] using World.cell?_spot (hcell _ rfl 0 (by omega))
      subst hspot
      refine ⟨b, o, rfl, fun i hi => ?_⟩
      have hc := hcell _ rfl i (by omega)
      rw [add_plain] at hc
      have hi' : i < zs.length := by omega
      have e1 : zs.getD i 0 = zs[i] := by rw [List.getD_eq_getElem?_getD, List.getElem?_eq_getElem hi']; rfl
      have e2 : ((zs.take len).map Int.toNat).getD i 0 = zs[i].toNat := by
        rw [List.getD_eq_getElem?_getD, List.getElem?_map, List.getElem?_take, if_pos hi, List.getElem?_eq_getElem hi']; rfl
      have hwf := wf_u8 (hw zs[i] (List.getElem_mem _))
      rw [hc, e1, e2]
      congr 2
      omega

end
end Go.Proofs.YtjoolocdejnohaaGreat

/- Slices of ints that came in, as lists of integers. -/
namespace Go.Proofs.YtjoolocdejnohaaGreat
open Go.ChangeShapes Go.WideShapes Go.ChangeAt Go.RowKit Go.Deep

/-- The ints l lie at the start of a slice's value. -/
structure Nums (w : World) (a : Option Addr) (n cap : Nat) (l : List Int) : Prop where
  len : l.length = n
  le : n ≤ cap
  capmax : cap ≤ 9223372036854775807
  wf : ∀ x ∈ l, -9223372036854775808 ≤ x ∧ x ≤ 9223372036854775807
  cell : 0 < n → ∃ b o, a = some ⟨b, o, none⟩ ∧ ∀ i, i < n → w.cell? ⟨b, o + i, none⟩ = some (.int .i64 (l.getD i 0))

theorem Nums.grow {w w' : World} {a : Option Addr} {n cap : Nat} {l : List Int} (h : Nums w a n cap l) (hw : Below w.heap.size w w') : Nums w' a n cap l := by
  obtain ⟨h1, h2, h3, h4, h6⟩ := h
  refine ⟨h1, h2, h3, h4, fun hn => ?_⟩
  obtain ⟨b, o, rfl, hc⟩ := h6 hn
  exact ⟨b, o, rfl, fun i hi => by rw [hw.cell (p := ⟨b, o + i, none⟩) (World.block_lt_of_cell? _ _ (hc i hi))]; exact hc i hi⟩

theorem Nums.get {w : World} {a : Option Addr} {n cap : Nat} {l : List Int} (h : Nums w a n cap l) {i : Nat} (hi : i < n) : -9223372036854775808 ≤ l.getD i 0 ∧ l.getD i 0 ≤ 9223372036854775807 := by
  have h1 := h.len
  rw [List.getD_eq_getElem?_getD, List.getElem?_eq_getElem (by omega)]
  exact h.wf _ (List.getElem_mem _)

end Go.Proofs.YtjoolocdejnohaaGreat

/- The walk of a disk's Crash. -/
namespace Go.Proofs.YtjoolocdejnohaaGreat
open Go.RowKit Go.Maps Go.Shelf

theorem Nums.chg {S : Nat → Prop} {w w' : World} {a : Option Addr} {n c : Nat} {l : List Int} (h : Nums w a n c l) (hc : Chg S w w') (ha : 0 < n → ∀ x, a = some x → ¬ S x.block) : Nums w' a n c l := by
  obtain ⟨h1, h2, h3, h4, h6⟩ := h
  refine ⟨h1, h2, h3, h4, fun hn => ?_⟩
  obtain ⟨b, o, rfl, hcl⟩ := h6 hn
  exact ⟨b, o, rfl, fun i hi => hc.cell (hcl i hi) (show ¬ S b from ha hn ⟨b, o, none⟩ rfl)⟩

end Go.Proofs.YtjoolocdejnohaaGreat

/- A disk that the call itself has made: what each method leaves of it. -/
namespace Go.Proofs.YtjoolocdejnohaaGreat
open Go.RowKit Go.Maps Go.Shelf

/-- The disk d has been made since w0, lies in no block of X, and is M. -/
def Own (w0 : World) (X : Nat → Prop) (w : World) (d : Nat) (M : DM) : Prop := ∃ S, DiskIn S w d M ∧ (∀ b, S b → w0.heap.size ≤ b ∧ ¬ X b) ∧ (∀ b, X b → b < w.heap.size) ∧ Below w0.heap.size w0 w

theorem Own.below {w0 : World} {X : Nat → Prop} {w : World} {d : Nat} {M : DM} (h : Own w0 X w d M) {w' : World} (hb : Below w.heap.size w w') : Own w0 X w' d M := by
  obtain ⟨S, hD, hS, hX, h0⟩ := h
  exact ⟨S, hD.below hb, hS, fun b hx => Nat.lt_of_lt_of_le (hX b hx) hb.size, h0.trans (hb.mono h0.size)⟩

theorem Own.base {w0 : World} {X : Nat → Prop} {w : World} {d : Nat} {M : DM} (h : Own w0 X w d M) : Below w0.heap.size w0 w := by obtain ⟨_, _, _, _, h⟩ := h; exact h

/-- New blocks are not the disk's. -/
theorem Own.more {w0 : World} {X Y : Nat → Prop} {w w' : World} {d : Nat} {M : DM} (h : Own w0 X w d M) (hb : Below w.heap.size w w') (hY : ∀ b, Y b → X b ∨ (w.heap.size ≤ b ∧ b < w'.heap.size)) : Own w0 Y w' d M := by
  obtain ⟨S, hD, hS, hX, h0⟩ := h
  refine ⟨S, hD.below hb, fun b hs => ⟨(hS b hs).1, fun hy => ?_⟩, fun b hy => ?_, h0.trans (hb.mono h0.size)⟩
  · rcases hY b hy with h1 | ⟨h1, _⟩
    · exact (hS b hs).2 h1
    · obtain ⟨_, _, _, hD⟩ := hD
      have := hD.bound b hs
      omega
  · rcases hY b hy with h1 | ⟨_, h1⟩
    · exact Nat.lt_of_lt_of_le (hX b h1) hb.size
    · exact h1

/-- What a call leaves: the disk, and the blocks of X as they were. -/
def OwnEnd (w0 : World) (X : Nat → Prop) (w : World) (d : Nat) (M : DM) (w' : World) : Prop := Own w0 X w' d M ∧ (∀ b, X b → w'.heap[b]? = w.heap[b]?) ∧ Below w0.heap.size w w' ∧ w.heap.size ≤ w'.heap.size

theorem Own.step {w0 : World} {X S : Nat → Prop} {w w' : World} {d : Nat} {M' : DM} (hS : ∀ b, S b → w0.heap.size ≤ b ∧ ¬ X b) (hX : ∀ b, X b → b < w.heap.size) (h0 : Below w0.heap.size w0 w) (h : Step S w d M' w') : OwnEnd w0 X w d M' w' := by
  obtain ⟨S', hD, hs, hc⟩ := h
  have hb := hc.below (fun b hb => (hS b hb).1) h0.size
  refine ⟨⟨S', hD, fun b hb => ?_, fun b hx => Nat.lt_of_lt_of_le (hX b hx) hc.size, h0.trans hb⟩, fun b hx => hc.block b (hX b hx) (fun h => (hS b h).2 hx), hb, hc.size⟩
  rcases hs b hb with h1 | h1
  · exact hS b h1
  · exact ⟨Nat.le_trans h0.size h1, fun hx => absurd (hX b hx) (by omega)⟩

/-- What a change answers and leaves. -/
def OwnAct (w0 : World) (X : Nat → Prop) (w : World) (d : Nat) (r : DM × Int) (e : Ending) (w' : World) : Prop := e = .returned (.int .i64 r.2) ∧ OwnEnd w0 X w d r.1 w'

theorem own_new (room : Int) (w : World) (hhi : room < 9223372036854775808) : Calls Tryz.prog 28 #[.int .i64 room] w fun e w' => ∃ d, e = .returned (.pointer (some ⟨d, 0, none⟩)) ∧ Own w (fun _ => False) w' d (newM room) ∧ Below w.heap.size w w' :=
  (new_any room w hhi).mono fun _ _ ⟨d, he, hD, hb⟩ => ⟨d, he, ⟨_, hD, fun _ hb => ⟨hb.1, fun h => h⟩, fun _ h => h.elim, hb⟩, hb⟩

theorem own_create {w0 : World} {X : Nat → Prop} {w : World} {d : Nat} {M : DM} (h : Own w0 X w d M) (n : List UInt8) (hn : n.length ≤ 9223372036854775807) (hL : M.fs.length < 1000000) :
    Calls Tryz.prog 35 #[.pointer (some ⟨d, 0, none⟩), .string ⟨n.toArray⟩] w (OwnAct w0 X w d (createM n M)) := by
  obtain ⟨S, hD, hS, hX, h0⟩ := h
  exact (create_any hD n hn hL).mono fun e w' hq => ⟨hq.1, Own.step hS hX h0 hq.2⟩

theorem own_append {w0 : World} {X : Nat → Prop} {w : World} {d : Nat} {M : DM} (h : Own w0 X w d M) (n : List UInt8) (hn : n.length ≤ 9223372036854775807) (pa : Option Addr) (m c : Nat) (l : List Nat) (hB : Bytes w pa m c l) (hap : 0 < m → ∀ a, pa = some a → X a.block ∨ a.block < w0.heap.size)
    (hlim : usedF M.fs + l.length ≤ 140737488355328) : Calls Tryz.prog 55 #[.pointer (some ⟨d, 0, none⟩), .string ⟨n.toArray⟩, .slice pa m c] w (OwnAct w0 X w d (appendM n l M)) := by
  obtain ⟨S, hD, hS, hX, h0⟩ := h
  refine (append_any hD n hn pa m c l hB (fun h0' a ha hs => ?_) hlim).mono fun e w' hq => ⟨hq.1, Own.step hS hX h0 hq.2⟩
  rcases hap h0' a ha with h1 | h1
  · exact (hS _ hs).2 h1
  · have := (hS _ hs).1; omega

theorem own_sync {w0 : World} {X : Nat → Prop} {w : World} {d : Nat} {M : DM} (h : Own w0 X w d M) (n : List UInt8) (hn : n.length ≤ 9223372036854775807) :
    Calls Tryz.prog 56 #[.pointer (some ⟨d, 0, none⟩), .string ⟨n.toArray⟩] w (OwnAct w0 X w d (syncM n M)) := by
  obtain ⟨S, hD, hS, hX, h0⟩ := h
  exact (sync_any hD n hn).mono fun e w' hq => ⟨hq.1, Own.step hS hX h0 hq.2⟩

theorem own_read {w0 : World} {X : Nat → Prop} {w : World} {d : Nat} {M : DM} (h : Own w0 X w d M) (n : List UInt8) (hn : n.length ≤ 9223372036854775807) (hlim : usedF M.fs ≤ 140737488355328) :
    Calls Tryz.prog 49 #[.pointer (some ⟨d, 0, none⟩), .string ⟨n.toArray⟩] w (ReadEnd w (readM n M)) := by
  obtain ⟨S, hD, _⟩ := h
  exact read_any hD n hn hlim

theorem own_used {w0 : World} {X : Nat → Prop} {w : World} {d : Nat} {M : DM} (h : Own w0 X w d M) :
    Calls Tryz.prog 43 #[.pointer (some ⟨d, 0, none⟩)] w fun e w' => e = .returned (.int .i64 (usedF M.fs : Int)) ∧ Below w.heap.size w w' := by
  obtain ⟨S, hD, _⟩ := h
  exact used_any hD

theorem own_down {w0 : World} {X : Nat → Prop} {w : World} {d : Nat} {M : DM} (h : Own w0 X w d M) :
    Calls Tryz.prog 63 #[.pointer (some ⟨d, 0, none⟩)] w fun e w' => e = .returned (.bool M.down) ∧ w' = w := by
  obtain ⟨S, hD, _⟩ := h
  exact down_any hD

theorem own_list {w0 : World} {X : Nat → Prop} {w : World} {d : Nat} {M : DM} (h : Own w0 X w d M) (hlen : M.fs.length < 1000000) :
    Calls Tryz.prog 41 #[.pointer (some ⟨d, 0, none⟩)] w fun e w' => ∃ v, e = .returned v ∧ w'.ownsRow w.heap.size 9 1 v M.fs.length ((M.fs.map F.n).map encStr) ∧ Below w.heap.size w w' := by
  obtain ⟨S, hD, _⟩ := h
  exact list_any hD hlen

/-- The blocks of a slice's value. -/
def blkOf (p : Option Addr) (b : Nat) : Prop := ∃ a, p = some a ∧ b = a.block

theorem Bytes.aside {w w' : World} {a : Option Addr} {n c : Nat} {l : List Nat} (h : Bytes w a n c l) (hk : ∀ b, blkOf a b → w'.heap[b]? = w.heap[b]?) : Bytes w' a n c l := by
  rcases Nat.eq_zero_or_pos n with rfl | hn
  · obtain rfl : l = [] := List.length_eq_zero_iff.1 h.len
    exact ⟨rfl, h.le, h.capmax, h.byte, h.nil, fun h => absurd h (Nat.lt_irrefl _)⟩
  · refine h.keep fun p _ hpa => ?_
    obtain ⟨b, o, rfl, _⟩ := h.cell hn
    have e := hpa _ rfl
    exact World.cell?_of_block (hk p.block ⟨_, rfl, e⟩)

theorem bytes_new (w : World) (l : List Nat) (hb : ∀ x ∈ l, x < 256) (hm : l.length ≤ 9223372036854775807) : Bytes (w.alloc (.cells (u8s l).toArray 5)) (some ⟨w.heap.size, 0, none⟩) l.length l.length l := by
  refine ⟨rfl, Nat.le_refl _, hm, hb, fun h => (by cases h), fun _ => ⟨w.heap.size, 0, rfl, fun i hi => ?_⟩⟩
  rw [Nat.zero_add, cell_of_row _ _ _ _ _ (0, 0) (heap_alloc_new _ _)]
  simp [u8s, List.getElem?_map, List.getElem?_eq_getElem hi, List.getD_eq_getElem?_getD]
end Go.Proofs.YtjoolocdejnohaaGreat

