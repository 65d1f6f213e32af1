import Derived.Test.YtngnbmaocdadaaaMN1
import Derived.Test.YtngnbmaocdadaaaMN12
import Derived.BigRegion
import Derived.Test.YtngnbmaocdadaaaIter
import Derived.Maps.Ext
import Derived.ProofKit
import Derived.SizedLaws
import Derived.Deep.Matrix
/- Parts of byte slices: 's[k:]' and 's[:k]' as one equation each, whatever the capacity is. -/
namespace Go.Proofs.Ytngnbmaocdadaaa
open Go.RowKit

/-- The address of a slice that has room. -/
def Formed (a : Option Addr) (c : Nat) : Prop := 0 < c → ∃ b o, a = some ⟨b, o, none⟩

theorem formed_none (c : Nat) (h : c = 0) : Formed none c := fun hc => by omega
theorem formed_at (b o c : Nat) : Formed (some ⟨b, o, none⟩) c := fun _ => ⟨b, o, rfl⟩

theorem own_formed {w : World} {base : Nat} {e : TypeId} {p : Option Addr} {n c m : Nat} {l : List Nat} (h : w.ownsRow base e 1 (.slice p n c) m (u8s l)) : Formed p c := by
  rcases h.2 with ⟨hv, _⟩ | ⟨g, cap', cur, hv, _⟩
  · cases hv; exact formed_none 0 rfl
  · cases hv; exact formed_at _ _ _

section
variable {P : Program}

theorem addr_add (b o k : Nat) : (⟨b, o, none⟩ : Addr).add k = ⟨b, o + k, none⟩ := by unfold Addr.add; split <;> simp_all

theorem bytes_none {w : World} {a : Option Addr} {c : Nat} (hm : c ≤ 9223372036854775807) (h : a = none → c = 0) : Bytes w a 0 c [] :=
  ⟨rfl, Nat.zero_le _, hm, fun _ h => (by cases h), h, fun h => absurd h (Nat.lt_irrefl _)⟩

/-- 's[k:]'. -/
theorem slice_from {T E : TypeId} (hT : P.underlying T = some (.slice E)) (hin : (P.info? E).map (fun i => (i.zero, i.size, i.bytes)) = some (some (.int .u8 0), 1, 1)) {a : Option Addr} {n c k : Nat} (hk : k ≤ n) (hn : n ≤ c) (hf : Formed a c) :
    ∃ a', (∀ (w : World) (kl : IntKind), (Instr.slice T (.slice a n c) (some (.int kl (k : Int))) none none).run P w = .ok (.slice a' (n - k) (c - k)) w) ∧ Formed a' (c - k) ∧ ∀ (w : World) (l : List Nat), Bytes w a n c l → Bytes w a' (n - k) (c - k) (l.drop k) := by
  obtain ⟨i, hi, _, hsz, _⟩ := info_parts hin
  have hT' : P.underlying T = some (.slice (P.elem T)) := by rw [hT]; simp [Program.elem, hT]
  have hE : P.elem T = E := by simp [Program.elem, hT]
  have hsize : ∀ w : World, (sizeOf (P.elem T)).run P w = .ok 1 w := fun w => by rw [hE]; simp [sizeOf, typeInfo, hi, hsz]
  refine ⟨if c = k then a else a.map (·.add (k * 1)), fun w kl => ?_, ?_, fun w l hl => ?_⟩
  · rw [run_slice_l w T a n c hT' kl (k : Int) (by omega) (by omega), hsize]
    rfl
  · intro h
    rw [if_neg (by omega)]
    obtain ⟨b, o, rfl⟩ := hf (by omega)
    exact ⟨b, o + k * 1, by simp [addr_add]⟩
  · have hcm := hl.capmax
    by_cases e : k = n
    · subst e
      rw [Nat.sub_self, List.drop_eq_nil_of_le (by rw [hl.len]; exact Nat.le_refl _)]
      refine bytes_none (by omega) (fun h => ?_)
      by_cases hck : c = k
      · omega
      · rw [if_neg hck] at h
        obtain ⟨b, o, rfl⟩ := hf (by omega)
        cases h
    · obtain ⟨b, o, rfl⟩ := hf (by omega)
      rw [if_neg (by omega), Nat.mul_one]
      simp only [Option.map_some, addr_add]
      exact hl.dropTo (by omega)

/-- 's[:k]'. -/
theorem slice_to {T E : TypeId} (hT : P.underlying T = some (.slice E)) (hin : (P.info? E).map (fun i => (i.zero, i.size, i.bytes)) = some (some (.int .u8 0), 1, 1)) {a : Option Addr} {n c k : Nat} (hk : k ≤ n) (hn : n ≤ c) (hf : Formed a c) :
    ∃ a', (∀ (w : World) (kl : IntKind), (Instr.slice T (.slice a n c) none (some (.int kl (k : Int))) none).run P w = .ok (.slice a' k c) w) ∧ Formed a' c ∧ ∀ (w : World) (l : List Nat), Bytes w a n c l → Bytes w a' k c (l.take k) := by
  obtain ⟨i, hi, _, hsz, _⟩ := info_parts hin
  have hT' : P.underlying T = some (.slice (P.elem T)) := by rw [hT]; simp [Program.elem, hT]
  have hE : P.elem T = E := by simp [Program.elem, hT]
  have hsize : ∀ w : World, (sizeOf (P.elem T)).run P w = .ok 1 w := fun w => by rw [hE]; simp [sizeOf, typeInfo, hi, hsz]
  have ha : (if c = 0 then a else a.map (·.add (0 * 1))) = a := by
    by_cases h : c = 0
    · rw [if_pos h]
    · rw [if_neg h]
      obtain ⟨b, o, rfl⟩ := hf (by omega)
      simp [addr_add]
  refine ⟨a, fun w kl => ?_, hf, fun w l hl => ?_⟩
  · rw [run_slice_h w T a n c hT' kl (k : Int) (by omega) (by omega), hsize]
    show Result.ok (Value.slice (if c = 0 then a else a.map (·.add (0 * 1))) (k - 0) (c - 0)) w = _
    rw [ha]; rfl
  · exact hl.takeTo hk (by omega) (Nat.le_refl _)
end
end Go.Proofs.Ytngnbmaocdadaaa

/- The walk of a file's cut. -/
namespace Go.Proofs.Ytngnbmaocdadaaa
open Go.RowKit Go.Maps Go.Shelf

/-- 's[:k]', at the very address. -/
theorem slice_head {P : Program} {T E : TypeId} (hT : P.underlying T = some (.slice E)) (hin : (P.info? E).map (fun i => (i.zero, i.size, i.bytes)) = some (some (.int .u8 0), 1, 1)) {a : Option Addr} {n c k : Nat} (hk : k ≤ n) (hn : n ≤ c) (hf : Formed a c) :
    ∀ (w : World) (kl : IntKind), (Instr.slice T (.slice a n c) none (some (.int kl (k : Int))) none).run P w = .ok (.slice a k c) w := by
  obtain ⟨i, hi, _, hsz, _⟩ := info_parts hin
  have hT' : P.underlying T = some (.slice (P.elem T)) := by rw [hT]; simp [Program.elem, hT]
  have hE : P.elem T = E := by simp [Program.elem, hT]
  have hsize : ∀ w : World, (sizeOf (P.elem T)).run P w = .ok 1 w := fun w => by rw [hE]; simp [sizeOf, typeInfo, hi, hsz]
  have ha : (if c = 0 then a else a.map (·.add (0 * 1))) = a := by
    by_cases h : c = 0
    · rw [if_pos h]
    · rw [if_neg h]
      obtain ⟨b, o, rfl⟩ := hf (by omega)
      simp [addr_add]
  intro w kl
  rw [run_slice_h w T a n c hT' kl (k : Int) (by omega) (by omega), hsize]
  show Result.ok (Value.slice (if c = 0 then a else a.map (·.add (0 * 1))) (k - 0) (c - 0)) w = _
  rw [ha]; rfl

theorem own_take {w : World} {base : Nat} {e : TypeId} {a : Option Addr} {n c k : Nat} {l : List Nat} (h : w.ownsRow base e 1 (.slice a n c) n (u8s l)) (hl : l.length = n) (hk : k ≤ n) : w.ownsRow base e 1 (.slice a k c) k (u8s (l.take k)) := by
  have hlen : (l.take k).length = k := by rw [List.length_take]; omega
  refine ⟨by rw [Nat.mul_one]; unfold u8s; rw [List.length_map, hlen], ?_⟩
  rcases h.2 with ⟨hv, h0⟩ | ⟨g, cap, cur, hv, hb, hg, h1, h2, h3, h4⟩
  · injection hv with e1 e2 e3
    left
    have : k = 0 := by omega
    subst e1 e3 this
    exact ⟨rfl, rfl⟩
  · injection hv with e1 e2 e3
    right
    refine ⟨g, cap, cur, by rw [e1, e3], hb, hg, by omega, h2, h3, ?_⟩
    have e4 := congrArg (List.take k) h4
    rw [List.take_take, Nat.min_eq_left (by omega)] at e4
    rw [Nat.mul_one, e4]
    simp [u8s, List.map_take]

theorem own_block_same {a : Option Addr} {n k c : Nat} : (Value.slice a k c).ownBlock = (Value.slice a n c).ownBlock := by
  cases a <;> rfl

theorem wrap64_ok (n : Int) (h : -9223372036854775808 ≤ n ∧ n ≤ 9223372036854775807) : wrap64 n = n := by unfold wrap64; omega

theorem DiskAt.drew {S : Nat → Prop} {w : World} {d mb : Nat} {p : Int} {L : List FW} {M : DM} (h : DiskAt S w d mb p L M) : DiskAt S w.drew d mb p L M := h.below ((Below.refl _ _).drew)

/-- How many bytes are kept. -/
def keepN (f : F) (k : Int) : Nat := f.d + min (max k 0).toNat (f.b.length - f.d)
theorem cutF_is (f : F) (k : Int) : cutF f k = ⟨f.n, f.b.take (keepN f k), keepN f k⟩ := rfl

end Go.Proofs.Ytngnbmaocdadaaa

/- The walk of a disk's List: the names in their order. -/
namespace Go.Proofs.Ytngnbmaocdadaaa
open Go.RowKit Go.Maps Go.Shelf Go.Sort

theorem before_lt : ∀ (a b : List UInt8), bytesBefore a b = true ↔ a < b
  | [], [] => by simp [bytesBefore]
  | [], _ :: _ => by simp [bytesBefore]
  | _ :: _, [] => by simp [bytesBefore]
  | x :: r, y :: s => by
    rw [List.cons_lt_cons_iff]
    unfold bytesBefore
    rw [Bool.or_eq_true, Bool.and_eq_true, decide_eq_true_eq, beq_iff_eq, before_lt r s]

theorem DiskAt.sorted {S : Nat → Prop} {w : World} {d mb : Nat} {p : Int} {L : List FW} {M : DM} (h : DiskAt S w d mb p L M) : L.Pairwise fun x y => x.n < y.n := by
  obtain ⟨es, he, hp, _⟩ := h.dir.canon mapKey
  have e : es = L.map ent := (DataW.map.inj he).symm
  rw [e, List.pairwise_map] at hp
  exact hp.imp (fun {a b} hab => (before_lt a.n b.n).1 hab)

theorem sorted_names {S : Nat → Prop} {w : World} {d mb : Nat} {p : Int} {L : List FW} {M : DM} (h : DiskAt S w d mb p L M) {ss : List (List UInt8)} (hp : ss.Perm (strKeys (dirD L))) : ss.mergeSort (fun x y => decide (x ≤ y)) = M.fs.map F.n := by
  rw [dirD_keys] at hp
  rw [mergeSort_of_perm hp, h.files, List.map_map]
  refine List.mergeSort_of_pairwise ?_
  rw [List.pairwise_map]
  exact h.sorted.imp (fun {a b} hab => by simpa using List.le_of_lt hab)

end Go.Proofs.Ytngnbmaocdadaaa

/- How a statement that answers true, and writes into new memory only, is lifted from its contract; how byte slices that come in are read as lists. -/
namespace Go.Proofs.Ytngnbmaocdadaaa
open Go.ChangeShapes Go.WideShapes Go.ChangeAt Go.RowKit Go.Deep

section
variable {H : Type} {enc : TypeId × Value → H} {P : Program}

theorem below_trodAll (hl : laidOutB P = true) {W W' : World} (hb : Below W.heap.size W W') : ∀ {ts : List TypeId} {vs : List Value} {ds : List (DataW H)} {ps : List MemPlace},
    ts.all (fun t => P.readableRec t && decide (t < P.types.size)) = true → DataW.TrodAll enc P W 0 (fun _ => true) true ts vs ds ps →
    DataW.TrodAll enc P W' 0 (fun b => decide (b < W.heap.size)) true ts vs ds ps
  | [], vs, ds, ps, _, h => by
    obtain ⟨rfl, rfl, rfl⟩ := trodAll_nil h
    exact rfl
  | t :: ts, vs, ds, ps, ht, h => by
    obtain ⟨v, vs', d, ds', p, q, rfl, rfl, rfl, h0, h1⟩ := trodAll_cons h
    simp only [List.all_cons, Bool.and_eq_true, decide_eq_true_eq] at ht
    have hlt : ∀ x ∈ p, x.block < W.heap.size := fun x hx => h.lt x (by simp [hx])
    exact ⟨p, q, Below.trod hl ht.1.1 ht.1.2 h0 hb hlt, below_trodAll hl hb ht.2 h1, rfl⟩

theorem law_post {fn : Func} {s : ChangeSpec} {tb : TypeId} (hl : laidOutB P = true) (hrd : fn.params.toList.all (fun t => P.readableRec t && decide (t < P.types.size)) = true)
    (hvars : s.vars = []) (hrt : fn.resultTypes = #[tb]) (htb : P.underlying tb = some .bool)
    {W W' : World} {args : Array Value} {ds gs : List (DataW H)} {before : List MemPlace} (hW : DataW.Whole enc P fn.params.toList s.vars false W args.toList ds gs before)
    (hspec : s.fn H (ds ++ []) = { results := [.lit (.bool true)], args := ds }) (hb : Below W.heap.size W W') :
    s.post enc P fn false true false false W args (.bool true) W' := by
  have hW' := hW
  obtain ⟨p, q, hA, hV, rfl, _, _⟩ := hW
  rw [hvars] at hV
  obtain ⟨rfl, rfl⟩ := trodVars_none hV
  refine ⟨ds, [], p ++ [], [], p, [], hW', ?_, ?_, ?_, hb.frame _, fun h => by cases h⟩
  · rw [hspec, hrt]
    exact trodAll_mk1 (shut_bool htb _)
  · rw [hspec]
    exact below_trodAll hl hb hrd hA
  · rw [hspec, hvars]
    exact rfl

theorem wf_u8 {n : Int} (h : (Lit.int .u8 n).wf = true) : 0 ≤ n ∧ n < 256 := by
  have h1 : IntKind.u8.min = 0 := rfl
  have h2 : IntKind.u8.max = 255 := rfl
  simp only [Lit.wf, Bool.and_eq_true, decide_eq_true_eq] at h
  omega

theorem nat_u32 {n : Int} (h : (Lit.int .u32 n).wf = true) : ∃ x : Nat, x < 4294967296 ∧ n = (x : Int) := by
  have h1 : IntKind.u32.min = 0 := rfl
  have h2 : IntKind.u32.max = 4294967295 := rfl
  simp only [Lit.wf, Bool.and_eq_true, decide_eq_true_eq] at h
  exact ⟨n.toNat, by omega, by omega⟩

theorem nat_u16 {n : Int} (h : (Lit.int .u16 n).wf = true) : ∃ x : Nat, x < 65536 ∧ n = (x : Int) := by
  have h1 : IntKind.u16.min = 0 := rfl
  have h2 : IntKind.u16.max = 65535 := rfl
  simp only [Lit.wf, Bool.and_eq_true, decide_eq_true_eq] at h
  exact ⟨n.toNat, by omega, by omega⟩

theorem nat_u64 {n : Int} (h : (Lit.int .u64 n).wf = true) : ∃ x : Nat, x < 18446744073709551616 ∧ n = (x : Int) := by
  have h1 : IntKind.u64.min = 0 := rfl
  have h2 : IntKind.u64.max = 18446744073709551615 := rfl
  simp only [Lit.wf, Bool.and_eq_true, decide_eq_true_eq] at h
  exact ⟨n.toNat, by omega, by omega⟩

theorem wf_i64_of {n : Int} (h : (Lit.int .i64 n).wf = true) : -9223372036854775808 ≤ n ∧ n ≤ 9223372036854775807 := by
  have h1 : IntKind.i64.min = -9223372036854775808 := rfl
  have h2 : IntKind.i64.max = 9223372036854775807 := rfl
  simp only [Lit.wf, Bool.and_eq_true, decide_eq_true_eq] at h
  omega

theorem bytes_of_ints {W : World} {A : Option Addr} {len cap : Nat} {zs : List Int} (hl : len ≤ cap) (hm : cap ≤ maxLen) (hz : zs.length = cap) (hnil : A = none → cap = 0)
    (hcell : ∀ a, A = some a → ∀ c, c < cap → W.cell? (a.add c) = some (.int .u8 (zs.getD c 0))) (hw : ∀ n ∈ zs, (Lit.int .u8 n).wf = true) :
    Bytes W A len cap ((zs.take len).map Int.toNat) := by
  refine ⟨by simp; omega, hl, hm, ?_, hnil, fun hn => ?_⟩
  · intro x hx
    obtain ⟨n, hn, rfl⟩ := List.mem_map.1 hx
    have := wf_u8 (hw n (List.mem_of_mem_take hn))
    omega
  · cases A with
    | none => have := hnil rfl; omega
    | some a =>
      obtain ⟨b, o, spot⟩ := a
      have hspot : spot = none := by simpa [Addr.add] using World.cell?_spot (hcell _ rfl 0 (by omega))
      subst hspot
      refine ⟨b, o, rfl, fun i hi => ?_⟩
      have hc := hcell _ rfl i (by omega)
      rw [add_plain] at hc
      have hi' : i < zs.length := by omega
      have e1 : zs.getD i 0 = zs[i] := by rw [List.getD_eq_getElem?_getD, List.getElem?_eq_getElem hi']; rfl
      have e2 : ((zs.take len).map Int.toNat).getD i 0 = zs[i].toNat := by
        rw [List.getD_eq_getElem?_getD, List.getElem?_map, List.getElem?_take, if_pos hi, List.getElem?_eq_getElem hi']; rfl
      have hwf := wf_u8 (hw zs[i] (List.getElem_mem _))
      rw [hc, e1, e2]
      congr 2
      omega

/-- A byte slice that came in. -/
theorem open_bytes {W : World} {t e : TypeId} {v : Value} {d : DataW H} {p : List MemPlace} (ht : P.underlying t = some (.slice e)) (he : P.underlying e = some (.int .u8)) (ce : P.cellsOf e = 1)
    {base : Nat} (hv : Value.okWide P W .any base t v) (h : DataW.Trod enc P W 0 (fun _ => true) true t v d p) : ∃ a n cap l, v = .slice a n cap ∧ Bytes W a n cap l := by
  obtain ⟨a0, len, cap, rfl⟩ := okWide_slice ht hv
  obtain ⟨fuel, hf⟩ := h
  rcases open_ints ht he ce hf with ⟨hcs, _⟩ | ⟨a, len', cap', zs, hcs, _, hl, hm, hz, _, hcell, hw⟩
  · simp [Value.cells] at hcs
    obtain ⟨rfl, rfl, rfl⟩ := hcs
    exact ⟨none, 0, 0, [], rfl, rfl, Nat.le_refl _, by omega, by simp, fun _ => rfl, fun h => absurd h (Nat.lt_irrefl _)⟩
  · simp [Value.cells] at hcs
    obtain ⟨rfl, rfl, rfl⟩ := hcs
    simp only [if_true] at hz
    refine ⟨some a, len, cap, _, rfl, bytes_of_ints (zs := zs) hl hm hz (fun h => by cases h) (fun a' ha' c hc => ?_) hw⟩
    cases ha'
    exact hcell c (by omega)

/-- A slice of byte slices that came in. -/
theorem open_parts {W : World} {t e q : TypeId} {v : Value} {d : DataW H} {p : List MemPlace} (ht : P.underlying t = some (.slice e)) (he : P.underlying e = some (.slice q)) (hq : P.underlying q = some (.int .u8)) (ce : P.cellsOf e = 1) (cq : P.cellsOf q = 1)
    {base : Nat} (hv : Value.okWide P W .any base t v) (h : DataW.Trod enc P W 0 (fun _ => true) true t v d p) : ∃ a n cap ls, v = .slice a n cap ∧ Parts W a n cap ls := by
  obtain ⟨a0, len, cap, rfl⟩ := okWide_slice ht hv
  obtain ⟨fuel, hf⟩ := h
  rcases open_int_rows ht he hq ce cq hf with ⟨hcs, _⟩ | ⟨a, len', cap', A, L, C, Z, hcs, _, hl, hm, _, hrows⟩
  · simp [Value.cells] at hcs
    obtain ⟨rfl, rfl, rfl⟩ := hcs
    exact ⟨none, 0, 0, [], rfl, rfl, Nat.le_refl _, by omega, fun h => absurd h (Nat.lt_irrefl _)⟩
  · simp [Value.cells] at hcs
    obtain ⟨rfl, rfl, rfl⟩ := hcs
    refine ⟨some a, len, cap, (List.range len).map fun r => ((Z r).take (L r)).map Int.toNat, rfl, by simp, hl, hm, fun hn => ?_⟩
    obtain ⟨b, o, spot⟩ := a
    have hspot : spot = none := by simpa [Addr.add] using World.cell?_spot (hrows 0 (by omega)).1
    subst hspot
    have hc0 := (hrows 0 (by omega)).1
    rw [add_plain] at hc0
    refine ⟨b, o, rfl, World.block_lt_of_cell? _ _ hc0, fun i hi => ?_⟩
    obtain ⟨h1, h2, h3, h4, h5, h6, h7⟩ := hrows i (by omega)
    rw [add_plain] at h1
    refine ⟨A i, L i, C i, h1, ?_⟩
    have e1 : ((List.range len).map fun r => ((Z r).take (L r)).map Int.toNat).getD i [] = ((Z i).take (L i)).map Int.toNat := by
      rw [List.getD_eq_getElem?_getD, List.getElem?_map, List.getElem?_range hi]; rfl
    rw [e1]
    exact bytes_of_ints h2 h3 h4 h6 (fun a' ha' c hc => (h7 a' ha').2 c hc) h5
end
end Go.Proofs.Ytngnbmaocdadaaa

