/- The walk of a disk's Used. -/
import Derived.Test.YtdnbjpfapfnpaaaDkW
import Derived.Laws.Entries
namespace Go.Proofs.Ytdnbjpfapfnpaaa
open Go.RowKit Go.Maps

theorem DiskAt.names {S : Nat → Prop} {w : World} {d mb : Nat} {p : Int} {L : List FW} {M : DM} (h : DiskAt S w d mb p L M) : L.Pairwise fun x y => x.n ≠ y.n := by
  obtain ⟨es, he, hp, _⟩ := h.dir.entries mapKey
  have e : es = L.map ent := (DataW.map.inj he).symm
  rw [e, List.pairwise_map] at hp
  exact hp.imp (fun hne e => hne (congrArg Lit.string e))

/-- The bytes of the files whose keys are no longer to come. -/
def metW (left : Lit → Bool) (L : List FW) : Nat := ((L.filter fun x => !left (.string x.n)).map fun x => x.f.b.length).sum

theorem metW_cons (left : Lit → Bool) (x : FW) (L : List FW) : metW left (x :: L) = (if left (.string x.n) = true then 0 else x.f.b.length) + metW left L := by
  unfold metW
  rw [List.filter_cons]
  cases left (.string x.n) <;> simp

theorem metW_le (left : Lit → Bool) : ∀ L : List FW, metW left L ≤ usedF (L.map FW.f)
  | [] => Nat.le_refl _
  | x :: L => by
    have ih := metW_le left L
    rw [metW_cons, List.map_cons]
    show _ ≤ ((x.f :: L.map FW.f).map fun f => f.b.length).sum
    rw [List.map_cons, List.sum_cons]
    unfold usedF at ih
    split <;> omega

theorem metW_none {left : Lit → Bool} : ∀ {L : List FW}, (∀ x ∈ L, left (.string x.n) = true) → metW left L = 0
  | [], _ => rfl
  | x :: L, h => by rw [metW_cons, if_pos (h x (by simp)), metW_none (fun y hy => h y (by simp [hy]))]

theorem metW_all {left : Lit → Bool} : ∀ {L : List FW}, (∀ kl, left kl = false) → metW left L = usedF (L.map FW.f)
  | [], _ => rfl
  | x :: L, h => by
    rw [metW_cons, if_neg (by rw [h]; decide), metW_all h, List.map_cons]
    show _ = ((x.f :: L.map FW.f).map fun f => f.b.length).sum
    rw [List.map_cons, List.sum_cons]
    rfl

theorem metW_skip {left : Lit → Bool} {n : List UInt8} : ∀ {L : List FW}, (∀ x ∈ L, x.n ≠ n) → metW (fun z => left z && !z.sameKey (.string n)) L = metW left L
  | [], _ => rfl
  | x :: L, h => by
    rw [metW_cons, metW_cons, metW_skip (fun y hy => h y (by simp [hy]))]
    have e : (Lit.string x.n).sameKey (.string n) = false := by
      show (x.n == n) = false
      exact beq_eq_false_iff_ne.2 (h x (by simp))
    rw [e, Bool.not_false, Bool.and_true]

theorem metW_step {left : Lit → Bool} {x0 : FW} : ∀ {L : List FW}, (L.Pairwise fun x y => x.n ≠ y.n) → x0 ∈ L → left (.string x0.n) = true → metW (fun z => left z && !z.sameKey (.string x0.n)) L = metW left L + x0.f.b.length
  | [], _, h, _ => by cases h
  | x :: L, hp, hx, hl => by
    obtain ⟨hp1, hp2⟩ := List.pairwise_cons.1 hp
    rw [metW_cons, metW_cons]
    rcases List.mem_cons.1 hx with e | hx
    · rw [← e, metW_skip (fun y hy => fun e2 => hp1 y hy (by rw [← e]; exact e2.symm)), if_pos hl]
      have e3 : (Lit.string x0.n).sameKey (.string x0.n) = true := by show (x0.n == x0.n) = true; exact beq_self_eq_true _
      rw [if_neg (by rw [e3]; simp)]
      omega
    · have e3 : (Lit.string x.n).sameKey (.string x0.n) = false := by
        show (x.n == x0.n) = false
        exact beq_eq_false_iff_ne.2 (hp1 x0 hx)
      rw [metW_step hp2 hx hl, e3, Bool.not_false, Bool.and_true]
      omega

/-- A pointer to a file, or nil. -/
def ptrV : Option Nat → Value
  | none => .pointer none
  | some b => .pointer (some ⟨b, 0, none⟩)

theorem ptrR_inv {v : Value} {y : DataW Unit × List MemPlace} (h : ptrR v = some y) : ∃ c, v = ptrV c := by
  unfold ptrR at h
  split at h
  · exact ⟨none, rfl⟩
  · exact ⟨some _, rfl⟩
  · cases h

theorem found_of_at {n : List UInt8} {L : List FW} {y : DataW Unit} (h : ∀ z, (dirD L).atKey (.string n) z = y) : ∃ x ∈ L, x.n = n ∧ y = .lit (.int .i64 (x.blk : Int)) := by
  have h1 := h .nil
  have h2 := h (.lit (.bool true))
  rw [dirD_at] at h1 h2
  cases hf : findN FW.n n L with
  | none =>
    rw [hf] at h1 h2
    rw [← h1] at h2
    cases h2
  | some x =>
    rw [hf] at h1
    exact ⟨x, (findN_some hf).1, (findN_some hf).2, h1.symm⟩

theorem ptr_found {c : Option Nat} {x : FW} {ps : List MemPlace} (h : ptrR (ptrV c) = some (.lit (.int .i64 (x.blk : Int)), ps)) : c = some x.blk := by
  cases c with
  | none => cases h
  | some b =>
    have h1 : (DataW.lit (.int .i64 (b : Int)) : DataW Unit) = .lit (.int .i64 (x.blk : Int)) := by
      have := Option.some.inj h
      exact congrArg Prod.fst this
    have h2 := Lit.int.inj (DataW.lit.inj h1)
    have : b = x.blk := by omega
    rw [this]

theorem own_len {w : World} {base n : Nat} {e : TypeId} {v : Value} {xs : List Value} (h : w.ownsRow base e 1 v n xs) : ∃ a c, v = .slice a n c ∧ n ≤ c ∧ c ≤ 9223372036854775807 := by
  rcases h.2 with ⟨rfl, rfl⟩ | ⟨g, cap, cur, rfl, _, _, h1, h2, _⟩
  · exact ⟨none, 0, rfl, Nat.le_refl _, by omega⟩
  · exact ⟨_, cap, rfl, h1, by rw [maxLen_nat] at h2; exact h2⟩

set_option maxRecDepth 100000 in
set_option maxHeartbeats 3200000 in
theorem used_any {S : Nat → Prop} {w : World} {d : Nat} {M : DM} (h : DiskIn S w d M) :
    Calls Try.prog 12 #[.pointer (some ⟨d, 0, none⟩)] w fun e w' => e = .returned (.int .i64 (usedF M.fs : Int)) ∧ Below w.heap.size w w' := by
  obtain ⟨mb, p, L, h⟩ := h
  obtain ⟨c0, c1, c2, c3, fr⟩ := h.cells
  have H := Lib.hid h
  have hown := h.dir
  have Hu := Lib.hid (show usedF M.fs < 9223372036854775808 from Nat.lt_of_le_of_lt h.used h.room)
  have Hf := Lib.hid h.files
  have Hmb := Lib.hid (h.bound mb (h.sub mb (by simp)))
  clear h fr c0 c2 c3
  go_enter Try.func12, Try.ntmps12
  go_wp2_with (first
    | (at_range; refine wpList_range_own _ rfl _ 47 rfl 9 68 mapKey Try.underlying47 _ mb L.length _ rfl hown ?_; intro w0 hrg0 hg0 hs0)
    | go_in)
  go_frame
  go_loopw [3, 5] (fun i _ wr => ∃ (left : Lit → Bool) (cnt : Nat), i = .int .i64 (metW left L : Int) ∧ wr.ranges Try.prog 9 ptrR mb w.heap.size L.length (dirD L) left cnt ∧ Below w.heap.size w wr)
    (fun _ _ wr => wr.rangeLeft mb w.heap.size)
  case atStart =>
    refine ⟨_, _, ?_, hrg0, (Below.refl _ _).grown (hg0.but none) (Nat.le_refl _) (fun j hj => by cases hj)⟩
    rw [metW_none (fun x hx => ?_)]
    · rfl
    · show (L.map ent).any _ = true
      rw [List.any_eq_true]
      exact ⟨ent x, List.mem_map.2 ⟨x, hx, rfl⟩, by show (x.n == x.n) = true; exact beq_self_eq_true _⟩
  case round =>
    obtain ⟨left, cnt, rfl, hrg, hbw⟩ := hrel
    have Hbw := Lib.hid hbw
    clear hbw
    have hml := metW_le left L
    rw [← Hf.out] at hml
    have hml2 := Hu.out
    go_wp2_with (first
      | (at_next; refine wpList_next_ranges _ rfl _ rfl 9 mapKey ptrR encStr ptrV (fun key kl hk => by obtain ⟨x, hx, _⟩ := Maps.keyOf_str Try.underlying9 hk; exact ⟨x, hx⟩) (fun v y hv => ptrR_inv hv) mb w.heap.size L.length _ _ _ rfl hrg ?_ ?_)
      | go_in)
    · intro _ hl0
      have Hend := Lib.hid (show metW left L = usedF M.fs from by rw [metW_all hl0, Hf.out])
      clear hl0
      go_wp2
      go_ret
      exact ⟨by rw [← Hend.out]; rfl, Hbw.out⟩
    · intro x c kl yd yp w2 cnt2 hkey hlk hv hat hrg2 hlt hg2 hs2 hen
      obtain ⟨x', ex, rfl, _⟩ := Maps.keyOf_str Try.underlying9 hkey
      obtain rfl : x = x' := encStr_inj ex
      clear ex
      obtain ⟨x0, hx0, rfl, rfl⟩ := found_of_at hat
      obtain rfl := ptr_found hv
      have hb2 := Hbw.out.grown hg2 Hbw.out.size (fun j hj => by cases hj; exact Nat.le_refl _)
      have Hb2 := Lib.hid hb2
      have hok2 := (H.out.below hb2).ok x0 hx0
      obtain ⟨f0, _, _⟩ := hok2.cells
      obtain ⟨a, cp, hv0, _, _⟩ := own_len hok2.row
      rw [hv0] at f0
      have Hst := Lib.hid (metW_step H.out.names hx0 hlk)
      have hle : metW (fun z => left z && !z.sameKey (.string x0.n)) L ≤ usedF M.fs := by rw [Hf.out]; exact metW_le _ _
      rw [metW_step H.out.names hx0 hlk] at hle
      have hsum : (metW left L : Int) + (x0.f.b.length : Int) < 9223372036854775808 := by omega
      have hsum0 : (0 : Int) ≤ (metW left L : Int) + (x0.f.b.length : Int) := by omega
      clear hs2 hkey hlk hv hat hx0 hb2 hok2 hv0 hle hml hml2 hg2
      unfold ptrV at hen ⊢
      go_wp2
      go_roundw
      case rel => exact ⟨_, cnt2, by rw [Hst.out]; go_num, hrg2, Hb2.out⟩
      case measure => rw [hrg2.left_eq, hrg.left_eq]; exact hlt
end Go.Proofs.Ytdnbjpfapfnpaaa
