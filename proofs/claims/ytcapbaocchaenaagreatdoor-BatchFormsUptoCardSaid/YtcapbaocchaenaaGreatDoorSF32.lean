import Derived.Test.YtcapbaocchaenaaGreatDoorSF1
import Derived.Lib.AppendZeros
import Derived.Test.YtcapbaocchaenaaGreatDoorSF31
import Derived.Test.YtcapbaocchaenaaGreatDoorSF30
import Derived.Test.YtcapbaocchaenaaGreatDoorSF14
import Derived.Deep.RegionHeld
import Derived.Test.YtcapbaocchaenaaGreatDoorSF27
/- Parts of byte slices: 's[k:]' and 's[:k]' as one equation each, whatever the capacity is. -/
namespace Go.Proofs.YtcapbaocchaenaaGreatDoor
open Go.RowKit

/-- The address of a slice that has room. -/
def Formed (a : Option Addr) (c : Nat) : Prop := 0 < c → ∃ b o, a = some ⟨b, o, none⟩

theorem formed_none (c : Nat) (h : c = 0) : Formed none c := fun hc => by omega
theorem formed_at (b o c : Nat) : Formed (some ⟨b, o, none⟩) c := fun _ => ⟨b, o, rfl⟩

theorem own_formed {w : World} {base : Nat} {e : TypeId} {p : Option Addr} {n c m : Nat} {l : List Nat} (h : w.ownsRow base e 1 (.slice p n c) m (u8s l)) : Formed p c := by
  rcases h.2 with ⟨hv, _⟩ | ⟨g, cap', cur, hv, _⟩
  · cases hv; exact formed_none 0 rfl
  · cases hv; exact formed_at _ _ _

section
variable {P : Program}

theorem addr_add (b o k : Nat) : (⟨b, o, none⟩ : Addr).add k = ⟨b, o + k, none⟩ := by unfold Addr.add; split <;> simp_all

theorem bytes_none {w : World} {a : Option Addr} {c : Nat} (hm : c ≤ 9223372036854775807) (h : a = none → c = 0) : Bytes w a 0 c [] :=
  ⟨rfl, Nat.zero_le _, hm, fun _ h => (by cases h), h, fun h => absurd h (Nat.lt_irrefl _)⟩

/-- 's[k:]'. -/
theorem slice_from {T E : TypeId} (hT : P.underlying T = some (.slice E)) (hin : (P.info? E).map (fun i => (i.zero, i.size, i.bytes)) = some (some (.int .u8 0), 1, 1)) {a : Option Addr} {n c k : Nat} (hk : k ≤ n) (hn : n ≤ c) (hf : Formed a c) :
    ∃ a', (∀ (w : World) (kl : IntKind), (Instr.slice T (.slice a n c) (some (.int kl (k : Int))) none none).run P w = .ok (.slice a' (n - k) (c - k)) w) ∧ Formed a' (c - k) ∧ ∀ (w : World) (l : List Nat), Bytes w a n c l → Bytes w a' (n - k) (c - k) (l.drop k) := by
  obtain ⟨i, hi, _, hsz, _⟩ := info_parts hin
  have hT' : P.underlying T = some (.slice (P.elem T)) := by rw [hT]; simp [Program.elem, hT]
  have hE : P.elem T = E := by simp [Program.elem, hT]
  have hsize : ∀ w : World, (sizeOf (P.elem T)).run P w = .ok 1 w := fun w => by rw [hE]; simp [sizeOf, typeInfo, hi, hsz]
  refine ⟨if c = k then a else a.map (·.add (k * 1)), fun w kl => ?_, ?_, fun w l hl => ?_⟩
  · rw [run_slice_l w T a n c hT' kl (k : Int) (by omega) (by omega), hsize]
    rfl
  · intro h
    rw [if_neg (by omega)]
    obtain ⟨b, o, rfl⟩ := hf (by omega)
    exact ⟨b, o + k * 1, by simp [addr_add]⟩
  · have hcm := hl.capmax
    by_cases e : k = n
    · subst e
      rw [Nat.sub_self, List.drop_eq_nil_of_le (by rw [hl.len]; exact Nat.le_refl _)]
      refine bytes_none (by omega) (fun h => ?_)
      by_cases hck : c = k
      · omega
      · rw [if_neg hck] at h
        obtain ⟨b, o, rfl⟩ := hf (by omega)
        cases h
    · obtain ⟨b, o, rfl⟩ := hf (by omega)
      rw [if_neg (by omega), Nat.mul_one]
      simp only [Option.map_some, addr_add]
      exact hl.dropTo (by omega)

/-- 's[:k]'. -/
theorem slice_to {T E : TypeId} (hT : P.underlying T = some (.slice E)) (hin : (P.info? E).map (fun i => (i.zero, i.size, i.bytes)) = some (some (.int .u8 0), 1, 1)) {a : Option Addr} {n c k : Nat} (hk : k ≤ n) (hn : n ≤ c) (hf : Formed a c) :
    ∃ a', (∀ (w : World) (kl : IntKind), (Instr.slice T (.slice a n c) none (some (.int kl (k : Int))) none).run P w = .ok (.slice a' k c) w) ∧ Formed a' c ∧ ∀ (w : World) (l : List Nat), Bytes w a n c l → Bytes w a' k c (l.take k) := by
  obtain ⟨i, hi, _, hsz, _⟩ := info_parts hin
  have hT' : P.underlying T = some (.slice (P.elem T)) := by rw [hT]; simp [Program.elem, hT]
  have hE : P.elem T = E := by simp [Program.elem, hT]
  have hsize : ∀ w : World, (sizeOf (P.elem T)).run P w = .ok 1 w := fun w => by rw [hE]; simp [sizeOf, typeInfo, hi, hsz]
  have ha : (if c = 0 then a else a.map (·.add (0 * 1))) = a := by
    by_cases h : c = 0
    · rw [if_pos h]
    · rw [if_neg h]
      obtain ⟨b, o, rfl⟩ := hf (by omega)
      simp [addr_add]
  refine ⟨a, fun w kl => ?_, hf, fun w l hl => ?_⟩
  · rw [run_slice_h w T a n c hT' kl (k : Int) (by omega) (by omega), hsize]
    show Result.ok (Value.slice (if c = 0 then a else a.map (·.add (0 * 1))) (k - 0) (c - 0)) w = _
    rw [ha]; rfl
  · exact hl.takeTo hk (by omega) (Nat.le_refl _)
end
end Go.Proofs.YtcapbaocchaenaaGreatDoor

/- The walks of slices.Grow of no slice and of slices.Concat, of bytes. -/
namespace Go.Proofs.YtcapbaocchaenaaGreatDoor
open Go.RowKit

theorem flat_one {ls : List (List Nat)} {k : Nat} (hk : k < ls.length) : (ls.take (k + 1)).flatten = (ls.take k).flatten ++ ls.getD k [] := by
  rw [List.take_succ_eq_append_getElem hk, List.flatten_append, List.getD_eq_getElem?_getD, List.getElem?_eq_getElem hk]
  simp

theorem flat_le {ls : List (List Nat)} {k : Nat} : (ls.take k).flatten.length ≤ ls.flatten.length := by
  conv => rhs; rw [← List.take_append_drop k ls, List.flatten_append, List.length_append]
  omega

theorem parts_at {w : World} {a : Option Addr} {n cap : Nat} {ls : List (List Nat)} (h : Parts w a n cap ls) {k : Nat} (hk : k < n) : ∃ b o a' n' c', a = some ⟨b, o, none⟩ ∧ w.cell? ⟨b, o + k, none⟩ = some (.slice a' n' c') ∧ Bytes w a' n' c' (ls.getD k []) := by
  obtain ⟨b, o, e, _, hc⟩ := h.cell (by omega)
  obtain ⟨a', n', c', g1, g2⟩ := hc k hk
  exact ⟨b, o, a', n', c', e, g1, g2⟩

set_option maxRecDepth 100000 in
theorem grow_none (n : Nat) (w : World) (hn : n ≤ 100000000000000) :
    Calls Tryz.prog 51 #[.slice none 0 0, .int .i64 (n : Int)] w (NewBytes w []) := by
  by_cases h0 : 0 < n
  · obtain ⟨i0, hi, hz0, hz1, hz2⟩ := info_parts info_u8
    have hge := grownCap_ge w n 0 5
    have hcm := grownCap_le_maxLen w n 0 5 (by rw [maxLen_nat]; omega)
    have hr := fun ty => Lib.run_append_nil_zeros (P := Tryz.prog) w 28 3 ty 5 i0 (.int .u8 0) .i64 .i64 Tryz.underlying28 Tryz.underlying3 hi hz0 n h0 (by omega) (by omega) (by rw [hz2]; omega)
    obtain ⟨G, hG⟩ : ∃ G, G = grownCap w n 0 5 := ⟨_, rfl⟩
    rw [← hG] at hr hge hcm
    rw [maxLen_nat] at hcm
    have Hr := Lib.hid hr
    clear hG hr hz0 hz1 hz2 hi
    have hown : (w.drew.alloc (.cells (Builtin.zeroCells (Value.int .u8 0).cells n ++ Builtin.zeroCells (Value.int .u8 0).cells (G - n)) 5)).ownsRow w.heap.size 5 1 (.slice (some ⟨w.heap.size, 0, none⟩) 0 G) 0 (u8s []) := by
      refine ⟨rfl, .inr ⟨w.heap.size, G, _, rfl, Nat.le_refl _, heap_alloc_new w.drew _, Nat.zero_le _, hcm, ?_, rfl⟩⟩
      have h1 : (Value.int IntKind.u8 0).cells.size = 1 := rfl
      simp only [Array.size_append, size_zeroCells, h1]
      omega
    have Hown := Lib.hid hown
    clear hown
    go_enter Tryz.func51, Tryz.ntmps51
    go_wp2_with (at_builtin; refine Lib.wpList_append_run _ rfl _ _ 28 3 rfl _ _ rfl rfl _ _ (Hr.out _) ?_)
    go_ret
    exact ⟨_, rfl, Hown.out, ((Below.refl _ _).drew).alloc (Nat.le_refl _) _⟩
  · obtain rfl : n = 0 := by omega
    go_enter Tryz.func51, Tryz.ntmps51
    go_wp2
    go_ret
    exact ⟨_, rfl, World.ownsRow_nil _ _ _ _, Below.refl _ _⟩

def CatSum (ls : List (List Nat)) (z i : Value) : Prop := ∃ k : Nat, k ≤ ls.length ∧ i = .int .i64 k ∧ z = .int .i64 ((ls.take k).flatten.length : Nat)

def CatTo (w : World) (ls : List (List Nat)) (v i : Value) (wr : World) : Prop :=
  ∃ k : Nat, k ≤ ls.length ∧ i = .int .i64 k ∧ wr.ownsRow w.heap.size 5 1 v (ls.take k).flatten.length (u8s (ls.take k).flatten) ∧ Below w.heap.size w wr

theorem catTo_step {w wr w1 : World} {ls : List (List Nat)} {v v' : Value} {k n' : Nat} {l : List Nat} (hk : k < ls.length) (hl : ls.getD k [] = l) (hn : l.length = n')
    (hown : wr.ownsRow w.heap.size 5 1 v (ls.take k).flatten.length (u8s (ls.take k).flatten)) (hbel : Below w.heap.size w wr)
    (g1 : w1.ownsRow w.heap.size 5 1 v' ((ls.take k).flatten.length + n') (u8s ((ls.take k).flatten ++ l))) (g2 : wr.grownBy w1 v.ownBlock) : CatTo w ls v' (.int .i64 ((k : Int) + 1)) w1 := by
  subst hl
  subst hn
  refine ⟨k + 1, hk, by go_num, ?_, hbel.grown g2 hbel.size (fun x hx => (hown.lt x hx).1)⟩
  rw [flat_one hk, List.length_append]
  exact g1

set_option maxRecDepth 100000 in
set_option maxHeartbeats 800000 in
theorem concat_any (a : Option Addr) (n cap : Nat) (ls : List (List Nat)) (w : World) (hl : Parts w a n cap ls) (hmax : ls.flatten.length ≤ 100000000000000) :
    Calls Tryz.prog 20 #[.slice a n cap] w (NewBytes w ls.flatten) := by
  have hls := Lib.hid hl.len
  have hnb := hl.max
  have hP := Lib.hid hl
  clear hl
  go_enter Tryz.func20, Tryz.ntmps20
  go_wp2
  go_loop [3, 11] (fun z i => CatSum ls z i) (fun _ i => n - (intOf i).toNat)
  case atStart => exact ⟨0, Nat.zero_le _, rfl, rfl⟩
  case round =>
    obtain ⟨k, hk, rfl, rfl⟩ := hrel
    by_cases hlt : k < n
    · obtain ⟨b, o, a', n', c', rfl, hc, hB⟩ := parts_at hP.out hlt
      have hfl := flat_le (ls := ls) (k := k)
      have hfl2 := flat_le (ls := ls) (k := k + 1)
      have hf1 := flat_one (show k < ls.length by rw [hls.out]; exact hlt)
      rw [hf1, List.length_append, hB.len] at hfl2
      have Hf1 := Lib.hid (show (ls.take (k + 1)).flatten.length = (ls.take k).flatten.length + n' by rw [hf1, List.length_append, hB.len])
      clear hB hf1
      generalize (ls.take k).flatten.length = s at hfl hfl2 Hf1
      have hs0 : ¬ ((s : Int) + (n' : Int) < 0) := by omega
      go_wp2
      go_round
      case rel => exact ⟨k + 1, by rw [hls.out]; exact hlt, by go_num, by rw [Hf1.out]; go_num⟩
      case measure => simp [intOf]; omega
    · have hkn : k = ls.length := by have := hls.out; omega
      have ht : ls.take k = ls := by rw [hkn, List.take_length]
      rw [ht]
      have Hmax := Lib.hid hmax
      have hfn : ls.flatten.length ≤ 100000000000000 := hmax
      clear ht hkn hmax
      generalize ls.flatten.length = F at hfn ⊢
      go_wp2_with fail
      refine (grow_none F w hfn).mono ?_
      rintro e w1 ⟨v, rfl, hown, hb⟩
      have Hown := Lib.hid hown
      clear hown
      go_wp2_with fail
      go_loopw [6, 27] (fun v i wr => CatTo w ls v i wr) (fun _ i _ => n - (intOf i).toNat)
      case atStart => exact ⟨0, Nat.zero_le _, rfl, Hown.out, hb⟩
      case round =>
        obtain ⟨j, hj, rfl, hown, hbel⟩ := hrel
        by_cases hlt2 : j < n
        · obtain ⟨b, o, a', n', c', rfl, hc, hB⟩ := parts_at (hP.out.grow hbel) hlt2
          have hmax := Hmax.out
          have hfl := flat_le (ls := ls) (k := j)
          have hfl2 := flat_le (ls := ls) (k := j + 1)
          rw [flat_one (by rw [hls.out]; exact hlt2), List.length_append, hB.len] at hfl2
          have hc5 : (ls.take j).flatten.length + n' ≤ 140737488355328 := by omega
          have hB' := Lib.hid hB
          generalize hgl : ls.getD j [] = l at hB'
          have Hgl := Lib.hid hgl
          clear hB hgl hmax hfl hfl2
          go_wp2_with (at_builtin; refine wpList_append_bytes _ rfl _ _ 28 rfl w.heap.size 5 Tryz.underlying28 info_u8 _ _ _ rfl hown a' n' c' l rfl hB'.out hc5 hbel.size ?_; intro v' w1 g1 g2)
          go_roundw
          case rel => exact catTo_step (by rw [hls.out]; exact hlt2) Hgl.out hB'.out.len hown hbel g1 g2
          case measure => simp [intOf]; omega
        · have hkn : j = ls.length := by have := hls.out; omega
          have ht : ls.take j = ls := by rw [hkn, List.take_length]
          rw [ht] at hown
          have Hown2 := Lib.hid hown
          clear ht hkn hown
          go_wp2
          go_ret
          exact ⟨_, rfl, Hown2.out, hbel⟩

end Go.Proofs.YtcapbaocchaenaaGreatDoor

/- The walk of the code's Bytes of a batch. -/
namespace Go.Proofs.YtcapbaocchaenaaGreatDoor
open Go.RowKit Go.Shelf Fl

/-- The form of a batch. -/
def headB (t : Bt) : List Nat := formB t.flow ++ (form t.at_ ++ form t.es.length)
def formBt (t : Bt) : List Nat := headB t ++ (t.es.map formE).flatten

theorem evFields_len (k : Int) : (evFields k).length ≤ 6 := by
  unfold evFields
  repeat' split
  all_goals decide

theorem flat_max {B : Nat} : ∀ (ls : List (List Nat)), (∀ l ∈ ls, l.length ≤ B) → ls.flatten.length ≤ ls.length * B
  | [], _ => Nat.zero_le _
  | l :: r, h => by
    have h1 := h l (by simp)
    have h2 := flat_max r (fun x hx => h x (by simp [hx]))
    rw [List.flatten_cons, List.length_append, List.length_cons, Nat.succ_mul]
    omega

theorem formE_len {e : Ev} {w : World} {x : Array Value} (h : EvIn w e x) (hf : fewE e = true) (hr : rightN 8 e.v = true) : (formE e).length ≤ 60000020 := by
  obtain ⟨_, _, f3, f4⟩ := few_parts hf
  obtain ⟨g1, _⟩ := form_few h hf hr
  obtain ⟨_, i2, i3, i4, _⟩ := h
  have hp : ∀ l ∈ (evFields e.k).map (pieceE e), l.length ≤ 10000000 := by
    intro l hl
    obtain ⟨i, _, rfl⟩ := List.mem_map.1 hl
    unfold pieceE
    have n1 := form_len (x := e.nm.length) (by omega)
    have n2 := form_len (x := e.tx.length) (by omega)
    repeat' split
    · have := form_len (x := e.id) (by omega); omega
    · have := form_len (x := e.n.toNat) (by omega); omega
    · have := form_len (x := e.t) (by omega); omega
    · unfold formB; rw [List.length_append]; omega
    · unfold formB; rw [List.length_append]; omega
    · exact g1
  have h2 := flat_max _ hp
  rw [List.length_map] at h2
  have h3 := evFields_len e.k
  have h4 := form_len (x := 1) (by decide)
  have h5 := form_len (x := e.k.toNat) (by omega)
  unfold formE
  rw [List.length_append, List.length_append]
  have h6 : (evFields e.k).length * 10000000 ≤ 6 * 10000000 := Nat.mul_le_mul_right _ h3
  omega

theorem forms_max {w : World} {a : Option Addr} {n c : Nat} {es : List Ev} (h : Evs w a n c es) (hn : n ≤ 1048576) (hf : es.all fewE = true) (hok : es.all okE = true) : (es.map formE).flatten.length ≤ 80000000000000 := by
  have h1 := flat_max (B := 60000020) (es.map formE) (fun l hl => by
    obtain ⟨e, he, rfl⟩ := List.mem_map.1 hl
    obtain ⟨i, hi, rfl⟩ := List.getElem_of_mem he
    obtain ⟨b, o, _, hc⟩ := h.cell (by have := h.len; omega)
    obtain ⟨a', cap', hI, _⟩ := hc i hi
    exact formE_len hI (List.all_eq_true.1 hf _ he) (ok_right (List.all_eq_true.1 hok _ he)))
  rw [List.length_map, h.len] at h1
  have h2 : n * 60000020 ≤ 1048576 * 60000020 := Nat.mul_le_mul_right _ hn
  omega

theorem forms_byte {w : World} {a : Option Addr} {n c : Nat} {es : List Ev} (h : Evs w a n c es) : ∀ x ∈ (es.map formE).flatten, x < 256 := by
  intro x hx
  obtain ⟨l, hl, hx⟩ := List.mem_flatten.1 hx
  obtain ⟨e, he, rfl⟩ := List.mem_map.1 hl
  obtain ⟨i, hi, rfl⟩ := List.getElem_of_mem he
  obtain ⟨b, o, _, hc⟩ := h.cell (by have := h.len; omega)
  obtain ⟨a', cap', hI, _⟩ := hc i hi
  exact formE_byte hI x hx

theorem parts_three {w : World} {a1 a2 a3 : Option Addr} {n1 n2 n3 c1 c2 c3 : Nat} {l1 l2 l3 : List Nat} (h1 : Bytes w a1 n1 c1 l1) (h2 : Bytes w a2 n2 c2 l2) (h3 : Bytes w a3 n3 c3 l3) (t : TypeId) :
    Parts (w.alloc (.cells #[.slice a1 n1 c1, .slice a2 n2 c2, .slice a3 n3 c3] t)) (some ⟨w.heap.size, 0, none⟩) 3 3 [l1, l2, l3] := by
  refine ⟨rfl, Nat.le_refl _, by omega, fun _ => ⟨w.heap.size, 0, rfl, by simp, fun i hi => ?_⟩⟩
  have hb : Below w.heap.size w (w.alloc (.cells #[.slice a1 n1 c1, .slice a2 n2 c2, .slice a3 n3 c3] t)) := (Below.refl _ _).alloc (Nat.le_refl _) _
  rcases (show i = 0 ∨ i = 1 ∨ i = 2 by omega) with rfl | rfl | rfl
  · exact ⟨a1, n1, c1, by rw [Nat.zero_add, cell_of_row _ _ _ _ _ (0, 0) (heap_alloc_new _ _)]; rfl, h1.grow hb⟩
  · exact ⟨a2, n2, c2, by rw [Nat.zero_add, cell_of_row _ _ _ _ _ (0, 0) (heap_alloc_new _ _)]; rfl, h2.grow hb⟩
  · exact ⟨a3, n3, c3, by rw [Nat.zero_add, cell_of_row _ _ _ _ _ (0, 0) (heap_alloc_new _ _)]; rfl, h3.grow hb⟩

/-- What Bytes of a batch returns. -/
def BBytesEnd (w : World) (t : Bt) (r : Ending) (w' : World) : Prop :=
  (okB t = false ∧ r = .returned (.tuple #[.slice none 0 0, .bool false]) ∧ Below w.heap.size w w') ∨
  (okB t = true ∧ ∃ u, r = .returned (.tuple #[u, .bool true]) ∧ OwnBytes w w' u (formBt t))

theorem okB_parts {t : Bt} (h : okB t = true) : t.flow.length ≤ 1000 ∧ t.at_ ≤ 9223372036854775807 ∧ t.es.all okE = true := by
  unfold okB at h
  simp only [Bool.and_eq_true, decide_eq_true_eq] at h
  exact ⟨h.1.1.1.2, h.1.1.2, h.2⟩

set_option maxRecDepth 100000 in
set_option maxHeartbeats 3200000 in
theorem bbytes_any (t : Bt) (x : Array Value) (w : World) (hn : t.es.length ≤ 1048576) (hf : t.es.all fewE = true) (h : BtIn w t x) :
    Calls Tryz.prog 7 #[.agg x] w (BBytesEnd w t) := by
  have HV := Lib.hid (fun W (hW : Below w.heap.size w W) => bvalid_any 20 (by omega) t x W (fun e he => (few_parts (List.all_eq_true.1 hf e he)).2.1) (h.below hW))
  obtain ⟨fl, at_, es⟩ := t
  obtain ⟨⟨hb1, hb2⟩, hat, a, n, c, rfl, hE⟩ := h
  change ∀ c ∈ fl, c < 256 at hb1
  change at_ < 18446744073709551616 at hat
  change Evs w a n c es at hE
  change es.all fewE = true at hf
  have hlen := hE.len
  change es.length ≤ 1048576 at hn
  have hal := (Below.refl w.heap.size w).alloc (Nat.le_refl _) (.cells #[.string (str fl), .int .u64 (at_ : Int), .slice a n c] 25)
  have Hal := Lib.hid hal
  have HB := Lib.hid (heap_alloc_new w (.cells #[.string (str fl), .int .u64 (at_ : Int), .slice a n c] 25))
  obtain ⟨y0, y1, y2⟩ := box3 HB.out
  have HE := Lib.hid hE
  have HF := Lib.hid hf
  have Hby := Lib.hid hb1
  clear hal hE hf hb1
  cases hok : okB ⟨fl, at_, es⟩ with
  | false =>
    rw [hok] at HV
    have Hok := Lib.hid hok
    clear hok
    go_enter Tryz.func7, Tryz.ntmps7
    go_wp2_with fail
    refine (HV.out _ Hal.out).mono ?_
    rintro r w1 ⟨rfl, hb⟩
    have Hb := Lib.hid (Hal.out.trans (hb.mono Hal.out.size))
    clear hb
    go_wp2
    refine bodyPost_ret (v := .tuple #[.slice none 0 0, .bool false]) (by simp [results, Tryz.results7, go_sem, *]) rfl ?_
    exact .inl ⟨Hok.out, rfl, Hb.out⟩
  | true =>
    rw [hok] at HV
    obtain ⟨k1, k2, k3⟩ := okB_parts hok
    change fl.length ≤ 1000 at k1
    have Hok := Lib.hid hok
    have HO := Lib.hid k3
    have Hk1 := Lib.hid k1
    clear hok k3 k2
    go_enter Tryz.func7, Tryz.ntmps7
    go_wp2_with fail
    refine (HV.out _ Hal.out).mono ?_
    rintro r w1 ⟨rfl, hb⟩
    have HB1 := Lib.hid ((hb.block _ (Array.getElem?_eq_some_iff.1 HB.out).1).trans HB.out)
    have Hb := Lib.hid (Hal.out.trans (hb.mono Hal.out.size))
    clear hb y0 y1 y2 HB Hal
    have hd1 : Below w.heap.size w w1.drew := Hb.out.drew
    have HU3 := Lib.hid (fun W => show Calls Tryz.prog 22 #[.int .u64 (IntKind.u64.wrap (n : Int))] W (NewBytes W (form n)) from by
      rw [show IntKind.u64.wrap (n : Int) = (n : Int) from by rw [IntKind.wrap_u64]; omega]
      exact uint_any n W (by omega))
    have hq0 := box3 (show w1.drew.heap[w.heap.size]? = some (.cells #[.string (str fl), .int .u64 (at_ : Int), .slice a n c] 25 (0, 0)) from HB1.out)
    go_wp2
    go_region_held (fun w' => w'.cell? ⟨w.heap.size, 0, none⟩ = some (.string (str fl)) ∧ w'.cell? ⟨w.heap.size, 1, none⟩ = some (.int .u64 (at_ : Int)) ∧ w'.cell? ⟨w.heap.size, 2, none⟩ = some (.slice a n c))
      (first | exact hq0 | exact hq1 | exact hq2 | exact hq3 | exact ⟨cell_below ((Below.refl _ _).alloc (Nat.le_refl _) _) hq3.1, cell_below ((Below.refl _ _).alloc (Nat.le_refl _) _) hq3.2.1, cell_below ((Below.refl _ _).alloc (Nat.le_refl _) _) hq3.2.2⟩ | exact hq4)
      (first
        | (go_at_call 21; (with_reducible refine (textF_any fl w1.drew Hby.out (by have := Hk1.out; omega)).mono ?_); rintro e w2 ⟨v, rfl, hown, hb⟩; have hd2 := hd1.trans (hb.mono hd1.size); obtain ⟨p1, c1, rfl, hA⟩ := own_slice hown (formB_byte Hby.out); have HA1 := Lib.hid hA; have hq1 := And.intro (cell_below hb hq0.1) (And.intro (cell_below hb hq0.2.1) (cell_below hb hq0.2.2)); clear hA hown hb hq0)
        | (go_at_call 22; (with_reducible refine (uint_any at_ w2 hat).mono ?_); rintro e w3 ⟨v, rfl, hown, hb⟩; have hd3 := hd2.trans (hb.mono hd2.size); obtain ⟨p2, c2, rfl, hA⟩ := own_slice hown (form_byte at_); have HA2 := Lib.hid hA; have HA1b := Lib.hid (HA1.out.grow hb); have hq2 := And.intro (cell_below hb hq1.1) (And.intro (cell_below hb hq1.2.1) (cell_below hb hq1.2.2)); clear hA hown hb hq1 HA1)
        | (go_at_call 22; (with_reducible refine (HU3.out w3).mono ?_); rintro e w4 ⟨v, rfl, hown, hb⟩; have hd4 := hd3.trans (hb.mono hd3.size); obtain ⟨p3, c3, rfl, hA⟩ := own_slice hown (form_byte n); have HA3 := Lib.hid hA; have HA1c := Lib.hid (HA1b.out.grow hb); have HA2b := Lib.hid (HA2.out.grow hb); have hq3 := And.intro (cell_below hb hq2.1) (And.intro (cell_below hb hq2.2.1) (cell_below hb hq2.2.2)); clear hA hown hb hq2 HA1b HA2)
        | (go_at_call 20; (with_reducible refine (concat_any _ 3 3 _ _ (parts_three HA1c.out HA2b.out HA3.out _) (by simp only [List.flatten_cons, List.flatten_nil, List.length_append, List.length_nil, formB]; have := form_len (x := fl.length) (by omega); have := form_len (x := at_) (by omega); have := form_len (x := n) (by omega); have := Hk1.out; omega)).mono ?_); rintro e w5 ⟨v, rfl, hown, hb⟩; have HA5 := Lib.hid hown; have hd4b := hd4.alloc hd4.size (.cells #[.slice p1 (formB fl).length c1, .slice p2 (form at_).length c2, .slice p3 (form n).length c3] 28); have hd5 := hd4b.trans (hb.mono hd4b.size); have hq4 := And.intro (cell_below (((Below.refl _ _).alloc (Nat.le_refl _) _).trans (hb.mono (by simp))) hq3.1) (And.intro (cell_below (((Below.refl _ _).alloc (Nat.le_refl _) _).trans (hb.mono (by simp))) hq3.2.1) (cell_below (((Below.refl _ _).alloc (Nat.le_refl _) _).trans (hb.mono (by simp))) hq3.2.2)); clear hown hb hq3 HA1c HA2b HA3))
    have HOn := Lib.hid (show w5.ownsRow w.heap.size 5 1 v (headB ⟨fl, at_, es⟩).length (u8s (headB ⟨fl, at_, es⟩)) from by
      have e : headB ⟨fl, at_, es⟩ = [formB fl, form at_, form n].flatten := by
        show formB fl ++ (form at_ ++ form es.length) = _
        rw [hlen]
        simp
      rw [e]
      exact own_base HA5.out (by simpa using hd4b.size))
    have Hhl := Lib.hid (show (headB ⟨fl, at_, es⟩).length ≤ 2000 from by
      have h1 := form_len (x := fl.length) (by have := Hk1.out; omega)
      have h2 := form_len (x := at_) (by omega)
      have h3 := form_len (x := es.length) (by omega)
      have h4 := Hk1.out
      show (formB fl ++ (form at_ ++ form es.length)).length ≤ 2000
      unfold formB
      simp only [List.length_append]
      omega)
    have Hd5 := Lib.hid hd5
    have y2 := hq4.2.2
    have HM := Lib.hid (mapform_any a n c es w5 (by omega) HF.out HO.out (HE.out.below hd5))
    have Hmx := Lib.hid (forms_max HE.out (by omega) HF.out HO.out)
    have Hfb := Lib.hid (forms_byte HE.out)
    clear hq4 hd5 hd4 hd4b hd3 hd2 hd1 HA5 HU3
    have HFB := Lib.hid (show formBt ⟨fl, at_, es⟩ = headB ⟨fl, at_, es⟩ ++ (es.map formE).flatten from rfl)
    generalize headB ⟨fl, at_, es⟩ = hd at *
    go_wp2_with fail
    refine HM.out.mono ?_
    rintro r w6 ⟨p6, n6, c6, rfl, hP, hb6⟩
    have HC := Lib.hid (concat_any p6 n6 c6 _ w6 hP (by have := Hmx.out; omega))
    have Hr6 := Lib.hid (own_below HOn.out hb6)
    have Hb6 := Lib.hid (Hd5.out.trans (hb6.mono Hd5.out.size))
    clear hP hb6 y2 HM
    generalize (es.map formE).flatten = L at HC Hmx Hfb HFB
    go_wp2_with fail
    refine HC.out.mono ?_
    rintro r w7 ⟨v7, rfl, hown, hb7⟩
    obtain ⟨p7, c7, rfl, hB7⟩ := own_slice hown Hfb.out
    have HB7 := Lib.hid hB7
    have Hr7 := Lib.hid (own_below Hr6.out hb7)
    have Hb7 := Lib.hid (Hb6.out.trans (hb7.mono Hb6.out.size))
    clear hown hb7 hB7 HC
    go_wp2_with (at_builtin; refine wpList_append_bytes _ rfl _ _ 28 rfl w.heap.size 5 Tryz.underlying28 info_u8 _ _ _ rfl Hr7.out _ _ _ _ rfl HB7.out (by have := Hmx.out; have := Hhl.out; omega) Hb7.out.size ?_; intro v' w9 g1 g2)
    have Hg1 := Lib.hid g1
    have Hg2 := Lib.hid (show Below w.heap.size w w9 from Hb7.out.grown g2 Hb7.out.size (fun k hk => (Hr7.out.lt k hk).1))
    clear g1 g2
    go_wp2
    refine bodyPost_ret (v := .tuple #[v', .bool true]) (by simp [results, Tryz.results7, go_sem, *]) rfl ?_
    exact .inr ⟨Hok.out, _, rfl, by rw [HFB.out, List.length_append]; exact Hg1.out, Hg2.out⟩
end Go.Proofs.YtcapbaocchaenaaGreatDoor

/- The walk of slices.Equal of bytes. -/
namespace Go.Proofs.YtcapbaocchaenaaGreatDoor
open Go.RowKit

theorem equal_len (a a' : Option Addr) (n cap n' cap' : Nat) (w : World) (hn : n ≠ n') :
    Calls Tryz.prog 10 #[.slice a n cap, .slice a' n' cap'] w fun e w' => e = .returned (.bool false) ∧ w = w' := by
  have hq : ((n : Int) != (n' : Int)) = true := by rw [bne_iff_ne]; omega
  go_enter Tryz.func10, Tryz.ntmps10
  go_wp2
  go_ret
  exact ⟨rfl, rfl⟩

theorem take_next {l l' : List Nat} {k : Nat} (h : k < l.length) (h' : k < l'.length) (ht : l.take k = l'.take k) (hx : l.getD k 0 = l'.getD k 0) : l.take (k + 1) = l'.take (k + 1) := by
  rw [List.take_succ_eq_append_getElem h, List.take_succ_eq_append_getElem h', ht]
  rw [List.getD_eq_getElem?_getD, List.getElem?_eq_getElem h, List.getD_eq_getElem?_getD, List.getElem?_eq_getElem h'] at hx
  have hx : l[k] = l'[k] := hx
  rw [hx]

def EqRel (w : World) (n : Nat) (l l' : List Nat) (i : Value) (wr : World) : Prop := ∃ k : Nat, k ≤ n ∧ i = .int .i64 k ∧ l.take k = l'.take k ∧ Below w.heap.size w wr

set_option maxHeartbeats 800000 in
theorem equal_same (a a' : Option Addr) (n cap cap' : Nat) (l l' : List Nat) (w : World) (hl : Bytes w a n cap l) (hl' : Bytes w a' n cap' l') :
    Calls Tryz.prog 10 #[.slice a n cap, .slice a' n cap'] w fun e w' => e = .returned (.bool (decide (l = l'))) ∧ Below w.heap.size w w' := by
  have hnm := hl.max
  have hB := Lib.hid hl
  have hB' := Lib.hid hl'
  clear hl hl'
  have hq : ((n : Int) != (n : Int)) = false := by simp
  go_enter Tryz.func10, Tryz.ntmps10
  go_wp2
  go_loopw [13] (fun i wr => EqRel w n l l' i wr) (fun i _ => n - (intOf i).toNat)
  case atStart => exact ⟨0, Nat.zero_le _, rfl, rfl, Below.refl _ _⟩
  case round =>
    obtain ⟨k, hk, rfl, ht, hbel⟩ := hrel
    have ht := Lib.hid ht
    rename_i ht0; clear ht0
    by_cases hlt : k < n
    · obtain ⟨b, o, rfl, hc0⟩ := (hB.out.grow hbel).cell (by omega)
      obtain ⟨b', o', rfl, hc0'⟩ := (hB'.out.grow hbel).cell (by omega)
      have hc := hc0 k hlt
      have hc' := hc0' k hlt
      clear hc0 hc0'
      have hx := Lib.hid (show l.getD k 0 = l.getD k 0 from rfl)
      generalize hy : l.getD k 0 = x at hc
      generalize hy' : l'.getD k 0 = x' at hc'
      have hy := Lib.hid hy
      have hy' := Lib.hid hy'
      rename_i hy0 hy0'; clear hy0 hy0' hx
      by_cases hxx : x = x'
      · have hq2 : ((x : Int) != (x' : Int)) = false := by rw [bne_eq_false_iff_eq]; omega
        have hxx := Lib.hid hxx
        rename_i hxx0; clear hxx0
        go_wp2
        go_quiet (fail)
        go_wp2
        go_roundw
        case rel => exact ⟨k + 1, by omega, by go_num, take_next (by rw [hB.out.len]; exact hlt) (by rw [hB'.out.len]; exact hlt) ht.out (by rw [hy.out, hy'.out, hxx.out]), below_drewN hbel _⟩
        case measure => simp [intOf]; omega
      · have hq2 : ((x : Int) != (x' : Int)) = true := by rw [bne_iff_ne]; omega
        go_wp2
        go_quiet (fail)
        go_wp2
        go_ret
        exact ⟨ret_bool (decide_eq_false (fun e => hxx (by rw [← hy.out, ← hy'.out, e]))).symm, below_drewN hbel _⟩
    · obtain rfl : k = n := by omega
      go_wp2
      go_ret
      exact ⟨ret_bool (decide_eq_true (by rw [← List.take_length (l := l), ← List.take_length (l := l'), hB.out.len, hB'.out.len]; exact ht.out)).symm, hbel⟩

theorem equal_any (a a' : Option Addr) (n cap n' cap' : Nat) (l l' : List Nat) (w : World) (hl : Bytes w a n cap l) (hl' : Bytes w a' n' cap' l') :
    Calls Tryz.prog 10 #[.slice a n cap, .slice a' n' cap'] w fun e w' => e = .returned (.bool (decide (l = l'))) ∧ Below w.heap.size w w' := by
  by_cases h : n = n'
  · subst h
    exact equal_same a a' n cap cap' l l' w hl hl'
  · refine (equal_len a a' n cap n' cap' w h).mono ?_
    rintro e w' ⟨rfl, rfl⟩
    exact ⟨ret_bool (decide_eq_false (fun e => h (by rw [← hl.len, ← hl'.len, e]))).symm, Below.refl _ _⟩
end Go.Proofs.YtcapbaocchaenaaGreatDoor

/- The example of the chapter of batches. -/
namespace Go.Proofs.YtcapbaocchaenaaGreatDoor
open Go.RowKit Go.Shelf Fl

/-- The example's batch. -/
def exB : Bt := ⟨[119], 3, [exE]⟩

theorem exB_ok : okB exB = true := by
  unfold okB exB
  simp [exE_ok]

theorem exB_form : formBt exB = [1, 119, 3, 1, 1, 5, 5] := by
  unfold formBt headB exB formB
  simp [exE_form, form_small]

theorem exB_few : exB.es.all fewE = true := by decide +kernel

theorem exB_in {w : World} {g : Nat} {t : TypeId} (h : w.heap[g]? = some (.cells exC t (0, 0))) : BtIn w exB #[.string (str [119]), .int .u64 3, .slice (some ⟨g, 0, none⟩) 1 1] := by
  refine ⟨⟨by unfold exB; decide, by unfold exB; decide⟩, by unfold exB; decide, some ⟨g, 0, none⟩, 1, 1, rfl, rfl, Nat.le_refl _, by omega, fun _ => ⟨g, 0, rfl, fun i hi => ?_⟩⟩
  have hi0 : i = 0 := by have : i < 1 := hi; omega
  subst hi0
  refine ⟨none, 0, exE_in w, fun j hj => ?_⟩
  rw [cell_of_row _ _ _ _ _ (0, 0) h]
  simp [exB]
  rfl

set_option maxRecDepth 100000 in
theorem alive13_any (w : World) : Calls Tryz.prog 6 #[] w fun e w' => e = .returned (.bool true) ∧ Below w.heap.size w w' := by
  have hal := (Below.refl w.heap.size w).alloc (Nat.le_refl _) (.cells exC 45)
  have HB := Lib.hid (show Calls Tryz.prog 7 #[.agg #[.string ⟨#[119]⟩, .int .u64 3, .slice (some ⟨w.heap.size, 0, none⟩) 1 1]] (w.alloc (.cells exC 45)) (BBytesEnd _ exB) from bbytes_any exB _ _ (by decide) exB_few (exB_in (heap_alloc_new w (.cells exC 45))))
  have Hal := Lib.hid hal
  clear hal
  go_enter Tryz.func6, Tryz.ntmps6
  go_wp2_with fail
  refine HB.out.mono ?_
  rintro r w2 (⟨h0, _⟩ | ⟨_, u, rfl, hown, hb⟩)
  · rw [exB_ok] at h0; cases h0
  rw [exB_form] at hown
  obtain ⟨p, cp, rfl, hB2⟩ := own_slice hown (by decide)
  have HB2 := Lib.hid hB2
  have Hb2 := Lib.hid (Hal.out.trans (hb.mono Hal.out.size))
  clear hown hB2 hb HB
  go_wp2_with fail
  have hal2 := (Below.refl w2.heap.size w2).alloc (Nat.le_refl _) (.cells #[.int .u8 1, .int .u8 119, .int .u8 3, .int .u8 1, .int .u8 1, .int .u8 5, .int .u8 5] 5)
  have hn := heap_alloc_new w2 (.cells #[.int .u8 1, .int .u8 119, .int .u8 3, .int .u8 1, .int .u8 1, .int .u8 5, .int .u8 5] 5)
  have hL : Bytes (w2.alloc (.cells #[.int .u8 1, .int .u8 119, .int .u8 3, .int .u8 1, .int .u8 1, .int .u8 5, .int .u8 5] 5)) (some ⟨w2.heap.size, 0, none⟩) 7 7 [1, 119, 3, 1, 1, 5, 5] :=
    ⟨rfl, Nat.le_refl _, by omega, by decide, fun h => by (cases h), fun _ => ⟨w2.heap.size, 0, rfl, fun k hk => by
      rw [cell_of_row _ _ _ _ _ (0, 0) hn]
      rcases (show k = 0 ∨ k = 1 ∨ k = 2 ∨ k = 3 ∨ k = 4 ∨ k = 5 ∨ k = 6 by omega) with rfl | rfl | rfl | rfl | rfl | rfl | rfl <;> rfl⟩⟩
  refine (equal_any p _ 7 cp 7 7 _ _ _ (HB2.out.grow hal2) hL).mono ?_
  rintro r w3 ⟨rfl, hb3⟩
  have Hb3 := Lib.hid (Hb2.out.trans ((hal2.trans (hb3.mono hal2.size)).mono Hb2.out.size))
  clear hal2 hn hL hb3
  go_wp2
  go_ret
  exact ⟨rfl, Hb3.out⟩
end Go.Proofs.YtcapbaocchaenaaGreatDoor

/- The walks of the two functions that read a number: each returns what the plain reading says. -/
namespace Go.Proofs.YtcapbaocchaenaaGreatDoor
open Go.RowKit

theorem digit_facts {X c k : Nat} (hX : X < 128 ^ k) (hk : k < 10) (h9 : ¬ (k = 9 ∧ 1 < c % 128)) : X + c % 128 * 128 ^ k < 128 ^ (k + 1) ∧ X + c % 128 * 128 ^ k < 18446744073709551616 := by
  have h1 : c % 128 * 128 ^ k ≤ 127 * 128 ^ k := Nat.mul_le_mul_right _ (by omega)
  have h2 : 128 ^ (k + 1) = 128 * 128 ^ k := by rw [Nat.pow_succ, Nat.mul_comm]
  refine ⟨by omega, ?_⟩
  by_cases e : k = 9
  · subst e
    have h3 : c % 128 ≤ 1 := by omega
    have h4 : c % 128 * 128 ^ 9 ≤ 1 * 128 ^ 9 := Nat.mul_le_mul_right _ h3
    omega
  · have h3 : 128 ^ k ≤ 128 ^ 8 := Nat.pow_le_pow_right (by omega) (by omega)
    omega

theorem digit_cast (c k : Nat) : (c : Int) % 128 * 2 ^ (7 * k) = ((c % 128 * 128 ^ k : Nat) : Int) := by
  rw [Int.natCast_mul, Int.natCast_pow, Int.pow_mul]
  rfl

theorem digit_wrap {X c k : Nat} (hX : X < 128 ^ k) (hk : k < 10) (h9 : ¬ (k = 9 ∧ 1 < c % 128)) : IntKind.u64.wrap ((c : Int) % 128 * 2 ^ (7 * k)) = ((c % 128 * 128 ^ k : Nat) : Int) := by
  have h := (digit_facts hX hk h9).2
  rw [digit_cast, IntWalk.u64_in _ ⟨by omega, by omega⟩]

theorem or_digit {X c k : Nat} (hX : X < 128 ^ k) (hk : k < 10) (h9 : ¬ (k = 9 ∧ 1 < c % 128)) :
    bits .or .u64 (X : Int) (IntKind.u64.wrap ((c : Int) % 128 * 2 ^ (7 * k))) = ((X + c % 128 * 128 ^ k : Nat) : Int) := by
  have h := (digit_facts hX hk h9).2
  rw [digit_wrap hX hk h9, u64_or_nat _ _ (by omega) (by omega)]
  congr 1
  have e : (128 : Nat) ^ k = 2 ^ (7 * k) := by rw [Nat.pow_mul]
  rw [e] at hX ⊢
  rw [Nat.or_comm, Nat.mul_comm (c % 128), ← Nat.two_pow_add_eq_or_of_lt hX, Nat.add_comm]

theorem or_digit9 {X c : Nat} (hX : X < 128 ^ 9) (h : c % 128 ≤ 1) : bits .or .u64 (X : Int) ((c : Int) % 128 * 9223372036854775808) = ((X + c % 128 * 128 ^ 9 : Nat) : Int) := by
  rw [← or_digit hX (by omega) (by omega), digit_wrap hX (by omega) (by omega)]
  congr 1

theorem u64_eq {a b : Int} (h : a = b) : Value.int .u64 a = Value.int .u64 b := by rw [h]
theorem ret_num {p : Nat × Nat} {a b : Int} {x y : Nat} (h : p = (x, y)) (ha : a = (x : Int)) (hb : b = (y : Int)) :
    Ending.returned (.tuple #[.int .u64 a, .int .i64 b]) = Ending.returned (.tuple #[.int .u64 (p.1 : Int), .int .i64 (p.2 : Int)]) := by subst h ha hb; rfl

def ParseRel (l : List Nat) (n : Nat) (x i : Value) : Prop := ∃ (k X : Nat), k ≤ n ∧ k ≤ 10 ∧ i = .int .i64 k ∧ x = .int .u64 X ∧ X < 18446744073709551616 ∧ X < 128 ^ k ∧ numL l 0 0 = numL (l.drop k) k X

theorem parse_start (l : List Nat) (n : Nat) : ParseRel l n (.int .u64 0) (.int .i64 0) := ⟨0, 0, Nat.zero_le _, Nat.zero_le _, rfl, rfl, by omega, by decide, rfl⟩

theorem parse_next {l : List Nat} {n k X c : Nat} {x : Int} (hk : k < n) (hk10 : k < 10) (hX : X < 128 ^ k) (he : numL l 0 0 = numL (l.drop k) k X) (hd : l.drop k = c :: l.drop (k + 1)) (h9 : ¬ (k = 9 ∧ 1 < c % 128)) (hc : 128 ≤ c)
    (hx : x = ((X + c % 128 * 128 ^ k : Nat) : Int)) : ParseRel l n (.int .u64 x) (.int .i64 ((k : Int) + 1)) := by
  obtain ⟨f1, f2⟩ := digit_facts hX hk10 h9
  exact ⟨k + 1, _, hk, hk10, by go_num, u64_eq hx, f2, f1, by rw [he, hd, numL_more hk10 h9 (by omega)]⟩

theorem parse_end {l : List Nat} {n k X : Nat} (hl : l.length = n) (h : ¬ (k < n ∧ k < 10)) (hk : k ≤ n) (hk10 : k ≤ 10) (he : numL l 0 0 = numL (l.drop k) k X) : numL l 0 0 = (0, 0) := by
  rw [he]
  by_cases e : k = 10
  · subst e; exact numL_ten _ _
  · rw [List.drop_eq_nil_of_le (by omega)]; rfl

set_option maxRecDepth 100000 in
set_option maxHeartbeats 1600000 in
theorem parse_any (a : Option Addr) (n cap : Nat) (l : List Nat) (w : World) (hl : Bytes w a n cap l) :
    Calls Tryz.prog 111 #[.slice a n cap] w fun e w' => e = .returned (.tuple #[.int .u64 (numL l 0 0).1, .int .i64 (numL l 0 0).2]) ∧ w = w' := by
  have hmax := hl.max
  have hle := hl.le
  have HB := Lib.hid hl
  clear hl
  by_cases hn : n ≤ 10
  all_goals
    go_enter Tryz.func111, Tryz.ntmps111
    go_wp2
    go_loop [2, 13] (fun x i => ParseRel l n x i) (fun _ i => 10 - (intOf i).toNat)
    case atStart => exact parse_start l n
    case round =>
      obtain ⟨k, X, hk, hk10, rfl, rfl, hX, hp, he⟩ := hrel
      have HP := Lib.hid hp
      have He := Lib.hid he
      clear hp he
      by_cases hlt : k < n ∧ k < 10
      · obtain ⟨hlt1, hlt2⟩ := hlt
        obtain ⟨b, o, rfl, hc0⟩ := HB.out.cell (by omega)
        have hc := hc0 k (by omega)
        have hg := HB.out.get (i := k) (by omega)
        have Hdc := Lib.hid (drop_cons (l := l) (k := k) (by rw [HB.out.len]; omega))
        clear hc0
        generalize l.getD k 0 = c at hc hg Hdc
        by_cases h9 : k = 9 ∧ 1 < c % 128
        · obtain ⟨rfl, h91⟩ := h9
          have hfin := Lib.hid (show numL l 0 0 = (0, 0) by rw [He.out, Hdc.out]; exact numL_nine h91)
          have h92 : (1 : Int) < (c : Int) % 128 := by omega
          go_wp2
          go_ret2
          exact ⟨ret_num hfin.out rfl rfl, rfl⟩
        · have hor := Lib.hid (or_digit HP.out hlt2 h9)
          have H9 := Lib.hid h9
          have h91 : k = 9 → c % 128 ≤ 1 := by omega
          have Hd1 := Lib.hid h91
          clear h9 h91
          by_cases hc8 : 128 ≤ c
          · by_cases h9 : k = 9
            · subst h9
              have hd : (c : Int) % 128 ≤ 1 := by have := Hd1.out rfl; omega
              go_wp2
              go_round
              case rel => exact parse_next hlt1 hlt2 HP.out He.out Hdc.out H9.out hc8 (or_digit9 HP.out (by omega))
              case measure => simp [intOf]
            · have hq : ((k : Int) == 9) = false := beq_eq_false_iff_ne.2 (by omega)
              go_wp2
              go_round
              case rel => exact parse_next hlt1 hlt2 HP.out He.out Hdc.out H9.out hc8 hor.out
              case measure => simp [intOf]; omega
          · have hc8' : c < 128 := by omega
            by_cases hz : 0 < k ∧ c % 128 = 0
            · have hfin := Lib.hid (show numL l 0 0 = (0, 0) by rw [He.out, Hdc.out]; exact numL_zero hlt2 hc8' hz.1 hz.2)
              obtain ⟨hz1, hz2⟩ := hz
              have hqz : ((c : Int) % 128 == 0) = true := beq_iff_eq.2 (by omega)
              have Hz2 := Lib.hid hz2
              clear hz2
              by_cases h9 : k = 9
              · subst h9
                have hd : (c : Int) % 128 ≤ 1 := by have := Hd1.out rfl; omega
                go_wp2
                go_ret2
                exact ⟨ret_num hfin.out rfl rfl, rfl⟩
              · have hq : ((k : Int) == 9) = false := beq_eq_false_iff_ne.2 (by omega)
                go_wp2
                go_ret2
                exact ⟨ret_num hfin.out rfl rfl, rfl⟩
            · have hfin := Lib.hid (show numL l 0 0 = (X + c % 128 * 128 ^ k, k + 1) by rw [He.out, Hdc.out]; exact numL_last hlt2 H9.out hc8' hz)
              by_cases h9 : k = 9
              · subst h9
                have hd : (c : Int) % 128 ≤ 1 := by have := Hd1.out rfl; omega
                have hqz : ((c : Int) % 128 == 0) = false := beq_eq_false_iff_ne.2 (by omega)
                go_wp2
                go_ret2
                exact ⟨ret_num hfin.out (or_digit9 HP.out (by omega)) (by omega), rfl⟩
              · have hq : ((k : Int) == 9) = false := beq_eq_false_iff_ne.2 (by omega)
                by_cases hz0 : c % 128 = 0
                · have hqz : ((c : Int) % 128 == 0) = true := beq_iff_eq.2 (by omega)
                  have hk0 : (k : Int) ≤ 0 := by omega
                  have Hz0 := Lib.hid hz0
                  clear hz0
                  go_wp2
                  go_ret2
                  exact ⟨ret_num hfin.out hor.out (by omega), rfl⟩
                · have hqz : ((c : Int) % 128 == 0) = false := beq_eq_false_iff_ne.2 (by omega)
                  go_wp2
                  go_ret2
                  exact ⟨ret_num hfin.out hor.out (by omega), rfl⟩
      · have hfin := Lib.hid (parse_end HB.out.len hlt hk hk10 He.out)
        have hend : n ≤ k ∨ 10 ≤ k := by omega
        go_wp2
        go_ret2
        exact ⟨ret_num hfin.out rfl rfl, rfl⟩

end Go.Proofs.YtcapbaocchaenaaGreatDoor

/- The walks of a reader's methods: what they return, and what they leave of it. -/
namespace Go.Proofs.YtcapbaocchaenaaGreatDoor
open Go.RowKit

/-- A reader in block g: the bytes that are left, and whether it is ok. -/
def Rd (w : World) (g : Nat) (l : List Nat) (ok : Bool) : Prop :=
  ∃ a n c, w.heap[g]? = some (.cells #[.slice a n c, .bool ok] 103 (0, 0)) ∧ Bytes w a n c l ∧ Formed a c

def readN (l : List Nat) (ok : Bool) : Nat × List Nat × Bool := if ok = true ∧ 0 < (numL l 0 0).2 then ((numL l 0 0).1, l.drop (numL l 0 0).2, true) else (0, l, false)
def takeN (l : List Nat) (ok : Bool) (k : Int) : List Nat × List Nat × Bool := if ok = true ∧ 0 ≤ k ∧ k ≤ l.length then (l.take k.toNat, l.drop k.toNat, true) else ([], l, false)
def readB (l : List Nat) (ok : Bool) : List Nat × List Nat × Bool :=
  if ok = true ∧ 0 < (numL l 0 0).2 ∧ (numL l 0 0).1 ≤ l.length - (numL l 0 0).2 then ((l.drop (numL l 0 0).2).take (numL l 0 0).1, l.drop ((numL l 0 0).2 + (numL l 0 0).1), true) else ([], l, false)

theorem Rd.below {w w' : World} {g : Nat} {l : List Nat} {ok : Bool} (h : Rd w g l ok) (hb : Below w.heap.size w w') : Rd w' g l ok := by
  obtain ⟨a, n, c, h1, h2, h3⟩ := h
  exact ⟨a, n, c, (hb.block g (Array.getElem?_eq_some_iff.1 h1).1).trans h1, h2.grow hb, h3⟩

theorem rd_cell {w : World} {g : Nat} {a : Option Addr} {n c : Nat} {ok : Bool} {t : TypeId} (h : w.heap[g]? = some (.cells #[.slice a n c, .bool ok] t (0, 0))) :
    w.cell? ⟨g, 0, none⟩ = some (.slice a n c) ∧ w.cell? ⟨g, 1, none⟩ = some (.bool ok) ∧ w.frozen? ⟨g, 0, none⟩ = false ∧ w.frozen? ⟨g, 1, none⟩ = false := by
  refine ⟨?_, ?_, ?_, ?_⟩
  · rw [cell_of_row _ _ _ _ _ _ h]; rfl
  · rw [cell_of_row _ _ _ _ _ _ h]; rfl
  · simp [World.frozen?, h]
  · simp [World.frozen?, h]

theorem rd_other {w : World} {g : Nat} {a : Option Addr} {n c : Nat} {ok : Bool} {t : TypeId} {l : List Nat} (h : w.heap[g]? = some (.cells #[.slice a n c, .bool ok] t (0, 0))) {a' : Option Addr} {n' c' : Nat} (hB : Bytes w a' n' c' l) (hn : 0 < n') {x : Addr} (hx : a' = some x) : x.block ≠ g := by
  intro e
  obtain ⟨b, o, rfl, hc⟩ := hB.cell hn
  cases hx
  have h0 := hc 0 hn
  simp only at e
  subst e
  rw [Nat.add_zero, cell_of_row _ _ _ _ _ _ h] at h0
  match o with
  | 0 => cases h0
  | 1 => cases h0
  | o + 2 => simp at h0

theorem Bytes.setFar {w : World} {a : Option Addr} {n c g i : Nat} {l : List Nat} (h : Bytes w a n c l) (hg : 0 < n → ∀ x, a = some x → x.block ≠ g) (v : Value) : Bytes (w.setCell ⟨g, i, none⟩ v) a n c l := by
  rcases Nat.eq_zero_or_pos n with rfl | hn
  · obtain rfl : l = [] := List.length_eq_zero_iff.1 h.len
    exact ⟨rfl, h.le, h.capmax, h.byte, h.nil, fun h => absurd h (Nat.lt_irrefl _)⟩
  · refine h.keep fun p _ hp => ?_
    obtain ⟨b, o, rfl, _⟩ := h.cell hn
    have e := hp _ rfl
    refine World.cell?_setCell_other w _ p v (fun e2 => ?_)
    have := hg hn _ rfl
    rw [← e2] at e
    exact this e.symm

theorem rd_store1 {w : World} {g : Nat} {a : Option Addr} {n c : Nat} {ok ok' : Bool} {t : TypeId} (h : w.heap[g]? = some (.cells #[.slice a n c, .bool ok] t (0, 0))) :
    (w.setCell ⟨g, 1, none⟩ (.bool ok')).heap[g]? = some (.cells #[.slice a n c, .bool ok'] t (0, 0)) := by
  simp [World.setCell, Array.getElem?_modify, h]

theorem rd_store0 {w : World} {g : Nat} {a a' : Option Addr} {n c n' c' : Nat} {ok : Bool} {t : TypeId} (h : w.heap[g]? = some (.cells #[.slice a n c, .bool ok] t (0, 0))) :
    (w.setCell ⟨g, 0, none⟩ (.slice a' n' c')).heap[g]? = some (.cells #[.slice a' n' c', .bool ok] t (0, 0)) := by
  simp [World.setCell, Array.getElem?_modify, h]

theorem only_set {a w : World} {g : Nat} (h : a.grownBy w (some g)) (i : Nat) (u : Value) : a.grownBy (w.setCell ⟨g, i, none⟩ u) (some g) :=
  ⟨h.os, h.tape, h.output, by simpa [World.setCell] using h.size, fun k hk hne => (Below.heap_setCell w ⟨g, i, none⟩ u k (by rintro rfl; exact hne rfl)).trans (h.block k hk hne)⟩

theorem only_refl (w : World) (r : Option Nat) : w.grownBy w r := ⟨rfl, rfl, rfl, Nat.le_refl _, fun _ _ _ => rfl⟩

/-- What a method of a reader leaves: only its block has turned. -/
def RdEnd (w : World) (g : Nat) (s : List Nat × Bool) (w' : World) : Prop := Rd w' g s.1 s.2 ∧ w.grownBy w' (some g)

theorem parse_is (a : Option Addr) (n cap : Nat) (l : List Nat) (w : World) (z s : Nat) (hl : Bytes w a n cap l) (h : numL l 0 0 = (z, s)) :
    Calls Tryz.prog 111 #[.slice a n cap] w fun e w' => e = .returned (.tuple #[.int .u64 (z : Int), .int .i64 (s : Int)]) ∧ w = w' := by
  have := parse_any a n cap l w hl
  rw [h] at this
  exact this

theorem only_trans {a b c : World} {r : Option Nat} (h : a.grownBy b r) (k : b.grownBy c r) : a.grownBy c r :=
  ⟨k.os.trans h.os, k.tape.trans h.tape, k.output.trans h.output, Nat.le_trans h.size k.size, fun i hi hne => (k.block i (Nat.lt_of_lt_of_le hi h.size) hne).trans (h.block i hi hne)⟩

end Go.Proofs.YtcapbaocchaenaaGreatDoor

/- The walk of bytes.Clone of bytes. -/
namespace Go.Proofs.YtcapbaocchaenaaGreatDoor
open Go.RowKit

theorem bclone_nil (w : World) : Calls Tryz.prog 72 #[.slice none 0 0] w (NewBytes w []) := by
  have hq := fun (w : World) (a : Option Addr) (n c : Nat) => Lib.run_eql_slice_nil (P := Tryz.prog) w 28 5 a n c 0 0 Tryz.underlying28
  go_enter Tryz.func72, Tryz.ntmps72
  go_wp2
  go_ret
  exact ⟨_, rfl, World.ownsRow_nil _ _ _ _, Below.refl _ _⟩

theorem bclone_some (a : Addr) (n cap : Nat) (l : List Nat) (w : World) (hl : Bytes w (some a) n cap l) (hn : n ≤ 140737488355328) : Calls Tryz.prog 72 #[.slice (some a) n cap] w (NewBytes w l) := by
  have hl := Lib.hid (hl.grow (w' := w.alloc (.cells #[] 5)) ((Below.refl _ _).alloc (Nat.le_refl _) _))
  have hown : (w.alloc (.cells #[] 5)).ownsRow w.heap.size 5 1 (.slice (some ⟨w.heap.size, 0, none⟩) 0 0) 0 (u8s []) := World.ownsRow_made w #[] 0 (Nat.le_refl _) (Nat.zero_le _) rfl
  have hown := Lib.hid hown
  rename_i hl0 hown0; clear hl0 hown0
  have hq := fun (w : World) (a : Option Addr) (n c : Nat) => Lib.run_eql_slice_nil (P := Tryz.prog) w 28 5 a n c 0 0 Tryz.underlying28
  have hbel : Below w.heap.size w (w.alloc (.cells #[] 5)) := (Below.refl _ _).alloc (Nat.le_refl _) _
  go_enter Tryz.func72, Tryz.ntmps72
  go_wp2_with (at_builtin; refine wpList_append_bytes _ rfl _ _ 28 rfl w.heap.size 5 Tryz.underlying28 info_u8 _ _ _ rfl hown.out (some a) n cap l rfl hl.out (by omega) hbel.size ?_; intro v' w1 g1 g2)
  go_ret
  refine ⟨_, rfl, ?_, hbel.grown g2 hbel.size (fun k hk => (hown.out.lt k hk).1)⟩
  rw [hl.out.len]
  simpa using g1

theorem bclone_any (a : Option Addr) (n cap : Nat) (l : List Nat) (w : World) (hl : Bytes w a n cap l) (hn : n ≤ 140737488355328) : Calls Tryz.prog 72 #[.slice a n cap] w (NewBytes w l) := by
  cases a with
  | none =>
    obtain rfl : cap = 0 := hl.nil rfl
    obtain rfl : n = 0 := by have := hl.le; omega
    obtain rfl : l = [] := List.length_eq_zero_iff.1 hl.len
    exact bclone_nil w
  | some a => exact bclone_some a n cap l w hl hn

end Go.Proofs.YtcapbaocchaenaaGreatDoor

