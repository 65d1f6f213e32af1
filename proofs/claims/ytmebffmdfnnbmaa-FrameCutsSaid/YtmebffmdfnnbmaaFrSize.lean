/- The walks of Size and of each: a sum over records; the iterator over the frames of bytes. -/
import Derived.Test.YtmebffmdfnnbmaaFrRange
import Derived.Test.YtmebffmdfnnbmaaFrRows
import Derived.Test.YtmebffmdfnnbmaaCat
import Derived.OwnWalkIn
import Derived.TacticsInMore
import Derived.LoopNIn
import Derived.LoopIn
namespace Go.Proofs.Ytmebffmdfnnbmaa
open Go.RowKit Crc

attribute [local go_sem] Oper.semAt_some

theorem sizeL_take {ls : List (List Nat)} {k : Nat} (h : k < ls.length) : sizeL (ls.take (k + 1)) = sizeL (ls.take k) + ((ls.getD k []).length + 8) := by
  rw [List.take_succ_eq_append_getElem h, sizeL_append, sizeL_cons, sizeL_nil, List.getD_eq_getElem?_getD, List.getElem?_eq_getElem h]
  rfl

theorem sizeL_le {ls : List (List Nat)} {k : Nat} : sizeL (ls.take k) ≤ sizeL ls := by
  conv => rhs; rw [← List.take_append_drop k ls, sizeL_append]
  omega

theorem size_any (a : Option Addr) (n cap : Nat) (ls : List (List Nat)) (w : World) (hl : Parts w a n cap ls) (hm : sizeL ls ≤ 100000000000000) :
    Calls Try.prog 15 #[.slice a n cap] w fun e w' => e = .returned (.int .i64 (sizeL ls : Nat)) ∧ w = w' := by
  have hls := Lib.hid hl.len
  have hnb := hl.max
  have hP := Lib.hid hl
  clear hl
  go_enter Try.func15, Try.ntmps15
  go_wp2
  go_loop [3, 8] (fun t i => ∃ k : Nat, k ≤ n ∧ i = .int .i64 k ∧ t = .int .i64 (sizeL (ls.take k) : Nat)) (fun _ i => n - (intOf i).toNat)
  case atStart => exact ⟨0, Nat.zero_le _, rfl, rfl⟩
  case round =>
    obtain ⟨k, hk, rfl, rfl⟩ := hrel
    by_cases hlt : k < n
    · obtain ⟨b, o, a', n', c', rfl, hc, hB⟩ := bytes_get_all hP.out hlt
      have hle := sizeL_le (ls := ls) (k := k + 1)
      have hs := sizeL_take (ls := ls) (show k < ls.length by rw [hls.out]; exact hlt)
      rw [hB.len] at hs
      have hle2 : sizeL (ls.take k) + (n' + 8) ≤ 100000000000000 := by omega
      have Hs := Lib.hid hs
      clear hs hle hB
      generalize sizeL (ls.take k) = s at *
      go_wp2
      go_round
      case rel => exact ⟨k + 1, by omega, by go_num, by rw [Hs.out]; go_num⟩
      case measure => simp [intOf]; omega
    · obtain rfl : k = n := by omega
      have ht : ls.take k = ls := by rw [← hls.out, List.take_length]
      rw [ht]
      go_wp2
      go_ret
      exact ⟨rfl, rfl⟩

theorem each_any (a : Option Addr) (n cap : Nat) (w : World) :
    Calls Try.prog 24 #[.slice a n cap] w fun e w' => e = .returned (.func (.func 35) #[] #[.pointer (some ⟨w.heap.size, 0, none⟩)]) ∧ w' = w.alloc (.cells #[.slice a n cap] 25) := by
  go_enter Try.func24, Try.ntmps24
  go_wp2
  go_ret
  exact ⟨rfl, rfl⟩

/-- A record that is yielded: where it lies, its room, its bytes. -/
structure Rec where
  p : Option Addr
  cp : Nat
  l : List Nat

def recEnc (x : Rec) : Array Value := #[.slice x.p x.l.length x.cp]
def RecAt (N : Nat) (x : Rec) (W : World) : Prop := Bytes W x.p x.l.length x.cp x.l ∧ ∀ y, x.p = some y → N ≤ y.block

def lenOf : Value → Nat
  | .slice _ n _ => n
  | _ => 0

/-- The rest of the bytes behind j of them: a slice of its own, which holds whatever the bytes hold. -/
def Rest (a : Option Addr) (n cap j : Nat) (v : Value) : Prop := ∃ a', v = .slice a' (n - j) (cap - j) ∧ j ≤ n ∧ (j < n → Formed a' (cap - j)) ∧ ∀ (w : World) (l : List Nat), Bytes w a n cap l → Bytes w a' (n - j) (cap - j) (l.drop j)

theorem Rest.start {w : World} {a : Option Addr} {n cap : Nat} {l : List Nat} (h : Bytes w a n cap l) : Rest a n cap 0 (.slice a n cap) :=
  ⟨a, rfl, Nat.zero_le _, fun hn => by obtain ⟨b, o, rfl, _⟩ := h.cell hn; exact formed_at b o _, fun _ _ h => h⟩

theorem Rest.next {a : Option Addr} {n cap j k : Nat} {a' : Option Addr} (hj : j + k ≤ n) (hk : 0 < k) (hn : n ≤ cap) (hf : j < n → Formed a' (cap - j)) (hB : ∀ (w : World) (l : List Nat), Bytes w a n cap l → Bytes w a' (n - j) (cap - j) (l.drop j)) :
    ∃ v, (∀ (w : World) (kl : IntKind), (Instr.slice 25 (.slice a' (n - j) (cap - j)) (some (.int kl (k : Int))) none none).run Try.prog w = .ok v w) ∧ Rest a n cap (j + k) v ∧ lenOf v = n - (j + k) := by
  obtain ⟨q, h1, h2, h3⟩ := slice_from (P := Try.prog) (T := 25) (E := 5) Try.underlying25 info_u8 (a := a') (n := n - j) (c := cap - j) (k := k) (by omega) (by omega) (hf (by omega))
  refine ⟨.slice q (n - j - k) (cap - j - k), h1, ⟨q, by rw [Nat.sub_sub, Nat.sub_sub], hj, fun _ => by rw [← Nat.sub_sub]; exact h2, fun w l h => ?_⟩, by show n - j - k = _; omega⟩
  have := h3 w _ (hB w l h)
  rw [List.drop_drop] at this
  rw [Nat.sub_sub, Nat.sub_sub] at this
  exact this

theorem splits_end {L : List Nat} {pre : List Rec} {j : Nat} (hL : L = joinL (pre.map Rec.l) ++ L.drop j) (hr : ∀ r ∈ pre, r.l.length ≤ 1048576) (hno : NoFrame (L.drop j)) : ∃ t, Splits L (pre.map Rec.l) t :=
  ⟨_, hL, fun r h => by obtain ⟨x, hx, rfl⟩ := List.mem_map.1 h; exact hr x hx, hno⟩

theorem splits_more {L : List Nat} {pre : List Rec} {j : Nat} {x : Rec} {t : List Nat} (hj : j ≤ L.length) (hL : L = joinL (pre.map Rec.l) ++ L.drop j) (hd : L.drop j = frameL x.l ++ t) :
    j + (x.l.length + 8) ≤ L.length ∧ L = joinL ((pre ++ [x]).map Rec.l) ++ L.drop (j + (x.l.length + 8)) := by
  have h1 := congrArg List.length hd
  rw [List.length_drop, List.length_append, frameL_len] at h1
  refine ⟨by omega, ?_⟩
  rw [← List.drop_drop, hd, ← frameL_len, List.drop_left, List.map_append, List.map_cons, List.map_nil, joinL_snoc, List.append_assoc, ← hd]
  exact hL

theorem joinL_many : ∀ ls : List (List Nat), ls.length ≤ (joinL ls).length
  | [] => Nat.le_refl _
  | r :: ls => by
    have := joinL_many ls
    rw [joinL_cons, List.length_append, frameL_len, List.length_cons]
    omega

theorem pre_len {L : List Nat} {pre : List Rec} {t : List Nat} (hL : L = joinL (pre.map Rec.l) ++ t) : pre.length ≤ L.length := by
  have h1 := joinL_many (pre.map Rec.l)
  have h2 := congrArg List.length hL
  rw [List.length_append] at h2
  rw [List.length_map] at h1
  omega

set_option maxRecDepth 100000 in
set_option maxHeartbeats 2000000 in
theorem each1_told (n : Nat) (hn : 2 ≤ n) (Bn : Nat) (a : Option Addr) (k cap : Nat) (L : List Nat) (hk : k ≤ 100000000000000) (I : List Rec → Nat → World → Prop)
    (hI : ∀ s N W, I s N W → Bytes W a k cap L ∧ W.cell? ⟨Bn, 0, none⟩ = some (.slice a k cap)) :
    Told n Try.prog 35 #[.pointer (some ⟨Bn, 0, none⟩)] recEnc I RecAt (fun xs => ∃ t, Splits L (xs.map Rec.l) t) (k + 1) := by
  intro l J W N hg hm hJI hY h0
  obtain ⟨hB0, hc0⟩ := hI _ _ _ (hJI _ _ _ h0)
  refine callsIn_of_wp Try.func35 rfl trivial ?_ rfl
  simp only [Try.ntmps35, List.size_toArray, List.length_cons, List.length_nil, Nat.reduceAdd, Nat.reduceSub, Array.replicate_succ, Array.replicate_zero, List.push_toArray, List.append_toArray, List.nil_append, List.cons_append]
  gi_wp2
  gi_loopw [3] (fun u wr => ∃ (pre : List Rec) (N' j : Nat), Rest a k cap j u ∧ (∀ r ∈ pre, r.l.length ≤ 1048576) ∧ L = joinL (pre.map Rec.l) ++ L.drop j ∧ J pre N' wr) (fun u _ => lenOf u)
  case atStart => exact ⟨[], N, 0, Rest.start hB0, fun r h => (by cases h), rfl, h0⟩
  case round =>
    obtain ⟨pre, N', j, ⟨a', rfl, hj, hf, hR⟩, hr, hL, hJ⟩ := hrel
    obtain ⟨hB, _⟩ := hI _ _ _ (hJI _ _ _ hJ)
    have hB' := hR wr L hB
    have Hj := Lib.hid (hm _ _ _ hJ)
    have HX := Lib.hid (next_any a' (k - j) (cap - j) (L.drop j) wr hB' (by omega))
    gi_wp2_with fail
    refine ⟨trivial, fun _ => by omega, (callsIn_wide.2 HX.out).mono ?_⟩
    rintro e w1 ⟨hb1, ⟨r, t, p, cp, hd, hrm, rfl, hBr, hfr, _⟩ | ⟨hno, rfl⟩⟩
    · have hz : (((r.length : Int) + 8) == 0) = false := by rw [beq_eq_false_iff_ne]; omega
      have hm := splits_more (x := ⟨p, cp, r⟩) (by rw [hB.len]; exact hj) hL hd
      rw [hB.len] at hm
      obtain ⟨v, hv0, hRv, hlv⟩ := Rest.next hm.1 (by show 0 < r.length + 8; omega) hB.le hf hR
      have hv := fun w => hv0 w .i64
      rw [show ((({ p := p, cp := cp, l := r } : Rec).l.length + 8 : Nat) : Int) = (r.length : Int) + 8 from rfl] at hv
      obtain ⟨fn, tmps, assign, body, hy, hRd⟩ := hY pre ⟨p, cp, r⟩ wr.heap.size w1 (hg _ _ _ _ Hj.out hb1) ⟨hBr, hfr⟩ (by have := pre_len hL; rw [hB.len] at this; omega)
      dsimp only [recEnc] at hy
      have Hlv := Lib.hid hlv
      have HRv := Lib.hid hRv
      have Hm := Lib.hid hm.2
      have Hm1 := Lib.hid hm.1
      clear HX hB' hB hd hBr hfr hv0 hlv hRv hm hL hR hf
      gi_wp2
      refine ⟨fun _ => by omega, hRd.mono ?_⟩
      rintro e W3 ⟨rfl, N3, hJ3⟩
      gi_wp2
      go_roundw
      case rel =>
        refine ⟨pre ++ [⟨p, cp, r⟩], N3, j + (r.length + 8), HRv.out, fun x hx => ?_, Hm.out, hJ3⟩
        rcases List.mem_append.1 hx with hx | hx
        · exact hr x hx
        · rw [List.mem_singleton.1 hx]; exact hrm
      case measure =>
        have e1 : lenOf v = k - (j + (r.length + 8)) := Hlv.out
        have e2 : j + (r.length + 8) ≤ k := Hm1.out
        rw [e1]
        show k - (j + (r.length + 8)) < k - j
        omega
    · have Hno := Lib.hid hno
      clear HX hno
      gi_wp2
      refine ⟨fun _ h => (by cases h), ?_⟩
      gi_wp2
      refine bodyPost_ret (results_none rfl _ _ _) rfl ?_
      exact ⟨⟨_, rfl⟩, pre, _, hg _ _ _ _ Hj.out hb1, splits_end hL hr Hno.out⟩
end Go.Proofs.Ytmebffmdfnnbmaa
