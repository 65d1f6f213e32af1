/- The walks of Open once more (its bytes lie in memory of its own), and of Next, of the code and of the reference. -/
import Derived.Test.YtmebffmdfnnbmaaFrMake
import Derived.Test.YtmebffmdfnnbmaaSlice
namespace Go.Proofs.Ytmebffmdfnnbmaa
open Go.RowKit Crc

/-- What Open answers: the bytes lie at the start of a row of the call's own. -/
def OpenOwn (w : World) (l : List Nat) (e : Ending) (w' : World) : Prop :=
  Below w.heap.size w w' ∧ ((∃ b, sealL b = l ∧ ∃ g, e = .returned (.tuple #[.slice (some ⟨g, 0, none⟩) b.length b.length, .bool true]) ∧ w.heap.size ≤ g ∧ U8Row w' g b.length ∧ Bytes w' (some ⟨g, 0, none⟩) b.length b.length b) ∨ ((∀ b, sealL b ≠ l) ∧ e = .returned (.tuple #[.slice none 0 0, .bool false])))

theorem open_own (a : Addr) (n cap : Nat) (l : List Nat) (w : World) (hl : Bytes w (some a) n cap l) (hn : 4 ≤ n) (hm : n ≤ 100000000000000) :
    Calls Try.prog 27 #[.slice (some a) n cap] w (OpenOwn w l) := by
  have hB := Lib.hid hl
  have hle := hl.le
  clear hl
  obtain ⟨m, rfl⟩ : ∃ m, n = m + 4 := ⟨n - 4, by omega⟩
  have hT : Bytes w (some a) m m (l.take m) := hB.out.takeTo (by omega) (Nat.le_refl _) (by omega)
  have hT := Lib.hid hT
  have hsl : (sealL (l.take m)).length = m + 4 := by rw [sealL_len, hT.out.len]
  have hsl := Lib.hid hsl
  rename_i hT0 hsl0; clear hT0 hsl0
  go_enter Try.func27, Try.ntmps27
  go_wp2_with fail
  refine (seal_any (some a) m m (l.take m) w hT.out (by omega)).mono ?_
  rintro e w1 ⟨v, rfl, hown, hb1⟩
  have hown : w1.ownsRow w.heap.size 5 1 v (sealL (l.take m)).length (u8s (sealL (l.take m))) := hown
  rw [hsl.out] at hown
  obtain ⟨g, cp, rfl, hbg, hcp, hrow⟩ := own_row hown (by omega)
  have HC := Lib.hid (bytes_of_own hown (sealL_byte hT.out.byte))
  have Hrow := Lib.hid hrow
  clear hown hrow
  by_cases heq : sealL (l.take m) = l
  · have Heq := Lib.hid heq
    clear heq
    go_wp2_with fail
    refine (bytesEqual_yes _ _ _ _ _ _ l w1 (Heq.out ▸ HC.out) (hB.out.grow hb1)).mono ?_
    rintro e w1 ⟨rfl, rfl⟩
    go_wp2
    go_ret2
    obtain ⟨cur, hg, hc⟩ := Hrow.out
    have hT2 := take_seal HC.out hT.out.len (by omega)
    refine ⟨hb1, .inl ⟨l.take m, Heq.out, g, ?_, hbg, ⟨cur, hg, fun i hi => hc i ?_⟩, ?_⟩⟩
    · rw [hT.out.len]; rfl
    · rw [hT.out.len] at hi; omega
    · rw [hT.out.len]; exact hT2
  · go_wp2_with fail
    refine (bytesEqual_no _ _ _ _ _ _ _ l w1 HC.out (hB.out.grow hb1) heq).mono ?_
    rintro e w1 ⟨rfl, rfl⟩
    have Hne := Lib.hid heq
    clear heq
    go_wp2
    go_ret2
    refine ⟨hb1, .inr ⟨fun b hb => Hne.out ?_, rfl⟩⟩
    have e : l.take m = b := by
      have hlb : b.length = m := by have := sealL_len b; rw [hb, hB.out.len] at this; omega
      rw [← hb, ← hlb]
      exact List.take_left
    rw [e, hb]

/-- What Next answers. The record lies in memory of the call's own. -/
def NextEnd (w : World) (l : List Nat) (e : Ending) (w' : World) : Prop :=
  Below w.heap.size w w' ∧ ((∃ r t p cp, l = frameL r ++ t ∧ r.length ≤ 1048576 ∧ e = .returned (.tuple #[.slice p r.length cp, .int .i64 ((r.length + 8 : Nat) : Int)]) ∧ Bytes w' p r.length cp r ∧
      (∀ x, p = some x → w.heap.size ≤ x.block) ∧ (0 < r.length → ∃ g, p = some ⟨g, 4, none⟩ ∧ w.heap.size ≤ g ∧ U8Row w' g (r.length + 4))) ∨
    (NoFrame l ∧ e = .returned (.tuple #[.slice none 0 0, .int .i64 0])))

theorem next_short (a : Option Addr) (n cap : Nat) (l : List Nat) (w : World) (hl : Bytes w a n cap l) (hn : n < 8) :
    Calls Try.prog 16 #[.slice a n cap] w (NextEnd w l) := by
  have HB := Lib.hid hl
  clear hl
  go_enter Try.func16, Try.ntmps16
  go_wp2
  go_ret2
  exact ⟨Below.refl _ _, .inr ⟨noFrame_short (by rw [HB.out.len]; exact hn), rfl⟩⟩

/-- A byte by its place: a name of its own, so that the walk leaves it as it is. -/
def byteAt (l : List Nat) (i : Nat) : Nat := l.getD i 0
def fourV (l : List Nat) : List Value := [.int .u8 (byteAt l 0 : Nat), .int .u8 (byteAt l 1 : Nat), .int .u8 (byteAt l 2 : Nat), .int .u8 (byteAt l 3 : Nat)]

theorem u8_info1 : (Try.prog.info? 5).map (·.size) = some 1 := by kernel_rfl

theorem byteAt_lt {l : List Nat} (h : ∀ x ∈ l, x < 256) (i : Nat) : byteAt l i < 256 := by
  unfold byteAt
  rw [List.getD_eq_getElem?_getD]
  by_cases hi : i < l.length
  · rw [List.getElem?_eq_getElem hi]
    exact h _ (List.getElem_mem _)
  · rw [List.getElem?_eq_none (by omega)]
    decide

/-- 'copy(h[:], b)'. -/
theorem copy_head {w : World} {b o n cap g : Nat} {l : List Nat} (ty : TypeId) (hB : Bytes w (some ⟨b, o, none⟩) n cap l) (hn : 8 ≤ n) (hg : g = w.heap.size) :
    (Builtin.copy_ #[25, 25] ty #[.slice (some ⟨g, 0, none⟩) 4 4, .slice (some ⟨b, o, none⟩) n cap]).run Try.prog (w.alloc (.cells #[.int .u8 0, .int .u8 0, .int .u8 0, .int .u8 0] 49)) =
      .ok (.int .i64 4) (w.alloc (.cells #[.int .u8 (byteAt l 0 : Nat), .int .u8 (byteAt l 1 : Nat), .int .u8 (byteAt l 2 : Nat), .int .u8 (byteAt l 3 : Nat)] 49)) := by
  subst hg
  have hG := hB.grow ((Below.refl w.heap.size w).alloc (Nat.le_refl _) (.cells #[.int .u8 0, .int .u8 0, .int .u8 0, .int .u8 0] 49))
  have hmin : (fourV l).length = Nat.min n 4 := by
    show 4 = Nat.min n 4
    exact (Nat.min_eq_right (by omega)).symm
  have hr := run_copy_row (P := Try.prog) (w.alloc (.cells #[.int .u8 0, .int .u8 0, .int .u8 0, .int .u8 0] 49)) 25 25 ty 5 w.heap.size 0 4 4 ⟨b, o, none⟩ n cap #[.int .u8 0, .int .u8 0, .int .u8 0, .int .u8 0] 49 (fourV l)
    Try.underlying25 u8_info1 (heap_alloc_new _ _) hmin ?_ (by show 0 + 4 ≤ 4; decide) ?_
  · rw [hr, World.setRow_alloc_new]
    rfl
  · intro j v hv
    have hj : j < 4 := (List.getElem?_eq_some_iff.1 hv).1
    obtain ⟨b', o', e, hc⟩ := hG.cell (by omega)
    cases e
    have := hc j (by omega)
    have hadd : (⟨b, o, none⟩ : Addr).add j = ⟨b, o + j, none⟩ := by unfold Addr.add; split <;> simp_all
    rw [hadd, this, ← hv]
    rcases j with _ | _ | _ | _ | j
    all_goals first | rfl | omega
  · intro v hv
    simp only [fourV, List.mem_cons, List.not_mem_nil, or_false] at hv
    rcases hv with rfl | rfl | rfl | rfl <;> rfl

/-- 'sealed[4:]'. -/
theorem slice_rec (g N : Nat) : ∃ p, (∀ w : World, (Instr.slice 25 (.slice (some ⟨g, 0, none⟩) (N + 4) (N + 4)) (some (.int .i64 4)) none none).run Try.prog w = .ok (.slice p N N) w) ∧
    (∀ x, p = some x → x.block = g) ∧ (0 < N → p = some ⟨g, 4, none⟩) := by
  obtain ⟨i, hi, _, hsz, _⟩ := info_parts info_u8
  have hT' : Try.prog.underlying 25 = some (.slice (Try.prog.elem 25)) := by kernel_rfl
  have hE : Try.prog.elem 25 = 5 := by kernel_rfl
  have hsize : ∀ w : World, (sizeOf (Try.prog.elem 25)).run Try.prog w = .ok 1 w := fun w => by rw [hE]; simp [sizeOf, typeInfo, hi, hsz]
  have hadd : ∀ (x y j : Nat), (⟨x, y, none⟩ : Addr).add j = ⟨x, y + j, none⟩ := fun x y j => by unfold Addr.add; split <;> simp_all
  refine ⟨if N + 4 = 4 then some ⟨g, 0, none⟩ else (some ⟨g, 0, none⟩ : Option Addr).map (·.add (4 * 1)), fun w => ?_, fun x hx => ?_, fun h => ?_⟩
  · rw [show (Value.int .i64 4) = .int .i64 ((4 : Nat) : Int) from rfl, run_slice_l w 25 (some ⟨g, 0, none⟩) (N + 4) (N + 4) hT' .i64 ((4 : Nat) : Int) (by omega) (by omega), hsize]
    rfl
  · split at hx
    · cases hx; rfl
    · simp only [Option.map_some, hadd] at hx
      cases hx; rfl
  · rw [if_neg (by omega)]
    simp only [Option.map_some, hadd]

theorem next_long (b o n cap : Nat) (l : List Nat) (w : World) (hl : Bytes w (some ⟨b, o, none⟩) n cap l) (hn : 8 ≤ n) (hm : n ≤ 100000000000000) :
    Calls Try.prog 16 #[.slice (some ⟨b, o, none⟩) n cap] w (NextEnd w l) := by
  have HB := Lib.hid hl
  have hle := hl.le
  have hcm := hl.capmax
  have hsl := slice_head
  have hcp := copy_head 3 hl hn rfl
  have HN := Lib.hid (fun w => number_any (byteAt l) w (byteAt_lt hl.byte))
  have HF := Lib.hid (show part4 (byteAt l) 4 = num4 l from rfl)
  clear hl
  go_enter Try.func16, Try.ntmps16
  go_wp2_with fail
  refine (HN.out _).mono ?_
  rintro e w1 ⟨rfl, hb1⟩
  have Hb1 := Lib.hid (below_call hb1)
  generalize part4 (byteAt l) 4 = N at *
  clear hb1 hcp HN
  by_cases hN : N ≤ 1048576
  · have hN1 : (N : Int) ≤ 1048576 := by omega
    by_cases hN2 : N + 8 ≤ n
    · have hN3 : (N : Int) ≤ (n : Int) - 8 := by omega
      have hT : Bytes w1 (some ⟨b, o, none⟩) (N + 8) cap (l.take (N + 8)) := (HB.out.grow Hb1.out).takeTo hN2 (by omega) (Nat.le_refl _)
      have HO := Lib.hid (open_own ⟨b, o, none⟩ (N + 8) cap (l.take (N + 8)) w1 hT (by omega) (by omega))
      clear hT
      go_wp2_with fail
      refine HO.out.mono ?_
      rintro e w2 ⟨hb2, ⟨x, hx, g, rfl, hbg, hrow, hC⟩ | ⟨hno, rfl⟩⟩
      · have hxl : x.length = N + 4 := by
          have := congrArg List.length hx
          rw [sealL_len, List.length_take, HB.out.len] at this
          omega
        obtain ⟨p, hp, hpb, hp4⟩ := slice_rec g N
        have HX := Lib.hid (frame_of_seal HF.out (by rw [HB.out.len]; exact hN2) hx HB.out.byte)
        rw [hxl] at hrow hC ⊢
        have Hrow := Lib.hid hrow
        have HC := Lib.hid hC
        have Hx := Lib.hid hxl
        have Hb2 := Lib.hid (Hb1.out.trans (hb2.mono Hb1.out.size))
        have Hp := Lib.hid hpb
        have Hp4 := Lib.hid hp4
        have Hg := Lib.hid (Nat.le_trans Hb1.out.size hbg)
        clear hrow hC hxl hx hb2 hpb hp4 HO hbg
        go_wp2
        go_ret2
        obtain ⟨e1, e2⟩ := HX.out
        refine ⟨Hb2.out, .inl ⟨x.drop 4, l.drop (N + 8), p, N, e1, by omega, by rw [e2]; rfl, ?_, ?_, ?_⟩⟩
        · rw [e2]
          rcases Nat.eq_zero_or_pos N with h0 | h0
          · have e3 : x.drop 4 = [] := List.length_eq_zero_iff.1 (by omega)
            rw [e3, h0]
            exact bytes_none (by omega) (fun _ => rfl)
          · rw [Hp4.out h0]
            have hd := HC.out.dropTo (m := 4) (by omega)
            rw [show N + 4 - 4 = N by omega, Nat.zero_add] at hd
            exact hd
        · intro y hy
          rw [Hp.out y hy]
          exact Hg.out
        · intro h0
          rw [e2] at h0
          exact ⟨g, Hp4.out h0, Hg.out, by rw [e2]; exact Hrow.out⟩
      · have Hno := Lib.hid hno
        have Hb2 := Lib.hid (Hb1.out.trans (hb2.mono Hb1.out.size))
        clear hno hb2 HO
        go_wp2
        go_ret2
        exact ⟨Hb2.out, .inr ⟨noFrame_seal HF.out Hno.out, rfl⟩⟩
    · have hN3 : (n : Int) - 8 < (N : Int) := by omega
      go_wp2
      go_ret2
      exact ⟨Hb1.out, .inr ⟨noFrame_len (by rw [HB.out.len, ← HF.out]; omega), rfl⟩⟩
  · have hN1 : 1048576 < (N : Int) := by omega
    go_wp2
    go_ret2
    exact ⟨Hb1.out, .inr ⟨noFrame_most (by rw [← HF.out]; omega), rfl⟩⟩

theorem next_any (a : Option Addr) (n cap : Nat) (l : List Nat) (w : World) (hl : Bytes w a n cap l) (hm : n ≤ 100000000000000) :
    Calls Try.prog 16 #[.slice a n cap] w (NextEnd w l) := by
  by_cases hn : n < 8
  · exact next_short a n cap l w hl hn
  · obtain ⟨b, o, rfl, _⟩ := hl.cell (by omega)
    exact next_long b o n cap l w hl (by omega) hm
end Go.Proofs.Ytmebffmdfnnbmaa
