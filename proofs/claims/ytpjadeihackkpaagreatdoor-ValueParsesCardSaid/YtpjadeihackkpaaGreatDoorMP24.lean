import Derived.Lib.MapLaws
import Derived.Lib.IndexAny
import Derived.Laws.Runes
import Derived.Test.YtpjadeihackkpaaGreatDoorShelfI
import Derived.WalkKit
import Derived.WalkLawsBesides
import Derived.WalkSpells
import Derived.Lib.Hide
import Derived.Laws.RangeString
import Derived.Laws.RangeAny
import Derived.Laws.Strings3
import Derived.Deep.LoopGhost
import Derived.WalkMore
import Derived.Deep.RegionHeld
import Derived.Test.YtpjadeihackkpaaGreatDoorMP23
import Derived.Test.YtpjadeihackkpaaGreatDoorMP1
import Derived.ProofKit
import Derived.SizedLaws
import Derived.Deep.Matrix
/- How a string's range steps over bytes above 127: the rune is valid, and none of its bytes is below 128. -/
namespace Go.Proofs.YtpjadeihackkpaaGreatDoor

theorem high_bytes (s : List UInt8) (i n : Nat) (hn : n ≤ 4) (h : ∀ k, k < n → i + k < s.length ∧ 128 ≤ (s.getD (i + k) 0).toNat) : i + n ≤ s.length ∨ n = 0 := by
  rcases Nat.eq_zero_or_pos n with h0 | h0
  · exact .inr h0
  · have := (h (n - 1) (by omega)).1
    exact .inl (by omega)

theorem high_step (s : ByteArray) (i : Nat) (hi : i < s.size) (h : 128 ≤ (s.data.toList.getD i 0).toNat) :
    128 ≤ (Utf8.decode s i).1 ∧ Utf8.valid ((Utf8.decode s i).1 : Int) = true ∧ 1 ≤ (Utf8.decode s i).2 ∧ i + (Utf8.decode s i).2 ≤ s.size ∧
      ∀ j b, i ≤ j → j < i + (Utf8.decode s i).2 → s.data.toList[j]? = some b → 128 ≤ b.toNat := by
  have hsz : s.data.toList.length = s.size := (Lib.size_eq s).symm
  have hget : ∀ j b, s.data.toList[j]? = some b → s.data.toList.getD j 0 = b := fun j b hb => by rw [List.getD, hb]; rfl
  rw [Lib.decode_N]
  have hv : ∀ r : Nat, (r < 55296 ∨ 57344 ≤ r) → r ≤ 1114111 → Utf8.valid (r : Int) = true := by
    intro r h1 h2
    unfold Utf8.valid
    rcases h1 with h1 | h1
    · rw [show decide ((0 : Int) ≤ (r : Int)) = true from decide_eq_true (by omega), show decide ((r : Int) < 0xD800) = true from decide_eq_true (by omega)]; rfl
    · rw [show decide ((0xE000 : Int) ≤ (r : Int)) = true from decide_eq_true (by omega), show decide ((r : Int) ≤ 0x10FFFF) = true from decide_eq_true (by omega)]; simp
  have l0 := (s.data.toList.getD i 0).toNat_lt
  have l1 := (s.data.toList.getD (i + 1) 0).toNat_lt
  have l2 := (s.data.toList.getD (i + 2) 0).toNat_lt
  have l3 := (s.data.toList.getD (i + 3) 0).toNat_lt
  rcases Lib.decodeN_shape (s.data.toList.length - i) (s.data.toList.getD i 0).toNat (s.data.toList.getD (i + 1) 0).toNat (s.data.toList.getD (i + 2) 0).toNat (s.data.toList.getD (i + 3) 0).toNat with
    ⟨a, e⟩ | ⟨a, b, c, d, e⟩ | ⟨a, b, c, d, f, g, e⟩ | ⟨a, b, c, d, f, g, k, e⟩ | e
  · omega
  · rw [e]
    refine ⟨d, hv _ (by omega) (by omega), by show 1 ≤ 2; omega, by show i + 2 ≤ _; omega, fun j x h1 h2 hx => ?_⟩
    have h2 : j < i + 2 := h2
    rcases (show j = i ∨ j = i + 1 by omega) with rfl | rfl
    · rw [← hget _ _ hx]; exact h
    · rw [← hget _ _ hx]; omega
  · rw [e]
    refine ⟨by show 128 ≤ _; omega, hv _ (by omega) (by omega), by show 1 ≤ 3; omega, by show i + 3 ≤ _; omega, fun j x h1 h2 hx => ?_⟩
    have h2 : j < i + 3 := h2
    rcases (show j = i ∨ j = i + 1 ∨ j = i + 2 by omega) with rfl | rfl | rfl
    · rw [← hget _ _ hx]; exact h
    · rw [← hget _ _ hx]; omega
    · rw [← hget _ _ hx]; omega
  · rw [e]
    refine ⟨by show 128 ≤ _; omega, hv _ (by omega) (by omega), by show 1 ≤ 4; omega, by show i + 4 ≤ _; omega, fun j x h1 h2 hx => ?_⟩
    have h2 : j < i + 4 := h2
    rcases (show j = i ∨ j = i + 1 ∨ j = i + 2 ∨ j = i + 3 by omega) with rfl | rfl | rfl | rfl
    · rw [← hget _ _ hx]; exact h
    · rw [← hget _ _ hx]; omega
    · rw [← hget _ _ hx]; omega
    · rw [← hget _ _ hx]; omega
  · rw [e]
    refine ⟨by show 128 ≤ 65533; omega, hv _ (by omega) (by omega), by show 1 ≤ 1; omega, by show i + 1 ≤ _; omega, fun j x h1 h2 hx => ?_⟩
    have h2 : j < i + 1 := h2
    obtain rfl : j = i := by omega
    rw [← hget _ _ hx]; exact h
end Go.Proofs.YtpjadeihackkpaaGreatDoor

/- strings.IndexRune of " ]" at a rune above 127; strings.IndexAny of a short string, whatever its bytes. -/
namespace Go.Proofs.YtpjadeihackkpaaGreatDoor
open Go.RowKit Go.Shelf

set_option maxHeartbeats 1600000 in
set_option maxRecDepth 100000 in
theorem vrune_any (r : Int) (w : World) (hv : Utf8.valid r = true) (h : 128 ≤ r) :
    Calls Tryz.prog 92 #[.int .i32 r] w fun e w' => e = .returned (.bool true) ∧ w' = w := by
  have h0 : decide ((0 : Int) ≤ r) = true := decide_eq_true (by omega)
  have hor : r < 55296 ∨ (57344 ≤ r ∧ r ≤ 1114111) := by
    unfold Utf8.valid at hv
    simp at hv
    omega
  clear hv
  rcases hor with hr | ⟨hr1, hr2⟩
  · have h1 : decide (r < 55296) = true := decide_eq_true hr
    go_enter Tryz.func92, Tryz.ntmps92
    go_wp2
    go_ret
    exact ⟨rfl, rfl⟩
  · have h1 : decide (r < 55296) = false := decide_eq_false (by omega)
    have h2 : decide (57343 < r) = true := decide_eq_true (by omega)
    have h3 : decide (r ≤ 1114111) = true := decide_eq_true (by omega)
    go_enter Tryz.func92, Tryz.ntmps92
    go_wp2
    go_ret
    exact ⟨rfl, rfl⟩

set_option maxHeartbeats 3200000 in
set_option maxRecDepth 100000 in
theorem irune_high (r : Int) (w : World) (hv : Utf8.valid r = true) (h : 128 ≤ r) (hb : r ≤ 1114111) (hne : r ≠ 65533) :
    Calls Tryz.prog 74 #[.string ⟨#[32, 93]⟩, .int .i32 r] w fun e w' => e = .returned (.int .i64 (-1)) ∧ ∃ n, w' = w.drewN n := by
  have h0 : decide ((0 : Int) ≤ r) = true := decide_eq_true (by omega)
  have h1 : decide (r < 128) = false := decide_eq_false (by omega)
  have h2 : (r == 65533) = false := beq_eq_false_iff_ne.2 hne
  have HV := Lib.hid (vrune_any r w hv h)
  obtain ⟨s2, s4, hl⟩ := encode_facts r hv h
  obtain ⟨E, hE⟩ : ∃ E, E = Utf8.encode r := ⟨_, rfl⟩
  rw [← hE] at s2 s4 hl
  have hcv : ∀ w, (convert 21 9 (.int .i32 r)).run Tryz.prog w = .ok (.string E) w := fun w => by
    rw [hE]
    exact run_convert_int_string w 21 9 .i32 r (by rw [Tryz.underlying21]; rfl) Tryz.underlying9
  clear hE hv
  rcases (show E.size = 2 ∨ E.size = 3 ∨ E.size = 4 by omega) with h3 | h3 | h3
  · have hlt : 1 < E.size := by omega
    obtain ⟨x, hx⟩ : ∃ x : UInt8, E[1]'hlt = x := ⟨_, rfl⟩
    have hx1 : 128 ≤ x.toNat := by
      have h4 := hl (by omega)
      have h5 : ∀ k (hk : k < E.size), k = 1 → E[k]'hk = x := by intro k hk e; subst e; exact hx
      rw [h5 _ (by omega) (by omega)] at h4
      exact h4
    have hne2 : (((((⟨#[32, 93]⟩ : ByteArray)[1]'(by decide)).toNat : Nat) : Int) != (x.toNat : Int)) = true := by
      rw [show ((⟨#[32, 93]⟩ : ByteArray)[1]'(by decide)).toNat = 93 from rfl, bne_iff_ne]
      omega
    have HI := Lib.hid (fun w => Tryz.strings_IndexByte ByteArray.empty (x.toNat : Int) w)
    clear hl s2 s4 h hb hne
    go_enter Tryz.func74, Tryz.ntmps74
    go_wp2_with fail
    refine HV.out.mono ?_
    rintro e w' ⟨rfl, rfl⟩
    go_wp2
    go_step3
    go_wp2
    refine wp_loop_rounds 1 ?_
    rw [rounds_succ]
    go_wp2
    go_step3
    go_wp2
    go_region
    go_wp2
    have hsl : ∀ w, (Instr.slice 9 (.string ⟨#[32, 93]⟩) (some (.int .i64 2)) none none).run Tryz.prog w = .ok (.string ByteArray.empty) w := fun w => by kernel_rfl
    go_region_held (fun w' => (Instr.slice 9 (.string ⟨#[32, 93]⟩) (some (.int .i64 2)) none none).run Tryz.prog w' = .ok (.string ByteArray.empty) w')
      (first | exact hsl _)
      (first | (go_at_call 91; (with_reducible refine (HI.out _).mono ?_); rintro e w' ⟨rfl, hw⟩; rw [hw]))
    all_goals go_wp2
    all_goals rw [Exit.noGoto_ret]
    all_goals go_wp2
    all_goals rw [Exit.noGoto_ret]
    all_goals go_ret
    all_goals exact ⟨rfl, 2, rfl⟩
  · clear hl s2 s4 h hb hne
    go_enter Tryz.func74, Tryz.ntmps74
    go_wp2_with fail
    refine HV.out.mono ?_
    rintro e w' ⟨rfl, rfl⟩
    go_wp2
    go_step3
    go_wp2
    refine wp_loop_rounds 1 ?_
    rw [rounds_succ]
    go_wp2
    rw [Exit.noGoto_ret]
    go_ret
    exact ⟨rfl, 0, rfl⟩
  · clear hl s2 s4 h hb hne
    go_enter Tryz.func74, Tryz.ntmps74
    go_wp2_with fail
    refine HV.out.mono ?_
    rintro e w' ⟨rfl, rfl⟩
    go_wp2
    go_step3
    go_wp2
    refine wp_loop_rounds 1 ?_
    rw [rounds_succ]
    go_wp2
    rw [Exit.noGoto_ret]
    go_ret
    exact ⟨rfl, 0, rfl⟩

set_option maxHeartbeats 3200000 in
set_option maxRecDepth 100000 in
theorem irune_bad (w : World) :
    Calls Tryz.prog 74 #[.string ⟨#[32, 93]⟩, .int .i32 65533] w fun e w' => e = .returned (.int .i64 (-1)) ∧ Below w.heap.size w w' := by
  have hb : Below w.heap.size w (w.iter ⟨#[32, 93]⟩ 2) := (Below.refl _ _).alloc (Nat.le_refl _) _
  have Hb := Lib.hid hb
  clear hb
  have n0 : ∀ ty, (Instr.next (.pointer (some ⟨w.heap.size, 0, none⟩)) true ty).run Tryz.prog (w.iter ⟨#[32, 93]⟩ 0) = .ok (.tuple #[.bool true, .int .i64 0, .int .i32 32]) (w.iter ⟨#[32, 93]⟩ 1) := fun ty =>
    run_next_ascii (P := Tryz.prog) w ⟨#[32, 93]⟩ 0 ty (by decide) (by decide)
  have n1 : ∀ ty, (Instr.next (.pointer (some ⟨w.heap.size, 0, none⟩)) true ty).run Tryz.prog (w.iter ⟨#[32, 93]⟩ 1) = .ok (.tuple #[.bool true, .int .i64 1, .int .i32 93]) (w.iter ⟨#[32, 93]⟩ 2) := fun ty =>
    run_next_ascii (P := Tryz.prog) w ⟨#[32, 93]⟩ 1 ty (by decide) (by decide)
  have n2 : ∀ ty, (Instr.next (.pointer (some ⟨w.heap.size, 0, none⟩)) true ty).run Tryz.prog (w.iter ⟨#[32, 93]⟩ 2) = .ok (.tuple #[.bool false]) (w.iter ⟨#[32, 93]⟩ 2) := fun ty =>
    run_next_end (P := Tryz.prog) w ⟨#[32, 93]⟩ 2 ty (by decide)
  go_enter Tryz.func74, Tryz.ntmps74
  go_wp2
  refine wp_loop_rounds 3 ?_
  rw [rounds_succ]
  go_wp2
  rw [rounds_succ]
  go_wp2
  rw [rounds_succ]
  go_wp2
  go_ret
  exact ⟨rfl, Hb.out⟩

theorem run_next_at (w : World) (b : Nat) (s : ByteArray) (pos : Nat) (ty : TypeId) (hb : w.heap[b]? = some (.stringIter s pos)) (h : pos < s.size) :
    (Instr.next (.pointer (some ⟨b, 0, none⟩)) true ty).run Tryz.prog w =
      .ok (.tuple #[.bool true, .int .i64 pos, .int .i32 (Utf8.decode s pos).1]) { w with heap := w.heap.setIfInBounds b (.stringIter s (pos + (Utf8.decode s pos).2)) } := by
  simp [Instr.next, getObj, setObj, Sem.run_bind, Sem.run, hb, Result.andThen, h, goInt]

theorem run_next_at_end (w : World) (b : Nat) (s : ByteArray) (pos : Nat) (ty : TypeId) (hb : w.heap[b]? = some (.stringIter s pos)) (h : ¬ pos < s.size) :
    (Instr.next (.pointer (some ⟨b, 0, none⟩)) true ty).run Tryz.prog w = .ok (.tuple #[.bool false]) w := by
  simp [Instr.next, getObj, Sem.run, hb, h]

theorem iter_set {w wr : World} {b : Nat} {s : ByteArray} {i j : Nat} (hb : wr.heap[b]? = some (.stringIter s i)) (hw : Below b w wr) :
    ({ wr with heap := wr.heap.setIfInBounds b (.stringIter s j) } : World).heap[b]? = some (.stringIter s j) ∧ Below b w { wr with heap := wr.heap.setIfInBounds b (.stringIter s j) } ∧
      ({ wr with heap := wr.heap.setIfInBounds b (.stringIter s j) } : World).heap.size = wr.heap.size := by
  have hlt : b < wr.heap.size := (Array.getElem?_eq_some_iff.1 hb).1
  refine ⟨by simp [hlt], ⟨hw.os, hw.tape, hw.output, by simpa using hw.size, fun k hk => ?_⟩, by simp⟩
  show (wr.heap.setIfInBounds b _)[k]? = _
  rw [Array.getElem?_setIfInBounds, if_neg (by omega)]
  exact hw.block k hk

theorem noany_skip {s : List UInt8} {i n : Nat} (h : Lib.NoAny s [32, 93] i) (hs : ∀ j b, i ≤ j → j < i + n → s[j]? = some b → 128 ≤ b.toNat) : Lib.NoAny s [32, 93] (i + n) := by
  intro j b hj hb
  by_cases hlt : j < i
  · exact h j b hlt hb
  · have h1 := hs j b (by omega) hj hb
    have e1 : (b == 32) = false := by
      rw [beq_eq_false_iff_ne]
      intro e
      rw [e] at h1
      exact absurd h1 (by decide)
    have e2 : (b == 93) = false := by
      rw [beq_eq_false_iff_ne]
      intro e
      rw [e] at h1
      exact absurd h1 (by decide)
    simp
    exact ⟨by simpa using e1, by simpa using e2⟩

theorem irune_any (r : Int) (w : World) (hv : Utf8.valid r = true) (h : 128 ≤ r) :
    Calls Tryz.prog 74 #[.string ⟨#[32, 93]⟩, .int .i32 r] w fun e w' => e = .returned (.int .i64 (-1)) ∧ Below w.heap.size w w' := by
  by_cases hne : r = 65533
  · subst hne
    exact irune_bad w
  · refine (irune_high r w hv h ?_ hne).mono ?_
    · unfold Utf8.valid at hv
      simp at hv
      omega
    · rintro e w' ⟨h1, n, rfl⟩
      exact ⟨h1, ⟨rfl, rfl, rfl, Nat.le_refl _, fun _ _ => rfl⟩⟩

set_option maxHeartbeats 8000000 in
set_option maxRecDepth 100000 in
theorem iany_short (s : ByteArray) (w : World) (h8 : s.size ≤ 8) :
    Calls Tryz.prog 58 #[.string s, .string ⟨#[32, 93]⟩] w fun e w' => e = .returned (.int .i64 (Lib.indexAny s.data.toList [32, 93])) ∧ Below w.heap.size w w' := by
  have h8z : decide ((8 : Int) < (s.size : Int)) = false := decide_eq_false (by omega)
  have HU := Lib.hid (fun w => Tryz.strings_shouldUseASCIISet (s.size : Int) w)
  have H0 := Lib.hid ((Below.refl w.heap.size w).alloc (Nat.le_refl _) (.stringIter s 0))
  clear h8
  go_enter Tryz.func58, Tryz.ntmps58
  go_wp2_with (go_at_call 75; (with_reducible refine (HU.out _).mono ?_); rintro e w' ⟨rfl, hw⟩; rw [hw, h8z])
  go_loopg [9, 10] s.size (fun g _ _ wr => ∃ i : Nat, i ≤ s.size ∧ s.size - i ≤ g ∧ wr.heap[w.heap.size]? = some (.stringIter s i) ∧ Below w.heap.size w wr ∧ Lib.NoAny s.data.toList [32, 93] i)
  case atStart => exact ⟨0, by omega, by omega, w.iter_heap s 0, H0.out, Lib.NoAny.zero _ _⟩
  case round =>
    obtain ⟨i, hig, hig2, hit, hbw, hno⟩ := hrel
    have HN := Lib.hid hno
    have Hbw := Lib.hid hbw
    have Hit := Lib.hid hit
    clear hno
    by_cases hi : i < s.size
    · cases gk with
      | zero => exact absurd hig2 (by omega)
      | succ g =>
        have hnx := fun ty => run_next_at wr w.heap.size s i ty hit hi
        obtain ⟨x, hx⟩ : ∃ x : UInt8, s[i]'hi = x := ⟨_, rfl⟩
        have hxl : s.data.toList[i]? = some x := by rw [← hx]; exact Lib.data_getElem? s i hi
        have Hxl := Lib.hid hxl
        by_cases hx128 : x.toNat < 128
        · rw [decode_ascii s i hi (by rw [hx]; exact hx128), hx] at hnx
          obtain ⟨k1, k2, _⟩ := iter_set (j := i + 1) hit hbw
          have Hk1 := Lib.hid k1
          have Hk2 := Lib.hid k2
          clear k1 k2 hit hbw hxl hx
          generalize ({ wr with heap := wr.heap.setIfInBounds w.heap.size (.stringIter s (i + 1)) } : World) = w1 at *
          have HR := Lib.hid (Tryz.strings_IndexRune_ascii ⟨#[32, 93]⟩ (x.toNat : Int) w1 (by omega) (by omega))
          have hback : ((x.toNat : Int)).toNat.toUInt8 = x := by simp
          have hcon := Lib.contains_iff_indexByte [32, 93] x
          have Hg := Lib.hid hig2
          have Hi := Lib.hid hi
          clear hig2
          cases hin : ([32, 93] : List UInt8).contains x
          · rw [hin] at hcon
            have hlt : ¬ ((0 : Int) ≤ Lib.indexByte [32, 93] x) := of_decide_eq_false hcon.symm
            have Hin := Lib.hid hin
            clear hcon hin
            go_wp2_with (go_at_call 74; (with_reducible refine HR.out.mono ?_); rintro e w' ⟨rfl, hw⟩; rw [hw, hback])
            go_roundg g
            case measure => have := Hg.out; omega
            case rel => exact ⟨i + 1, Hi.out, by have := Hg.out; omega, Hk1.out, Hk2.out, HN.out.succ Hxl.out Hin.out⟩
          · rw [hin] at hcon
            have hge : (0 : Int) ≤ Lib.indexByte [32, 93] x := of_decide_eq_true hcon.symm
            have Hin := Lib.hid hin
            clear hcon hin
            go_wp2_with (go_at_call 74; (with_reducible refine HR.out.mono ?_); rintro e w' ⟨rfl, hw⟩; rw [hw, hback])
            go_ret
            exact ⟨by rw [Lib.indexAny_hit HN.out Hxl.out Hin.out]; rfl, Hk2.out⟩
        · obtain ⟨d1, d2, d3, d4, d5⟩ := high_step s i hi (by rw [List.getD_eq_getElem?_getD, hxl]; show 128 ≤ x.toNat; omega)
          obtain ⟨r, n, hd⟩ : ∃ r n, Utf8.decode s i = (r, n) := ⟨_, _, rfl⟩
          rw [hd] at d1 d2 d3 d4 d5 hnx
          obtain ⟨k1, k2, _⟩ := iter_set (j := i + n) hit hbw
          have Hk1 := Lib.hid k1
          have Hk2 := Lib.hid k2
          have Hns := Lib.hid (noany_skip (n := n) HN.out d5)
          have Hn := Lib.hid d4
          have Hn1 := Lib.hid d3
          have Hg := Lib.hid hig2
          clear k1 k2 hit hbw hxl hx hd d5 hx128 hig2
          generalize hw1 : ({ wr with heap := wr.heap.setIfInBounds w.heap.size (.stringIter s (i + n)) } : World) = w1 at *
          have HR := Lib.hid (irune_any (r : Int) w1 d2 (by omega))
          have Hsz := Lib.hid (show w.heap.size < w1.heap.size from (Array.getElem?_eq_some_iff.1 Hk1.out).1)
          clear hw1 d1 d2 d3 d4
          go_wp2_with (go_at_call 74; (with_reducible refine HR.out.mono ?_); rintro e w2 ⟨rfl, hb2⟩; have Hb2 := Lib.hid hb2; clear hb2)
          go_roundg g
          case measure => have := Hg.out; have := Hn1.out; omega
          case rel => exact ⟨i + n, Hn.out, by have := Hg.out; have := Hn1.out; omega, (Hb2.out.block _ Hsz.out).trans Hk1.out, Hk2.out.trans (Hb2.out.mono (Nat.le_of_lt Hsz.out)), Hns.out⟩
    · obtain rfl : i = s.size := by omega
      have hnx := fun ty => run_next_at_end wr w.heap.size s s.size ty hit hi
      clear hit hbw hig2
      go_wp2
      go_ret
      exact ⟨by rw [Lib.indexAny_none (by rw [← Lib.size_eq]; exact HN.out)]; rfl, Hbw.out⟩
end Go.Proofs.YtpjadeihackkpaaGreatDoor

/- strings.IndexAny finds the first space or closing bracket, whatever the string's bytes. -/
namespace Go.Proofs.YtpjadeihackkpaaGreatDoor
open Go.RowKit Go.Shelf Fl

theorem idx_any (x : List Nat) (hx : ∀ c ∈ x, c < 256) (hn : x.length ≤ 1000000) : IdxAt x := by
  intro w
  obtain ⟨j, hj, h1, h2, hr⟩ := idx_of x hx
  have hd : (str x).data.toList = x.map UInt8.ofNat := rfl
  have hd2 : ((⟨#[32, 93]⟩ : ByteArray)).data.toList = [32, 93] := rfl
  have h : Calls Tryz.prog 58 #[.string (str x), .string ⟨#[32, 93]⟩] w fun e w' => e = .returned (.int .i64 (Lib.indexAny (x.map UInt8.ofNat) [32, 93])) ∧ Below w.heap.size w w' := by
    by_cases h8 : (str x).size ≤ 8
    · exact iany_short (str x) w h8
    · have hl := Tryz.strings_IndexAny_long set_zero (str x) ⟨#[32, 93]⟩ w (by decide) (by omega) (by rw [str_size]; omega) (by decide) (fun i b hb => by
        rw [hd2] at hb
        have hm := List.mem_of_getElem? hb
        simp only [List.mem_cons, List.not_mem_nil, or_false] at hm
        rcases hm with rfl | rfl <;> decide)
      rw [hd, hd2] at hl
      refine hl.mono ?_
      rintro e w' ⟨h1, rfl⟩
      exact ⟨h1, ((Below.refl _ _).alloc (Nat.le_refl _) _).alloc (by simp) _⟩
  refine h.mono ?_
  rintro e w' ⟨rfl, hb⟩
  refine ⟨hb, j, hj, h1, h2, ?_⟩
  rcases hr with ⟨g1, g2⟩ | ⟨g1, g2⟩
  · exact .inl ⟨g1, by rw [g2]⟩
  · exact .inr ⟨g1, by rw [g2]⟩
end Go.Proofs.YtpjadeihackkpaaGreatDoor

/- How a statement that answers true, and writes into new memory only, is lifted from its contract; how byte slices that come in are read as lists. -/
namespace Go.Proofs.YtpjadeihackkpaaGreatDoor
open Go.ChangeShapes Go.WideShapes Go.ChangeAt Go.RowKit Go.Deep

section
variable {H : Type} {enc : TypeId × Value → H} {P : Program}

theorem below_trodAll (hl : laidOutB P = true) {W W' : World} (hb : Below W.heap.size W W') : ∀ {ts : List TypeId} {vs : List Value} {ds : List (DataW H)} {ps : List MemPlace},
    ts.all (fun t => P.readableRec t && decide (t < P.types.size)) = true → DataW.TrodAll enc P W 0 (fun _ => true) true ts vs ds ps →
    DataW.TrodAll enc P W' 0 (fun b => decide (b < W.heap.size)) true ts vs ds ps
  | [], vs, ds, ps, _, h => by
    obtain ⟨rfl, rfl, rfl⟩ := trodAll_nil h
    exact rfl
  | t :: ts, vs, ds, ps, ht, h => by
    obtain ⟨v, vs', d, ds', p, q, rfl, rfl, rfl, h0, h1⟩ := trodAll_cons h
    simp only [List.all_cons, Bool.and_eq_true, decide_eq_true_eq] at ht
    have hlt : ∀ x ∈ p, x.block < W.heap.size := fun x hx => h.lt x (by simp [hx])
    exact ⟨p, q, Below.trod hl ht.1.1 ht.1.2 h0 hb hlt, below_trodAll hl hb ht.2 h1, rfl⟩

theorem law_post {fn : Func} {s : ChangeSpec} {tb : TypeId} (hl : laidOutB P = true) (hrd : fn.params.toList.all (fun t => P.readableRec t && decide (t < P.types.size)) = true)
    (hvars : s.vars = []) (hrt : fn.resultTypes = #[tb]) (htb : P.underlying tb = some .bool)
    {W W' : World} {args : Array Value} {ds gs : List (DataW H)} {before : List MemPlace} (hW : DataW.Whole enc P fn.params.toList s.vars false W args.toList ds gs before)
    (hspec : s.fn H (ds ++ []) = { results := [.lit (.bool true)], args := ds }) (hb : Below W.heap.size W W') :
    s.post enc P fn false true false false W args (.bool true) W' := by
  have hW' := hW
  obtain ⟨p, q, hA, hV, rfl, _, _⟩ := hW
  rw [hvars] at hV
  obtain ⟨rfl, rfl⟩ := trodVars_none hV
  refine ⟨ds, [], p ++ [], [], p, [], hW', ?_, ?_, ?_, hb.frame _, fun h => by cases h⟩
  · rw [hspec, hrt]
    exact trodAll_mk1 (shut_bool htb _)
  · rw [hspec]
    exact below_trodAll hl hb hrd hA
  · rw [hspec, hvars]
    exact rfl

theorem wf_u8 {n : Int} (h : (Lit.int .u8 n).wf = true) : 0 ≤ n ∧ n < 256 := by
  have h1 : IntKind.u8.min = 0 := rfl
  have h2 : IntKind.u8.max = 255 := rfl
  simp only [Lit.wf, Bool.and_eq_true, decide_eq_true_eq] at h
  omega

theorem nat_u32 {n : Int} (h : (Lit.int .u32 n).wf = true) : ∃ x : Nat, x < 4294967296 ∧ n = (x : Int) := by
  have h1 : IntKind.u32.min = 0 := rfl
  have h2 : IntKind.u32.max = 4294967295 := rfl
  simp only [Lit.wf, Bool.and_eq_true, decide_eq_true_eq] at h
  exact ⟨n.toNat, by omega, by omega⟩

theorem nat_u16 {n : Int} (h : (Lit.int .u16 n).wf = true) : ∃ x : Nat, x < 65536 ∧ n = (x : Int) := by
  have h1 : IntKind.u16.min = 0 := rfl
  have h2 : IntKind.u16.max = 65535 := rfl
  simp only [Lit.wf, Bool.and_eq_true, decide_eq_true_eq] at h
  exact ⟨n.toNat, by omega, by omega⟩

theorem nat_u64 {n : Int} (h : (Lit.int .u64 n).wf = true) : ∃ x : Nat, x < 18446744073709551616 ∧ n = (x : Int) := by
  have h1 : IntKind.u64.min = 0 := rfl
  have h2 : IntKind.u64.max = 18446744073709551615 := rfl
  simp only [Lit.wf, Bool.and_eq_true, decide_eq_true_eq] at h
  exact ⟨n.toNat, by omega, by omega⟩

theorem wf_i64_of {n : Int} (h : (Lit.int .i64 n).wf = true) : -9223372036854775808 ≤ n ∧ n ≤ 9223372036854775807 := by
  have h1 : IntKind.i64.min = -9223372036854775808 := rfl
  have h2 : IntKind.i64.max = 9223372036854775807 := rfl
  simp only [Lit.wf, Bool.and_eq_true, decide_eq_true_eq] at h
  omega

theorem bytes_of_ints {W : World} {A : Option Addr} {len cap : Nat} {zs : List Int} (hl : len ≤ cap) (hm : cap ≤ maxLen) (hz : zs.length = cap) (hnil : A = none → cap = 0)
    (hcell : ∀ a, A = some a → ∀ c, c < cap → W.cell? (a.add c) = some (.int .u8 (zs.getD c 0))) (hw : ∀ n ∈ zs, (Lit.int .u8 n).wf = true) :
    Bytes W A len cap ((zs.take len).map Int.toNat) := by
  refine ⟨by simp; omega, hl, hm, ?_, hnil, fun hn => ?_⟩
  · intro x hx
    obtain ⟨n, hn, rfl⟩ := List.mem_map.1 hx
    have := wf_u8 (hw n (List.mem_of_mem_take hn))
    omega
  · cases A with
    | none => have := hnil rfl; omega
    | some a =>
      obtain ⟨b, o, spot⟩ := a
      have hspot : spot = none := by simpa [Addr.add] using World.cell?_spot (hcell _ rfl 0 (by omega))
      subst hspot
      refine ⟨b, o, rfl, fun i hi => ?_⟩
      have hc := hcell _ rfl i (by omega)
      rw [add_plain] at hc
      have hi' : i < zs.length := by omega
      have e1 : zs.getD i 0 = zs[i] := by rw [List.getD_eq_getElem?_getD, List.getElem?_eq_getElem hi']; rfl
      have e2 : ((zs.take len).map Int.toNat).getD i 0 = zs[i].toNat := by
        rw [List.getD_eq_getElem?_getD, List.getElem?_map, List.getElem?_take, if_pos hi, List.getElem?_eq_getElem hi']; rfl
      have hwf := wf_u8 (hw zs[i] (List.getElem_mem _))
      rw [hc, e1, e2]
      congr 2
      omega

/-- A byte slice that came in. -/
theorem open_bytes {W : World} {t e : TypeId} {v : Value} {d : DataW H} {p : List MemPlace} (ht : P.underlying t = some (.slice e)) (he : P.underlying e = some (.int .u8)) (ce : P.cellsOf e = 1)
    {base : Nat} (hv : Value.okWide P W .any base t v) (h : DataW.Trod enc P W 0 (fun _ => true) true t v d p) : ∃ a n cap l, v = .slice a n cap ∧ Bytes W a n cap l := by
  obtain ⟨a0, len, cap, rfl⟩ := okWide_slice ht hv
  obtain ⟨fuel, hf⟩ := h
  rcases open_ints ht he ce hf with ⟨hcs, _⟩ | ⟨a, len', cap', zs, hcs, _, hl, hm, hz, _, hcell, hw⟩
  · simp [Value.cells] at hcs
    obtain ⟨rfl, rfl, rfl⟩ := hcs
    exact ⟨none, 0, 0, [], rfl, rfl, Nat.le_refl _, by omega, by simp, fun _ => rfl, fun h => absurd h (Nat.lt_irrefl _)⟩
  · simp [Value.cells] at hcs
    obtain ⟨rfl, rfl, rfl⟩ := hcs
    simp only [if_true] at hz
    refine ⟨some a, len, cap, _, rfl, bytes_of_ints (zs := zs) hl hm hz (fun h => by cases h) (fun a' ha' c hc => ?_) hw⟩
    cases ha'
    exact hcell c (by omega)

/-- A slice of byte slices that came in. -/
theorem open_parts {W : World} {t e q : TypeId} {v : Value} {d : DataW H} {p : List MemPlace} (ht : P.underlying t = some (.slice e)) (he : P.underlying e = some (.slice q)) (hq : P.underlying q = some (.int .u8)) (ce : P.cellsOf e = 1) (cq : P.cellsOf q = 1)
    {base : Nat} (hv : Value.okWide P W .any base t v) (h : DataW.Trod enc P W 0 (fun _ => true) true t v d p) : ∃ a n cap ls, v = .slice a n cap ∧ Parts W a n cap ls := by
  obtain ⟨a0, len, cap, rfl⟩ := okWide_slice ht hv
  obtain ⟨fuel, hf⟩ := h
  rcases open_int_rows ht he hq ce cq hf with ⟨hcs, _⟩ | ⟨a, len', cap', A, L, C, Z, hcs, _, hl, hm, _, hrows⟩
  · simp [Value.cells] at hcs
    obtain ⟨rfl, rfl, rfl⟩ := hcs
    exact ⟨none, 0, 0, [], rfl, rfl, Nat.le_refl _, by omega, fun h => absurd h (Nat.lt_irrefl _)⟩
  · simp [Value.cells] at hcs
    obtain ⟨rfl, rfl, rfl⟩ := hcs
    refine ⟨some a, len, cap, (List.range len).map fun r => ((Z r).take (L r)).map Int.toNat, rfl, by simp, hl, hm, fun hn => ?_⟩
    obtain ⟨b, o, spot⟩ := a
    have hspot : spot = none := by simpa [Addr.add] using World.cell?_spot (hrows 0 (by omega)).1
    subst hspot
    have hc0 := (hrows 0 (by omega)).1
    rw [add_plain] at hc0
    refine ⟨b, o, rfl, World.block_lt_of_cell? _ _ hc0, fun i hi => ?_⟩
    obtain ⟨h1, h2, h3, h4, h5, h6, h7⟩ := hrows i (by omega)
    rw [add_plain] at h1
    refine ⟨A i, L i, C i, h1, ?_⟩
    have e1 : ((List.range len).map fun r => ((Z r).take (L r)).map Int.toNat).getD i [] = ((Z i).take (L i)).map Int.toNat := by
      rw [List.getD_eq_getElem?_getD, List.getElem?_map, List.getElem?_range hi]; rfl
    rw [e1]
    exact bytes_of_ints h2 h3 h4 h6 (fun a' ha' c hc => (h7 a' ha').2 c hc) h5
end
end Go.Proofs.YtpjadeihackkpaaGreatDoor

