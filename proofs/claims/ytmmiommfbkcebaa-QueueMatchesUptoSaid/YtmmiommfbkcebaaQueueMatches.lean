/- The statement QueueMatches, over what the code's queue is asked to give. -/
import Derived.Test.YtmmiommfbkcebaaQueuePlay
import Derived.Deep.CutBlock
import Derived.Deep.DeepCutAuto
namespace Go.Proofs.Ytmmiommfbkcebaa
open Go.RowKit

theorem remQ_len (l : List Int) (x : Int) : (remQ l x).length ≤ l.length := by
  unfold remQ; split
  · rw [List.length_append, List.length_take, List.length_drop]; omega
  · exact Nat.le_refl _

/-- What an operation leaves ahead of the round's last line. -/
def MaC (K : QKit) (w0 : World) (v : Value) (Bo : Nat) (k x : Int) (t : Nat) (t6 t9 t10 t11 t12 : Value) (wx : World) : Prop :=
  ∃ (L : List Int) (q : Option Addr) (c m : Nat) (X : Nat → Prop) (z : Int) (f : Bool), t6 = .slice q L.length c ∧ t9 = .int .i64 z ∧ t10 = .int .i64 z ∧ t11 = .bool f ∧ t12 = .bool f ∧ m ≤ t ∧ L.length ≤ t ∧ MaP K w0 v Bo k x m L L q c X wx

set_option maxRecDepth 100000 in
set_option maxHeartbeats 6400000 in
theorem queueMatches_any (K : QKit) (p : Option Addr) (n c : Nat) (l : List Int) (po : Option Addr) (no co : Nat) (lo : List Ow) (w : World) (h : Qs w p n c l) (hn : n ≤ 1048576) (hO : Ows w po no co lo) (hr : ∀ x ∈ l, InI x) (hOw : ∀ y ∈ lo, owW y) :
    Calls Try.prog 3 #[.slice p n c, .slice po no co] w fun r w' => r = .returned (.bool true) ∧ Below w.heap.size w w' := by
  have hle := h.le
  have hmx := h.max
  have hlo := hO.le
  have hmo := hO.max
  have HA := Lib.hid (fun w => alive17_any K w)
  have HN := Lib.hid (K.new p n c l w h hn hr)
  by_cases hbig : 100 < n ∨ 100 < no
  · have hor : (100 < n) ∨ (¬ 100 < n ∧ 100 < no) := by omega
    clear h hn hbig hO hOw
    rcases hor with hb | ⟨hb, hb2⟩
    · have hbi : (100 : Int) < (n : Int) := by omega
      clear hb
      go_enter Try.func3, Try.ntmps3
      go_wp2_with fail
      refine HN.out.mono ?_
      rintro r w1 ⟨v, rfl, hS⟩
      obtain ⟨b, rfl⟩ := K.ptr hS
      have HS := Lib.hid (K.base hS)
      clear hS
      go_wp2_with fail
      refine (HA.out _).mono ?_
      rintro r w2 ⟨rfl, hb2⟩
      have HE := Lib.hid (HS.out.trans (hb2.mono HS.out.size))
      clear hb2
      go_wp2
      go_ret
      exact ⟨rfl, HE.out⟩
    · have hbi : ¬ (100 : Int) < (n : Int) := by omega
      have hbi2 : (100 : Int) < (no : Int) := by omega
      clear hb
      go_enter Try.func3, Try.ntmps3
      go_wp2_with fail
      refine HN.out.mono ?_
      rintro r w1 ⟨v, rfl, hS⟩
      obtain ⟨b, rfl⟩ := K.ptr hS
      have HS := Lib.hid (K.base hS)
      clear hS
      go_wp2_with fail
      refine (HA.out _).mono ?_
      rintro r w2 ⟨rfl, hb2⟩
      have HE := Lib.hid (HS.out.trans (hb2.mono HS.out.size))
      clear hb2
      go_wp2
      go_ret
      exact ⟨rfl, HE.out⟩
  · have hb : ¬ (100 : Int) < (n : Int) := by omega
    have hb2 : ¬ (100 : Int) < (no : Int) := by omega
    have hn2 : n ≤ 100 := by omega
    have hno : no ≤ 100 := by omega
    have HR := Lib.hid (fun W (hW : Below w.heap.size w W) => rnew17_any p n c l W (h.below hW) (by omega))
    have HO := Lib.hid (And.intro hO hOw)
    obtain ⟨L0, hL⟩ : ∃ L, L = newQ l := ⟨_, rfl⟩
    have hLn : L0.length ≤ n := by rw [hL, ← h.len]; exact newQ_len l
    rw [← hL] at HN HR
    clear h hn hbig hL hO hOw
    go_enter Try.func3, Try.ntmps3
    go_wp2_with fail
    refine HN.out.mono ?_
    rintro r w1 ⟨v, rfl, hS⟩
    obtain ⟨b, rfl⟩ := K.ptr hS
    have HS := Lib.hid hS
    clear hS
    go_wp2_with fail
    refine (HR.out _ (K.base HS.out)).mono ?_
    rintro r w2 ⟨q2, k2, rfl, hrow2, hb2⟩
    have HJ0 := Lib.hid (show MaJ K w (.pointer (some ⟨b, 0, none⟩)) 100 (.slice q2 L0.length k2) w2 from ⟨fun b => w1.heap.size ≤ b ∧ b < w2.heap.size, L0, q2, k2, n, rfl, hn2, by omega, K.swap HS.out hb2 (fun b hx => ⟨.inr hx.1, hx.2⟩), hrow2.items, hrow2.zero, hrow2.form, fun b o e => ⟨hrow2.mem b o e, (hrow2.mem b o e).2⟩⟩)
    clear hrow2 hb2
    go_wp2_with fail
    go_loopw [6, 36] (fun u i wr => ∃ j : Nat, j ≤ no ∧ i = .int .i64 (j : Int) ∧ RowKit.Hid (MaJ K w (.pointer (some ⟨b, 0, none⟩)) (100 + j) u wr)) (fun _ i _ => no - (intOf i).toNat)
    case atStart => exact ⟨0, Nat.zero_le _, rfl, HJ0⟩
    case round =>
      clear HJ0
      obtain ⟨j, hj, rfl, HJ⟩ := hrel
      obtain ⟨X, L, q, cq, m, rfl, hm, hl, hS, hrow⟩ := HJ.out
      by_cases hlt : j < no
      · have hji : (j : Int) < (no : Int) := by omega
        obtain ⟨bo, oo, rfl, hc⟩ := HO.out.1.cell (by omega)
        obtain ⟨e, he⟩ : ∃ e, lo[j]? = some e := ⟨_, List.getElem?_eq_getElem (by rw [HO.out.1.len]; exact hlt)⟩
        have hBelow : Below w.heap.size w wr := K.base hS
        have hc3 : ∀ q u, q < 2 → (owC e)[q]? = some u → wr.cell? ⟨bo, oo + j * 2 + q, none⟩ = some u := fun q u hq hu => cell_below hBelow ((hc j e he q hq).trans hu)
        have c0 := hc3 0 _ (by decide) rfl
        have c1 := hc3 1 _ (by decide) rfl
        rw [Nat.add_zero] at c0
        have hew := HO.out.2 e (List.mem_of_getElem? he)
        obtain ⟨k, x⟩ := e
        have hx : InI x := hew.2
        have Hx := Lib.hid hx
        clear hew hx
        obtain ⟨Z, hP1⟩ := MaP.start (k := k) (x := x) hS hrow
        obtain ⟨Bo, hBo⟩ : ∃ Bo, Bo = wr.heap.size := ⟨_, rfl⟩
        obtain ⟨w1, hw1⟩ : ∃ w1, w1 = wr.alloc (.cells #[.int .i64 k, .int .i64 x] 29) := ⟨_, rfl⟩
        rw [← hBo, ← hw1] at hP1
        change wr.cell? _ = some (.int .i64 k) at c0
        change wr.cell? _ = some (.int .i64 x) at c1
        have d0 : w1.cell? ⟨Bo, 0, none⟩ = some (.int .i64 k) := by rw [cell_of_row _ _ _ _ _ (0, 0) hP1.ho]; rfl
        have d1 : w1.cell? ⟨Bo, 1, none⟩ = some (.int .i64 x) := by rw [cell_of_row _ _ _ _ _ (0, 0) hP1.ho]; rfl
        have HP1 := Lib.hid hP1
        have Hml := Lib.hid (And.intro hm hl)
        clear hc hc3 he hBelow hS hrow HJ hP1
        go_upto_block 2 with fail
        rw [← hBo, ← hw1]
        clear hBo hw1 c0 c1
        go_cut [6, 9, 10, 11, 12] (fun t6 t9 t10 t11 t12 wx => MaC K w (.pointer (some ⟨b, 0, none⟩)) Bo k x (100 + (j + 1)) t6 t9 t10 t11 t12 wx)
        case first =>
          have hkc : k = 0 ∨ (k ≠ 0 ∧ k = 1) ∨ (k ≠ 0 ∧ k ≠ 1 ∧ k = 2) ∨ (k ≠ 0 ∧ k ≠ 1 ∧ k ≠ 2) := by omega
          rcases hkc with rfl | ⟨hk0, rfl⟩ | ⟨hk0, hk1, rfl⟩ | ⟨hk0, hk1, hk2⟩
          · obtain ⟨L7, hL7⟩ : ∃ L7, L7 = pushQ L x := ⟨_, rfl⟩
            obtain ⟨pr, hpr⟩ : ∃ pr, pr = decide (x ∉ L) := ⟨_, rfl⟩
            have Hl7 := Lib.hid (show L7.length ≤ L.length + 1 from by rw [hL7]; exact pushQ_len L x)
            have HR7 := Lib.hid (fun Y w (h : RowQ Y w q L.length cq L) => rpush17_any Y x q _ cq L w h (by have h5 := Hml.out; omega))
            rw [← hL7, ← hpr] at HR7
            have hcode := K.push x HP1.out.s (by have h5 := Hml.out; omega) Hx.out
            rw [← hL7, ← hpr] at hcode
            clear hL7 hpr
            have HS := Lib.hid (show Calls Try.prog 11 #[.pointer (some ⟨b, 0, none⟩), .int .i64 x] w1 fun r w' => r = .returned (.bool pr) ∧ K.S w Z w' (m + 1) (.pointer (some ⟨b, 0, none⟩)) (L7) ∧ (∀ b, Z b → w'.heap[b]? = w1.heap[b]?) ∧ Below w.heap.size w1 w' from hcode)
            have HP1b := HP1
            clear HP1
            go_wp2_with fail
            refine HS.out.mono ?_
            rintro r w2 ⟨rfl, hS2, hk2, hb2⟩
            have hP2 := HP1b.out.code hS2 hk2 hb2
            have y1 : w2.cell? ⟨Bo, 1, none⟩ = some (.int .i64 x) := by rw [cell_of_row _ _ _ _ _ (0, 0) hP2.ho]; rfl
            have HC := Lib.hid (HR7.out _ w2 hP2.row)
            have HP2 := Lib.hid hP2
            clear hS2 hk2 hb2 hP2
            go_wp2_with fail
            refine HC.out.mono ?_
            rintro r w6 ⟨q6, k6, rfl, hrow6, hb6⟩
            obtain ⟨Z6, hE7⟩ := HP2.out.ref hb6 hrow6
            clear hrow6 hb6
            have HE7 := Lib.hid hE7
            clear hE7
            go_wp2_with fail
            go_meet
            exact ⟨_, _, _, _, _, _, _, rfl, rfl, rfl, rfl, rfl, by have h5 := Hml.out; omega, by have h5 := Hml.out; have h6 := Hl7.out; omega, HE7.out⟩
          · cases L with
            | nil =>
              have HS := Lib.hid (show Calls Try.prog 13 #[.pointer (some ⟨b, 0, none⟩)] w1 fun r w' => r = .returned (.tuple #[.int .i64 0, .bool false]) ∧ K.S w Z w' (m + 1) (.pointer (some ⟨b, 0, none⟩)) ([]) ∧ (∀ b, Z b → w'.heap[b]? = w1.heap[b]?) ∧ Below w.heap.size w1 w' from K.pop HP1.out.s (by have h5 := Hml.out; omega))
              have HP1b := HP1
              clear HP1
              go_wp2_with fail
              refine HS.out.mono ?_
              rintro r w2 ⟨rfl, hS2, hk2, hb2⟩
              have hP2 := HP1b.out.code hS2 hk2 hb2
              have y1 : w2.cell? ⟨Bo, 1, none⟩ = some (.int .i64 x) := by rw [cell_of_row _ _ _ _ _ (0, 0) hP2.ho]; rfl
              have HC := Lib.hid (rpop17_no q cq w2)
              have HP2 := Lib.hid hP2
              clear hS2 hk2 hb2 hP2
              go_wp2_with fail
              refine HC.out.mono ?_
              rintro r w6 ⟨rfl, hb6⟩
              have hE7 := HP2.out.turned hb6
              clear hb6
              have HE7 := Lib.hid hE7
              clear hE7
              go_wp2_with fail
              go_meet
              exact ⟨_, _, _, _, _, _, _, rfl, rfl, rfl, rfl, rfl, by have h5 := Hml.out; omega, by have h5 := Hml.out; simp only [List.length_nil] at h5 ⊢; omega, HE7.out⟩
            | cons y L' =>
              have HS := Lib.hid (show Calls Try.prog 13 #[.pointer (some ⟨b, 0, none⟩)] w1 fun r w' => r = .returned (.tuple #[.int .i64 y, .bool true]) ∧ K.S w Z w' (m + 1) (.pointer (some ⟨b, 0, none⟩)) (L') ∧ (∀ b, Z b → w'.heap[b]? = w1.heap[b]?) ∧ Below w.heap.size w1 w' from K.pop HP1.out.s (by have h5 := Hml.out; omega))
              have HP1b := HP1
              clear HP1
              go_wp2_with fail
              refine HS.out.mono ?_
              rintro r w2 ⟨rfl, hS2, hk2, hb2⟩
              have hP2 := HP1b.out.code hS2 hk2 hb2
              have y1 : w2.cell? ⟨Bo, 1, none⟩ = some (.int .i64 x) := by rw [cell_of_row _ _ _ _ _ (0, 0) hP2.ho]; rfl
              have HC := Lib.hid (rpop17_any _ y q L'.length cq L' w2 hP2.row)
              have HP2 := Lib.hid hP2
              clear hS2 hk2 hb2 hP2
              go_wp2_with fail
              refine HC.out.mono ?_
              rintro r w6 ⟨q6, k6, rfl, hrow6, hb6⟩
              obtain ⟨Z6, hE7⟩ := HP2.out.ref hb6 (hrow6.mono (fun b hb => .inl hb))
              clear hrow6 hb6
              have HE7 := Lib.hid hE7
              clear hE7
              go_wp2_with fail
              go_meet
              exact ⟨_, _, _, _, _, _, _, rfl, rfl, rfl, rfl, rfl, by have h5 := Hml.out; omega, by have h5 := Hml.out; simp only [List.length_cons] at h5 ⊢; omega, HE7.out⟩
          · obtain ⟨L7, hL7⟩ : ∃ L7, L7 = remQ L x := ⟨_, rfl⟩
            obtain ⟨pr, hpr⟩ : ∃ pr, pr = decide (x ∈ L) := ⟨_, rfl⟩
            have Hl7 := Lib.hid (show L7.length ≤ L.length + 1 from by rw [hL7]; exact Nat.le_succ_of_le (remQ_len L x))
            have HR7 := Lib.hid (fun Y w (h : RowQ Y w q L.length cq L) => rremove17_any Y x q _ cq L w h (by have h5 := Hml.out; omega))
            rw [← hL7, ← hpr] at HR7
            have hcode := K.remove x HP1.out.s (by have h5 := Hml.out; omega) Hx.out
            rw [← hL7, ← hpr] at hcode
            clear hL7 hpr
            have HS := Lib.hid (show Calls Try.prog 15 #[.pointer (some ⟨b, 0, none⟩), .int .i64 x] w1 fun r w' => r = .returned (.bool pr) ∧ K.S w Z w' (m + 1) (.pointer (some ⟨b, 0, none⟩)) (L7) ∧ (∀ b, Z b → w'.heap[b]? = w1.heap[b]?) ∧ Below w.heap.size w1 w' from hcode)
            have HP1b := HP1
            clear HP1
            go_wp2_with fail
            refine HS.out.mono ?_
            rintro r w2 ⟨rfl, hS2, hk2, hb2⟩
            have hP2 := HP1b.out.code hS2 hk2 hb2
            have y1 : w2.cell? ⟨Bo, 1, none⟩ = some (.int .i64 x) := by rw [cell_of_row _ _ _ _ _ (0, 0) hP2.ho]; rfl
            have HC := Lib.hid (HR7.out _ w2 hP2.row)
            have HP2 := Lib.hid hP2
            clear hS2 hk2 hb2 hP2
            go_wp2_with fail
            refine HC.out.mono ?_
            rintro r w6 ⟨q6, k6, rfl, hrow6, hb6⟩
            obtain ⟨Z6, hE7⟩ := HP2.out.ref hb6 hrow6
            clear hrow6 hb6
            have HE7 := Lib.hid hE7
            clear hE7
            go_wp2_with fail
            go_meet
            exact ⟨_, _, _, _, _, _, _, rfl, rfl, rfl, rfl, rfl, by have h5 := Hml.out; omega, by have h5 := Hml.out; have h6 := Hl7.out; omega, HE7.out⟩
          · cases L with
            | nil =>
              have HS := Lib.hid (show Calls Try.prog 17 #[.pointer (some ⟨b, 0, none⟩)] w1 fun r w' => r = .returned (.tuple #[.int .i64 0, .bool false]) ∧ K.S w Z w' m (.pointer (some ⟨b, 0, none⟩)) ([]) ∧ (∀ b, Z b → w'.heap[b]? = w1.heap[b]?) ∧ Below w.heap.size w1 w' from K.peek HP1.out.s (by have h5 := Hml.out; omega))
              have HP1b := HP1
              clear HP1
              go_wp2_with fail
              refine HS.out.mono ?_
              rintro r w2 ⟨rfl, hS2, hk2, hb2⟩
              have hP2 := HP1b.out.code hS2 hk2 hb2
              have y1 : w2.cell? ⟨Bo, 1, none⟩ = some (.int .i64 x) := by rw [cell_of_row _ _ _ _ _ (0, 0) hP2.ho]; rfl
              have HC := Lib.hid (rpop17_no q cq w2)
              have HP2 := Lib.hid hP2
              clear hS2 hk2 hb2 hP2
              go_wp2_with fail
              refine HC.out.mono ?_
              rintro r w6 ⟨rfl, hb6⟩
              have hE7 := HP2.out.turned hb6
              clear hb6
              have HE7 := Lib.hid hE7
              clear hE7
              go_wp2_with fail
              go_meet
              exact ⟨_, _, _, _, _, _, _, rfl, rfl, rfl, rfl, rfl, by have h5 := Hml.out; omega, by have h5 := Hml.out; simp only [List.length_nil] at h5 ⊢; omega, HE7.out⟩
            | cons y L' =>
              have HS := Lib.hid (show Calls Try.prog 17 #[.pointer (some ⟨b, 0, none⟩)] w1 fun r w' => r = .returned (.tuple #[.int .i64 y, .bool true]) ∧ K.S w Z w' m (.pointer (some ⟨b, 0, none⟩)) (y :: L') ∧ (∀ b, Z b → w'.heap[b]? = w1.heap[b]?) ∧ Below w.heap.size w1 w' from K.peek HP1.out.s (by have h5 := Hml.out; omega))
              have HP1b := HP1
              clear HP1
              go_wp2_with fail
              refine HS.out.mono ?_
              rintro r w2 ⟨rfl, hS2, hk2, hb2⟩
              have hP2 := HP1b.out.code hS2 hk2 hb2
              have y1 : w2.cell? ⟨Bo, 1, none⟩ = some (.int .i64 x) := by rw [cell_of_row _ _ _ _ _ (0, 0) hP2.ho]; rfl
              have HC := Lib.hid (rpop17_any _ y q L'.length cq L' w2 hP2.row)
              have HP2 := Lib.hid hP2
              clear hS2 hk2 hb2 hP2
              go_wp2_with fail
              refine HC.out.mono ?_
              rintro r w6 ⟨q6, k6, rfl, hrow6, hb6⟩
              have hE7 := HP2.out.turned hb6
              clear hrow6 hb6
              have HE7 := Lib.hid hE7
              clear hE7
              go_wp2_with fail
              go_meet
              exact ⟨_, _, _, _, _, _, _, rfl, rfl, rfl, rfl, rfl, by have h5 := Hml.out; omega, by have h5 := Hml.out; simp only [List.length_cons] at h5 ⊢; omega, HE7.out⟩
        case rest =>
          obtain ⟨L7, q7', c7, m7, Z7, z7, f7, rfl, rfl, rfl, rfl, rfl, hm7, hl7, hE7⟩ := hcut
          clear d0 d1 HP1
          obtain ⟨bb, hbb⟩ : ∃ bb, decide (x ∈ L7) = bb := ⟨_, rfl⟩
          have hzb : 0 ≤ posQ L7 x ↔ bb = true := by rw [posQ_iff, ← hbb, decide_eq_true_iff]
          obtain ⟨Q, q7, qd, qc, kL, kE, kN, kP, kR, kH, kJ⟩ := hE7.kit hm7 hl7 (by omega) hbb Hx.out
          generalize posQ L7 x = zp at hzb kP kR
          have H7 := Lib.hid (And.intro q7 (And.intro qd (And.intro qc kJ)))
          have KL := Lib.hid kL
          have KE := Lib.hid kE
          have KN := Lib.hid kN
          have KP := Lib.hid kP
          have KR := Lib.hid kR
          have KH := Lib.hid kH
          have s7 := qc _ q7
          clear q7 qd qc kL kE kN kP kR kH kJ hE7 hbb hm7 hl7
          cases bb
          all_goals
            simp only [Bool.false_eq_true, iff_false, iff_true] at hzb
            go_wp2_with fail
            go_region_held3 (fun W => W.cell? ⟨Bo, 1, none⟩ = some (.int .i64 x))
              (first | exact s7 | exact s8 | exact s9 | exact s10 | exact s11 | exact s12 | exact s13 | exact s14)
              (first
                | (go_at_call 19; (with_reducible refine (KL.out _ (by first | exact H7.out.1 | exact H7.out.2.1 _ H7.out.1)).mono ?_); rintro r w8 ⟨q8, cq8, rfl, hI8, hQ8⟩; have s8 := H7.out.2.2.1 _ hQ8)
                | (go_at_call 18; (with_reducible refine (KE.out _ _ _ hQ8 hI8).mono ?_); rintro r w9 ⟨rfl, hQ9⟩; have s9 := H7.out.2.2.1 _ hQ9)
                | (go_at_call 20; (with_reducible refine (KN.out _ hQ9).mono ?_); rintro r w10 ⟨rfl, hQ10⟩; have s10 := H7.out.2.2.1 _ hQ10)
                | (go_at_call 21; (with_reducible refine (KP.out _ hQ10).mono ?_); rintro r w11 ⟨rfl, hQ11⟩; have s11 := H7.out.2.2.1 _ hQ11)
                | (go_at_call 23; (with_reducible refine (KH.out _ hQ12).mono ?_); rintro r w13 ⟨rfl, hQ13⟩; have s13 := H7.out.2.2.1 _ hQ13)
                | (go_at_call 22; (with_reducible refine (KR.out _ hQ13).mono ?_); rintro r w14 ⟨rfl, hQ14⟩; have s14 := H7.out.2.2.1 _ hQ14)
                | (go_at_call 22; (with_reducible refine (KR.out _ hQ11).mono ?_); rintro r w12 ⟨rfl, hQ12⟩; have s12 := H7.out.2.2.1 _ hQ12))
            all_goals
              have HJ14 := Lib.hid (H7.out.2.2.2 _ hQ14)
              clear s7 s8 s9 s10 s11 s12 s13 s14 hQ8 hQ9 hQ10 hQ11 hQ12 hQ13 hQ14 hI8
              go_wp2
              go_roundw
              case rel => exact ⟨j + 1, by omega, by go_num, HJ14⟩
              case measure => simp [intOf]; omega
      · have hji : ¬ (j : Int) < (no : Int) := by omega
        have Hb := Lib.hid (K.base hS)
        clear hS hrow HJ
        go_wp2_with fail
        refine (HA.out _).mono ?_
        rintro r w9 ⟨rfl, hb9⟩
        have HE := Lib.hid (Hb.out.trans (hb9.mono Hb.out.size))
        clear hb9
        go_wp2
        go_ret
        exact ⟨rfl, HE.out⟩
end Go.Proofs.Ytmmiommfbkcebaa
