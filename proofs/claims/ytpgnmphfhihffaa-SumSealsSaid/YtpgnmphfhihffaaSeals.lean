/- The walk of the statement SumSeals: it returns true whatever the bytes are. -/
import Derived.Test.YtpgnmphfhihffaaROpen
import Derived.Test.YtpgnmphfhihffaaCat
namespace Go.Proofs.Ytpgnmphfhihffaa
open Go.RowKit Crc

theorem sealL_inj {a b : List Nat} (h : sealL a = sealL b) : a = b := by
  have hl : a.length = b.length := by
    have := congrArg List.length h
    rw [sealL_len, sealL_len] at this
    omega
  have h1 : (sealL a).take a.length = a := List.take_left
  have h2 : (sealL b).take b.length = b := List.take_left
  rw [← h1, ← h2, h, hl]

theorem equal_yes (a a' : Option Addr) (n cap n' cap' : Nat) (l : List Nat) (w : World) (hl : Bytes w a n cap l) (hl' : Bytes w a' n' cap' l) :
    Calls Try.prog 20 #[.slice a n cap, .slice a' n' cap'] w fun e w' => e = .returned (.bool true) ∧ Below w.heap.size w w' := by
  refine (equal_any a a' n cap n' cap' l l w hl hl').mono ?_
  rintro e w' ⟨rfl, hb⟩
  exact ⟨ret_bool (decide_eq_true rfl), hb⟩

theorem open_sealed (a : Option Addr) (n cap : Nat) (l : List Nat) (w : World) (hl : Bytes w a n cap (sealL l)) (hm : n ≤ 100000000000000) :
    Calls Try.prog 18 #[.slice a n cap] w fun e w' => ∃ p n' cp, e = .returned (.tuple #[.slice p n' cp, .bool true]) ∧ Bytes w' p n' cp l ∧ Below w.heap.size w w' := by
  refine (open_any a n cap _ w hl hm).mono ?_
  rintro e w' ⟨hb, ⟨x, hx, p, n', cp, rfl, hB⟩ | ⟨hno, _⟩⟩
  · rw [sealL_inj hx] at hB
    exact ⟨p, n', cp, rfl, hB, hb⟩
  · exact absurd rfl (hno l)

/-- Open and the reference's Open answer alike. -/
def TwoOpens (w : World) (l : List Nat) (e : Ending) (w' : World) (y : Option Addr × Nat × Nat) (is : Bool) (k : List Nat) : Prop :=
  e = .returned (.tuple #[.slice y.1 y.2.1 y.2.2, .bool is]) ∧ Below w.heap.size w w' ∧ Bytes w' y.1 y.2.1 y.2.2 k ∧ ((is = true ∧ sealL k = l) ∨ (is = false ∧ k = [] ∧ ∀ b, sealL b ≠ l))

theorem two_of_open {w w' : World} {l : List Nat} {e : Ending} (h : OpenEnd w l e w') : ∃ y is k, TwoOpens w l e w' y is k := by
  obtain ⟨hb, ⟨x, hx, p, n', cp, rfl, hB⟩ | ⟨hno, rfl⟩⟩ := h
  · exact ⟨(p, n', cp), true, x, rfl, hb, hB, .inl ⟨rfl, hx⟩⟩
  · exact ⟨(none, 0, 0), false, [], rfl, hb, bytes_nil w', .inr ⟨rfl, rfl, hno⟩⟩

theorem two_same {l k k' : List Nat} {is is' : Bool} (h : (is = true ∧ sealL k = l) ∨ (is = false ∧ k = [] ∧ ∀ b, sealL b ≠ l)) (h' : (is' = true ∧ sealL k' = l) ∨ (is' = false ∧ k' = [] ∧ ∀ b, sealL b ≠ l)) : is = is' ∧ k = k' := by
  rcases h with ⟨rfl, h⟩ | ⟨rfl, rfl, h⟩ <;> rcases h' with ⟨rfl, h'⟩ | ⟨rfl, rfl, h'⟩
  · exact ⟨rfl, sealL_inj (h.trans h'.symm)⟩
  · exact absurd h (h' k)
  · exact absurd h' (h k')
  · exact ⟨rfl, rfl⟩

/-- A row of bytes, whatever they are. -/
def U8Row (w : World) (g N : Nat) : Prop := ∃ cur : Array Value, w.heap[g]? = some (.cells cur 5 (0, 0)) ∧ ∀ i, i < N → ∃ z : Int, cur[i]? = some (.int .u8 z)

theorem U8Row.cell {w : World} {g N i : Nat} (h : U8Row w g N) (hi : i < N) : ∃ z : Int, w.cell? ⟨g, i, none⟩ = some (.int .u8 z) := by
  obtain ⟨cur, hg, hc⟩ := h
  obtain ⟨z, hz⟩ := hc i hi
  exact ⟨z, by rw [cell_of_row w g i cur _ _ hg, hz]⟩

theorem U8Row.frozen {w : World} {g N : Nat} (h : U8Row w g N) (i : Nat) : w.frozen? ⟨g, i, none⟩ = false := by
  obtain ⟨cur, hg, _⟩ := h
  simp [World.frozen?, hg]

theorem U8Row.set {w : World} {g N : Nat} (h : U8Row w g N) (i : Nat) (z : Int) : U8Row (w.setCell ⟨g, i, none⟩ (.int .u8 z)) g N := by
  obtain ⟨cur, hg, hc⟩ := h
  refine ⟨cur.setIfInBounds i (.int .u8 z), ?_, fun j hj => ?_⟩
  · simp [World.setCell, Array.getElem?_modify, hg]
  · obtain ⟨z', hz'⟩ := hc j hj
    rw [Array.getElem?_setIfInBounds]
    by_cases e : i = j
    · subst e
      have hlt : i < cur.size := (Array.getElem?_eq_some_iff.1 hz').1
      exact ⟨z, by simp [hlt]⟩
    · exact ⟨z', by rw [if_neg e]; exact hz'⟩

theorem U8Row.below {w w' : World} {g N : Nat} (h : U8Row w g N) (hb : Below w.heap.size w w') : U8Row w' g N := by
  obtain ⟨cur, hg, hc⟩ := h
  exact ⟨cur, (hb.block g (Array.getElem?_eq_some_iff.1 hg).1).trans hg, hc⟩

theorem own_row {w : World} {base : Nat} {v : Value} {m : Nat} {l : List Nat} (h : w.ownsRow base 5 1 v m (u8s l)) (hm : 0 < m) : ∃ g cp, v = .slice (some ⟨g, 0, none⟩) m cp ∧ base ≤ g ∧ m ≤ cp ∧ U8Row w g m := by
  have hlen : l.length = m := by have := h.1; simpa [u8s] using this
  rcases h.2 with ⟨_, h0⟩ | ⟨g, cap', cur, rfl, hbg, hg, hle, _, hsz, htake⟩
  · omega
  · refine ⟨g, cap', rfl, hbg, hle, cur, hg, fun i hi => ?_⟩
    have e1 : (u8s l)[i]? = some (.int .u8 (l.getD i 0 : Nat)) := by
      unfold u8s
      rw [List.getElem?_map, List.getElem?_eq_getElem (by omega), List.getD_eq_getElem?_getD, List.getElem?_eq_getElem (by omega)]; rfl
    rw [← htake, List.getElem?_take, if_pos (by omega)] at e1
    exact ⟨_, by simpa using e1⟩

def IncRel (w2 : World) (g N : Nat) (i : Value) (wr : World) : Prop := ∃ k : Nat, k ≤ N ∧ i = .int .i64 k ∧ U8Row wr g N ∧ Below w2.heap.size w2 wr

set_option maxHeartbeats 1600000 in
theorem sumSeals_any (a : Option Addr) (n cap : Nat) (l : List Nat) (w : World) (hl : Bytes w a n cap l) :
    Calls Try.prog 6 #[.slice a n cap] w fun e w' => e = .returned (.bool true) ∧ Below w.heap.size w w' := by
  have HB := Lib.hid hl
  clear hl
  go_enter Try.func6, Try.ntmps6
  go_wp2_with fail
  refine (few_any _ 1 1 [l] _ (parts_one HB.out _)).mono ?_
  rintro e w0 ⟨⟨b, rfl, hb⟩, rfl⟩
  have hw0 : Below w.heap.size w (w.alloc (.cells #[.slice a n cap] 28)) := (Below.refl _ _).alloc (Nat.le_refl _) _
  generalize w.alloc (.cells #[.slice a n cap] 28) = w0 at *
  have Hb := Lib.hid hb
  clear hb
  cases b
  · go_wp2_with ((with_reducible refine (alive_any _).mono ?_); rintro e w1 ⟨rfl, hb1⟩)
    go_ret
    exact ⟨rfl, hw0.trans (hb1.mono hw0.size)⟩
  · obtain ⟨hm, h60⟩ := Hb.out rfl
    have hfl := mins_flat hm
    have hn : n ≤ 1500 := by rw [← HB.out.len]; simpa using hfl
    clear hm h60 hfl
    go_wp2_with fail
    refine (clone_any a n cap l w0 (HB.out.grow hw0) (by omega)).mono ?_
    rintro e w2 ⟨v, rfl, hown, hb2⟩
    have hw2 : Below w.heap.size w w2 := hw0.trans (hb2.mono hw0.size)
    obtain ⟨p, cp, rfl, hC⟩ := own_slice hown HB.out.byte
    rw [HB.out.len] at hC ⊢
    have HC := Lib.hid hC
    clear hown hC hb2
    go_wp2_with fail
    refine (seal_any p n cp l w2 HC.out (by omega)).mono ?_
    rintro e w3 ⟨v, rfl, hown, hb3⟩
    have hw3 : Below w.heap.size w w3 := hw2.trans (hb3.mono hw2.size)
    have hown : w3.ownsRow w2.heap.size 5 1 v (sealL l).length (u8s (sealL l)) := hown
    rw [sealL_len, HB.out.len] at hown
    obtain ⟨g, cs, rfl, hg, hcs, hrow⟩ := own_row hown (by omega)
    have HS := Lib.hid (bytes_of_own hown (sealL_byte HB.out.byte))
    have Hrow := Lib.hid hrow
    clear hown hrow
    go_wp2_with fail
    refine (open_sealed _ _ _ l w3 HS.out (by omega)).mono ?_
    rintro e w4 ⟨q, nq, cq, rfl, hX, hb4⟩
    have hw4 : Below w.heap.size w w4 := hw3.trans (hb4.mono hw3.size)
    have HX := Lib.hid hX
    clear hX
    go_wp2_with fail
    refine (open_any a n cap l w4 (HB.out.grow hw4) (by omega)).mono ?_
    intro e w5 h5
    obtain ⟨⟨y1, y2, y3⟩, is, k, rfl, hb5, hY, hcase⟩ := two_of_open h5
    have hw5 : Below w.heap.size w w5 := hw4.trans (hb5.mono hw4.size)
    have HY := Lib.hid hY
    have Hcase := Lib.hid hcase
    clear hY hcase h5
    go_wp2_with fail
    refine (ropen_any a n cap l w5 (HB.out.grow hw5) (by omega)).mono ?_
    intro e w6 h6
    obtain ⟨⟨z1, z2, z3⟩, is', k', rfl, hb6, hZ, hcase'⟩ := two_of_open h6
    have hw6 : Below w.heap.size w w6 := hw5.trans (hb6.mono hw5.size)
    obtain ⟨rfl, rfl⟩ := two_same Hcase.out hcase'
    have HZ := Lib.hid hZ
    clear hZ hcase' h6
    go_wp2_with fail
    refine (rseal_any a n cap l w6 (HB.out.grow hw6) (by omega)).mono ?_
    rintro e w7 ⟨v, rfl, hown, hb7⟩
    have hw7 : Below w.heap.size w w7 := hw6.trans (hb7.mono hw6.size)
    obtain ⟨r, cr, rfl, hR⟩ := own_slice hown (sealL_byte HB.out.byte)
    have HR := Lib.hid hR
    have h34 : Below w3.heap.size w3 w4 := hb4
    have h35 : Below w3.heap.size w3 w5 := h34.trans (hb5.mono h34.size)
    have h36 : Below w3.heap.size w3 w6 := h35.trans (hb6.mono h35.size)
    have h37 : Below w3.heap.size w3 w7 := h36.trans (hb7.mono h36.size)
    have h46 : Below w4.heap.size w4 w6 := hb5.trans (hb6.mono hb5.size)
    have h47 : Below w4.heap.size w4 w7 := h46.trans (hb7.mono h46.size)
    have h57 : Below w5.heap.size w5 w7 := hb6.trans (hb7.mono hb6.size)
    clear hown hR h34 h35 h36 h46 hb4 hb5 hb6
    dsimp only
    go_wp2_with fail
    refine (equal_yes _ _ _ _ _ _ (sealL l) w7 (HS.out.grow h37) HR.out).mono ?_
    rintro e w8 ⟨rfl, hb8⟩
    have hw8 : Below w.heap.size w w8 := hw7.trans (hb8.mono hw7.size)
    go_wp2_with fail
    refine (equal_yes _ _ _ _ _ _ l w8 (HX.out.grow (h47.trans (hb8.mono h47.size))) (HB.out.grow hw8)).mono ?_
    rintro e w9 ⟨rfl, hb9⟩
    have hw9 : Below w.heap.size w w9 := hw8.trans (hb9.mono hw8.size)
    have h79 : Below w7.heap.size w7 w9 := hb8.trans (hb9.mono hb8.size)
    go_wp2_with fail
    refine (equal_yes _ _ _ _ _ _ k w9 (HY.out.grow (h57.trans (h79.mono h57.size))) (HZ.out.grow (hb7.trans (h79.mono hb7.size)))).mono ?_
    rintro e w10 ⟨rfl, hb10⟩
    have hw10 : Below w.heap.size w w10 := hw9.trans (hb10.mono hw9.size)
    have h710 : Below w7.heap.size w7 w10 := h79.trans (hb10.mono h79.size)
    have h310 : Below w3.heap.size w3 w10 := h37.trans (h710.mono h37.size)
    have hrow10 := Lib.hid (Hrow.out.below h310)
    have h210 : Below w2.heap.size w2 w10 := hb3.trans (h310.mono hb3.size)
    clear h37 h47 h57 hb8 hb9 hb10 h79 h710 h310 hw3 hw4 hw5 hw6 hw7 hw8 hw9 hb7 hb3
    have hisis : (is == is) = true := by cases is <;> rfl
    go_wp2_with fail
    go_loopw [61] (fun i wr => IncRel w2 g (n + 4) i wr) (fun i _ => n + 4 - (intOf i).toNat)
    case atStart => exact ⟨0, Nat.zero_le _, rfl, hrow10.out, h210⟩
    case round =>
      obtain ⟨j, hj, rfl, hr, hbr⟩ := hrel
      have Hr := Lib.hid hr
      clear hr
      by_cases hlt : j < n + 4
      · obtain ⟨z, hz⟩ := Hr.out.cell hlt
        have hf := Hr.out.frozen j
        have hji : (j : Int) < (n : Int) + 4 := by omega
        go_wp2
        go_roundw
        case rel => exact ⟨j + 1, by omega, by go_num, Hr.out.set j _, hbr.setCell hg _⟩
        case measure => simp [intOf]; omega
      · obtain rfl : j = n + 4 := by omega
        have hji : ¬ ((n : Int) + 4 < (n : Int) + 4) := by omega
        go_wp2_with fail
        refine (alive_any wr).mono ?_
        rintro e w11 ⟨rfl, hb11⟩
        have h211 : Below w2.heap.size w2 w11 := hbr.trans (hb11.mono hbr.size)
        have hw11 : Below w.heap.size w w11 := hw2.trans (h211.mono hw2.size)
        go_wp2_with fail
        refine (equal_yes _ _ _ _ _ _ l w11 (HC.out.grow h211) (HB.out.grow hw11)).mono ?_
        rintro e w12 ⟨rfl, hb12⟩
        go_wp2
        go_ret
        exact ⟨rfl, hw11.trans (hb12.mono hw11.size)⟩
end Go.Proofs.Ytpgnmphfhihffaa
