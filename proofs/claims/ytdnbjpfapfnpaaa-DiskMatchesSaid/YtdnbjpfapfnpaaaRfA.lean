/- The walks of the reference's Find, Used and Named. -/
import Derived.Test.YtdnbjpfapfnpaaaRfM
namespace Go.Proofs.Ytdnbjpfapfnpaaa
open Go.RowKit Go.Maps Go.Shelf

theorem enc_toList (a : List UInt8) : (⟨a.toArray⟩ : ByteArray).toList = a := by
  rw [ByteArray.toList_eq]
theorem enc_eq (a : List UInt8) : ((⟨a.toArray⟩ : ByteArray).toList == (⟨a.toArray⟩ : ByteArray).toList) = true := beq_self_eq_true _
theorem enc_ne {a b : List UInt8} (h : a ≠ b) : ((⟨a.toArray⟩ : ByteArray).toList == (⟨b.toArray⟩ : ByteArray).toList) = false := by
  rw [enc_toList, enc_toList]
  exact beq_eq_false_iff_ne.2 h

/-- A disk of the reference as a value. -/
def refV (room : Int) (a : Option Addr) (n c : Nat) (plan : Int) (down : Bool) : Value := .agg #[.int .i64 room, .slice a n c, .int .i64 plan, .bool down]

theorem findN_at : ∀ {R : List FR} {nm : List UInt8} {i : Nat} (hi : i < R.length), (∀ j (hj : j < R.length), j < i → R[j].f.n ≠ nm) → R[i].f.n = nm → findN FR.n nm R = some R[i]
  | x :: R, nm, 0, _, _, h => by
    unfold findN
    rw [List.find?_cons, show (x.n == nm) = true from by rw [beq_iff_eq]; exact h]
    rfl
  | x :: R, nm, i + 1, hi, hno, h => by
    unfold findN
    rw [List.find?_cons, show (x.n == nm) = false from beq_eq_false_iff_ne.2 (hno 0 (by simp) (Nat.zero_lt_succ _))]
    exact findN_at (R := R) (by simpa using hi) (fun j hj hji => hno (j + 1) (by simpa using hj) (by omega)) h

theorem findN_no : ∀ {R : List FR} {nm : List UInt8}, (∀ j (hj : j < R.length), R[j].f.n ≠ nm) → findN FR.n nm R = none
  | [], _, _ => rfl
  | x :: R, nm, hno => by
    unfold findN
    rw [List.find?_cons, show (x.n == nm) = false from beq_eq_false_iff_ne.2 (hno 0 (by simp))]
    exact findN_no (fun j hj => hno (j + 1) (by simpa using hj))

/-- What Find answers. -/
def FindEnd (w : World) (R : List FR) (nm : List UInt8) (e : Ending) (w' : World) : Prop := Below w.heap.size w w' ∧
  ((∃ (i : Nat) (hi : i < R.length), e = .returned (.int .i64 (i : Int)) ∧ findN FR.n nm R = some R[i]) ∨ (e = .returned (.int .i64 (-1)) ∧ findN FR.n nm R = none))

set_option maxRecDepth 100000 in
set_option maxHeartbeats 6400000 in
theorem rfind_any {X : Nat → Prop} {w : World} {a : Option Addr} {n c : Nat} {R : List FR} (h : RowF X w a n c R) (hX : ∀ b, X b → b < w.heap.size) (nm : List UInt8) (room plan : Int) (down : Bool) :
    Calls Try.prog 39 #[refV room a n c plan down, .string ⟨nm.toArray⟩] w (FindEnd w R nm) := by
  have hb := (Below.refl w.heap.size w).alloc (Nat.le_refl _) (.cells #[.int .i64 room, .slice a n c, .int .i64 plan, .bool down] 29)
  have hc1 : (w.alloc (.cells #[.int .i64 room, .slice a n c, .int .i64 plan, .bool down] 29)).cell? ⟨w.heap.size, 1, none⟩ = some (.slice a n c) := by
    rw [cell_of_row _ _ _ _ _ (0, 0) (heap_alloc_new _ _)]; rfl
  have HR := Lib.hid (h.below hX hb)
  have Hb := Lib.hid hb
  have hlen := h.len
  have hmax : n ≤ 9223372036854775807 := Nat.le_trans h.le h.max
  clear h hb hX
  unfold refV
  go_enter Try.func39, Try.ntmps39
  go_wp2
  generalize w.alloc (.cells #[.int .i64 room, .slice a n c, .int .i64 plan, .bool down] 29) = w1 at *
  go_loopw [5] (fun i wr => ∃ j : Nat, j ≤ n ∧ i = .int .i64 (j : Int) ∧ (∀ k (hk : k < R.length), k < j → R[k].f.n ≠ nm) ∧ wr = w1) (fun i _ => n - (intOf i).toNat)
  case atStart => exact ⟨0, Nat.zero_le _, rfl, fun k _ h => absurd h (Nat.not_lt_zero _), rfl⟩
  case round =>
    obtain ⟨j, hj, rfl, hno, rfl⟩ := hrel
    have HN := Lib.hid hno
    clear hno
    by_cases hlt : j < n
    · obtain ⟨b, o, rfl, _, _⟩ := HR.out.cell (by omega)
      have hjR : j < R.length := by omega
      have hcell := (HR.out.at j hjR).1
      change wr.cell? ⟨b, o + j * 3, none⟩ = some (.string ⟨(R[j].f.n).toArray⟩) at hcell
      have hji : (j : Int) < (n : Int) := by omega
      by_cases he : R[j].f.n = nm
      · have Hf := Lib.hid (show ∃ hi : j < R.length, findN FR.n nm R = some R[j] from ⟨hjR, findN_at hjR (fun k hk hkj => HN.out k hk hkj) he⟩)
        rw [he] at hcell
        have hq : (nm == nm) = true := beq_self_eq_true _
        clear he hjR hlen
        go_wp2
        go_ret
        obtain ⟨hi, hf⟩ := Hf.out
        exact ⟨Hb.out, .inl ⟨j, hi, rfl, hf⟩⟩
      · have hq : (R[j].f.n == nm) = false := beq_eq_false_iff_ne.2 he
        have HN2 := Lib.hid (show ∀ k (hk : k < R.length), k < j + 1 → R[k].f.n ≠ nm from fun k hk hkj => by
          rcases Nat.lt_or_eq_of_le (Nat.le_of_lt_succ hkj) with h1 | h1
          · exact HN.out k hk h1
          · subst h1; exact he)
        generalize R[j].f.n = xn at *
        clear he hjR
        go_wp2
        go_roundw
        case rel => exact ⟨j + 1, hlt, by go_num, HN2.out, by first | rfl | trivial⟩
        case measure => simp [intOf]; omega
    · have hji : ¬ (j : Int) < (n : Int) := by omega
      have Hf := Lib.hid (findN_no (R := R) (nm := nm) (fun k hk => HN.out k hk (by omega)))
      go_wp2
      go_ret
      exact ⟨Hb.out, .inr ⟨rfl, Hf.out⟩⟩
end Go.Proofs.Ytdnbjpfapfnpaaa
