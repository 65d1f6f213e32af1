import Derived.Test.YtnbddiiedagllaaGreatSSB7
import Derived.Deep.AppendLies
import Derived.Laws.OwnMore
/- The reference's files in memory: a slice of structs of three cells. -/
namespace Go.Proofs.YtnbddiiedagllaaGreat
open Go.RowKit Go.Maps Go.Shelf

structure FR where
 f : F
 pa : Option Addr
 k : Nat

def cells3 (x : FR) : List Value := [encStr x.f.n, .slice x.pa x.f.b.length x.k, .int .i64 (x.f.d : Int)]
def flatF (R : List FR) : List Value := R.flatMap cells3
def FR.n (x : FR) : List UInt8 := x.f.n

theorem flatF_append (A B : List FR) : flatF (A ++ B) = flatF A ++ flatF B := List.flatMap_append ..
theorem flatF_cons (x : FR) (R : List FR) : flatF (x :: R) = cells3 x ++ flatF R := List.flatMap_cons ..
theorem flatF_length : ∀ R : List FR, (flatF R).length = R.length * 3
 | [] => rfl
 | x :: R => by rw [flatF_cons, List.length_append, flatF_length R, List.length_cons]; show 3 + _ = _; omega

theorem flatF_get : ∀ (R : List FR) (i : Nat) (hi : i < R.length) (j : Nat), j < 3 → (flatF R)[i * 3 + j]? = (cells3 R[i])[j]?
 | x :: R, 0, _, j, hj => by
  rw [flatF_cons, Nat.zero_mul, Nat.zero_add, List.getElem?_append_left (by show j < 3; exact hj)]
  rfl
 | x :: R, i + 1, hi, j, hj => by
  rw [flatF_cons, List.getElem?_append_right (by show 3 ≤ _; omega)]
  have := flatF_get R i (by simpa using hi) j hj
  rw [show (i + 1) * 3 + j - (cells3 x).length = i * 3 + j by show (i + 1) * 3 + j - 3 = _; omega, this]
  rfl

theorem flatF_one (R : List FR) : ∀ u ∈ flatF R, u.oneCell' = true := by
 intro u hu
 obtain ⟨x, _, hx⟩ := List.mem_flatMap.1 hu
 simp only [cells3, List.mem_cons, List.not_mem_nil, or_false] at hx
 rcases hx with rfl | rfl | rfl <;> rfl

structure FileB (X : Nat → Prop) (w : World) (x : FR) : Prop where
 bytes : Bytes w x.pa x.f.b.length x.k x.f.b
 form : Formed x.pa x.k
 blk : 0 < x.f.b.length → ∀ a, x.pa = some a → X a.block
 dur : x.f.d ≤ x.f.b.length
 name : x.f.n.length ≤ 9223372036854775807

structure RowF (X : Nat → Prop) (w : World) (a : Option Addr) (n c : Nat) (R : List FR) : Prop where
 len : R.length = n
 le : n ≤ c
 max : c ≤ 9223372036854775807
 form : Formed a c
 cell : 0 < n → ∃ b o, a = some ⟨b, o, none⟩ ∧ X b ∧ ∀ j u, (flatF R)[j]? = some u → w.cell? ⟨b, o + j, none⟩ = some u
 files : ∀ x ∈ R, FileB X w x

theorem FileB.mono {X Y : Nat → Prop} {w w' : World} {x : FR} (h : FileB X w x) (hk : ∀ b, X b → w'.heap[b]? = w.heap[b]?) (hXY : ∀ b, X b → Y b) : FileB Y w' x :=
 ⟨by
  rcases Nat.eq_zero_or_pos x.f.b.length with e | hn
  ·have hb := h.bytes
   exact ⟨hb.len, hb.le, hb.capmax, hb.byte, hb.nil, fun h => absurd h (by omega)⟩
  ·refine h.bytes.keep fun p _ hpa => ?_
   obtain ⟨b, o, e, _⟩ := h.bytes.cell hn
   have e2 := hpa _ e
   exact World.cell?_of_block (hk p.block (by rw [e2]; exact h.blk hn _ e)), h.form, fun hn a ha => hXY _ (h.blk hn a ha), h.dur, h.name⟩

theorem RowF.mono {X Y : Nat → Prop} {w w' : World} {a : Option Addr} {n c : Nat} {R : List FR} (h : RowF X w a n c R) (hk : ∀ b, X b → w'.heap[b]? = w.heap[b]?) (hXY : ∀ b, X b → Y b) : RowF Y w' a n c R := by
 refine ⟨h.len, h.le, h.max, h.form, fun hn => ?_, fun x hx => (h.files x hx).mono hk hXY⟩
 obtain ⟨b, o, e, hX, hc⟩ := h.cell hn
 exact ⟨b, o, e, hXY b hX, fun j u hu => by rw [World.cell?_of_block (hk b hX)]; exact hc j u hu⟩

theorem RowF.below {X : Nat → Prop} {w w' : World} {a : Option Addr} {n c : Nat} {R : List FR} (h : RowF X w a n c R) (hX : ∀ b, X b → b < w.heap.size) (hb : Below w.heap.size w w') : RowF X w' a n c R :=
 h.mono (fun b hx => hb.block b (hX b hx)) (fun _ h => h)

theorem RowF.at {X : Nat → Prop} {w : World} {b o n c : Nat} {R : List FR} (h : RowF X w (some ⟨b, o, none⟩) n c R) (i : Nat) (hi : i < R.length) :
  w.cell? ⟨b, o + i * 3, none⟩ = some (encStr R[i].f.n) ∧ w.cell? ⟨b, o + i * 3 + 1, none⟩ = some (.slice R[i].pa R[i].f.b.length R[i].k) ∧ w.cell? ⟨b, o + i * 3 + 2, none⟩ = some (.int .i64 (R[i].f.d : Int)) := by
 obtain ⟨b', o', e, _, hc⟩ := h.cell (by rw [← h.len]; omega)
 cases e
 refine ⟨?_, ?_, ?_⟩
 ·have := hc (i * 3 + 0) (encStr R[i].f.n) (by rw [flatF_get R i hi 0 (by decide)]; rfl)
  exact this
 ·have := hc (i * 3 + 1) (.slice R[i].pa R[i].f.b.length R[i].k) (by rw [flatF_get R i hi 1 (by decide)]; rfl)
  rw [← Nat.add_assoc] at this
  exact this
 ·have := hc (i * 3 + 2) (.int .i64 (R[i].f.d : Int)) (by rw [flatF_get R i hi 2 (by decide)]; rfl)
  rw [← Nat.add_assoc] at this
  exact this

theorem rowF_nil (X : Nat → Prop) (w : World) : RowF X w none 0 0 [] := ⟨rfl, Nat.le_refl _, by omega, formed_none 0 rfl, fun h => absurd h (Nat.lt_irrefl _), fun _ h => by cases h⟩

theorem rowF_own {X Y : Nat → Prop} {w : World} {base n : Nat} {v : Value} {R : List FR} (h : w.ownsRow base 97 3 v n (flatF R)) (hF : ∀ x ∈ R, FileB X w x) (hXY : ∀ b, X b → Y b) (hY : ∀ b, base ≤ b → b < w.heap.size → Y b) :
  ∃ a c, v = .slice a n c ∧ RowF Y w a n c R := by
 have hlen : R.length = n := by have := h.1; rw [flatF_length] at this; omega
 have hF' : ∀ x ∈ R, FileB Y w x := fun x hx => (hF x hx).mono (fun _ _ => rfl) hXY
 rcases h.2 with ⟨rfl, h0⟩ | ⟨g, cap, cur, rfl, hb, hg, h1, h2, h3, h4⟩
 ·have e : R = [] := List.length_eq_zero_iff.1 (by omega)
  subst e
  subst h0
  exact ⟨none, 0, rfl, rowF_nil Y w⟩
 ·refine ⟨_, cap, rfl, hlen, h1, by rw [maxLen_nat] at h2; exact h2, formed_at _ _ _, fun hn => ⟨g, 0, rfl, hY g hb (Array.getElem?_eq_some_iff.1 hg).1, fun j u hu => ?_⟩, hF'⟩
  have := h.cells (g := g) rfl j u hu
  rw [addr_add] at this
  exact this
end Go.Proofs.YtnbddiiedagllaaGreat

/- The walks of the reference's Find, Used and Named. -/
namespace Go.Proofs.YtnbddiiedagllaaGreat
open Go.RowKit Go.Maps Go.Shelf

def refV (room : Int) (a : Option Addr) (n c : Nat) (plan : Int) (down : Bool) : Value := .agg #[.int .i64 room, .slice a n c, .int .i64 plan, .bool down]

theorem findN_at : ∀ {R : List FR} {nm : List UInt8} {i : Nat} (hi : i < R.length), (∀ j (hj : j < R.length), j < i → R[j].f.n ≠ nm) → R[i].f.n = nm → findN FR.n nm R = some R[i]
 | x :: R, nm, 0, _, _, h => by
  unfold findN
  rw [List.find?_cons, show (x.n == nm) = true from by rw [beq_iff_eq]; exact h]
  rfl
 | x :: R, nm, i + 1, hi, hno, h => by
  unfold findN
  rw [List.find?_cons, show (x.n == nm) = false from beq_eq_false_iff_ne.2 (hno 0 (by simp) (Nat.zero_lt_succ _))]
  exact findN_at (R := R) (by simpa using hi) (fun j hj hji => hno (j + 1) (by simpa using hj) (by omega)) h

theorem findN_no : ∀ {R : List FR} {nm : List UInt8}, (∀ j (hj : j < R.length), R[j].f.n ≠ nm) → findN FR.n nm R = none
 | [], _, _ => rfl
 | x :: R, nm, hno => by
  unfold findN
  rw [List.find?_cons, show (x.n == nm) = false from beq_eq_false_iff_ne.2 (hno 0 (by simp))]
  exact findN_no (fun j hj => hno (j + 1) (by simpa using hj))

def FindEnd (w : World) (R : List FR) (nm : List UInt8) (e : Ending) (w' : World) : Prop := Below w.heap.size w w' ∧
 ((∃ (i : Nat) (hi : i < R.length), e = .returned (.int .i64 (i : Int)) ∧ findN FR.n nm R = some R[i]) ∨ (e = .returned (.int .i64 (-1)) ∧ findN FR.n nm R = none))

set_option maxRecDepth 100000 in
set_option maxHeartbeats 6400000 in
theorem rfind_any {X : Nat → Prop} {w : World} {a : Option Addr} {n c : Nat} {R : List FR} (h : RowF X w a n c R) (hX : ∀ b, X b → b < w.heap.size) (nm : List UInt8) (room plan : Int) (down : Bool) :
  Calls Tryz.prog 108 #[refV room a n c plan down, .string ⟨nm.toArray⟩] w (FindEnd w R nm) := by
 have hb := (Below.refl w.heap.size w).alloc (Nat.le_refl _) (.cells #[.int .i64 room, .slice a n c, .int .i64 plan, .bool down] 25)
 have hc1 : (w.alloc (.cells #[.int .i64 room, .slice a n c, .int .i64 plan, .bool down] 25)).cell? ⟨w.heap.size, 1, none⟩ = some (.slice a n c) := by
  rw [cell_of_row _ _ _ _ _ (0, 0) (heap_alloc_new _ _)]; rfl
 have HR := Lib.hid (h.below hX hb)
 have Hb := Lib.hid hb
 have hlen := h.len
 have hmax : n ≤ 9223372036854775807 := Nat.le_trans h.le h.max
 clear h hb hX
 unfold refV
 go_enter Tryz.func108, Tryz.ntmps108
 go_wp2
 generalize w.alloc (.cells #[.int .i64 room, .slice a n c, .int .i64 plan, .bool down] 25) = w1 at *
 go_loopw [5] (fun i wr => ∃ j : Nat, j ≤ n ∧ i = .int .i64 (j : Int) ∧ (∀ k (hk : k < R.length), k < j → R[k].f.n ≠ nm) ∧ wr = w1) (fun i _ => n - (intOf i).toNat)
 case atStart => exact ⟨0, Nat.zero_le _, rfl, fun k _ h => absurd h (Nat.not_lt_zero _), rfl⟩
 case round =>
  obtain ⟨j, hj, rfl, hno, rfl⟩ := hrel
  have HN := Lib.hid hno
  clear hno
  by_cases hlt : j < n
  ·obtain ⟨b, o, rfl, _, _⟩ := HR.out.cell (by omega)
   have hjR : j < R.length := by omega
   have hcell := (HR.out.at j hjR).1
   change wr.cell? ⟨b, o + j * 3, none⟩ = some (.string ⟨(R[j].f.n).toArray⟩) at hcell
   have hji : (j : Int) < (n : Int) := by omega
   by_cases he : R[j].f.n = nm
   ·have Hf := Lib.hid (show ∃ hi : j < R.length, findN FR.n nm R = some R[j] from ⟨hjR, findN_at hjR (fun k hk hkj => HN.out k hk hkj) he⟩)
    rw [he] at hcell
    have hq : (nm == nm) = true := beq_self_eq_true _
    clear he hjR hlen
    go_wp2
    go_ret
    obtain ⟨hi, hf⟩ := Hf.out
    exact ⟨Hb.out, .inl ⟨j, hi, rfl, hf⟩⟩
   ·have hq : (R[j].f.n == nm) = false := beq_eq_false_iff_ne.2 he
    have HN2 := Lib.hid (show ∀ k (hk : k < R.length), k < j + 1 → R[k].f.n ≠ nm from fun k hk hkj => by
     rcases Nat.lt_or_eq_of_le (Nat.le_of_lt_succ hkj) with h1 | h1
     ·exact HN.out k hk h1
     ·subst h1; exact he)
    generalize R[j].f.n = xn at *
    clear he hjR
    go_wp2
    go_roundw
    case rel => exact ⟨j + 1, hlt, by go_num, HN2.out, by first | rfl | trivial⟩
    case measure => simp [intOf]; omega
  ·have hji : ¬ (j : Int) < (n : Int) := by omega
   have Hf := Lib.hid (findN_no (R := R) (nm := nm) (fun k hk => HN.out k hk (by omega)))
   go_wp2
   go_ret
   exact ⟨Hb.out, .inr ⟨rfl, Hf.out⟩⟩
end Go.Proofs.YtnbddiiedagllaaGreat

/- The walks of the reference's Named and Used. -/
namespace Go.Proofs.YtnbddiiedagllaaGreat
open Go.RowKit Go.Maps Go.Shelf

set_option maxRecDepth 100000 in
set_option maxHeartbeats 6400000 in
theorem rnamed_any (n : List UInt8) (w : World) (hn : n.length ≤ 9223372036854775807) :
  Calls Tryz.prog 117 #[.string ⟨n.toArray⟩] w fun e w' => e = .returned (.bool (named n)) ∧ w' = w := by
 have hsz := encStr_size n
 have hget := Lib.hid (show ∀ k (h : k < (⟨n.toArray⟩ : ByteArray).size) (hk : k < n.length), (⟨n.toArray⟩ : ByteArray)[k]'h = n[k] from fun k _ hk => byte_at n k hk)
 have hsz' := Lib.hid hsz
 generalize hs : (⟨n.toArray⟩ : ByteArray) = s at *
 clear hs
 go_enter Tryz.func117, Tryz.ntmps117
 go_wp2
 go_loopw [3] (fun i wr => ∃ k : Nat, k ≤ n.length ∧ i = .int .i64 (k : Int) ∧ (n.take k).all okByte = true ∧ wr = w) (fun i _ => n.length - (intOf i).toNat)
 case atStart => exact ⟨0, Nat.zero_le _, rfl, by simp, rfl⟩
 case round =>
  obtain ⟨k, hk, rfl, hall, rfl⟩ := hrel
  have Hall := Lib.hid hall
  clear hall
  by_cases hlt : k < n.length
  ·have hlt' : (k : Int) < ((n.length : Nat) : Int) := by omega
   have hks : k < s.size := by rw [hsz'.out]; exact hlt
   obtain ⟨c, hc⟩ : ∃ c : UInt8, n[k] = c := ⟨_, rfl⟩
   have hx : s[k]'hks = c := by rw [hget.out k hks hlt, hc]
   have Hc := Lib.hid hc
   clear hc
   rcases okByte_cases c with ⟨hok, hcase⟩ | ⟨hok, hcase⟩
   ·have Hok := Lib.hid hok
    clear hok
    rcases hcase with hcase | hcase | hcase | hcase
    ·have a1 : (97 : Int) ≤ (c.toNat : Int) := by omega
     have a2 : (c.toNat : Int) ≤ 122 := by omega
     clear hcase
     go_wp2
     go_roundw
     case rel => exact ⟨k + 1, by omega, by go_num, all_next hlt Hall.out (by rw [Hc.out]; exact Hok.out), by first | rfl | trivial⟩
     case measure => simp [intOf]; omega
    ·have a1 : ¬ (97 : Int) ≤ (c.toNat : Int) := by omega
     have a3 : (48 : Int) ≤ (c.toNat : Int) := by omega
     have a4 : (c.toNat : Int) ≤ 57 := by omega
     clear hcase
     go_wp2
     go_roundw
     case rel => exact ⟨k + 1, by omega, by go_num, all_next hlt Hall.out (by rw [Hc.out]; exact Hok.out), by first | rfl | trivial⟩
     case measure => simp [intOf]; omega
    ·have a1 : ¬ (97 : Int) ≤ (c.toNat : Int) := by omega
     have a3 : ¬ (48 : Int) ≤ (c.toNat : Int) := by omega
     have b1 : ((c.toNat : Int) == 45) = true := beq_iff_eq.2 (by omega)
     clear hcase
     go_wp2
     go_roundw
     case rel => exact ⟨k + 1, by omega, by go_num, all_next hlt Hall.out (by rw [Hc.out]; exact Hok.out), by first | rfl | trivial⟩
     case measure => simp [intOf]; omega
    ·have a1 : ¬ (97 : Int) ≤ (c.toNat : Int) := by omega
     have a3 : ¬ (48 : Int) ≤ (c.toNat : Int) := by omega
     have b1 : ((c.toNat : Int) == 45) = false := beq_eq_false_iff_ne.2 (by omega)
     have b2 : ((c.toNat : Int) == 46) = true := beq_iff_eq.2 (by omega)
     clear hcase
     go_wp2
     go_roundw
     case rel => exact ⟨k + 1, by omega, by go_num, all_next hlt Hall.out (by rw [Hc.out]; exact Hok.out), by first | rfl | trivial⟩
     case measure => simp [intOf]; omega
   ·have Hok := Lib.hid hok
    clear hok
    rcases hcase with hcase | hcase | hcase | hcase
    ·have a1 : ¬ (97 : Int) ≤ (c.toNat : Int) := by omega
     have a3 : ¬ (48 : Int) ≤ (c.toNat : Int) := by omega
     have b1 : ((c.toNat : Int) == 45) = false := beq_eq_false_iff_ne.2 (by omega)
     have b2 : ((c.toNat : Int) == 46) = false := beq_eq_false_iff_ne.2 (by omega)
     clear hcase
     go_wp2
     go_ret
     exact ⟨ret_bool (by unfold named; rw [all_bad hlt (by rw [Hc.out]; exact Hok.out), Bool.and_false]), rfl⟩
    ·have a1 : ¬ (97 : Int) ≤ (c.toNat : Int) := by omega
     have a3 : ¬ (48 : Int) ≤ (c.toNat : Int) := by omega
     have b1 : ((c.toNat : Int) == 45) = false := beq_eq_false_iff_ne.2 (by omega)
     have b2 : ((c.toNat : Int) == 46) = false := beq_eq_false_iff_ne.2 (by omega)
     clear hcase
     go_wp2
     go_ret
     exact ⟨ret_bool (by unfold named; rw [all_bad hlt (by rw [Hc.out]; exact Hok.out), Bool.and_false]), rfl⟩
    ·have a1 : ¬ (97 : Int) ≤ (c.toNat : Int) := by omega
     have a3 : (48 : Int) ≤ (c.toNat : Int) := by omega
     have a4 : ¬ (c.toNat : Int) ≤ 57 := by omega
     have b1 : ((c.toNat : Int) == 45) = false := beq_eq_false_iff_ne.2 (by omega)
     have b2 : ((c.toNat : Int) == 46) = false := beq_eq_false_iff_ne.2 (by omega)
     clear hcase
     go_wp2
     go_ret
     exact ⟨ret_bool (by unfold named; rw [all_bad hlt (by rw [Hc.out]; exact Hok.out), Bool.and_false]), rfl⟩
    ·have a1 : (97 : Int) ≤ (c.toNat : Int) := by omega
     have a2 : ¬ (c.toNat : Int) ≤ 122 := by omega
     have a3 : (48 : Int) ≤ (c.toNat : Int) := by omega
     have a4 : ¬ (c.toNat : Int) ≤ 57 := by omega
     have b1 : ((c.toNat : Int) == 45) = false := beq_eq_false_iff_ne.2 (by omega)
     have b2 : ((c.toNat : Int) == 46) = false := beq_eq_false_iff_ne.2 (by omega)
     clear hcase
     go_wp2
     go_ret
     exact ⟨ret_bool (by unfold named; rw [all_bad hlt (by rw [Hc.out]; exact Hok.out), Bool.and_false]), rfl⟩
  ·have hlt' : ¬ (k : Int) < ((n.length : Nat) : Int) := by omega
   have hk2 : k = n.length := by omega
   have hr := Lib.hid (show named n = (decide (1 ≤ n.length) && decide (n.length ≤ 100)) from by have := Hall.out; rw [hk2, List.take_length] at this; unfold named; rw [this, Bool.and_true])
   clear hk2
   by_cases h1 : 1 ≤ n.length
   ·have h1' : (1 : Int) ≤ ((n.length : Nat) : Int) := by omega
    by_cases h2 : n.length ≤ 100
    ·have h2' : ((n.length : Nat) : Int) ≤ 100 := by omega
     have Hr := Lib.hid (show named n = true from by rw [hr.out, decide_eq_true h1, decide_eq_true h2]; rfl)
     go_wp2
     go_ret
     exact ⟨ret_bool Hr.out.symm, rfl⟩
    ·have h2' : ¬ ((n.length : Nat) : Int) ≤ 100 := by omega
     have Hr := Lib.hid (show named n = false from by rw [hr.out, decide_eq_false h2, Bool.and_false])
     go_wp2
     go_ret
     exact ⟨ret_bool Hr.out.symm, rfl⟩
   ·have h1' : ¬ (1 : Int) ≤ ((n.length : Nat) : Int) := by omega
    have Hr := Lib.hid (show named n = false from by rw [hr.out, decide_eq_false h1]; rfl)
    go_wp2
    go_ret
    exact ⟨ret_bool Hr.out.symm, rfl⟩

def usedTo (R : List FR) (j : Nat) : Nat := usedF ((R.take j).map FR.f)
theorem used_take (R : List FR) (j : Nat) (hj : j < R.length) : usedTo R (j + 1) = usedTo R j + R[j].f.b.length := by
 unfold usedTo
 rw [List.take_succ_eq_append_getElem hj, List.map_append]
 unfold usedF
 rw [List.map_append, List.sum_append]
 simp

theorem used_take_le : ∀ (R : List FR) (j : Nat), usedTo R j ≤ usedF (R.map FR.f)
 | [], j => by unfold usedTo; simp
 | x :: R, 0 => Nat.zero_le _
 | x :: R, j + 1 => by
  unfold usedTo
  rw [List.take_succ_cons, List.map_cons, List.map_cons, usedF_cons, usedF_cons]
  have := used_take_le R j
  unfold usedTo at this
  omega

set_option maxRecDepth 100000 in
set_option maxHeartbeats 6400000 in
theorem rused_any {X : Nat → Prop} {w : World} {a : Option Addr} {n c : Nat} {R : List FR} (h : RowF X w a n c R) (hX : ∀ b, X b → b < w.heap.size) (room plan : Int) (down : Bool) (hu : usedF (R.map FR.f) < 9223372036854775808) :
  Calls Tryz.prog 44 #[refV room a n c plan down] w fun e w' => e = .returned (.int .i64 (usedF (R.map FR.f) : Int)) ∧ Below w.heap.size w w' := by
 have hb := (Below.refl w.heap.size w).alloc (Nat.le_refl _) (.cells #[.int .i64 room, .slice a n c, .int .i64 plan, .bool down] 25)
 have hc1 : (w.alloc (.cells #[.int .i64 room, .slice a n c, .int .i64 plan, .bool down] 25)).cell? ⟨w.heap.size, 1, none⟩ = some (.slice a n c) := by
  rw [cell_of_row _ _ _ _ _ (0, 0) (heap_alloc_new _ _)]; rfl
 have HR := Lib.hid (h.below hX hb)
 have Hb := Lib.hid hb
 have hlen := h.len
 have Hlen := Lib.hid hlen
 have hmax : n ≤ 9223372036854775807 := Nat.le_trans h.le h.max
 have Hu := Lib.hid hu
 clear h hb hX hlen hu
 unfold refV
 go_enter Tryz.func44, Tryz.ntmps44
 go_wp2
 generalize w.alloc (.cells #[.int .i64 room, .slice a n c, .int .i64 plan, .bool down] 25) = w1 at *
 go_loopw [3, 4] (fun s i wr => ∃ j : Nat, j ≤ n ∧ i = .int .i64 (j : Int) ∧ s = .int .i64 (usedTo R j : Int) ∧ wr = w1) (fun _ i _ => n - (intOf i).toNat)
 case atStart => exact ⟨0, Nat.zero_le _, rfl, rfl, rfl⟩
 case round =>
  obtain ⟨j, hj, rfl, rfl, rfl⟩ := hrel
  by_cases hlt : j < n
  ·obtain ⟨b, o, rfl, _, _⟩ := HR.out.cell (by omega)
   have hjR : j < R.length := by rw [Hlen.out]; exact hlt
   have hcell := (HR.out.at j hjR).2.1
   have hji : (j : Int) < (n : Int) := by omega
   have h1 := used_take R j hjR
   have h2 := used_take_le R (j + 1)
   have h3 := Hu.out
   have hs1 : (usedTo R j : Int) + (R[j].f.b.length : Int) < 9223372036854775808 := by omega
   have Hs := Lib.hid (show (usedTo R j : Int) + (R[j].f.b.length : Int) = (usedTo R (j + 1) : Int) from by rw [h1]; push_cast; rfl)
   clear h1 h2 h3
   generalize R[j].f.b.length = bl at *
   generalize R[j].pa = pj at *
   generalize R[j].k = kj at *
   clear hjR
   generalize usedTo R j = uj at *
   go_wp2
   go_roundw
   case rel => exact ⟨j + 1, hlt, by go_num, by rw [← Hs.out], by first | rfl | trivial⟩
   case measure => simp [intOf]; omega
  ·have hji : ¬ (j : Int) < (n : Int) := by omega
   have Hs := Lib.hid (show usedTo R j = usedF (R.map FR.f) from by unfold usedTo; rw [List.take_of_length_le (by rw [Hlen.out]; omega)])
   go_wp2
   go_ret
   exact ⟨by rw [← Hs.out]; rfl, Hb.out⟩
end Go.Proofs.YtnbddiiedagllaaGreat

/- The walk of the reference's without. -/
namespace Go.Proofs.YtnbddiiedagllaaGreat
open Go.RowKit Go.Maps Go.Shelf

theorem info_file : (Tryz.prog.info? 97).map (fun i => (i.zero, i.size, i.bytes)) = some (some (.agg #[.string ⟨#[]⟩, .slice none 0 0, .int .i64 0]), 3, 48) := by kernel_rfl

def keptF (nm : List UInt8) (R : List FR) (j : Nat) : List FR := delN FR.n nm (R.take j)
theorem keptF_next {nm : List UInt8} {R : List FR} {j : Nat} (hj : j < R.length) (h : R[j].f.n ≠ nm) : keptF nm R (j + 1) = keptF nm R j ++ [R[j]] := by
 unfold keptF delN
 rw [List.take_succ_eq_append_getElem hj, List.filter_append, List.filter_cons, if_pos (by simp; exact h)]
 rfl
theorem keptF_same {nm : List UInt8} {R : List FR} {j : Nat} (hj : j < R.length) (h : R[j].f.n = nm) : keptF nm R (j + 1) = keptF nm R j := by
 unfold keptF delN
 rw [List.take_succ_eq_append_getElem hj, List.filter_append, List.filter_cons, if_neg (by simp; exact h)]
 simp
theorem keptF_all (nm : List UInt8) (R : List FR) : keptF nm R R.length = delN FR.n nm R := by unfold keptF; rw [List.take_length]
theorem keptF_length (nm : List UInt8) (R : List FR) (j : Nat) : (keptF nm R j).length ≤ j := by
 unfold keptF delN
 exact Nat.le_trans (List.length_filter_le ..) (by rw [List.length_take]; omega)

theorem cells3_one (x : FR) : ∀ u ∈ cells3 x, u.oneCell' = true := by
 intro u hu
 simp only [cells3, List.mem_cons, List.not_mem_nil, or_false] at hu
 rcases hu with rfl | rfl | rfl <;> rfl

set_option maxRecDepth 100000 in
set_option maxHeartbeats 6400000 in
theorem rwithout_any {X : Nat → Prop} {w : World} {a : Option Addr} {n c : Nat} {R : List FR} (h : RowF X w a n c R) (hX : ∀ b, X b → b < w.heap.size) (hn : n ≤ 1000000) (nm : List UInt8) :
  Calls Tryz.prog 119 #[.slice a n c, .string ⟨nm.toArray⟩] w fun e w' => ∃ v, e = .returned v ∧ w'.ownsRow w.heap.size 97 3 v (delN FR.n nm R).length (flatF (delN FR.n nm R)) ∧ Below w.heap.size w w' := by
 obtain ⟨i0, hi, hz0, hz1, hz2⟩ := info_parts info_file
 have HR := Lib.hid (fun (w1 : World) (hb : Below w.heap.size w w1) => h.below hX hb)
 have hlen := h.len
 have Hlen := Lib.hid hlen
 have hmax : n ≤ 9223372036854775807 := Nat.le_trans h.le h.max
 have hg := Lib.hid (World.ownsRow_nil w w.heap.size 97 3)
 clear h hX hlen
 go_enter Tryz.func119, Tryz.ntmps119
 go_wp2
 go_loopw [5, 6] (fun s i wr => ∃ j : Nat, j ≤ n ∧ i = .int .i64 (j : Int) ∧ wr.ownsRow w.heap.size 97 3 s (keptF nm R j).length (flatF (keptF nm R j)) ∧ Below w.heap.size w wr) (fun _ i _ => n - (intOf i).toNat)
 case atStart => exact ⟨0, Nat.zero_le _, rfl, hg.out, Below.refl _ _⟩
 case round =>
  obtain ⟨j, hj, rfl, hown, hb⟩ := hrel
  have Hown := Lib.hid hown
  have Hb := Lib.hid hb
  by_cases hlt : j < n
  ·have hR := HR.out wr hb
   obtain ⟨b, o, rfl, _, _⟩ := hR.cell (by omega)
   have hjR : j < R.length := by rw [Hlen.out]; exact hlt
   obtain ⟨k0, k1, k2⟩ := hR.at j hjR
   change wr.cell? ⟨b, o + j * 3, none⟩ = some (.string ⟨(R[j].f.n).toArray⟩) at k0
   have hji : (j : Int) < (n : Int) := by omega
   have Hkl := Lib.hid (keptF_length nm R j)
   by_cases he : R[j].f.n = nm
   ·have Hs := Lib.hid (keptF_same hjR he)
    rw [he] at k0
    have hq : (nm == nm) = true := beq_self_eq_true _
    clear hown hb hR he k1 k2 hjR
    go_wp2
    go_roundw
    case rel => exact ⟨j + 1, hlt, by go_num, by rw [Hs.out]; exact Hown.out, Hb.out⟩
    case measure => simp [intOf]; omega
   ·have Hs := Lib.hid (keptF_next hjR he)
    have hq : (R[j].f.n == nm) = false := beq_eq_false_iff_ne.2 he
    have hal : Below wr.heap.size wr (wr.alloc (.cells #[.string ⟨(R[j].f.n).toArray⟩, .slice R[j].pa R[j].f.b.length R[j].k, .int .i64 (R[j].f.d : Int)] 97)) := (Below.refl _ _).alloc (Nat.le_refl _) _
    have Hown2 := Lib.hid (hown.alloc (.cells #[.string ⟨(R[j].f.n).toArray⟩, .slice R[j].pa R[j].f.b.length R[j].k, .int .i64 (R[j].f.d : Int)] 97))
    have Hnews := Lib.hid (World.news_of_block (heap_alloc_new wr (.cells #[.string ⟨(R[j].f.n).toArray⟩, .slice R[j].pa R[j].f.b.length R[j].k, .int .i64 (R[j].f.d : Int)] 97)))
    have Hal := Lib.hid hal
    clear hown hb hR he hal
    go_wp2_with (first
     | (at_builtin; refine wpList_append_own _ rfl _ _ 22 rfl w.heap.size 97 i0 _ 3 48 Tryz.underlying22 hi hz0 hz1 hz2 rfl (by decide) _ _ _ rfl Hown2.out ⟨wr.heap.size, 0, none⟩ 1 1 (cells3 R[j]) rfl rfl Hnews.out (cells3_one _) (by rw [maxLen_nat]; have := Hkl.out; omega) (by have := Hkl.out; omega) (Nat.le_trans Hb.out.size Hal.out.size) ?_; intro v' w' g1 g2 _)
     | go_in)
    have hlen2 : (keptF nm R (j + 1)).length = (keptF nm R j).length + 1 := by rw [Hs.out, List.length_append]; rfl
    have hg1 : w'.ownsRow w.heap.size 97 3 v' (keptF nm R (j + 1)).length (flatF (keptF nm R (j + 1))) := by
     rw [hlen2, Hs.out, flatF_append]
     have e : flatF [R[j]] = cells3 R[j] := by rw [flatF_cons]; exact List.append_nil _
     rw [e]
     exact g1
    have Hg1 := Lib.hid hg1
    have Hg2 := Lib.hid ((Hb.out.trans (Hal.out.mono Hb.out.size)).grown g2 (Nat.le_trans Hb.out.size Hal.out.size) (fun k hk => (Hown2.out.lt k hk).1))
    clear g1 g2 hg1 hlen2
    go_wp2
    go_roundw
    case rel => exact ⟨j + 1, hlt, by go_num, Hg1.out, Hg2.out⟩
    case measure => simp [intOf]; omega
  ·have hji : ¬ (j : Int) < (n : Int) := by omega
   have e : j = R.length := by rw [Hlen.out]; omega
   have Hend := Lib.hid (show wr.ownsRow w.heap.size 97 3 u5 (delN FR.n nm R).length (flatF (delN FR.n nm R)) from by have := hown; rw [e, keptF_all] at this; exact this)
   clear hown hb e
   go_wp2
   go_ret
   exact ⟨_, rfl, Hend.out, Hb.out⟩
end Go.Proofs.YtnbddiiedagllaaGreat

/- Parts of slices of files; appending to files. -/
namespace Go.Proofs.YtnbddiiedagllaaGreat
open Go.RowKit Go.Maps Go.Shelf

section
variable {P : Program} {T E : TypeId}

theorem file_size (hin : (P.info? E).map (fun i => (i.zero, i.size, i.bytes)) = some (some (.agg #[.string ⟨#[]⟩, .slice none 0 0, .int .i64 0]), 3, 48)) (hT : P.underlying T = some (.slice E)) :
  P.underlying T = some (.slice (P.elem T)) ∧ ∀ w : World, (sizeOf (P.elem T)).run P w = .ok 3 w := by
 obtain ⟨i, hi, _, hsz, _⟩ := info_parts hin
 have hE : P.elem T = E := by simp [Program.elem, hT]
 exact ⟨by rw [hT]; simp [Program.elem, hT], fun w => by rw [hE]; simp [sizeOf, typeInfo, hi, hsz]⟩

theorem headF (hT : P.underlying T = some (.slice E)) (hin : (P.info? E).map (fun i => (i.zero, i.size, i.bytes)) = some (some (.agg #[.string ⟨#[]⟩, .slice none 0 0, .int .i64 0]), 3, 48)) {a : Option Addr} {n c k : Nat} (hk : k ≤ n) (hn : n ≤ c) (hf : Formed a c) :
  ∀ (w : World) (kl : IntKind), (Instr.slice T (.slice a n c) none (some (.int kl (k : Int))) none).run P w = .ok (.slice a k c) w := by
 obtain ⟨hT', hsize⟩ := file_size hin hT
 have ha : (if c = 0 then a else a.map (·.add (0 * 3))) = a := by
  by_cases h : c = 0
  ·rw [if_pos h]
  ·rw [if_neg h]
   obtain ⟨b, o, rfl⟩ := hf (by omega)
   simp [addr_add]
 intro w kl
 rw [run_slice_h w T a n c hT' kl (k : Int) (by omega) (by omega), hsize]
 show Result.ok (Value.slice (if c = 0 then a else a.map (·.add (0 * 3))) (k - 0) (c - 0)) w = _
 rw [ha]; rfl

def tailA (a : Option Addr) (c k : Nat) : Option Addr := if c = k then a else a.map (·.add (k * 3))

theorem tailF (hT : P.underlying T = some (.slice E)) (hin : (P.info? E).map (fun i => (i.zero, i.size, i.bytes)) = some (some (.agg #[.string ⟨#[]⟩, .slice none 0 0, .int .i64 0]), 3, 48)) {a : Option Addr} {n c k : Nat} (hk : k ≤ n) :
  ∀ (w : World) (kl : IntKind), (Instr.slice T (.slice a n c) (some (.int kl (k : Int))) none none).run P w = .ok (.slice (tailA a c k) (n - k) (c - k)) w := by
 obtain ⟨hT', hsize⟩ := file_size hin hT
 intro w kl
 rw [run_slice_l w T a n c hT' kl (k : Int) (by omega) (by omega), hsize]
 rfl
end

theorem flatF_take : ∀ (R : List FR) (k : Nat), k ≤ R.length → flatF (R.take k) = (flatF R).take (k * 3)
 | R, 0, _ => by simp [flatF]
 | [], k + 1, h => by simp at h
 | x :: R, k + 1, h => by
  rw [List.take_succ_cons, flatF_cons, flatF_cons, flatF_take R k (by simpa using h), List.take_append]
  have e : (cells3 x).length = 3 := rfl
  rw [e, List.take_of_length_le (show (cells3 x).length ≤ (k + 1) * 3 by rw [e]; omega), show (k + 1) * 3 - 3 = k * 3 by omega]

theorem flatF_drop : ∀ (R : List FR) (k : Nat), k ≤ R.length → flatF (R.drop k) = (flatF R).drop (k * 3)
 | R, 0, _ => by simp
 | [], k + 1, h => by simp at h
 | x :: R, k + 1, h => by
  rw [List.drop_succ_cons, flatF_cons, flatF_drop R k (by simpa using h), List.drop_append]
  have e : (cells3 x).length = 3 := rfl
  rw [e, List.drop_of_length_le (show (cells3 x).length ≤ (k + 1) * 3 by rw [e]; omega), show (k + 1) * 3 - 3 = k * 3 by omega, List.nil_append]

theorem RowF.take {X : Nat → Prop} {w : World} {a : Option Addr} {n c k : Nat} {R : List FR} (h : RowF X w a n c R) (hk : k ≤ n) : RowF X w a k c (R.take k) := by
 refine ⟨by rw [List.length_take, h.len]; omega, Nat.le_trans hk h.le, h.max, h.form, fun h0 => ?_, fun x hx => h.files x (List.mem_of_mem_take hx)⟩
 obtain ⟨b, o, e, hX, hc⟩ := h.cell (by omega)
 refine ⟨b, o, e, hX, fun j u hu => hc j u ?_⟩
 rw [flatF_take R k (by rw [h.len]; exact hk), List.getElem?_take] at hu
 split at hu
 ·exact hu
 ·cases hu

theorem RowF.drop {X : Nat → Prop} {w : World} {a : Option Addr} {n c k : Nat} {R : List FR} (h : RowF X w a n c R) (hk : k ≤ n) : RowF X w (tailA a c k) (n - k) (c - k) (R.drop k) := by
 have hle := h.le
 refine ⟨by rw [List.length_drop, h.len], by omega, by have := h.max; omega, fun hc => ?_, fun h0 => ?_, fun x hx => h.files x (List.mem_of_mem_drop hx)⟩
 ·obtain ⟨b, o, rfl⟩ := h.form (by omega)
  unfold tailA
  rw [if_neg (by omega)]
  exact ⟨b, o + k * 3, by simp [addr_add]⟩
 ·obtain ⟨b, o, rfl, hX, hcl⟩ := h.cell (by omega)
  unfold tailA
  rw [if_neg (by omega)]
  refine ⟨b, o + k * 3, by simp [addr_add], hX, fun j u hu => ?_⟩
  rw [flatF_drop R k (by rw [h.len]; exact hk), List.getElem?_drop] at hu
  have := hcl (k * 3 + j) u hu
  rw [← Nat.add_assoc] at this
  exact this

theorem run_appendF {w : World} {base : Nat} (t ty : TypeId) (ht : Tryz.prog.underlying t = some (.slice 97)) {X : Nat → Prop} {v : Value} {R1 R2 : List FR} (hown : w.ownsRow base 97 3 v R1.length (flatF R1))
  {p : Option Addr} {m c : Nat} (hR : RowF X w p m c R2) (hlim : R1.length + m ≤ 2000000) (hbase : base ≤ w.heap.size) :
  ∃ v' w', (Builtin.append_ #[t, t] ty #[v, .slice p m c]).run Tryz.prog w = .ok v' w' ∧ w'.ownsRow base 97 3 v' (R1 ++ R2).length (flatF (R1 ++ R2)) ∧ w.grownBy w' v.ownBlock := by
 obtain ⟨i0, hi, hz0, hz1, hz2⟩ := info_parts info_file
 have hl2 := hR.len
 rw [List.length_append, hl2, flatF_append]
 cases p with
 | none =>
  have hc0 : c = 0 := by
   rcases Nat.eq_zero_or_pos c with e | e
   ·exact e
   ·obtain ⟨_, _, h⟩ := hR.form e; cases h
  obtain rfl : m = 0 := by have := hR.le; omega
  subst hc0
  obtain rfl : R2 = [] := List.length_eq_zero_iff.1 hl2
  exact ⟨v, w, run_append_owned_none (P := Tryz.prog) (w := w) base t ty 97 i0 3 ht hi v R1.length (flatF R1) hown, by simpa [flatF] using hown, ⟨rfl, rfl, rfl, Nat.le_refl _, fun _ _ _ => rfl⟩⟩
 | some ad =>
  obtain ⟨v', w', hr, h2, h3, _, _⟩ := run_append_own_at (P := Tryz.prog) w base t ty 97 i0 _ 3 48 ht hi hz0 hz1 hz2 rfl (by omega) v R1.length (flatF R1) hown ad m c (flatF R2) (by rw [flatF_length, hl2]) (fun j u hu => by
   have hm : 0 < m := by
    rcases Nat.eq_zero_or_pos m with e | e
    ·rw [e] at hl2
     rw [List.length_eq_zero_iff.1 hl2] at hu
     cases hu
    ·exact e
   obtain ⟨b, o, e, _, hc⟩ := hR.cell hm
   cases e
   rw [addr_add]
   exact hc j u hu) (flatF_one R2) (by rw [maxLen_nat]; omega) (by omega) hbase
  exact ⟨v', w', hr, h2, h3⟩

theorem step_appendF {w : World} {base : Nat} {ops : Array Oper} {o : Oper} {a : Act} {K : Act → World → Prop} {Q : Exit → Act → World → Prop} {E' : Prop} (hgd : o.guard = none) (s x : Operand) (t : TypeId)
  (ho : o.op = .call { callee := .builtin .append, args := #[s, x], argTypes := #[t, t] }) (ht : Tryz.prog.underlying t = some (.slice 97)) {X : Nat → Prop} {v : Value} {R1 R2 : List FR} (hs : a.eval s = v) (hown : w.ownsRow base 97 3 v R1.length (flatF R1))
  {p : Option Addr} {m c : Nat} (hx : a.eval x = .slice p m c) (hR : RowF X w p m c R2) (hlim : R1.length + m ≤ 2000000) (hbase : base ≤ w.heap.size)
  (h : ∀ v' w', w'.ownsRow base 97 3 v' (R1 ++ R2).length (flatF (R1 ++ R2)) → w.grownBy w' v.ownBlock → K (a.put o.dst v') w') : if Region.wanted o (yielded ops a.tmps) = true then Oper.wp Tryz.prog o a w K Q else E' := by
 have hw : Region.wanted o (yielded ops a.tmps) = true := by simp [Region.wanted, hgd]
 rw [if_pos hw]
 obtain ⟨v', w', hr, h2, h3⟩ := run_appendF t o.type ht hown hR hlim hbase
 unfold Oper.wp execOp
 simp only [ho, resolve, invoke, builtin, Sem.run_bind, Sem.run_pure, Result.andThen_ok, List.map_toArray, List.map_cons, List.map_nil, hs, hx, hr]
 exact h v' w' h2 h3
end Go.Proofs.YtnbddiiedagllaaGreat

