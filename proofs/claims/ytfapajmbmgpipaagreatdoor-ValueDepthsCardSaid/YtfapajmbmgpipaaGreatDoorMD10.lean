import Derived.Test.YtfapajmbmgpipaaGreatDoorMD9
import Derived.Test.YtfapajmbmgpipaaGreatDoorMD3
import Derived.Deep.QuietTactic
import Derived.BigQuiet
import Derived.Test.YtfapajmbmgpipaaGreatDoorMD2
import Derived.Deep.RegionHeld
import Derived.Maps.AppendAt
/- The walk of the reference's Number. -/
namespace Go.Proofs.YtfapajmbmgpipaaGreatDoor
open Go.RowKit

def stepN (b c : Nat) : Nat := if 48 ≤ c ∧ c ≤ 57 then (b * 10 + (c - 48)) % 18446744073709551616 else b

def numv (l : List Nat) : Nat := l.foldl stepN 0

theorem numv_decD (n : Nat) : numv (decD n) = n % 18446744073709551616 := by
  induction n using Nat.strongRecOn with
  | ind n ih =>
    by_cases h : n < 10
    · rw [decD_low h]
      unfold numv
      rw [List.foldl_cons, List.foldl_nil]
      unfold stepN
      rw [if_pos (by omega)]
      omega
    · rw [decD_high h]
      have h1 := ih (n / 10) (by omega)
      unfold numv at *
      rw [List.foldl_append, h1, List.foldl_cons, List.foldl_nil]
      unfold stepN
      rw [if_pos (by omega)]
      omega

theorem numv_decL (n : Int) : numv (decL n) = n.natAbs % 18446744073709551616 := by
  unfold decL
  split
  · have h := numv_decD n.natAbs
    unfold numv at *
    rw [List.foldl_cons, show stepN 0 45 = 0 from rfl, h]
  · exact numv_decD _

theorem numv_lt (l : List Nat) : numv l < 18446744073709551616 := by
  have h : ∀ (l : List Nat) (b : Nat), b < 18446744073709551616 → l.foldl stepN b < 18446744073709551616 := by
    intro l
    induction l with
    | nil => intro b hb; exact hb
    | cons c r ih =>
      intro b hb
      rw [List.foldl_cons]
      apply ih
      unfold stepN
      split
      · exact Nat.mod_lt _ (by omega)
      · exact hb
  exact h l 0 (by omega)

theorem num_found {x : Int} {l : List Nat} (h1 : -9223372036854775808 ≤ x) (h2 : x ≤ 9223372036854775807) (h : decL x = l) : x = IntKind.i64.wrap (numv l : Int) ∨ x = IntKind.i64.wrap (-IntKind.i64.wrap (numv l : Int)) := by
  have e := numv_decL x
  rw [h] at e
  rw [e, IntKind.wrap_i64, IntKind.wrap_i64]
  omega

theorem wrap_i64_range (x : Int) : -9223372036854775808 ≤ IntKind.i64.wrap x ∧ IntKind.i64.wrap x ≤ 9223372036854775807 := by
  rw [IntKind.wrap_i64]
  omega

theorem decL_byte (n : Int) : ∀ c ∈ decL n, c < 256 := by
  have hh : ∀ m, ∀ c ∈ decD m, c < 256 := fun m c hc => by have := decD_digit m c hc; omega
  intro c hc
  unfold decL at hc
  split at hc
  · rcases List.mem_cons.1 hc with rfl | hc
    · decide
    · exact hh _ c hc
  · exact hh _ c hc

/-- What Number answers. -/
def NumEnd (w : World) (l : List Nat) (e : Ending) (w' : World) : Prop :=
  ∃ m : Int, (-9223372036854775808 ≤ m ∧ m ≤ 9223372036854775807) ∧ e = .returned (.tuple #[.int .i64 m, .bool (decide (decL m = l))]) ∧ (decL m ≠ l → ∀ x : Int, -9223372036854775808 ≤ x → x ≤ 9223372036854775807 → decL x ≠ l) ∧ Below w.heap.size w w'

theorem stepN_digit {b c : Nat} (h1 : 48 ≤ (c : Int)) (h2 : (c : Int) ≤ 57) : IntKind.u64.wrap (IntKind.u64.wrap ((b : Int) * 10) + ((c : Int) - 48)) = ((stepN b c : Nat) : Int) := by
  unfold stepN
  rw [if_pos (show 48 ≤ c ∧ c ≤ 57 by omega), IntKind.wrap_u64, IntKind.wrap_u64]
  omega

theorem stepN_none {b c : Nat} (h1 : ¬ (48 ≤ (c : Int) ∧ (c : Int) ≤ 57)) : (b : Int) = ((stepN b c : Nat) : Int) := by
  unfold stepN
  rw [if_neg (show ¬ (48 ≤ c ∧ c ≤ 57) by omega)]

def NumRel (l : List Nat) (b i : Value) : Prop := ∃ k : Nat, k ≤ l.length ∧ i = .int .i64 k ∧ b = .int .u64 (numv (l.take k) : Nat)

theorem num_close {l : List Nat} {k b c : Nat} {x : Int} (h : k < l.length) (hn : numv (l.take (k + 1)) = stepN b c) (hx : x = ((stepN b c : Nat) : Int)) : NumRel l (.int .u64 x) (.int .i64 ((k : Int) + 1)) := by
  refine ⟨k + 1, by omega, by go_num, ?_⟩
  rw [hn, hx]

theorem num_next {l : List Nat} {k : Nat} (h : k < l.length) : numv (l.take (k + 1)) = stepN (numv (l.take k)) (l.getD k 0) := by
  rw [List.take_succ_eq_append_getElem h, List.getD_eq_getElem?_getD, List.getElem?_eq_getElem h]
  unfold numv
  rw [List.foldl_append]
  rfl

set_option maxRecDepth 100000 in
set_option maxHeartbeats 1600000 in
theorem vnumber_any (l : List Nat) (w : World) (hl : ∀ x ∈ l, x < 256) (hn : l.length ≤ 1000000) :
    Calls Tryz.prog 83 #[.string (str l)] w (NumEnd w l) := by
  have hsz := str_size l
  have hg := get_str hl
  have HL := Lib.hid hl
  clear hl
  go_enter Tryz.func83, Tryz.ntmps83
  go_wp2
  go_loop [4, 5] (fun b i => NumRel l b i) (fun _ i => l.length - (intOf i).toNat)
  case atStart => exact ⟨0, by omega, rfl, rfl⟩
  case round =>
    obtain ⟨k, hk2, rfl, rfl⟩ := hrel
    by_cases hlt : k < l.length
    · have Hn := Lib.hid (num_next hlt)
      have hc8 : l.getD k 0 < 256 := by
        rw [List.getD_eq_getElem?_getD, List.getElem?_eq_getElem hlt]
        exact HL.out _ (List.getElem_mem _)
      have hgk := hg k (by rw [hsz]; exact hlt)
      have hblt := numv_lt (l.take k)
      generalize numv (l.take k) = b at *
      clear hg
      generalize l.getD k 0 = c at *
      have Hblt := Lib.hid hblt
      clear hblt
      go_wp2
      all_goals go_round
      all_goals try (case measure => simp [intOf]; omega)
      all_goals refine num_close hlt Hn.out ?_
      all_goals first
        | (with_reducible exact stepN_digit (by assumption) (by assumption))
        | exact stepN_none (by omega)
    · have hkn : l.take k = l := List.take_of_length_le (by omega)
      rw [hkn]
      have hend : ¬ ((k : Int) < ((str l).size : Int)) := by omega
      obtain ⟨m1, e1⟩ : ∃ m, IntKind.i64.wrap (numv l : Int) = m := ⟨_, rfl⟩
      obtain ⟨m2, e2⟩ : ∃ m, IntKind.i64.wrap (-m1) = m := ⟨_, rfl⟩
      have r1 : -9223372036854775808 ≤ m1 ∧ m1 ≤ 9223372036854775807 := by rw [← e1]; exact wrap_i64_range _
      have r2 : -9223372036854775808 ≤ m2 ∧ m2 ≤ 9223372036854775807 := by rw [← e2]; exact wrap_i64_range _
      have H1 := Lib.hid (fun w => rdecimal_any m1 w r1.1 r1.2)
      have H2 := Lib.hid (fun w => rdecimal_any m2 w r2.1 r2.2)
      have b1 := fun c hc => (decL_byte m1 c hc)
      have b2 := fun c hc => (decL_byte m2 c hc)
      have Hfound := Lib.hid (fun x h1 h2 (h : decL x = l) => by have := num_found h1 h2 h; rw [e1, e2] at this; exact this)
      have R1 := Lib.hid r1
      have R2 := Lib.hid r2
      clear hkn hg r1 r2
      generalize numv l = nn at *
      by_cases d1 : decL m1 = l
      · have hq : ((str (decL m1)).toList == (str l).toList) = true := by rw [d1]; exact str_eq l
        have D1 := Lib.hid d1
        have Hok := Lib.hid (show decide (decL m1 = l) = true from decide_eq_true d1)
        clear d1 b1 b2 e2
        generalize str (decL m1) = s1 at *
        go_wp2_with fail
        refine (H1.out _).mono ?_
        rintro e w1 ⟨rfl, rfl⟩
        go_wp2
        go_ret2
        exact ⟨m1, R1.out, by rw [Hok.out]; rfl, fun h => absurd D1.out h, Below.refl _ _⟩
      · have hq : ((str (decL m1)).toList == (str l).toList) = false := str_ne b1 HL.out d1
        have D1 := Lib.hid d1
        by_cases d2 : decL m2 = l
        · have hq2 : ((str (decL m2)).toList == (str l).toList) = true := by rw [d2]; exact str_eq l
          have D2 := Lib.hid d2
          have Hok := Lib.hid (show decide (decL m2 = l) = true from decide_eq_true d2)
          clear d1 d2 b1 b2
          generalize str (decL m1) = s1 at *
          generalize str (decL m2) = s2 at *
          go_wp2_with fail
          refine (H1.out _).mono ?_
          rintro e w1 ⟨rfl, rfl⟩
          go_wp2_with fail
          refine (H2.out _).mono ?_
          rintro e w2 ⟨rfl, rfl⟩
          go_wp2
          go_ret2
          exact ⟨m2, R2.out, by rw [Hok.out]; rfl, fun h => absurd D2.out h, Below.refl _ _⟩
        · have hq2 : ((str (decL m2)).toList == (str l).toList) = false := str_ne b2 HL.out d2
          have D2 := Lib.hid d2
          have Hok := Lib.hid (show decide (decL m2 = l) = false from decide_eq_false d2)
          clear d1 d2 b1 b2
          generalize str (decL m1) = s1 at *
          generalize str (decL m2) = s2 at *
          go_wp2_with fail
          refine (H1.out _).mono ?_
          rintro e w1 ⟨rfl, rfl⟩
          go_wp2_with fail
          refine (H2.out _).mono ?_
          rintro e w2 ⟨rfl, rfl⟩
          go_wp2
          go_ret2
          refine ⟨m2, R2.out, by rw [Hok.out]; rfl, fun _ x h1 h2 h => ?_, Below.refl _ _⟩
          rcases Hfound.out x h1 h2 h with e | e
          · exact D1.out (by rw [← e]; exact h)
          · exact D2.out (by rw [← e]; exact h)
end Go.Proofs.YtfapajmbmgpipaaGreatDoor

/- Appending to byte slices; new memory that holds bytes. -/
namespace Go.Proofs.YtfapajmbmgpipaaGreatDoor
open Go.RowKit

section
variable {P : Program} (w : World)

/-- 'append(b[:n:n], p...)': at least one byte is appended, so a new row is made. -/
theorem wpList_append_capped {ops : Array Oper} {rest : List Oper} {o : Oper} {a : Act} {Q : Exit → Act → World → Prop} (hgd : o.guard = none) (s x : Operand) (t : TypeId)
    (ho : o.op = .call { callee := .builtin .append, args := #[s, x], argTypes := #[t, t] })
    (e : TypeId) (ht : P.underlying t = some (.slice e)) (hinfo : (P.info? e).map (fun i => (i.zero, i.size, i.bytes)) = some (some (.int .u8 0), 1, 1))
    (b : Option Addr) (n : Nat) (l : List Nat) (hs : a.eval s = .slice b n n) (hS : Bytes w b n n l)
    (p : Option Addr) (m c : Nat) (l' : List Nat) (hx : a.eval x = .slice p m c) (hB : Bytes w p m c l') (hm : 0 < m)
    (hbytes : n + m ≤ 140737488355328)
    (h : ∀ v' w', w'.ownsRow w.heap.size e 1 v' (n + m) (u8s (l ++ l')) → Below w.heap.size w w' → wpList P ops Q rest (a.put o.dst v') w') : wpList P ops Q (o :: rest) a w := by
  cases b with
  | none =>
    obtain rfl : n = 0 := hS.nil rfl
    obtain rfl : l = [] := List.length_eq_zero_iff.1 hS.len
    refine wpList_append_bytes w hgd s x t ho w.heap.size e ht hinfo (.slice none 0 0) 0 [] hs (World.ownsRow_nil _ _ _ _) p m c l' hx hB hbytes (Nat.le_refl _) ?_
    intro v' w' g1 g2
    exact h v' w' g1 ((Below.refl _ _).grown g2 (Nat.le_refl _) (fun k hk => by cases hk))
  | some bd =>
    obtain ⟨i, hi, hz, hsz, hby⟩ := info_parts hinfo
    obtain ⟨b', o', rfl, hc⟩ := hB.cell hm
    have hadd : ∀ (x y j : Nat), (⟨x, y, none⟩ : Addr).add j = ⟨x, y + j, none⟩ := fun x y j => by unfold Addr.add; split <;> simp_all
    have holds : ∀ j v, (u8s l)[j]? = some v → w.cell? (bd.add j) = some v := by
      intro j u hu
      obtain ⟨hj, rfl⟩ := u8s_get hu
      have hj' : j < n := by rw [← hS.len]; exact hj
      obtain ⟨b2, o2, e1, hc2⟩ := hS.cell (by omega)
      cases e1
      rw [hadd]
      exact hc2 j hj'
    have hnews : ∀ j v, (u8s l')[j]? = some v → w.cell? ((⟨b', o', none⟩ : Addr).add j) = some v := by
      intro j u hu
      obtain ⟨hj, rfl⟩ := u8s_get hu
      rw [hadd]
      exact hc j (by rw [← hB.len]; exact hj)
    have hr := run_append_grow (P := P) (w := w) t o.type e i (.int .u8 0) ht hi hz bd n n (u8s l) (by simp [u8s, hS.len, hsz]) holds ⟨b', o', none⟩ m c (u8s l') (by simp [u8s, hB.len, hsz]) hnews (by omega) (by omega) (growslice_fits (by omega) (by rw [hby]; omega))
    have hcap := grownCap_ge w (n + m) n e
    have hcm : grownCap w (n + m) n e ≤ maxLen := grownCap_le_maxLen w (n + m) n e (by rw [maxLen_nat]; omega)
    obtain ⟨g, hg⟩ : ∃ g, g = grownCap w (n + m) n e := ⟨_, rfl⟩
    rw [← hg] at hr hcap hcm
    refine wpList_plain hgd fun K hK => ?_
    unfold Oper.wp execOp
    simp only [ho, resolve, invoke, builtin, Sem.run_bind, Sem.run_pure, Result.andThen_ok, List.map_toArray, List.map_cons, List.map_nil, hs, hx, hr]
    refine hK _ _ (h _ _ ?_ ?_)
    · refine ⟨by simp [u8s, hS.len, hB.len], .inr ⟨w.heap.size, _, _, rfl, Nat.le_refl _, heap_alloc_new w.drew _, hcap, hcm, ?_, ?_⟩⟩
      · simp only [Array.size_append, List.size_toArray, size_zeroCells, u8s, List.length_map, hS.len, hB.len, Value.cells]
        simp
        omega
      · simp only [Array.toList_append, List.append_assoc, u8s_append]
        rw [← List.append_assoc, show (n + m) * 1 = (u8s l ++ u8s l').length by simp [u8s, hS.len, hB.len]]
        exact List.take_left
    · exact ((Below.refl _ _).drew).alloc (Nat.le_refl _) _
end

theorem info_u8 : (Tryz.prog.info? 5).map (fun i => (i.zero, i.size, i.bytes)) = some (some (.int .u8 0), 1, 1) := by kernel_rfl

/-- A value that is new memory holding bytes. -/
def OwnBytes (w w' : World) (v : Value) (l : List Nat) : Prop := w'.ownsRow w.heap.size 5 1 v l.length (u8s l) ∧ Below w.heap.size w w'
def NewBytes (w : World) (l : List Nat) (e : Ending) (w' : World) : Prop := ∃ v, e = .returned v ∧ OwnBytes w w' v l

theorem below_drewN {B : Nat} {a w : World} (h : Below B a w) (n : Nat) : Below B a (w.drewN n) := ⟨h.os, h.tape, h.output, h.size, h.block⟩

theorem new_row (w : World) (l : List Nat) (hm : l.length ≤ 9223372036854775807) : (w.alloc (.cells (u8s l).toArray 5)).ownsRow w.heap.size 5 1 (.slice (some ⟨w.heap.size, 0, none⟩) l.length l.length) l.length (u8s l) :=
  ⟨by simp [u8s], .inr ⟨w.heap.size, l.length, _, rfl, Nat.le_refl _, heap_alloc_new w _, Nat.le_refl _, hm, by simp [u8s], by rw [Nat.mul_one]; exact List.take_of_length_le (by simp [u8s])⟩⟩

theorem own_base {w : World} {base base' n : Nat} {e : TypeId} {v : Value} {xs : List Value} (h : w.ownsRow base e 1 v n xs) (hb : base' ≤ base) : w.ownsRow base' e 1 v n xs :=
  ⟨h.1, h.2.elim Or.inl (fun ⟨g, cap, cur, hv, hg, r⟩ => Or.inr ⟨g, cap, cur, hv, Nat.le_trans hb hg, r⟩)⟩

theorem own_below {w w' : World} {base n : Nat} {e : TypeId} {v : Value} {xs : List Value} (h : w.ownsRow base e 1 v n xs) (hb : Below w.heap.size w w') : w'.ownsRow base e 1 v n xs := by
  refine ⟨h.1, ?_⟩
  rcases h.2 with hn | ⟨g, cap, cur, rfl, hbg, hg, rest⟩
  · exact .inl hn
  · exact .inr ⟨g, cap, cur, rfl, hbg, (hb.block g (Array.getElem?_eq_some_iff.1 hg).1).trans hg, rest⟩

theorem Bytes.takeTo {w : World} {a : Option Addr} {n cap m c : Nat} {l : List Nat} (h : Bytes w a n cap l) (hm : m ≤ n) (hc : m ≤ c) (hc2 : c ≤ cap) : Bytes w a m c (l.take m) := by
  refine ⟨by rw [List.length_take, h.len]; omega, hc, Nat.le_trans hc2 h.capmax, fun x hx => h.byte x (List.mem_of_mem_take hx), fun ha => ?_, fun h0 => ?_⟩
  · have := h.nil ha; omega
  · obtain ⟨b, o, e, hcell⟩ := h.cell (by omega)
    refine ⟨b, o, e, fun i hi => ?_⟩
    rw [hcell i (by omega), List.getD_eq_getElem?_getD, List.getD_eq_getElem?_getD, List.getElem?_take, if_pos hi]

/-- The bytes behind the first m ones. -/
theorem Bytes.dropTo {w : World} {b o n cap m : Nat} {l : List Nat} (h : Bytes w (some ⟨b, o, none⟩) n cap l) (hm : m < n) : Bytes w (some ⟨b, o + m, none⟩) (n - m) (cap - m) (l.drop m) := by
  have hle := h.le
  have hcm := h.capmax
  refine ⟨by rw [List.length_drop, h.len], by omega, by omega, fun x hx => h.byte x (List.mem_of_mem_drop hx), fun ha => (by cases ha), fun h0 => ?_⟩
  obtain ⟨b', o', e, hcell⟩ := h.cell (by omega)
  cases e
  refine ⟨b, o + m, rfl, fun i hi => ?_⟩
  have := hcell (m + i) (by omega)
  rw [← Nat.add_assoc] at this
  rw [this, List.getD_eq_getElem?_getD, List.getD_eq_getElem?_getD, List.getElem?_drop]

end Go.Proofs.YtfapajmbmgpipaaGreatDoor

/- The walk of the reference's Unhex. -/
namespace Go.Proofs.YtfapajmbmgpipaaGreatDoor
open Go.RowKit

/-- A new row of one byte. -/
theorem byte_row (w : World) {z : Int} {x : Nat} (h : z = (x : Int)) (hx : x < 256) : Bytes (w.alloc (.cells #[.int .u8 z] 5)) (some ⟨w.heap.size, 0, none⟩) 1 1 [x] := by
  subst h
  exact bytes_of_own (new_row w [x] (by simp)) (by simpa using hx)

def stepU (n c : Nat) : Nat := n * 16 + (if 48 ≤ c ∧ c ≤ 57 then c - 48 else if 97 ≤ c ∧ c ≤ 102 then c - 87 else 0)

theorem stepU_hexD {n d : Nat} (h : d < 16) : stepU n (hexD d) = n * 16 + d := by
  unfold stepU hexD
  split
  · rw [if_pos (by omega)]; omega
  · rw [if_neg (by omega), if_pos (by omega)]; omega

theorem stepU_lt {n c k : Nat} (h : n < k) : stepU n c < 16 * k := by
  unfold stepU
  split
  · omega
  · split <;> omega

/-- The bytes of the first pairs. -/
def outB (l : List Nat) (j : Nat) : List Nat := (List.range j).map fun i => stepU (stepU 0 (l.getD (2 * i) 0)) (l.getD (2 * i + 1) 0)

theorem outB_len (l : List Nat) (j : Nat) : (outB l j).length = j := by unfold outB; rw [List.length_map, List.length_range]

theorem outB_succ (l : List Nat) (j : Nat) : outB l (j + 1) = outB l j ++ [stepU (stepU 0 (l.getD (2 * j) 0)) (l.getD (2 * j + 1) 0)] := by
  unfold outB
  rw [List.range_succ, List.map_append]
  rfl

theorem outB_byte (l : List Nat) (j : Nat) : ∀ c ∈ outB l j, c < 256 := by
  intro c hc
  unfold outB at hc
  obtain ⟨i, _, rfl⟩ := List.mem_map.1 hc
  exact stepU_lt (k := 16) (stepU_lt (k := 1) (by omega))

theorem hex2_get : ∀ (b : List Nat) (i : Nat), i < b.length → (hex2 b).getD (2 * i) 0 = hexD (b.getD i 0 / 16) ∧ (hex2 b).getD (2 * i + 1) 0 = hexD (b.getD i 0 % 16)
  | [], i, h => by simp at h
  | c :: r, 0, _ => ⟨rfl, rfl⟩
  | c :: r, i + 1, h => by
    have ih := hex2_get r i (by simpa using h)
    unfold hex2 at *
    rw [List.flatMap_cons, show 2 * (i + 1) = 2 * i + 1 + 1 by omega]
    exact ih

theorem outB_hex2 (b : List Nat) (hb : ∀ c ∈ b, c < 256) : outB (hex2 b) ((hex2 b).length / 2) = b := by
  rw [hex2_len, Nat.mul_div_cancel_left _ (by omega)]
  apply List.ext_getElem
  · rw [outB_len]
  · intro i h1 h2
    obtain ⟨e1, e2⟩ := hex2_get b i h2
    have e3 : b.getD i 0 = b[i] := by rw [List.getD_eq_getElem?_getD, List.getElem?_eq_getElem h2]; rfl
    have := hb _ (List.getElem_mem h2)
    have e4 : (outB (hex2 b) b.length)[i] = stepU (stepU 0 ((hex2 b).getD (2 * i) 0)) ((hex2 b).getD (2 * i + 1) 0) := by simp [outB]
    rw [e4, e1, e2, e3, stepU_hexD (by omega), stepU_hexD (by omega)]
    omega

/-- What Unhex answers. -/
def UnhexEnd (w : World) (l : List Nat) (e : Ending) (w' : World) : Prop :=
  ∃ b : List Nat, (∀ c ∈ b, c < 256) ∧ 2 * b.length ≤ l.length ∧ e = .returned (.tuple #[.string (str b), .bool (decide (hex2 b = l))]) ∧ (hex2 b ≠ l → ∀ x : List Nat, (∀ c ∈ x, c < 256) → hex2 x ≠ l) ∧ Below w.heap.size w w'

def UnRel (w : World) (l : List Nat) (v i : Value) (wr : World) : Prop := ∃ j : Nat, 2 * j ≤ l.length ∧ i = .int .i64 ((2 * j : Nat) : Int) ∧ wr.ownsRow w.heap.size 5 1 v (outB l j).length (u8s (outB l j)) ∧ Below w.heap.size w wr

def InRel (c d J : Nat) (n k : Value) : Prop :=
  (n = .int .i64 0 ∧ k = .int .i64 (J : Int)) ∨ (n = .int .i64 ((stepU 0 c : Nat) : Int) ∧ k = .int .i64 ((J : Int) + 1)) ∨ (n = .int .i64 ((stepU (stepU 0 c) d : Nat) : Int) ∧ k = .int .i64 ((J : Int) + 2))

theorem stepU_is {n c : Nat} {x : Int} (h : x = (n : Int) * 16 + (if 48 ≤ (c : Int) ∧ (c : Int) ≤ 57 then (c : Int) - 48 else if 97 ≤ (c : Int) ∧ (c : Int) ≤ 102 then (c : Int) - 87 else 0)) : x = ((stepU n c : Nat) : Int) := by
  rw [h]
  unfold stepU
  by_cases h1 : 48 ≤ c ∧ c ≤ 57
  · rw [if_pos h1, if_pos (by omega)]; omega
  · rw [if_neg h1, if_neg (by omega)]
    by_cases h2 : 97 ≤ c ∧ c ≤ 102
    · rw [if_pos h2, if_pos (by omega)]; omega
    · rw [if_neg h2, if_neg (by omega)]; omega

set_option maxRecDepth 100000 in
set_option maxHeartbeats 1600000 in
theorem runhex_any (l : List Nat) (w : World) (hl : ∀ x ∈ l, x < 256) (hn : l.length ≤ 1000000) :
    Calls Tryz.prog 85 #[.string (str l)] w (UnhexEnd w l) := by
  have hsz := str_size l
  have hg := get_str hl
  have HL := Lib.hid hl
  clear hl
  go_enter Tryz.func85, Tryz.ntmps85
  go_wp2
  go_loopw [4, 5] (fun v i wr => UnRel w l v i wr) (fun _ i _ => l.length - (intOf i).toNat)
  case atStart => exact ⟨0, by omega, rfl, World.ownsRow_nil _ _ _ _, Below.refl _ _⟩
  case round =>
    obtain ⟨j, hj, rfl, hown, hbel⟩ := hrel
    by_cases hlt : 2 * j + 1 < l.length
    · obtain ⟨J, hJ⟩ : ∃ J, J = 2 * j := ⟨_, rfl⟩
      have Hsucc := Lib.hid (outB_succ l j)
      rw [← hJ] at hlt Hsucc ⊢
      have hc8 : l.getD J 0 < 256 := by
        rw [List.getD_eq_getElem?_getD, List.getElem?_eq_getElem (by omega)]
        exact HL.out _ (List.getElem_mem _)
      have hd8 : l.getD (J + 1) 0 < 256 := by
        rw [List.getD_eq_getElem?_getD, List.getElem?_eq_getElem (by omega)]
        exact HL.out _ (List.getElem_mem _)
      have K1 : J < (str l).size := by rw [hsz]; omega
      have K2 : J + 1 < (str l).size := by rw [hsz]; omega
      have hgc := hg J K1
      have hgd := hg (J + 1) K2
      have Hlen := Lib.hid (outB_len l j)
      have Hown := Lib.hid hown
      have Hbel := Lib.hid hbel
      generalize l.getD J 0 = c at *
      generalize l.getD (J + 1) 0 = d at *
      have hb1 : stepU 0 c < 16 := stepU_lt (k := 1) (by omega)
      have hb2 : stepU (stepU 0 c) d < 256 := stepU_lt (k := 16) hb1
      have hji : (J : Int) + 1 < ((str l).size : Int) := by omega
      have Hlt := Lib.hid hlt
      have HJ := Lib.hid hJ
      clear hg hown hbel hlt hj hJ
      go_wp2
      go_loop [6, 7] (fun n k => InRel c d J n k) (fun _ k => J + 2 - (intOf k).toNat)
      case atStart => exact .inl ⟨rfl, rfl⟩
      case round =>
        rcases hrel with ⟨rfl, rfl⟩ | ⟨rfl, rfl⟩ | ⟨rfl, rfl⟩
        · clear hgd hb1 hb2 hd8
          go_wp2
          all_goals go_round
          all_goals try (case measure => simp [intOf]; try omega)
          all_goals refine .inr (.inl ⟨congrArg (Value.int IntKind.i64) (stepU_is ?_), by go_num⟩)
          all_goals split <;> (try split) <;> omega
        · clear hgc hb2 hc8
          generalize he : stepU 0 c = n1 at *
          have He := Lib.hid he
          clear he
          go_wp2
          all_goals go_round
          all_goals try (case measure => simp [intOf]; try omega)
          all_goals refine .inr (.inr ⟨?_, by go_num⟩)
          all_goals rw [He.out]
          all_goals refine congrArg (Value.int IntKind.i64) (stepU_is ?_)
          all_goals split <;> (try split) <;> omega
        · have hbz := Hbel.out.size
          have hlj : (outB l j).length ≤ 1000000 := by have := Hlen.out; have := HJ.out; rw [hsz] at K1; omega
          clear hgc hgd hb1 hc8 hd8
          generalize stepU (stepU 0 c) d = z at *
          go_wp2_with (at_builtin; refine wpList_append_bytes _ rfl _ _ 28 rfl w.heap.size 5 Tryz.underlying28 info_u8 _ _ _ rfl (Hown.out.alloc _) _ 1 1 [z] rfl (byte_row _ (by omega) (by omega)) (by omega) (by simp; omega) ?_; intro v' w1 g1 g2)
          go_roundw
          case rel =>
            refine ⟨j + 1, by have := HJ.out; have := Hlt.out; omega, ?_, ?_, ?_⟩
            · rw [show (J : Int) + 2 = ((2 * (j + 1) : Nat) : Int) by have := HJ.out; omega]
            · rw [Hsucc.out, List.length_append]
              exact g1
            · have hb : Below w.heap.size w (wr.alloc (.cells #[.int .u8 (z : Int)] 5)) := Hbel.out.alloc Hbel.out.size _
              exact hb.grown g2 hb.size (fun x hx => (Hown.out.lt x hx).1)
          case measure => simp [intOf]; have := Hlt.out; omega
    · obtain ⟨p, cp, rfl, hB⟩ := own_slice hown (outB_byte l j)
      have HF := Lib.hid (show ∀ x : List Nat, (∀ c ∈ x, c < 256) → hex2 x = l → x = outB l j from fun x hx h => by
        have h1 := outB_hex2 x hx
        rw [h, show l.length / 2 = j by omega] at h1
        exact h1.symm)
      have hlen := outB_len l j
      have HB := Lib.hid (outB_byte l j)
      have Hle := Lib.hid (show 2 * (outB l j).length ≤ l.length by omega)
      have hcv := fun (w' : World) (hw : Bytes w' p (outB l j).length cp (outB l j)) => convert_bytes (P := Tryz.prog) hw 28 5 9 Tryz.underlying28 Tryz.underlying5 Tryz.underlying9
      have hB0 := hB.grow (Below.refl _ _).drew
      have hc1 := hcv wr.drew hB0
      have HC := Lib.hid (fun w' (hb : Below wr.drew.heap.size wr.drew w') => hcv w' (hB0.grow hb))
      have Hx := Lib.hid (rhex_any (outB l j) wr.drew (outB_byte l j) (by omega))
      have hji : ¬ ((2 * j : Nat) : Int) + 1 < ((str l).size : Int) := by omega
      have Hbel := Lib.hid hbel
      have Hq := Lib.hid (show ((str (hex2 (outB l j))).toList == (str l).toList) = decide (hex2 (outB l j) = l) from by
        by_cases h : hex2 (outB l j) = l
        · rw [h, decide_eq_true rfl]; exact str_eq l
        · rw [decide_eq_false h]
          exact str_ne (fun c hc => by
            unfold hex2 at hc
            obtain ⟨x, hx, hc⟩ := List.mem_flatMap.1 hc
            have := outB_byte l j x hx
            simp only [List.mem_cons, List.not_mem_nil, or_false] at hc
            unfold hexD at hc
            rcases hc with rfl | rfl <;> split <;> omega) HL.out h)
      clear hg hcv hown hbel hB0
      have Hlen := Lib.hid hlen
      clear hlen
      generalize outB l j = b at *
      have hq := Hq.out
      generalize hsb : str b = sb at *
      have Hsb := Lib.hid hsb
      generalize hsh : str (hex2 b) = sh at *
      clear hsb hsh hB
      go_wp2_with fail
      go_region_held (fun w' => (convert 28 9 (.slice p b.length cp)).run Tryz.prog w' = .ok (.string sb) w')
        (first | exact hc1 | exact hc2)
        (first | (go_at_call 51; (with_reducible refine Hx.out.mono ?_); rintro e w2 ⟨rfl, hb2⟩; have hc2 := HC.out w2 hb2; have hbw : Below w.heap.size w w2 := Hbel.out.trans ((((Below.refl _ _).drew).trans hb2).mono Hbel.out.size)))
      all_goals go_wp2
      all_goals go_ret2
      all_goals exact ⟨b, HB.out, Hle.out, by rw [Hsb.out]; rfl, fun h x hx e => h (by rw [← HF.out x hx e]; exact e), hbw⟩
end Go.Proofs.YtfapajmbmgpipaaGreatDoor

/- Lists of values that a call has made itself: where their rows lie, and how they grow. -/
namespace Go.Proofs.YtfapajmbmgpipaaGreatDoor
open Go.RowKit Fl

mutual
/-- The cells x hold the value v; the rows of its lists lie in blocks that q allows. -/
def VInP (q : Nat → Prop) (w : World) : V → Array Value → Prop
  | .mk k n f s l, x => (-9223372036854775808 ≤ k ∧ k ≤ 9223372036854775807) ∧ (-9223372036854775808 ≤ n ∧ n ≤ 9223372036854775807) ∧ f < 18446744073709551616 ∧ (∀ c ∈ s, c < 256) ∧ s.length ≤ 9223372036854775807 ∧
    ∃ a cap, x = cells5 k n f s a l.length cap ∧ l.length ≤ cap ∧ cap ≤ 9223372036854775807 ∧ (l = [] ∨ ∃ b o, a = some ⟨b, o, none⟩ ∧ q b ∧ VsInP q w l b o)
def VsInP (q : Nat → Prop) (w : World) : List V → Nat → Nat → Prop
  | [], _, _ => True
  | v :: r, b, o => (∃ x : Array Value, x.size = 5 ∧ (∀ j, j < 5 → w.cell? ⟨b, o + j, none⟩ = x[j]?) ∧ VInP q w v x) ∧ VsInP q w r b (o + 5)
end

mutual
theorem VInP.weak {q : Nat → Prop} {w : World} : ∀ (v : V) (x : Array Value), VInP q w v x → VIn w v x
  | .mk k n f s l, x, h => by
    rw [VInP] at h
    rw [VIn]
    obtain ⟨h1, h2, h3, h4, h5, a, cap, h6, h7, h8, h9⟩ := h
    refine ⟨h1, h2, h3, h4, h5, a, cap, h6, h7, h8, ?_⟩
    rcases h9 with h9 | ⟨b, o, ha, _, hv⟩
    · exact .inl h9
    · exact .inr ⟨b, o, ha, VsInP.weak l b o hv⟩
theorem VsInP.weak {q : Nat → Prop} {w : World} : ∀ (l : List V) (b o : Nat), VsInP q w l b o → VsIn w l b o
  | [], _, _, _ => by rw [VsIn]; trivial
  | v :: r, b, o, h => by
    rw [VsInP] at h
    rw [VsIn]
    obtain ⟨⟨x, hx, hc, hv⟩, hr⟩ := h
    exact ⟨⟨x, hx, hc, VInP.weak v x hv⟩, VsInP.weak r b (o + 5) hr⟩
end

mutual
theorem VInP.turn {q q' : Nat → Prop} {w w' : World} (hq : ∀ b, q b → q' b) (hw : ∀ p : Addr, q p.block → w'.cell? p = w.cell? p) : ∀ (v : V) (x : Array Value), VInP q w v x → VInP q' w' v x
  | .mk k n f s l, x, h => by
    rw [VInP] at h ⊢
    obtain ⟨h1, h2, h3, h4, h5, a, cap, h6, h7, h8, h9⟩ := h
    refine ⟨h1, h2, h3, h4, h5, a, cap, h6, h7, h8, ?_⟩
    rcases h9 with h9 | ⟨b, o, ha, hb, hv⟩
    · exact .inl h9
    · exact .inr ⟨b, o, ha, hq b hb, VsInP.turn hq hw l b o hb hv⟩
theorem VsInP.turn {q q' : Nat → Prop} {w w' : World} (hq : ∀ b, q b → q' b) (hw : ∀ p : Addr, q p.block → w'.cell? p = w.cell? p) : ∀ (l : List V) (b o : Nat), q b → VsInP q w l b o → VsInP q' w' l b o
  | [], _, _, _, _ => by rw [VsInP]; trivial
  | v :: r, b, o, hb, h => by
    rw [VsInP] at h ⊢
    obtain ⟨⟨x, hx, hc, hv⟩, hr⟩ := h
    exact ⟨⟨x, hx, fun j hj => by rw [hw ⟨b, o + j, none⟩ hb]; exact hc j hj, VInP.turn hq hw v x hv⟩, VsInP.turn hq hw r b (o + 5) hb hr⟩
end

theorem VInP.size {q : Nat → Prop} {w : World} {v : V} {x : Array Value} (h : VInP q w v x) : x.size = 5 := (VInP.weak v x h).size

/-- A list of values of the call's own: its row, and its elements' rows in other blocks. -/
def OwnVs (w : World) (base : Nat) (v : Value) (l : List V) : Prop :=
  ∃ cs : List (Array Value), cs.length = l.length ∧ w.ownsRow base 25 5 v l.length (cs.flatMap Array.toList) ∧
    ∀ (i : Nat) (x : Array Value) (u : V), cs[i]? = some x → l[i]? = some u → VInP (fun b => base ≤ b ∧ some b ≠ v.ownBlock ∧ b < w.heap.size) w u x

theorem OwnVs.nil (w : World) (base : Nat) : OwnVs w base (.slice none 0 0) [] := ⟨[], rfl, ⟨rfl, .inl ⟨rfl, rfl⟩⟩, fun i x u h => by simp at h⟩

theorem OwnVs.snoc {w w' : World} {base : Nat} {v v' : Value} {l : List V} {cs : List (Array Value)} {u : V} {x : Array Value} (hlen : cs.length = l.length)
    (hel : ∀ (i : Nat) (x : Array Value) (u : V), cs[i]? = some x → l[i]? = some u → VInP (fun b => base ≤ b ∧ some b ≠ v.ownBlock ∧ b < w.heap.size) w u x)
    (hu : VInP (fun b => base ≤ b ∧ some b ≠ v.ownBlock ∧ b < w.heap.size) w u x) (hown : w'.ownsRow base 25 5 v' (l.length + 1) (cs.flatMap Array.toList ++ x.toList))
    (hg : w.grownBy w' v.ownBlock) (hb : v'.ownBlock = v.ownBlock ∨ v'.ownBlock = some w.heap.size) : OwnVs w' base v' (l ++ [u]) := by
  have hs : w.heap.size ≤ w'.heap.size := hg.size
  have hturn : ∀ (y : Array Value) (z : V), VInP (fun b => base ≤ b ∧ some b ≠ v.ownBlock ∧ b < w.heap.size) w z y → VInP (fun b => base ≤ b ∧ some b ≠ v'.ownBlock ∧ b < w'.heap.size) w' z y := by
    intro y z hz
    have k1 : ∀ b, (base ≤ b ∧ some b ≠ v.ownBlock ∧ b < w.heap.size) → (base ≤ b ∧ some b ≠ v'.ownBlock ∧ b < w'.heap.size) := by
      intro b hb1
      refine ⟨hb1.1, ?_, by omega⟩
      rcases hb with e | e
      · rw [e]; exact hb1.2.1
      · rw [e]
        intro e2
        have e3 : b = w.heap.size := Option.some.inj e2
        omega
    have k2 : ∀ p : Addr, (base ≤ p.block ∧ some p.block ≠ v.ownBlock ∧ p.block < w.heap.size) → w'.cell? p = w.cell? p := by
      intro p hp
      unfold World.cell?
      rw [hg.block p.block hp.2.2 hp.2.1]
    exact VInP.turn k1 k2 z y hz
  refine ⟨cs ++ [x], by rw [List.length_append, List.length_append, hlen]; rfl, ?_, fun i y z hy hz => ?_⟩
  · rw [List.length_append, List.flatMap_append]
    simpa using hown
  · rcases Nat.lt_or_ge i cs.length with hi | hi
    · rw [List.getElem?_append_left hi] at hy
      rw [List.getElem?_append_left (by omega)] at hz
      exact hturn y z (hel i y z hy hz)
    · rw [List.getElem?_append_right hi] at hy
      rw [List.getElem?_append_right (by omega), ← hlen] at hz
      cases hk : i - cs.length with
      | zero =>
        rw [hk] at hy hz
        simp at hy hz
        subst hy
        subst hz
        exact hturn x u hu
      | succ m => rw [hk] at hy; simp at hy

theorem flat_at : ∀ (cs : List (Array Value)), (∀ x ∈ cs, x.size = 5) → ∀ (i : Nat) (x : Array Value), cs[i]? = some x → ∀ j, j < 5 → (cs.flatMap Array.toList)[i * 5 + j]? = x[j]?
  | [], _, i, x, h, _, _ => by simp at h
  | y :: r, hs, i, x, h, j, hj => by
    have hy : y.toList.length = 5 := by rw [Array.length_toList]; exact hs y (by simp)
    rw [List.flatMap_cons]
    cases i with
    | zero =>
      simp at h
      subst h
      rw [List.getElem?_append_left (by omega)]
      simp
    | succ i =>
      have ih := flat_at r (fun z hz => hs z (by simp [hz])) i x (by simpa using h) j hj
      rw [List.getElem?_append_right (by omega), hy, show (i + 1) * 5 + j - 5 = i * 5 + j by omega]
      exact ih

theorem VsInP.mk {q : Nat → Prop} {w : World} {b : Nat} : ∀ (l : List V) (o : Nat), (∀ (i : Nat) (u : V), l[i]? = some u → ∃ x : Array Value, x.size = 5 ∧ (∀ j, j < 5 → w.cell? ⟨b, o + i * 5 + j, none⟩ = x[j]?) ∧ VInP q w u x) → VsInP q w l b o
  | [], _, _ => by rw [VsInP]; trivial
  | v :: r, o, h => by
    rw [VsInP]
    obtain ⟨x, hx, hc, hv⟩ := h 0 v rfl
    refine ⟨⟨x, hx, fun j hj => by have := hc j hj; simpa using this, hv⟩, VsInP.mk r (o + 5) (fun i u hu => ?_)⟩
    obtain ⟨y, hy, hd, hz⟩ := h (i + 1) u (by simpa using hu)
    exact ⟨y, hy, fun j hj => by rw [← hd j hj]; congr 2; omega, hz⟩

/-- A list of the call's own, as a list in memory. -/
theorem OwnVs.lies {w : World} {base : Nat} {v : Value} {l : List V} (h : OwnVs w base v l) : ∃ a cap, v = .slice a l.length cap ∧ l.length ≤ cap ∧ cap ≤ 9223372036854775807 ∧
    (l = [] ∨ ∃ g, a = some ⟨g, 0, none⟩ ∧ (base ≤ g ∧ g < w.heap.size) ∧ VsInP (fun b => base ≤ b ∧ b < w.heap.size) w l g 0) := by
  obtain ⟨cs, hlen, ⟨_, hrow⟩, hel⟩ := h
  rcases hrow with ⟨rfl, h0⟩ | ⟨g, cap, cur, rfl, hbg, hg, hle, hcm, hsz, htake⟩
  · have e : l = [] := List.length_eq_zero_iff.1 h0
    subst e
    exact ⟨none, 0, rfl, Nat.le_refl _, by omega, .inl rfl⟩
  · have hglt : g < w.heap.size := (Array.getElem?_eq_some_iff.1 hg).1
    refine ⟨_, cap, rfl, hle, by rw [maxLen_nat] at hcm; exact hcm, .inr ⟨g, rfl, ⟨hbg, hglt⟩, VsInP.mk l 0 (fun i u hu => ?_)⟩⟩
    have hi : i < l.length := (List.getElem?_eq_some_iff.1 hu).1
    have hx : cs[i]? = some (cs[i]'(by omega)) := List.getElem?_eq_getElem (by omega)
    have hsz5 : ∀ x ∈ cs, x.size = 5 := by
      intro x hx
      obtain ⟨k, hk, rfl⟩ := List.getElem_of_mem hx
      exact (hel k _ l[k] (List.getElem?_eq_getElem hk) (List.getElem?_eq_getElem (by omega))).size
    have hv := hel i _ u hx hu
    refine ⟨_, hv.size, fun j hj => ?_, VInP.turn (fun b hb => ⟨hb.1, hb.2.2⟩) (fun _ _ => rfl) u _ hv⟩
    rw [cell_of_row w g _ cur _ _ hg, ← flat_at cs hsz5 i _ hx j hj, ← htake, Nat.zero_add, List.getElem?_take, if_pos (by omega), Array.getElem?_toList]
end Go.Proofs.YtfapajmbmgpipaaGreatDoor

