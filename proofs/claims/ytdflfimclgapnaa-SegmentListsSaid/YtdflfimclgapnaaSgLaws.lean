/- The walks of the statements on names and numbers of segments. -/
import Derived.Test.YtdflfimclgapnaaSgNum
namespace Go.Proofs.Ytdflfimclgapnaa
open Go.RowKit

/-- Every string is a list of bytes. -/
theorem sg_str_of (s : ByteArray) : ∃ l, (∀ x ∈ l, x < 256) ∧ s = str l := by
  refine ⟨s.data.toList.map UInt8.toNat, fun x hx => ?_, ?_⟩
  · obtain ⟨u, _, rfl⟩ := List.mem_map.1 hx
    exact u.toNat_lt
  · apply ByteArray.ext
    unfold str
    rw [List.map_map]
    have e : (UInt8.ofNat ∘ UInt8.toNat) = id := by funext u; simp
    rw [e, List.map_id]

theorem segalive_any (w : World) :
    Calls Try.prog 10 #[] w fun e w' => e = .returned (.bool true) ∧ Below w.heap.size w w' := by
  have HN := Lib.hid (segname_yes 7 w (by omega) (by omega))
  have hq : ((str (nameL 7)).toList == ([108, 111, 103, 45, 48, 48, 48, 48, 48, 48, 48, 55] : List UInt8)) = true := by
    rw [str_list]; decide
  generalize str (nameL 7) = s at *
  go_enter Try.func10, Try.ntmps10
  go_wp2_with fail
  refine HN.out.mono ?_
  rintro e w' ⟨rfl, hb⟩
  go_wp2
  go_ret
  exact ⟨rfl, hb⟩

set_option maxRecDepth 100000 in
set_option maxHeartbeats 800000 in
theorem segmentNames_any (n : Int) (w : World) :
    Calls Try.prog 3 #[.int .i64 n] w fun e w' => e = .returned (.bool true) ∧ Below w.heap.size w w' := by
  by_cases h : 1 ≤ n ∧ n ≤ 99999999
  · obtain ⟨N, rfl⟩ : ∃ N : Nat, n = (N : Int) := ⟨n.toNat, by omega⟩
    have h1 : 1 ≤ N := by omega
    have h2 : N ≤ 99999999 := by omega
    have HA := Lib.hid (fun w => segname_yes N w h1 h2)
    have HB := Lib.hid (fun w => rsegname_yes N w h1 h2)
    have HC := Lib.hid (fun w => segnum_any (nameL N) w (nameL_byte N) (by rw [nameL_len]; omega))
    unfold NumEnd at HC
    rw [segNum_name h2, decide_eq_true (show 0 < N by omega)] at HC
    have HV := Lib.hid (fun w => segalive_any w)
    have hq : ((str (nameL N)).toList == (str (nameL N)).toList) = true := beq_self_eq_true _
    clear h
    generalize str (nameL N) = s at *
    go_enter Try.func3, Try.ntmps3
    go_wp2_with fail
    refine (HA.out _).mono ?_
    rintro e w1 ⟨rfl, hb1⟩
    have Hb1 := Lib.hid hb1
    clear hb1
    go_wp2_with fail
    refine (HB.out _).mono ?_
    rintro e w' ⟨rfl, rfl⟩
    go_wp2_with fail
    refine (HC.out _).mono ?_
    rintro e w2 ⟨rfl, hb2⟩
    have Hb2 := Lib.hid hb2
    clear hb2
    go_wp2_with fail
    refine (HV.out _).mono ?_
    rintro e w3 ⟨rfl, hb3⟩
    have Hb3 := Lib.hid hb3
    clear hb3
    go_wp2
    go_ret
    exact ⟨rfl, (Hb1.out.trans (Hb2.out.mono Hb1.out.size)).trans (Hb3.out.mono (Nat.le_trans Hb1.out.size Hb2.out.size))⟩
  · have HA := Lib.hid (fun w => segname_no n w h)
    have HB := Lib.hid (fun w => rsegname_no n w h)
    have HC := Lib.hid (fun w => segnum_any [] w (by simp) (by simp))
    unfold NumEnd at HC
    rw [show segNum [] = 0 from rfl] at HC
    have HV := Lib.hid (fun w => segalive_any w)
    have hq : ((str []).toList == (str []).toList) = true := beq_self_eq_true _
    clear h
    generalize str [] = s at *
    go_enter Try.func3, Try.ntmps3
    go_wp2_with fail
    refine (HA.out _).mono ?_
    rintro e w1 ⟨rfl, hb1⟩
    have Hb1 := Lib.hid hb1
    clear hb1
    go_wp2_with fail
    refine (HB.out _).mono ?_
    rintro e w' ⟨rfl, rfl⟩
    go_wp2_with fail
    refine (HC.out _).mono ?_
    rintro e w2 ⟨rfl, hb2⟩
    have Hb2 := Lib.hid hb2
    clear hb2
    go_wp2_with fail
    refine (HV.out _).mono ?_
    rintro e w3 ⟨rfl, hb3⟩
    have Hb3 := Lib.hid hb3
    clear hb3
    go_wp2
    go_ret
    exact ⟨rfl, (Hb1.out.trans (Hb2.out.mono Hb1.out.size)).trans (Hb3.out.mono (Nat.le_trans Hb1.out.size Hb2.out.size))⟩

set_option maxRecDepth 100000 in
set_option maxHeartbeats 800000 in
theorem segmentNumbers_any (l : List Nat) (w : World) (hl : ∀ x ∈ l, x < 256) (hmax : l.length ≤ 9223372036854775807) :
    Calls Try.prog 4 #[.string (str l)] w fun e w' => e = .returned (.bool true) ∧ Below w.heap.size w w' := by
  have HV := Lib.hid (fun w => segalive_any w)
  have hsz : (str l).size = l.length := str_size l
  by_cases h2 : 200 < l.length
  · have hgt : (200 : Int) < ((str l).size : Int) := by omega
    have hm : (str l).size ≤ 9223372036854775807 := by omega
    clear hl hmax h2 hsz
    generalize str l = s at *
    go_enter Try.func4, Try.ntmps4
    go_wp2_with fail
    refine (HV.out _).mono ?_
    rintro e w1 ⟨rfl, hb1⟩
    go_wp2
    go_ret
    exact ⟨rfl, hb1⟩
  · have hgt : ¬ ((200 : Int) < ((str l).size : Int)) := by omega
    have HA := Lib.hid (fun w => segnum_any l w hl hmax)
    have HB := Lib.hid (fun w => rsegnum_any l w hl)
    unfold NumEnd at HA HB
    by_cases h0 : 0 < segNum l
    · have hle := segNum_le l
      have HC := Lib.hid (fun w => segname_yes (segNum l) w h0 hle)
      rw [name_of_num h0] at HC
      have hq : ((str l).toList == (str l).toList) = true := beq_self_eq_true _
      rw [decide_eq_true h0] at HA HB
      clear hl hmax h2 hsz
      generalize segNum l = n at *
      generalize str l = s at *
      go_enter Try.func4, Try.ntmps4
      go_wp2_with fail
      refine (HA.out _).mono ?_
      rintro e w1 ⟨rfl, hb1⟩
      have Hb1 := Lib.hid hb1
      clear hb1
      go_wp2_with fail
      refine (HB.out _).mono ?_
      rintro e w' ⟨rfl, rfl⟩
      go_wp2_with fail
      refine (HC.out _).mono ?_
      rintro e w2 ⟨rfl, hb2⟩
      have Hb2 := Lib.hid hb2
      clear hb2
      go_wp2_with fail
      refine (HV.out _).mono ?_
      rintro e w3 ⟨rfl, hb3⟩
      have Hb3 := Lib.hid hb3
      clear hb3
      go_wp2
      go_ret
      exact ⟨rfl, (Hb1.out.trans (Hb2.out.mono Hb1.out.size)).trans (Hb3.out.mono (Nat.le_trans Hb1.out.size Hb2.out.size))⟩
    · have h00 : segNum l = 0 := by omega
      rw [decide_eq_false h0, h00] at HA HB
      have HC := Lib.hid (fun w => segname_no 0 w (by omega))
      clear hl hmax h2 hsz h0 h00
      generalize str l = s at *
      generalize str [] = s2 at *
      go_enter Try.func4, Try.ntmps4
      go_wp2_with fail
      refine (HA.out _).mono ?_
      rintro e w1 ⟨rfl, hb1⟩
      have Hb1 := Lib.hid hb1
      clear hb1
      go_wp2_with fail
      refine (HB.out _).mono ?_
      rintro e w' ⟨rfl, rfl⟩
      go_wp2_with fail
      refine (HC.out _).mono ?_
      rintro e w2 ⟨rfl, hb2⟩
      have Hb2 := Lib.hid hb2
      clear hb2
      go_wp2_with fail
      refine (HV.out _).mono ?_
      rintro e w3 ⟨rfl, hb3⟩
      have Hb3 := Lib.hid hb3
      clear hb3
      go_wp2
      go_ret
      exact ⟨rfl, (Hb1.out.trans (Hb2.out.mono Hb1.out.size)).trans (Hb3.out.mono (Nat.le_trans Hb1.out.size Hb2.out.size))⟩

theorem sg_less {a b : List Nat} (ha : ∀ x ∈ a, x < 256) (hb : ∀ x ∈ b, x < 256) : Op.bytesLess (str a).toList (str b).toList = ltL a b := by
  rw [str_list, str_list]
  induction a generalizing b with
  | nil =>
    cases b with
    | nil => rfl
    | cons _ _ => rfl
  | cons c r ih =>
    cases b with
    | nil => rfl
    | cons c' r' =>
      have hc := ha c (by simp)
      have hc' := hb c' (by simp)
      have e : UInt8.ofNat c < UInt8.ofNat c' ↔ c < c' := by
        rw [UInt8.lt_iff_toNat_lt, UInt8.toNat_ofNat', UInt8.toNat_ofNat']
        omega
      have e2 : UInt8.ofNat c = UInt8.ofNat c' ↔ c = c' := by
        constructor
        · intro h
          have h2 := congrArg UInt8.toNat h
          rw [UInt8.toNat_ofNat', UInt8.toNat_ofNat'] at h2
          omega
        · intro h; rw [h]
      have ih2 := ih (b := r') (fun x hx => ha x (by simp [hx])) (fun x hx => hb x (by simp [hx]))
      rw [List.map_cons, List.map_cons, ltL]
      by_cases h1 : c < c'
      · simp [Op.bytesLess, e, h1]
      · by_cases h2 : c' < c
        · have h3 : ¬ c = c' := by omega
          simp [Op.bytesLess, e, e2, h1, h2, h3]
        · have h3 : c = c' := by omega
          subst h3
          rw [if_neg h1, if_neg h1, ← ih2]
          simp [Op.bytesLess]

set_option maxRecDepth 100000 in
set_option maxHeartbeats 1600000 in
theorem segmentOrders_any (a b : Nat) (w : World) :
    Calls Try.prog 6 #[.int .u32 (a : Int), .int .u32 (b : Int)] w fun e w' => e = .returned (.bool true) ∧ Below w.heap.size w w' := by
  have HV := Lib.hid (fun w => segalive_any w)
  have hma : (a : Int) % 99999999 = ((a % 99999999 : Nat) : Int) := by omega
  have hmb : (b : Int) % 99999999 = ((b % 99999999 : Nat) : Int) := by omega
  have hla : a % 99999999 < 99999999 := Nat.mod_lt _ (by omega)
  have hlb : b % 99999999 < 99999999 := Nat.mod_lt _ (by omega)
  generalize a % 99999999 = m at *
  generalize b % 99999999 = n at *
  have HA := Lib.hid (fun w => segname_yes (1 + m) w (by omega) (by omega))
  have HB := Lib.hid (fun w => segname_yes (1 + n) w (by omega) (by omega))
  have hlt : Op.bytesLess (str (nameL (1 + m))).toList (str (nameL (1 + n))).toList = decide ((1 : Int) + m < 1 + n) := by
    rw [sg_less (nameL_byte _) (nameL_byte _), ltL_name (by omega) (by omega), decide_eq_decide]
    omega
  have heq : ((str (nameL (1 + m))).toList == (str (nameL (1 + n))).toList) = ((1 : Int) + m == 1 + n) := by
    by_cases h : m = n
    · subst h
      rw [beq_self_eq_true, beq_self_eq_true]
    · rw [str_ne (nameL_byte _) (nameL_byte _) (fun e => h (by have := nameL_inj (by omega) (by omega) e; omega)), Eq.comm, beq_eq_false_iff_ne]
      omega
  have e1 : (((1 + m : Nat) : Int)) = 1 + (m : Int) := by omega
  have e2 : (((1 + n : Nat) : Int)) = 1 + (n : Int) := by omega
  rw [e1] at HA
  rw [e2] at HB
  clear e1 e2
  generalize str (nameL (1 + m)) = x at *
  generalize str (nameL (1 + n)) = y at *
  go_enter Try.func6, Try.ntmps6
  go_wp2_with fail
  refine (HA.out _).mono ?_
  rintro e w1 ⟨rfl, hb1⟩
  have Hb1 := Lib.hid hb1
  clear hb1
  go_wp2_with fail
  refine (HB.out _).mono ?_
  rintro e w2 ⟨rfl, hb2⟩
  have Hb2 := Lib.hid hb2
  clear hb2
  go_wp2_with fail
  refine (HV.out _).mono ?_
  rintro e w3 ⟨rfl, hb3⟩
  have Hb3 := Lib.hid hb3
  clear hb3
  go_wp2
  go_ret
  exact ⟨rfl, (Hb1.out.trans (Hb2.out.mono Hb1.out.size)).trans (Hb3.out.mono (Nat.le_trans Hb1.out.size Hb2.out.size))⟩
end Go.Proofs.Ytdflfimclgapnaa
